import PyProof.Rows.All
import Wide.All
import OpenK.AllK
import Wide.FinOn
import Lean
import PyProof.EqAt
import PyProof.EqKinds
import PyProof.TupleCall
import PyProof.NeKinds
import PyProof.ZipIter
import PyProof.Rows.SortShell
import PyProof.Rows.SortWalk
import PyProof.EnumMake
import PyProof.Rows.SumAny
import PyProof.Rows.SumGenD
import KE.KTryMore
import OpenK.KOwn
import PyProof.ExcArgsOwn
import PyProof.IsiTuple
import PyProof.ExcAttrAll.ValueError
import PyProof.FitsBits
import PySem.Challenge.RW_pactkeep_k10_whole_plans_made_lean
set_option Elab.async false
set_option linter.all false
set_option maxRecDepth 100000
namespace L2
open PySem PySem.Spec PyProof.Rows
abbrev mI:=Sum Int Str
def wH:mI→Value→Bool
 | .inl k,v=>Value.isInt k v
 | .inr x,v=>Value.isStrOf x v
def aM9 (w:World):mI→Int
 | .inl k=>hashInt k
 | .inr x=>hashStr w x
theorem eU:∀ {k:mI}{v:Value},wH k v=true→(∃ i t,k=Sum.inl i∧v=Value.int i t)∨(∃ x t,k=Sum.inr x∧v=Value.str x t)
 | .inl i,v,h=>by
  obtain ⟨t,e⟩:=Value.isInt_shape (k:=i) (v:=v) h
  exact .inl ⟨i,t,rfl,e⟩
 | .inr x,v,h=>by
  obtain ⟨t,e⟩:=Value.isStrOf_shape (x:=x) (v:=v) h
  exact .inr ⟨x,t,rfl,e⟩
theorem aGM (i:Int) (t:Tok):wH (.inl i) (.int i t)=true:=by simp [wH,Value.isInt]
theorem aGD (x:Str) (t:Tok):wH (.inr x) (.str x t)=true:=by simp [wH,Value.isStrOf]
theorem aLy (a b:Int):decide ((Sum.inl a:mI)=Sum.inl b)=(a == b):=by
 by_cases e:a=b
 ·subst e;simp
 ·have h:¬ (Sum.inl a:mI)=Sum.inl b:=fun q=>e (Sum.inl.inj q)
  rw [decide_eq_false h]
  exact (beq_eq_false_iff_ne.mpr e).symm
theorem aKO (a b:Str):decide ((Sum.inr a:mI)=Sum.inr b)=decide (a=b):=by
 by_cases e:a=b
 ·subst e;simp
 ·have h:¬ (Sum.inr a:mI)=Sum.inr b:=fun q=>e (Sum.inr.inj q)
  rw [decide_eq_false h,decide_eq_false e]
theorem aKt (a:Int) (b:Str):decide ((Sum.inl a:mI)=Sum.inr b)=false:=decide_eq_false (fun q=>nomatch q)
theorem aKZ (a:Str) (b:Int):decide ((Sum.inr a:mI)=Sum.inl b)=false:=decide_eq_false (fun q=>nomatch q)
def dE (prog:Program) (w:World):PySem.KeyKind prog w mI where
 is:=wH
 hash:=aM9 w
 inj:=fun v a b ha hb=>by
  rcases eU ha with ⟨i,t,rfl,rfl⟩ | ⟨x,t,rfl,rfl⟩
  ·rcases eU hb with ⟨j,u,rfl,e⟩ | ⟨y,u,rfl,e⟩
   ·injection e with e1 _;rw [e1]
   ·exact nomatch e
  ·rcases eU hb with ⟨j,u,rfl,e⟩ | ⟨y,u,rfl,e⟩
   ·exact nomatch e
   ·injection e with e1 _;rw [e1]
 byValue:=fun k v h=>by
  rcases eU h with ⟨i,t,rfl,rfl⟩ | ⟨x,t,rfl,rfl⟩ <;> rfl
 pyHash:=fun hv h=>by
  rcases eU hv with ⟨i,t,rfl,rfl⟩ | ⟨x,t,rfl,rfl⟩
  ·exact wpAny_pyHash_int h
  ·exact wpAny_pyHash_str h
 eqBool:=fun hu hv h=>by
  rcases eU hu with ⟨i,t,rfl,rfl⟩ | ⟨x,t,rfl,rfl⟩
  ·rcases eU hv with ⟨j,u,rfl,rfl⟩ | ⟨y,u,rfl,rfl⟩
   ·rw [aLy] at h;exact wpAny_eqBool_int h
   ·rw [aKt] at h;exact SeqAt.EqAt.int_str i t y u _ _ _ _ h
  ·rcases eU hv with ⟨j,u,rfl,rfl⟩ | ⟨y,u,rfl,rfl⟩
   ·rw [aKZ] at h;exact SeqAt.EqAt.str_int x t j u _ _ _ _ h
   ·rw [aKO] at h;exact wpAny_eqBool_str h
 «strs» := fun k x t v h=>by
  rcases eU h with ⟨i,u,rfl,e⟩ | ⟨y,u,rfl,e⟩
  ·exact nomatch e
  ·injection e with e1 _
   subst e1
   cases v <;> rfl
theorem aLa (prog:Program) (w:World) (k:mI) (v:Value):(dE prog w).is k v=wH k v:=rfl
theorem aCz (prog:Program) (w:World) (i:Int) (t:Tok):(dE prog w).is (.inl i) (.int i t)=true:=aGM i t
theorem aDz (prog:Program) (w:World) (x:Str) (t:Tok):(dE prog w).is (.inr x) (.str x t)=true:=aGD x t
inductive V where
 | non | bl (b:Bool) | int (i:Int) | str (x:Str) | byt (b:Array UInt8) | flt (b:UInt64) | ref (a:Addr) | ty (n:String)
 deriving DecidableEq
def cG:V→Value→Prop
 | .non,u=>u=Value.none
 | .bl b,u=>u=Value.bool b
 | .int i,u=>∃ t,u=Value.int i t
 | .str x,u=>∃ t,u=Value.str x t
 | .byt b,u=>∃ t,u=Value.bytes b t
 | .flt b,u=>∃ t,u=Value.float b t
 | .ref a,u=>u=Value.ref a
 | .ty n,u=>u=Value.type n
abbrev cE:List V→List Value→Prop:=Paired cG
theorem cE.length {xs:List V}{us:List Value} (r:cE xs us):xs.length=us.length:=Paired.length r
theorem cE.get:∀ {xs:List V}{us:List Value}{i:Nat}{x:V},cE xs us→xs[i]? = some x→∃ u,us[i]? = some u∧cG x u
 | _,_,_,_,.nil,e=>by simp at e
 | _,_,0,_,.cons r _,e=>by simp at e;subst e;exact ⟨_,rfl,r⟩
 | _,_,i+1,x,.cons _ t,e=>by
  obtain ⟨u,h1,h2⟩:=cE.get (i:=i) (x:=x) t (by simpa using e)
  exact ⟨u,by simpa using h1,h2⟩
theorem cE.append:∀ {xs ys:List V}{us ws:List Value},cE xs us→cE ys ws→cE (xs++ys) (us++ws)
 | _,_,_,_,.nil,s=>s
 | _,_,_,_,.cons r t,s=>.cons r (cE.append t s)
theorem cE.take:∀ {xs:List V}{us:List Value} (n:Nat),cE xs us→cE (xs.take n) (us.take n)
 | _,_,0,_=>.nil
 | _,_,_+1,.nil=>.nil
 | _,_,n+1,.cons r t=>.cons r (cE.take n t)
theorem cE.drop:∀ {xs:List V}{us:List Value} (n:Nat),cE xs us→cE (xs.drop n) (us.drop n)
 | _,_,0,r=>r
 | _,_,_+1,.nil=>.nil
 | _,_,n+1,.cons _ t=>cE.drop n t
def vQ:Option V→Option Value→Prop
 | some v,some u=>cG v u
 | none,none=>True
 | _,_=>False
def KV {κ:Type}:List (κ×V)→List (κ×Value)→Prop:=Paired fun (p:κ×V) (q:κ×Value)=>p.1=q.1∧cG p.2 q.2
def kV:mI→V
 | .inl i=>.int i
 | .inr x=>.str x
def p8 {α β:Type}:List (α ⊕ β)→List (α ⊕ β)→Prop
 | a::x,b::y=>a.isLeft=b.isLeft∧p8 x y
 | _,_=>True
def sN {α β:Type} (f:Nat→Bool):List (α ⊕ β)→Prop
 | []=>True
 | a::x=>a.isLeft=f 0∧sN (fun i=>f (i+1)) x
theorem sN.compat {α β:Type}:∀ {f:Nat→Bool}{x y:List (α ⊕ β)},sN f x→sN f y→p8 x y
 | _,[],[],_,_=>trivial
 | _,[],_::_,_,_=>trivial
 | _,_::_,[],_,_=>trivial
 | f,a::x,b::y,h,q=>⟨(show _∧_ from h).1.trans (show _∧_ from q).1.symm,sN.compat (show _∧_ from h).2 (show _∧_ from q).2⟩
section
variable {prog:Program}{w:World}{K:Type} [DecidableEq K] (knd:KeyKind prog w K)
inductive fX (h:Heap):List (K ⊕ List K)→List Value→Prop
 | nil:fX h [] []
 | one {k:K}{v:Value}{ks:List (K ⊕ List K)}{vs:List Value}:knd.is k v=true→fX h ks vs→fX h (.inl k::ks) (v::vs)
 | tup {k:List K}{b:Addr}{ks:List (K ⊕ List K)}{vs:List Value}:IsTupleKey knd h k b→fX h ks vs→fX h (.inr k::ks) (.ref b::vs)
def IsN (h:Heap) (ks:List (K ⊕ List K)) (a:Addr):Prop:=∃ o items n,h.get? a=some o∧o.cls = .type "tuple"∧o.data = .seq items n∧fX knd h ks items.toList
def qT:K ⊕ List K→Int
 | .inl k=>knd.hash k
 | .inr ks=>tupleKeyHash knd ks
def xS:K ⊕ List K→Nat
 | .inl _=>1
 | .inr ks=>ks.length+1
variable {knd}
theorem aFl {k:K}{b:Addr} (h:knd.is k (.ref b)=true):False:=by
 have:=knd.byValue _ _ h
 simp [carriedByValue] at this
theorem fX.inj {h:Heap}{x y:List (K ⊕ List K)}{vs:List Value} (hx:fX knd h x vs) (hy:fX knd h y vs):x=y:=by
 induction hx generalizing y with
 | nil=>cases hy;rfl
 | one h1 _ ih=>
  cases hy with
  | one h2 t2=>rw [knd.inj _ _ _ h1 h2,ih t2]
  | tup h2 t2=>exact (aFl h1).elim
 | tup h1 _ ih=>
  cases hy with
  | one h2 t2=>exact (aFl h2).elim
  | tup h2 t2=>rw [h1.inj h2,ih t2]
theorem fX.keeps {h h':Heap}{ks:List (K ⊕ List K)}{vs:List Value}{d:Addr}{o:Obj}{es ep} (x:fX knd h ks vs) (ho:h.get? d=some o) (hd:o.data = .dict es ep) (hs:Heap.SameBut d h h'):fX knd h' ks vs:=by
 induction x with
 | nil=>exact .nil
 | one h1 _ ih=>exact .one h1 ih
 | tup h1 _ ih=>exact .tup (h1.keeps ho hd hs) ih
theorem IsN.typeIs {s:Shared}{ks:List (K ⊕ List K)}{a:Addr} (x:IsN knd s.heap ks a):s.TypeIs (.ref a) "tuple":=let ⟨o,_,_,ho,hc,_⟩:=x; ⟨o,ho,hc⟩
theorem IsN.inj {h:Heap}{a:Addr}{x y:List (K ⊕ List K)} (hx:IsN knd h x a) (hy:IsN knd h y a):x=y:=by
 obtain ⟨o,items,n,ho,_,hd,hi⟩:=hx
 obtain ⟨o',items',n',ho',_,hd',hi'⟩:=hy
 obtain rfl:o=o':=Option.some.inj (ho.symm.trans ho')
 rw [hd] at hd'
 injection hd' with h1 _
 subst h1
 exact hi.inj hi'
theorem IsN.keeps {h h':Heap}{ks:List (K ⊕ List K)}{a d:Addr}{o:Obj}{es ep} (x:IsN knd h ks a) (ho:h.get? d=some o) (hd:o.data = .dict es ep) (hs:Heap.SameBut d h h'):IsN knd h' ks a:=by
 obtain ⟨o',items,n,ho',hc,hd',hi⟩:=x
 have hne:a≠d:=by
  rintro rfl
  obtain rfl:o'=o:=Option.some.inj (ho'.symm.trans ho)
  rw [hd] at hd';exact nomatch hd'
 exact ⟨o',items,n,(hs.2 a hne).trans ho',hc,hd',hi.keeps ho hd hs⟩
variable {A:Around}{E:Value→Shared→Prop}{s:Shared}
theorem aLo {ks:List (K ⊕ List K)}{a:Addr}{Q:Int→Shared→Prop} (hu:A.units+40<cLine) (hk:IsN knd s.heap ks a) (h:Q (reduceHash (Builtin.Tuple.tupleHashOf (ks.map (qT knd)))) { s with toks:=s.toks+((ks.map (xS (K:=K))).sum+1) }) :
  wpAny (model prog w) A (pyHash (.ref a)) Q E s:=by
 have hT:=hk.typeIs
 obtain ⟨o,items,n,ho,_,hd,hi⟩:=hk
 unfold pyHash
 first | unfold pyHashByItsType | skip
 first | refine wpAny_bind (wpAny_cRoomFor_or (.inr (by omega)) ?_) | skip
 refine wpAny_bind (wpAny_specialOf hT F.slot_tuple_hash.lookup ?_)
 show wpAny _ _ (if (some (Value.builtin "tuple.__hash__") == some Value.none)=true then _ else _) Q E s
 rw [if_neg (by rw [beq_builtin_none];exact Bool.false_ne_true)]
 refine wpAny_bind (wpAny_specialOf hT F.slot_tuple_hash.lookup ?_)
 show wpAny _ _ (callSpecialIfBoundUnlessNone? (.ref a) "__hash__" _ >>= _) Q E s
 refine wpAny_bind (wpAny_callSpecialIfBoundUnlessNone?_slot hT F.slot_tuple_hash (wpAny_call_entry F.slot_tuple_hash hT F.entry_tuple_hash ?_ (F.args_tuple_hash_1 _)))
 show wpAny _ _ (Builtin.Tuple.tupleItemsOf (.ref a) >>= _) _ _ s
 refine wpAny_bind (wpAny_tupleItemsOf ho hd ?_)
 refine wpAny_bind ?_
 rw [← Array.forIn_toList]
 refine wpAny_forIn_list _
  (fun rest (b:Array Int) s'=>∃ done left,ks=done++left∧fX knd s.heap left rest∧b.toList=done.map (qT knd)∧s'={ s with toks:=s.toks+(done.map (xS (K:=K))).sum })
  _ ?_ ?_ _ _ ⟨[],ks,rfl,hi,rfl,rfl⟩
 ·rintro x rest b s' ⟨done,left,rfl,hl,hb,rfl⟩
  cases hl with
  | @one k _ ks' _ h1 hl'=>
   refine wpAny_bind (knd.pyHash h1 ?_)
   first
    | exact wpAny_pure ⟨done++[.inl k],ks',by simp,hl',by simp [hb,qT],by simp [Nat.add_assoc,xS]⟩
    | exact wpAny_bind (wpAny_pure (wpAny_pure ⟨done++[.inl k],ks',by simp,hl',by simp [hb,qT],by simp [Nat.add_assoc,xS]⟩))
  | @tup k _ ks' _ h1 hl'=>
   refine wpAny_bind (wpAny_pyHash_tuple (knd:=knd) (ks:=k) (show A.units+1<cLine by omega) h1 ?_)
   first
    | exact wpAny_pure ⟨done++[.inr k],ks',by simp,hl',by simp [hb,qT],by simp [Nat.add_assoc,xS]⟩
    | exact wpAny_bind (wpAny_pure (wpAny_pure ⟨done++[.inr k],ks',by simp,hl',by simp [hb,qT],by simp [Nat.add_assoc,xS]⟩))
 ·rintro b s' ⟨done,left,rfl,hl,hb,rfl⟩
  cases hl
  rw [List.append_nil] at h
  show wpAny _ _ (retInt (Builtin.Tuple.tupleHashOf b.toList)) _ _ _
  rw [hb]
  refine wpAny_ret_mkInt ?_
  show wpAny _ _ (if (decide (-(2:Int) ^ 63≤Builtin.Tuple.tupleHashOf (done.map (qT knd))) && decide (Builtin.Tuple.tupleHashOf (done.map (qT knd))<2 ^ 63))=true then _ else _) Q E _
  unfold reduceHash at h
  by_cases hr:(decide (-(2:Int) ^ 63≤Builtin.Tuple.tupleHashOf (done.map (qT knd))) && decide (Builtin.Tuple.tupleHashOf (done.map (qT knd))<2 ^ 63))=true
  ·rw [if_pos hr]
   rw [if_pos hr] at h
   exact wpAny_pure (by simpa [Nat.add_assoc] using h)
  ·rw [if_neg hr]
   rw [if_neg hr] at h
   exact wpAny_bind (wpAny_rule (wpAny_pure (by simpa [Nat.add_assoc] using h)))
theorem aF7 {x y:List (K ⊕ List K)}{a b:Addr}{P:Fin→Shared→Prop} (hu:A.units+32<cLine) (hx:IsN knd s.heap x a) (hy:IsN knd s.heap y b) (sh:p8 x y) (h:P (.done (.ret (.bool (decide (x=y))))) s) :
  wpAny (model prog w) A (Builtin.«tuple.__eq__» ⟨[.ref a,.ref b],[]⟩) P E s:=by
 have hTb:=hy.typeIs
 obtain ⟨oa,xs,na,hoa,_,hda,hia⟩:=hx
 obtain ⟨ob,ys,nb,hob,_,hdb,hib⟩:=hy
 show wpAny _ _ (isInstance (.ref b) (.type "tuple") >>= _) _ _ s
 refine wpAny_bind (wpAny_isInstance hTb isSubtype_tuple_tuple ?_)
 simp only [Bool.not_true,Bool.false_eq_true,if_false]
 refine wpAny_bind (wpAny_tupleItemsOf hoa hda ?_)
 refine wpAny_bind (wpAny_tupleItemsOf hob hdb ?_)
 refine wpAny_bind ?_
 refine wpAny_forIn_list _
  (fun rest r s'=>r.1=none∧s'=s∧∃ x' y' xs' ys',rest=List.zip xs' ys'∧fX knd s.heap x' xs'∧fX knd s.heap y' ys'∧p8 x' y'∧decide (x'=y')=decide (x=y)∧(xs'.length == ys'.length)=(xs.size == ys.size))
  _ ?_ ?_ _ _ ⟨rfl,rfl,x,y,xs.toList,ys.toList,rfl,hia,hib,sh,rfl,by simp⟩
 ·rintro ⟨u,v⟩ rest r s' ⟨hr,rfl,x',y',xs',ys',hz,hx',hy',sh',hdec,hlen⟩
  have step:∀ {k1 k2:K ⊕ List K}{x'' y'':List (K ⊕ List K)}{xs'' ys'':List Value},x'=k1::x''→y'=k2::y''→fX knd s'.heap x'' xs''→fX knd s'.heap y'' ys''→rest=List.zip xs'' ys''→((xs''.length == ys''.length)=(xs.size == ys.size)) →
    (k1=k2∧(∃ x' y' xs' ys',rest=List.zip xs' ys'∧fX knd s'.heap x' xs'∧fX knd s'.heap y' ys'∧p8 x' y'∧decide (x'=y')=decide (x=y)∧(xs'.length == ys'.length)=(xs.size == ys.size)))∨(k1≠k2∧decide (x=y)=false):=by
   intro k1 k2 x'' y'' xs'' ys'' e1 e2 n1 n2 hz hl
   subst e1 e2
   by_cases hk:k1=k2
   ·subst hk
    refine .inl ⟨rfl,x'',y'',xs'',ys'',hz,n1,n2,(show _∧_ from sh').2,?_,hl⟩
    rw [← hdec]
    by_cases hxy:x''=y''
    ·simp [hxy]
    ·simp [hxy]
   ·exact .inr ⟨hk,by rw [← hdec];simp [hk]⟩
  cases hx' with
  | nil=>simp at hz
  | @one k1 u' x'' xs'' h1 hx''=>
   cases hy' with
   | nil=>simp at hz
   | @one k2 v' y'' ys'' h2 hy''=>
    simp only [List.zip_cons_cons,List.cons.injEq,Prod.mk.injEq] at hz
    obtain ⟨⟨rfl,rfl⟩,hz⟩:=hz
    refine wpAny_bind (knd.eqBool (a:=k1) (b:=k2) h1 h2 ?_)
    rcases step rfl rfl hx'' hy'' hz (by simpa using hlen) with ⟨hk,st⟩ | ⟨hk,hf⟩
    ·rw [decide_eq_true (Sum.inl.inj hk)]
     simp only [Bool.not_true,Bool.false_eq_true,if_false]
     exact wpAny_pure ⟨rfl,rfl,st⟩
    ·rw [decide_eq_false (fun z=>hk (by rw [z]))]
     simp only [Bool.not_false,if_true]
     rw [hf] at h
     exact wpAny_bind (wpAny_pure (wpAny_pure (wpAny_pure h)))
   | tup h2 hy''=>simp [p8] at sh'
  | @tup k1 u' x'' xs'' h1 hx''=>
   cases hy' with
   | nil=>simp at hz
   | one h2 hy''=>simp [p8] at sh'
   | @tup k2 v' y'' ys'' h2 hy''=>
    simp only [List.zip_cons_cons,List.cons.injEq,Prod.mk.injEq] at hz
    obtain ⟨⟨rfl,rfl⟩,hz⟩:=hz
    refine wpAny_bind (wpAny_eqBool_tuple (knd:=knd) (by omega) h1 h2 ?_)
    rcases step rfl rfl hx'' hy'' hz (by simpa using hlen) with ⟨hk,st⟩ | ⟨hk,hf⟩
    ·rw [decide_eq_true (Sum.inr.inj hk)]
     simp only [Bool.not_true,Bool.false_eq_true,if_false]
     exact wpAny_pure ⟨rfl,rfl,st⟩
    ·rw [decide_eq_false (fun z=>hk (by rw [z]))]
     simp only [Bool.not_false,if_true]
     rw [hf] at h
     exact wpAny_bind (wpAny_pure (wpAny_pure (wpAny_pure h)))
 ·rintro ⟨r1,r2⟩ s' ⟨hr,rfl,x',y',xs',ys',hz,hx',hy',sh',hdec,hlen⟩
  simp only at hr
  subst hr
  refine wpAny_pure ?_
  have hfin:(xs.size == ys.size)=decide (x=y):=by
   rw [← hdec,← hlen]
   cases hx' with
   | nil=>
    cases hy' with
    | nil=>simp
    | one _ _=>simp
    | tup _ _=>simp
   | one _ _=>
    cases hy' with
    | nil=>simp
    | one _ _=>simp at hz
    | tup _ _=>simp at hz
   | tup _ _=>
    cases hy' with
    | nil=>simp
    | one _ _=>simp at hz
    | tup _ _=>simp at hz
  show P (.done (.ret (.bool (xs.size == ys.size)))) s'
  rw [hfin];exact h
theorem aHV {x y:List (K ⊕ List K)}{a b:Addr}{Q:Bool→Shared→Prop} (hu:A.units+40<cLine) (hx:IsN knd s.heap x a) (hy:IsN knd s.heap y b) (sh:p8 x y) (h:Q (decide (x=y)) s) :
  wpAny (model prog w) A (eqBool (.ref a) (.ref b)) Q E s:=by
 unfold eqBool
 try with_reducible refine wpAny_holding ?_
 show wpAny _ _ (if (Value.ref a == Value.ref b)=true then _ else _) Q E s
 by_cases hab:(Value.ref a == Value.ref b)=true
 ·rw [if_pos hab]
  have e:a=b:=by have:=eq_of_beq hab;injection this
  subst e
  obtain rfl:=hx.inj hy
  exact wpAny_bind (wpAny_rule (wpAny_pure (by simpa using h)))
 ·rw [if_neg hab]
  exact wpAny_bind (wpAny_richCompare_same_room (op:=.Eq) hx.typeIs hy.typeIs F.slot_tuple_eq
   (wpAny_call_entry F.slot_tuple_eq hx.typeIs F.entry_tuple_eq (aF7 (show A.units+1+32<cLine by omega) hx hy sh ⟨_,rfl,(fun e=>nomatch e),wpAny_truthy_bool h⟩) (F.args_tuple_eq_2 _ _)) (by omega))
theorem aI2 {n:Nat}{ks:List K}{a:Addr}{Q:Bool→Shared→Prop} (hk:IsTupleKey knd s.heap ks a) (h:Q true s):wpAny (model prog w) A (eqIsQuiet (n+1) (.ref a)) Q E s:=by
 have hT:=hk.typeIs
 obtain ⟨o,items,m,ho,_,hd,hi⟩:=hk
 unfold eqIsQuiet
 refine wpAny_bind (wpAny_specialOf hT F.slot_tuple_eq.lookup ?_)
 show wpAny _ _ (isInstance (.ref a) (.type "tuple") >>= _) _ _ s
 refine wpAny_bind (wpAny_isInstance hT isSubtype_tuple_tuple ?_)
 simp only [Bool.not_true,Bool.false_eq_true,if_false]
 refine wpAny_bind (wpAny_seqItems ho hd ?_)
 refine wpAny_bind ?_
 show wpAny _ _ (forIn items _ _) _ _ s
 rw [← Array.forIn_toList]
 refine wpAny_forIn_list _ (fun rest r s'=>r.1=none∧s'=s∧∀ v∈rest,carriedByValue v=true) _ ?_ ?_ _ _ ⟨rfl,rfl,hi.byValue⟩
 ·rintro v rest r s' ⟨hr,rfl,hall⟩
  rw [eqIsQuiet_byValue _ (hall v List.mem_cons_self)]
  refine wpAny_bind (wpAny_pure ?_)
  simp only [Bool.not_true,Bool.false_eq_true,if_false]
  exact wpAny_pure ⟨rfl,rfl,fun u hu'=>hall u (List.mem_cons_of_mem _ hu')⟩
 ·rintro ⟨r1,r2⟩ s' ⟨hr,rfl,_⟩
  simp only at hr
  subst hr
  exact wpAny_pure h
theorem aJc {n:Nat}{ks:List (K ⊕ List K)}{a:Addr}{Q:Bool→Shared→Prop} (hk:IsN knd s.heap ks a) (h:Q true s):wpAny (model prog w) A (eqIsQuiet (n+2) (.ref a)) Q E s:=by
 have hT:=hk.typeIs
 obtain ⟨o,items,m,ho,_,hd,hi⟩:=hk
 unfold eqIsQuiet
 refine wpAny_bind (wpAny_specialOf hT F.slot_tuple_eq.lookup ?_)
 show wpAny _ _ (isInstance (.ref a) (.type "tuple") >>= _) _ _ s
 refine wpAny_bind (wpAny_isInstance hT isSubtype_tuple_tuple ?_)
 simp only [Bool.not_true,Bool.false_eq_true,if_false]
 refine wpAny_bind (wpAny_seqItems ho hd ?_)
 refine wpAny_bind ?_
 show wpAny _ _ (forIn items _ _) _ _ s
 rw [← Array.forIn_toList]
 refine wpAny_forIn_list _ (fun rest r s'=>r.1=none∧s'=s∧∃ ks,fX knd s.heap ks rest) _ ?_ ?_ _ _ ⟨rfl,rfl,ks,hi⟩
 ·rintro v rest r s' ⟨hr,rfl,ks',hall⟩
  cases hall with
  | one h1 t=>
   rw [eqIsQuiet_byValue _ (knd.byValue _ _ h1)]
   refine wpAny_bind (wpAny_pure ?_)
   simp only [Bool.not_true,Bool.false_eq_true,if_false]
   exact wpAny_pure ⟨rfl,rfl,_,t⟩
  | tup h1 t=>
   refine wpAny_bind (aI2 h1 ?_)
   simp only [Bool.not_true,Bool.false_eq_true,if_false]
   exact wpAny_pure ⟨rfl,rfl,_,t⟩
 ·rintro ⟨r1,r2⟩ s' ⟨hr,rfl,_⟩
  simp only at hr
  subst hr
  exact wpAny_pure h
end
def yO {prog:Program}{w:World}{K:Type} [DecidableEq K] (f:Nat→Bool) (knd:KeyKind prog w K):HeapKind prog w (List (K ⊕ List K)) where
 is:=fun h ks a=>IsN knd h ks a∧sN f ks
 hash:=fun ks=>reduceHash (Builtin.Tuple.tupleHashOf (ks.map (qT knd)))
 draws:=fun ks=>(ks.map (xS (K:=K))).sum+1
 room:=fun A=>A.units+40<cLine
 inj:=fun hx hy=>hx.1.inj hy.1
 keeps:=fun x ho hd hs=>⟨x.1.keeps ho hd hs,x.2⟩
 pyHash:=fun hu hk h=>aLo hu hk.1 h
 eqBool:=fun hu hx hy h=>aHV hu hx.1 hy.1 (hx.2.compat hy.2) h
 quiet:=fun hk h=>aJc hk.1 h
abbrev NK:=List (mI ⊕ List mI)
inductive HO where
 | lst (xs:List V)
 | tup (xs:List V)
 | dK (kvs:List (mI×V)) | dT (K:PySem.W.Frag) (f:Nat→Bool) (kvs:List (NK×V))
 | set (S:Int→Bool) (n:Nat)
 | ins (C dx:Addr) (fs:List (Str×V))
 | own (x:Addr)
 | xd (fs:List (Str×V))
 | met (f x:Addr)
 | rng (lo hi:Int)
 | frz (o:Obj) (u:HO)
 | tbl (ps:Array Value)
 | tab (l c:Value) (q:Str)
 | ext (φ:Heap→Prop)
abbrev Hp:=Addr→Option HO
def upd (H:Hp) (a:Addr) (o:HO):Hp:=fun b=>if b=a then some o else H b
theorem bH {H:Hp}{a:Addr}{o:HO}:upd H a o a=some o:=by unfold upd;rw [if_pos rfl]
theorem aS {H:Hp}{a b:Addr}{o:HO} (h:b≠a):upd H a o b=H b:=by unfold upd;rw [if_neg h]
theorem aAH {H:Hp}{a b:Addr}{o u:HO} (h:H a=some o) (h':H b=some u) (d:o≠u):a≠b:=by
 intro e;subst e;rw [h] at h';exact d (Option.some.inj h')
theorem b8 {H:Hp}{a b:Addr}{o:HO} (h:H a=some o) (h':H b=none):a≠b:=by
 intro e;subst e;rw [h] at h';cases h'
def aAY (K:PySem.W.Frag) (H:Hp) (a:Addr) (xs:List V):Prop:=
 (H a=some (.tup xs)∨∃ o,H a=some (.frz o (.tup xs))) ∨
  ∃ (o:Obj) (its:Array Value) (n:Nat),K.lookup a=some o∧o.cls = .type "tuple"∧o.data = .seq its n∧its.size≤sizeLine∧cE xs its.toList
theorem aAY.mono {K:PySem.W.Frag}{H H':Hp}{a:Addr}{xs:List V} (h:aAY K H a xs) (ht:∀ b xs,H b=some (.tup xs)→H' b=some (.tup xs)) (hz:∀ b o u,H b=some (.frz o u)→H' b=some (.frz o u)):aAY K H' a xs:=by
 rcases h with (h | ⟨o,h⟩) | h
 ·exact .inl (.inl (ht _ _ h))
 ·exact .inl (.inr ⟨o,hz _ _ _ h⟩)
 ·exact .inr h
inductive NV (K:PySem.W.Frag) (H:Hp):NK→List V→Prop
 | nil:NV K H [] []
 | one {k:mI}{ks:NK}{vs:List V}:NV K H ks vs→NV K H (.inl k::ks) (kV k::vs)
 | tup {k:List mI}{b:Addr}{ks:NK}{vs:List V}:aAY K H b (k.map kV)→NV K H ks vs→NV K H (.inr k::ks) (.ref b::vs)
theorem NV.mono {K:PySem.W.Frag}{H H':Hp}{ks:NK}{vs:List V} (h:NV K H ks vs) (ht:∀ b xs,H b=some (.tup xs)→H' b=some (.tup xs)) (hz:∀ b o u,H b=some (.frz o u)→H' b=some (.frz o u)):NV K H' ks vs:=by
 induction h with
 | nil=>exact .nil
 | one _ ih=>exact .one ih
 | tup t _ ih=>exact .tup (t.mono ht hz) ih
def vF (K:PySem.W.Frag) (H:Hp) (ks:NK) (b:Addr):Prop:=∃ xs,aAY K H b xs∧NV K H ks xs
theorem vF.mono {K:PySem.W.Frag}{H H':Hp}{ks:NK}{b:Addr} (h:vF K H ks b) (ht:∀ b xs,H b=some (.tup xs)→H' b=some (.tup xs)) (hz:∀ b o u,H b=some (.frz o u)→H' b=some (.frz o u)):vF K H' ks b:=by
 obtain ⟨xs,h1,h2⟩:=h
 exact ⟨xs,h1.mono ht hz,h2.mono ht hz⟩
section
variable (P:Program) (w:World)
def gE (H:Hp) (h:Heap) (a:Addr):HO→Prop
 | .lst xs=>xs.length≤sizeLine∧∃ (its:List Value) (n:Nat),cE xs its∧h.get? a=some { cls:=.type "list",data:=.seq its.toArray n }
 | .tup xs=>xs.length≤sizeLine∧∃ its:List Value,cE xs its∧IsTup h a its.toArray
 | .dK kvs=>kvs.length≤sizeLine∧(a == sysModules)=false∧∃ vs,KV kvs vs∧h.DictOf (dE P w) a vs
 | .dT K f kvs=>kvs.length≤sizeLine∧(a == sysModules)=false∧∃ xs:List (NK×Addr×Value),
   Paired (fun (p:NK×V) (q:NK×Addr×Value)=>p.1=q.1∧sN f p.1∧vF K H p.1 q.2.1∧cG p.2 q.2.2) kvs xs ∧
   ∃ o es ep,h.get? a=some o∧o.ExactDict∧o.data = .dict es ep∧es.toList=xs.map (entryOfKey (yO f (dE P w)))∧(xs.map (·.1)).Nodup
 | .set S n=>h.SetOf (intKind P w) a S n
 | .ins C dx fs=>H dx=some (.own a)∧fs.length≤1000∧dx≠a∧h.get? a=some (PySem.W.instObj C dx) ∧
   ∃ mA,h.Ns1 dx mA∧(∀ f,vQ (fs.lookup f) (mA f))∧PySem.Within mA (fs.map (·.1))
 | .own _=>∃ o,h.get? a=some o
 | .xd fs=>∃ mA,h.Ns1 a mA∧∀ f,vQ (fs.lookup f) (mA f)
 | .rng lo hi=>∃ t u v,h.get? a=some { cls:=.type "range",data:=.fields #[.int lo t,.int hi u,.int 1 v] }
 | .frz o u=>h.get? a=some o∧gE H h a u
 | .tbl ps=>h.get? a=some { cls:=.none,data:=.fields ps }
 | .tab l c q=>∃ ps:Array Value,h.get? a=some { cls:=.none,data:=.fields ps }∧(ps = #[]∨∃ (d:Addr) (oc:Obj) (u:HO) (vs:Array Value) (t:Tok),ps = #[l,c,.ref d]∧H d=some (.frz oc u)∧oc.data = .fields vs∧vs[1]? = some (.str q t))
 | .met f x=>h.get? a=some (PySem.W.methodObj (.ref f) (.ref x))
 | .ext φ=>φ h∧(∃ o,h.get? a=some o)∧∀ h1 h2:Heap,φ h1→(∀ o,h1.get? a=some o→h2.get? a=some o)→φ h2
def uH (H:Hp) (h:Heap):Prop:=∀ a o,H a=some o→gE P w H h a o
end
section
variable {P:Program}{w:World}{H H':Hp}{h h':Heap}{a:Addr}{o:HO}
theorem gE.lt (x:gE P w H h a o):a<h.objs.size:=by
 cases o with
 | lst xs=>obtain ⟨_,_,_,_,e⟩:=x;exact Heap.lt_size e
 | tup xs=>obtain ⟨_,_,_,p⟩:=x;exact p.lt
 | dK kvs=>obtain ⟨_,_,_,_,o,_,_,e,_⟩:=x;exact Heap.lt_size e
 | dT K f kvs=>obtain ⟨_,_,_,_,o,_,_,e,_⟩:=x;exact Heap.lt_size e
 | set S n=>obtain ⟨o,_,_,_,e,_⟩:=x;exact Heap.lt_size e
 | ins C dx fs=>obtain ⟨_,_,_,e,_⟩:=x;exact Heap.lt_size e
 | own y=>obtain ⟨_,e⟩:=x;exact Heap.lt_size e
 | xd fs=>obtain ⟨_,⟨_,_,_,e,_⟩,_⟩:=x;exact Heap.lt_size e
 | rng lo hi=>obtain ⟨_,_,_,e⟩:=x;exact Heap.lt_size e
 | frz ob u=>obtain ⟨e,_⟩:=x;exact Heap.lt_size e
 | tbl ps=>exact Heap.lt_size (show h.get? a=some _ from x)
 | tab l c q=>obtain ⟨_,e,_⟩:=x;exact Heap.lt_size e
 | met f y=>exact Heap.lt_size (show h.get? a=some _ from x)
 | ext φ=>obtain ⟨_,⟨_,e⟩,_⟩:=x;exact Heap.lt_size e
theorem Paired.mapP {α β:Type}{F G:α→β→Prop}:∀ {l₁:List α}{l₂:List β},Paired F l₁ l₂→(∀ a b,F a b→G a b)→Paired G l₁ l₂
 | _,_,.nil,_=>.nil
 | _,_,.cons r t,f=>.cons (f _ _ r) (Paired.mapP t f)
theorem gE.stay (x:gE P w H h a o) (k:∀ b u,(b=a∨H b=some (.own a))→h.get? b=some u→h'.get? b=some u)
  (ho:∀ b,H b=some (.own a)→H' b=some (.own a)) (ht:∀ b xs,H b=some (.tup xs)→H' b=some (.tup xs)) (hz:∀ b o u,H b=some (.frz o u)→H' b=some (.frz o u)):gE P w H' h' a o:=by
 induction o with
 | lst xs=>obtain ⟨z,its,n,r,e⟩:=x;exact ⟨z,its,n,r,k _ _ (.inl rfl) e⟩
 | tup xs=>obtain ⟨z,its,r,ob,e,c⟩:=x;exact ⟨z,its,r,ob,k _ _ (.inl rfl) e,c⟩
 | dK kvs=>obtain ⟨z,y,vs,r,ob,es,ep,e,c⟩:=x;exact ⟨z,y,vs,r,ob,es,ep,k _ _ (.inl rfl) e,c⟩
 | dT K f kvs=>
  obtain ⟨z,y,xs,r,ob,es,ep,e,c⟩:=x
  exact ⟨z,y,xs,Paired.mapP r fun p q z=>⟨z.1,z.2.1,z.2.2.1.mono ht hz,z.2.2.2⟩,ob,es,ep,k _ _ (.inl rfl) e,c⟩
 | set S n=>obtain ⟨ob,es,ep,t,e,c⟩:=x;exact ⟨ob,es,ep,t,k _ _ (.inl rfl) e,c⟩
 | ins C dx fs=>
  obtain ⟨d,z,ne,e,mA,⟨od,es,ep,e2,c⟩,r⟩:=x
  exact ⟨ho _ d,z,ne,k _ _ (.inl rfl) e,mA,⟨od,es,ep,k _ _ (.inr d) e2,c⟩,r⟩
 | own y=>obtain ⟨ob,e⟩:=x;exact ⟨ob,k _ _ (.inl rfl) e⟩
 | xd fs=>obtain ⟨mA,⟨od,es,ep,e,c⟩,r⟩:=x;exact ⟨mA,⟨od,es,ep,k _ _ (.inl rfl) e,c⟩,r⟩
 | rng lo hi=>obtain ⟨t,u,v,e⟩:=x;exact ⟨t,u,v,k _ _ (.inl rfl) e⟩
 | frz ob u ih=>obtain ⟨e,q⟩:=x;exact ⟨k _ _ (.inl rfl) e,ih q⟩
 | tbl ps=>
  have e:h.get? a=some { cls:=.none,data:=.fields ps }:=x
  show h'.get? a=some { cls:=.none,data:=.fields ps }
  exact k a _ (.inl rfl) e
 | tab l c q=>
  obtain ⟨ps,e,z⟩:=x
  refine ⟨ps,k _ _ (.inl rfl) e,?_⟩
  rcases z with z | ⟨d,oc,u,vs,t,z1,z2,z3⟩
  ·exact .inl z
  ·exact .inr ⟨d,oc,u,vs,t,z1,hz _ _ _ z2,z3⟩
 | met f y=>
  have e:h.get? a=some (PySem.W.methodObj (.ref f) (.ref y)):=x
  show h'.get? a=some (PySem.W.methodObj (.ref f) (.ref y))
  exact k a _ (.inl rfl) e
 | ext φ=>obtain ⟨p,⟨o,e⟩,st⟩:=x;exact ⟨st _ _ p fun o q=>k _ _ (.inl rfl) q,⟨o,k _ _ (.inl rfl) e⟩,st⟩
theorem uH.lt (x:uH P w H h) (e:H a=some o):a<h.objs.size:=(x a o e).lt
theorem uH.fresh (x:uH P w H h) (e:h.objs.size≤a):H a=none:=by
 cases q:H a with
 | none=>rfl
 | some u=>exact absurd (Nat.lt_of_lt_of_le (x.lt q) e) (Nat.lt_irrefl _)
theorem uH.kept (x:uH P w H h) (k:∀ b u,h.get? b=some u→h'.get? b=some u):uH P w H h':=fun a o e=>
 (x a o e).stay (fun b u _ q=>k b u q) (fun _ q=>q) (fun _ _ q=>q) fun _ _ _ q=>q
theorem uH.laid (x:uH P w H h) (k:∀ b u,h.get? b=some u→h'.get? b=some u) (hp:h.objs.size≤a) (new:gE P w (upd H a o) h' a o):uH P w (upd H a o) h':=fun b u e=>by
 have hn:=x.fresh hp
 by_cases hb:b=a
 ·subst hb;rw [bH] at e;cases e;exact new
 ·rw [aS hb] at e
  exact (x b u e).stay (fun c v _ q=>k c v q) (fun c q=>by rw [aS (b8 q hn)];exact q) (fun c xs q=>by rw [aS (b8 q hn)];exact q) fun c ob u q=>by rw [aS (b8 q hn)];exact q
end
def Rd (H:Hp) (a:Addr) (u:HO):Prop:=H a=some u∨∃ o,H a=some (.frz o u)
theorem Rd.ok {P:Program}{w:World}{H:Hp}{h:Heap}{a:Addr}{u:HO} (r:Rd H a u) (x:uH P w H h):gE P w H h a u:=by
 rcases r with r | ⟨o,r⟩
 ·exact x a u r
 ·obtain ⟨_,q⟩:=x a _ r
  exact q
def Mut:Option HO→Prop
 | some (.lst _)=>True
 | some (.dK _)=>True
 | some (.dT _ _ _)=>True
 | some (.set _ _)=>True
 | some (.ins _ _ _)=>True
 | some (.tab _ _ _)=>True
 | some (.ext _)=>True
 | _=>False
section
variable {P:Program}{w:World}{H:Hp}{h h':Heap}{x e:Addr}{o':HO}
theorem uH.write (ok:uH P w H h) (mu:Mut (H x)) (he:e=x∨H e=some (.own x)) (k:∀ b u,b≠e→h.get? b=some u→h'.get? b=some u) (heo:∃ u,h'.get? e=some u)
  (new:gE P w (upd H x o') h' x o'):uH P w (upd H x o') h':=fun b u q=>by
 have nown:∀ c y,H c=some (.own y)→c≠x:=fun c y r z=>by subst z;rw [r] at mu;exact mu
 have ntup:∀ c xs,H c=some (.tup xs)→c≠x:=fun c xs r z=>by subst z;rw [r] at mu;exact mu
 by_cases hb:b=x
 ·subst hb;rw [bH] at q;cases q;exact new
 ·rw [aS hb] at q
  by_cases hbe:b=e
  ·have q':H b=some (.own x):=by
    rcases he with z | z
    ·exact absurd (hbe.trans z) hb
    ·rw [hbe];exact z
   rw [q] at q';cases q'
   obtain ⟨v,hv⟩:=heo
   exact ⟨v,by rw [hbe];exact hv⟩
  ·refine (ok b u q).stay (fun c v hc r=>k c v ?_ r) (fun c r=>by rw [aS (nown c b r)];exact r) (fun c xs r=>by rw [aS (ntup c xs r)];exact r) fun c ob u r=>by rw [aS (fun z=>by subst z;rw [r] at mu;exact mu)];exact r
   rcases hc with rfl | hc
   ·exact hbe
   ·rintro rfl
    rcases he with z | z
    ·exact nown c b hc z
    ·rw [hc] at z;cases z;exact hb rfl
end
structure Un (fs ex:List Addr) (H H':Hp) (h h':Heap):Prop where
 keep:∀ b o,h.get? b=some o→H b=none→b∉fs→b∉ex→h'.get? b=some o
 slot:∀ b o,h.get? b=some o→H b=none→b∈fs→b∉ex→∃ sl,h'.get? b=some { o with slots:=sl }
 free:∀ b o,h.get? b=some o→H b=none→b∉ex→H' b=none
 there:∀ b o,h.get? b=some o→b∉ex→∃ o',h'.get? b=some o'
 tups:∀ b xs,H b=some (.tup xs)→H' b=some (.tup xs)
 frzs:∀ b o u,H b=some (.frz o u)→H' b=some (.frz o u)
 tbls:∀ b ps,H b=some (.tbl ps)→∃ more,H' b=some (.tbl (ps++more))
section
variable {fs fs' ex ex':List Addr}{H H1 H2:Hp}{h h1 h2 h':Heap}{a x e:Addr}{o:HO}
theorem Un.any (u:Un fs ex H H1 h h1) {b:Addr}{ob:Obj} (q:h.get? b=some ob) (n:H b=none) (hx:b∉ex):∃ sl,h1.get? b=some { ob with slots:=sl }:=by
 by_cases hb:b∈fs
 ·exact u.slot b ob q n hb hx
 ·exact ⟨ob.slots,u.keep b ob q n hb hx⟩
theorem Un.kept (k:∀ b u,h.get? b=some u→h'.get? b=some u):Un fs ex H H h h':=
 ⟨fun b ob q _ _ _=>k b ob q,fun b ob q _ _ _=>⟨ob.slots,k b ob q⟩,fun _ _ _ n _=>n,fun b ob q _=>⟨ob,k b ob q⟩,fun _ _ q=>q,fun _ _ _ q=>q,fun _ ps q=>⟨#[],by rw [q];simp⟩⟩
theorem Un.refl:Un fs ex H H h h:=Un.kept fun _ _ q=>q
theorem Un.laid (k:∀ b u,h.get? b=some u→h'.get? b=some u) (hp:h.objs.size≤a) (hn:H a=none):Un fs ex H (upd H a o) h h' where
 keep:=fun b u q _ _ _=>k b u q
 slot:=fun b u q _ _ _=>⟨u.slots,k b u q⟩
 free:=fun b u q n _=>by rw [aS (Nat.ne_of_lt (Nat.lt_of_lt_of_le (Heap.lt_size q) hp))];exact n
 there:=fun b u q _=>⟨u,k b u q⟩
 tups:=fun b xs q=>by rw [aS (b8 q hn)];exact q
 frzs:=fun b u xs q=>by rw [aS (b8 q hn)];exact q
 tbls:=fun b ps q=>⟨#[],by rw [aS (b8 q hn),q];simp⟩
theorem Un.write (mu:Mut (H x)) (he:e=x∨H e=some (.own x)) (k:∀ b u,b≠e→h.get? b=some u→h'.get? b=some u) (heo:∃ u,h'.get? e=some u):Un fs ex H (upd H x o) h h':=by
 have hx:∀ b,H b=none→b≠x:=fun b n z=>by subst z;rw [n] at mu;exact mu
 have hb:∀ b,H b=none→b≠e:=fun b n z=>by
  subst z
  rcases he with r | r
  ·exact hx b n r
  ·rw [n] at r;cases r
 have hm:∀ b u,H b=some u→¬ Mut (some u)→b≠x:=fun b u q nm z=>by subst z;rw [q] at mu;exact nm mu
 refine ⟨fun b u q n _ _=>k b u (hb b n) q,fun b u q n _ _=>⟨u.slots,k b u (hb b n) q⟩,fun b u q n _=>by rw [aS (hx b n)];exact n,fun b u q _=>?_,
  fun b xs q=>by rw [aS (hm b _ q fun z=>z)];exact q,fun b u xs q=>by rw [aS (hm b _ q fun z=>z)];exact q,fun b ps q=>⟨#[],by rw [aS (hm b _ q fun z=>z),q];simp⟩⟩
 by_cases hbe:b=e
 ·subst hbe;exact heo
 ·exact ⟨u,k b u hbe q⟩
end
def trk (h:Heap) (H:Hp):List Addr:=(List.range h.objs.size).filter fun a=>(H a).isSome
def aBR (h:Heap) (H:Hp):Heap:=PySem.W.hideAll h (trk h H)
theorem aFZ (h:Heap) (H:Hp):(aBR h H).objs.size=h.objs.size:=PySem.W.hideAll_size _ _
theorem aHN {h:Heap}{H:Hp}{b:Addr}{o:Obj} (e:h.get? b=some o) (n:H b=none):(aBR h H).get? b=some o:=
 PySem.W.hideAll_get _ e fun hm=>by
  have q:(H b).isSome=true:=(List.mem_filter.mp hm).2
  rw [n] at q;simp at q
theorem aJP {h:Heap}{H:Hp}{b:Addr}{o:Obj} (e:(aBR h H).get? b=some o):h.get? b=some o∧H b=none:=by
 have e':h.get? b=some o:=PySem.W.of_hideAll (trk h H) e
 refine ⟨e',?_⟩
 cases q:H b with
 | none=>rfl
 | some x=>
  have hm:b∈trk h H:=List.mem_filter.mpr ⟨List.mem_range.mpr (Heap.lt_size e'),by simp [q]⟩
  have z:(aBR h H).get? b=none:=PySem.W.hideAll_none (trk h H) hm
  rw [z] at e;cases e
structure Mod (K:PySem.W.Frag) (mg:Str→Option Value) (base:Heap):Prop where
 kin:K.In base
 glob:base.Ns mainGlobals mg
 blt:∃ mb,base.Ns builtinsNs mb∧∀ x:Str,x≠"__name__"→mb x=bootBuiltins x
 nolimit:base.NoLimit
structure Cx where
 prog:Program
 w:World
 K:PySem.W.Frag
 mg:Str→Option Value
 base:Heap
 A:Around
 N:List Str
 s₀:Shared
 H₀:Hp
 env:Env
 outer:List Env
 stack:List Env
 ex:List Addr
 fn:Str→Bool
 calm:Bool
 pn:List (Addr×Obj)
 xe:Value→Shared→Prop
def frs (l:List Env):List Addr:=l.filterMap (·.frame)
abbrev Cx.fs (X:Cx):List Addr:=frs X.outer
def Vis (sc:Scope) (x:Str):Prop:=sc.names.lookup x=some .local∨sc.names.lookup x=some .cell∨sc.names.lookup x=some .free
def Loc (sc:Scope) (x:Str):Prop:=sc.names.lookup x=some .local∨sc.names.lookup x=some .cell
def aNi (env:Env) (h:Heap) (m:Str→Option Value) (x:Str) (u:Value):Prop:=
 (env.kindOf x=some .local∧m x=some u)∨((env.kindOf x=some .cell∨env.kindOf x=some .free)∧∃ c,env.cells.lookup x=some c∧h.IsCell c (some u))
structure Cx.Ok (X:Cx):Prop where
 mod:Mod X.K X.mg X.base
 kind:X.env.scope.kind = .function
 glob:X.env.globals=mainGlobals
 blt:X.env.builtins=builtinsNs
 above:X.s₀.heap.objs.size≤X.env.locals
 inj:∀ x y c,X.env.cells.lookup x=some c→X.env.cells.lookup y=some c→x=y
 has:∀ x,(X.env.kindOf x=some .cell∨X.env.kindOf x=some .free)→∃ c,X.env.cells.lookup x=some c
 cab:∀ x c,X.fn x=true→X.env.cells.lookup x=some c→X.s₀.heap.objs.size≤c
 hd:X.calm=true→X.A.handled=none
 frames:X.A.frames=some X.stack
 stk:X.stack=X.outer∨(X.stack=X.env::X.outer∧X.env.frame=some X.env.locals)
 exf:∀ b∈X.ex,b≠X.env.locals∧∀ x c,X.env.cells.lookup x=some c→c≠b
 bs:∀ b o,X.base.get? b=some o→X.s₀.heap.get? b=some o∧X.H₀ b=none
 bsz:X.base.objs.size≤X.s₀.heap.objs.size
 noex:∀ b o,X.base.get? b=some o→b∉X.ex
 exfs:∀ b∈X.ex,b∉X.fs
 funs:X.s₀.heap.FunFrames X.base X.outer
 frf:∀ b∈X.fs,X.H₀ b=none
structure bG (X:Cx) (pins:List (Addr×Obj)) (σ:List (Option V)) (H:Hp) (s:Shared):Prop where
 ok:X.Ok
 os:s.os=X.s₀.os
 bare:AllBare s.gens
 base:Un X.fs X.ex X.H₀ H X.s₀.heap s.heap
 loc:∃ m,s.heap.Ns X.env.locals m∧∀ (i:Nat) (x:Str) (v:V),X.N[i]? = some x→σ[i]? = some (some v)→Vis X.env.scope x→∃ u,cG v u∧aNi X.env s.heap m x u
 cell:∀ x c,X.env.cells.lookup x=some c→∃ v,s.heap.IsCell c v
 free:H X.env.locals=none
 freeC:∀ x c,X.env.cells.lookup x=some c→H c=none
 pin:∀ p∈X.pn++pins,s.heap.get? p.1=some p.2∧H p.1=none∧p.1≠X.env.locals∧p.1∉X.fs∧∀ v,p.2.data≠.cell v
 hok:uH X.prog X.w H s.heap
 len:σ.length=X.N.length
section
variable {X:Cx}{pins:List (Addr×Obj)}{σ:List (Option V)}{H H':Hp}{s:Shared}{h':Heap}
theorem Cx.Ok.nofr (ok:X.Ok) {b:Addr}{o:Obj} (e:X.base.get? b=some o):b∉X.fs:=fun hb=>by
 have:=(ok.funs.mem hb).1
 rw [e] at this;cases this
theorem bG.bs (I:bG X pins σ H s):∀ b o,X.base.get? b=some o→s.heap.get? b=some o∧H b=none:=fun b o e=>
 ⟨I.base.keep b o (I.ok.bs b o e).1 (I.ok.bs b o e).2 (I.ok.nofr e) (I.ok.noex b o e),I.base.free b o (I.ok.bs b o e).1 (I.ok.bs b o e).2 (I.ok.noex b o e)⟩
theorem bG.bk (I:bG X pins σ H s):∀ b o,X.base.get? b=some o→s.heap.get? b=some o:=fun b o e=>(I.bs b o e).1
theorem bG.mod (I:bG X pins σ H s):Mod X.K X.mg X.base:=I.ok.mod
theorem bG.kIn (I:bG X pins σ H s):X.K.In s.heap:=I.ok.mod.kin.keeps I.bk
theorem bG.lt (I:bG X pins σ H s):X.env.locals<s.heap.objs.size:=let ⟨_,hn,_⟩:=I.loc;hn.lt
theorem bG.sz (I:bG X pins σ H s):X.s₀.heap.objs.size≤s.heap.objs.size:=Nat.le_trans I.ok.above (Nat.le_of_lt I.lt)
theorem bG.nofs (I:bG X pins σ H s) {a:Addr} (h:s.heap.objs.size≤a):a∉X.fs:=fun hb=>by
 obtain ⟨_,o,ho,_⟩:=I.ok.funs.mem hb
 exact absurd (Nat.lt_of_lt_of_le (Heap.lt_size ho) (Nat.le_trans I.sz h)) (Nat.lt_irrefl _)
theorem bG.cne (I:bG X pins σ H s):∀ x c,X.env.cells.lookup x=some c→c≠X.env.locals:=fun x c e z=>by
 obtain ⟨v,o,ho,hd⟩:=I.cell x c e
 obtain ⟨m,⟨o',es,ep,ho',hd',_⟩,_⟩:=I.loc
 rw [z,ho'] at ho;cases ho;rw [hd'] at hd;cases hd
theorem bG.funs (I:bG X pins σ H s):s.heap.FunFrames X.base X.outer:=by
 have all:∀ (l:List Env),(∀ b∈frs l,b∈X.fs)→X.s₀.heap.FunFrames X.base l→s.heap.FunFrames X.base l:=by
  intro l
  induction l with
  | nil=>intro _ _;trivial
  | cons env r ih=>
   intro hs hl
   obtain ⟨hk,⟨L,o,hf,hn,ho,hd⟩,hr⟩:=hl
   have hL:L∈X.fs:=hs L (by unfold frs;rw [List.filterMap_cons,hf];exact List.mem_cons_self)
   obtain ⟨sl,e⟩:=I.base.slot L o ho (I.ok.frf L hL) hL fun z=>I.ok.exfs L z hL
   exact ⟨hk,⟨L,_,hf,hn,e,hd⟩,ih (fun b hb=>hs b (by unfold frs;rw [List.filterMap_cons,hf];exact List.mem_cons_of_mem _ hb)) hr⟩
 exact all X.outer (fun _ hb=>hb) I.ok.funs
theorem bG.stack (I:bG X pins σ H s):s.heap.FunFrames X.base X.stack:=by
 rcases I.ok.stk with e | ⟨e,hf⟩
 ·rw [e];exact I.funs
 ·rw [e]
  obtain ⟨m,hn,_⟩:=I.loc
  refine .cons (by rw [I.ok.kind];decide) hf hn ?_ I.funs
  exact Heap.get?_none_of_le (Nat.le_trans I.ok.bsz I.ok.above)
theorem bG.stkSub (I:bG X pins σ H s):∀ b∈frs X.stack,b∈X.env.locals::X.fs:=fun b hb=>by
 rcases I.ok.stk with e | ⟨e,hf⟩
 ·rw [e] at hb;exact List.mem_cons_of_mem _ hb
 ·rw [e] at hb
  unfold frs at hb
  rw [List.filterMap_cons,hf] at hb
  exact hb
theorem bG.stkFree (I:bG X pins σ H s):∀ b∈frs X.stack,H b=none:=fun b hb=>by
 rcases List.mem_cons.mp (I.stkSub b hb) with e | hb
 ·rw [e];exact I.free
 ·obtain ⟨_,o,ho,_⟩:=I.ok.funs.mem hb
  exact I.base.free b o ho (I.ok.frf b hb) fun z=>I.ok.exfs b z hb
theorem bG.step {g':Array GenState}{t':Nat}{d':Drawn}{ch:List Addr} (I:bG X pins σ H s)
  (hch:∀ b∈ch,(b∈X.ex∨X.s₀.heap.objs.size≤b)∧b≠X.env.locals∧(∀ x c,X.env.cells.lookup x=some c→c≠b)∧∀ p∈X.pn++pins,p.1≠b)
  (keep:∀ b o,b≠X.env.locals→b∉X.fs→b∉ch→s.heap.get? b=some o→H b=none→h'.get? b=some o)
  (slot:∀ b o,b≠X.env.locals→b∈X.fs→b∉ch→s.heap.get? b=some o→H b=none→∃ sl,h'.get? b=some { o with slots:=sl }) (free:∀ b o,b∉ch→s.heap.get? b=some o→H b=none→H' b=none)
  (there:∀ b o,b∉ch→s.heap.get? b=some o→∃ o',h'.get? b=some o')
  (tups:∀ b xs,H b=some (.tup xs)→H' b=some (.tup xs)) (frzs:∀ b o u,H b=some (.frz o u)→H' b=some (.frz o u)) (tbls:∀ b ps,H b=some (.tbl ps)→∃ more,H' b=some (.tbl (ps++more)))
  (ns:∀ m,s.heap.Ns X.env.locals m→h'.Ns X.env.locals m) (hok:uH X.prog X.w H' h') (hg:AllBare g') :
  bG X pins σ H' { s with heap:=h',gens:=g',drawn:=d',toks:=t' }:=by
 have neL:∀ b o,X.s₀.heap.get? b=some o→b≠X.env.locals:=fun b o e=>Nat.ne_of_lt (Nat.lt_of_lt_of_le (Heap.lt_size e) I.ok.above)
 have neC:∀ b o,X.s₀.heap.get? b=some o→b∉X.ex→b∉ch:=fun b o e hx hb=>by
  rcases (hch b hb).1 with z | z
  ·exact hx z
  ·exact absurd (Nat.lt_of_lt_of_le (Heap.lt_size e) z) (Nat.lt_irrefl _)
 have cellK:∀ x c,X.env.cells.lookup x=some c→∀ v,s.heap.IsCell c v→h'.IsCell c v:=fun x c e v ⟨o,ho,hd⟩=>by
  have nch:c∉ch:=fun z=>(hch c z).2.2.1 x c e rfl
  by_cases hc:c∈X.fs
  ·obtain ⟨sl,q⟩:=slot c o (I.cne x c e) hc nch ho (I.freeC x c e)
   exact ⟨_,q,hd⟩
  ·exact ⟨o,keep c o (I.cne x c e) hc nch ho (I.freeC x c e),hd⟩
 refine ⟨I.ok,I.os,hg,⟨fun b o e n hb hx=>?_,fun b o e n hb hx=>?_,fun b o e n hx=>?_,fun b o e hx=>?_,fun b xs e=>tups b xs (I.base.tups b xs e),fun b o xs e=>frzs b o xs (I.base.frzs b o xs e),fun b ps e=>?_⟩,?_,fun x c e=>?_,?_,fun x c e=>?_,fun p hp=>?_,hok,I.len⟩
 ·exact keep b o (neL b o e) hb (neC b o e hx) (I.base.keep b o e n hb hx) (I.base.free b o e n hx)
 ·obtain ⟨sl,e1⟩:=I.base.slot b o e n hb hx
  obtain ⟨sl',e2⟩:=slot b _ (neL b o e) hb (neC b o e hx) e1 (I.base.free b o e n hx)
  exact ⟨sl',e2⟩
 ·obtain ⟨o',e1⟩:=I.base.there b o e hx
  exact free b o' (neC b o e hx) e1 (I.base.free b o e n hx)
 ·obtain ⟨o',e1⟩:=I.base.there b o e hx
  exact there b o' (neC b o e hx) e1
 ·obtain ⟨m1,e1⟩:=I.base.tbls b ps e
  obtain ⟨m2,e2⟩:=tbls b _ e1
  exact ⟨m1++m2,by rw [e2,Array.append_assoc]⟩
 ·obtain ⟨m,hn,hl⟩:=I.loc
  refine ⟨m,ns m hn,fun i x v e1 e2 e3=>?_⟩
  obtain ⟨u,r,l⟩:=hl i x v e1 e2 e3
  refine ⟨u,r,?_⟩
  rcases l with l | ⟨k,c,e,z⟩
  ·exact .inl l
  ·exact .inr ⟨k,c,e,cellK x c e _ z⟩
 ·obtain ⟨v,z⟩:=I.cell x c e
  exact ⟨v,cellK x c e v z⟩
 ·obtain ⟨m,⟨o,_,_,ho,_⟩,_⟩:=I.loc
  exact free _ o (fun z=>(hch _ z).2.1 rfl) ho I.free
 ·obtain ⟨v,o,ho,hd⟩:=I.cell x c e
  exact free c o (fun z=>(hch c z).2.2.1 x c e rfl) ho (I.freeC x c e)
 ·obtain ⟨e,n,ne,nf,d⟩:=I.pin p hp
  have nch:p.1∉ch:=fun z=>(hch p.1 z).2.2.2 p hp rfl
  exact ⟨keep p.1 p.2 ne nf nch e n,free p.1 p.2 nch e n,ne,nf,d⟩
theorem bG.un {t':Nat} (I:bG X pins σ H s) (u:Un X.fs [] H H' s.heap h') (hok:uH X.prog X.w H' h'):bG X pins σ H' { s with heap:=h',toks:=t' }:=by
 obtain ⟨m,⟨o,es,ep,ho,r⟩,_⟩:=id I.loc
 obtain ⟨sl,hL⟩:=u.any ho I.free (by simp)
 exact I.step (g':=s.gens) (d':=s.drawn) (ch:=[]) (fun _ z=>nomatch z) (fun b o _ hb _ e n=>u.keep b o e n hb (by simp)) (fun b o _ hb _ e n=>u.slot b o e n hb (by simp)) (fun b o _ e n=>u.free b o e n (by simp)) (fun b o _ e=>u.there b o e (by simp)) u.tups u.frzs u.tbls (fun m' hm=>by
  obtain ⟨o',es',ep',ho',r'⟩:=hm
  rw [ho] at ho';cases ho'
  exact ⟨_,es',ep',hL,r'⟩) hok I.bare
theorem bG.call {g':Array GenState}{t':Nat}{d':Drawn}{ch:List Addr} (I:bG X pins σ H s) (u:Un (frs X.stack) ch H H' s.heap h') (hok:uH X.prog X.w H' h') (hg:AllBare g')
  (hch:∀ b∈ch,(b∈X.ex∨X.s₀.heap.objs.size≤b)∧b≠X.env.locals∧(∀ x c,X.env.cells.lookup x=some c→c≠b)∧∀ p∈X.pn++pins,p.1≠b) :
  bG X pins σ H' { s with heap:=h',gens:=g',drawn:=d',toks:=t' }:=by
 obtain ⟨m,⟨o,es,ep,ho,r⟩,_⟩:=id I.loc
 obtain ⟨sl,hL⟩:=u.any ho I.free fun z=>(hch _ z).2.1 rfl
 exact I.step (ch:=ch) hch (fun b o hL hb hc e n=>u.keep b o e n (fun z=>(List.mem_cons.mp (I.stkSub b z)).elim hL hb) hc) (fun b o _ _ hc e n=>u.any e n hc) (fun b o hc e n=>u.free b o e n hc) (fun b o hc e=>u.there b o e hc) u.tups u.frzs u.tbls (fun m' hm=>by
  obtain ⟨o',es',ep',ho',r'⟩:=hm
  rw [ho] at ho';cases ho'
  exact ⟨_,es',ep',hL,r'⟩) hok hg
theorem bG.turned {t':Nat}{it:Addr} (I:bG X pins σ H s) (k:∀ b o,b≠it→s.heap.get? b=some o→h'.get? b=some o) (hn:H it=none) (hL:it≠X.env.locals)
  (h1:it∈X.ex∨X.s₀.heap.objs.size≤it) (h2:∀ x c,X.env.cells.lookup x=some c→c≠it) (h3:∀ p∈X.pn++pins,p.1≠it):bG X pins σ H { s with heap:=h',toks:=t' }:=by
 have nit:∀ b u,H b=some u→b≠it:=fun b u e z=>by rw [z,hn] at e;cases e
 refine I.step (g':=s.gens) (d':=s.drawn) (ch:=[it]) (fun b hb=>?_) (fun b o _ _ hc e _=>k b o (fun z=>hc (by simp [z])) e) (fun b o _ _ hc e _=>⟨o.slots,k b o (fun z=>hc (by simp [z])) e⟩) (fun _ _ _ _ n=>n)
  (fun b o hc e=>⟨o,k b o (fun z=>hc (by simp [z])) e⟩) (fun _ _ e=>e) (fun _ _ _ e=>e) (fun b ps e=>⟨#[],by rw [e];simp⟩) (fun m hm=>?_) (fun b u e=>?_) I.bare
 ·have e:b=it:=by simpa using hb
  subst e
  exact ⟨h1,hL,h2,h3⟩
 ·obtain ⟨o,es,ep,ho,r⟩:=hm
  exact ⟨o,es,ep,k _ o (Ne.symm hL) ho,r⟩
 ·refine (I.hok b u e).stay (fun c v hc q=>k c v ?_ q) (fun _ q=>q) (fun _ _ q=>q) fun _ _ _ q=>q
  rcases hc with z | z
  ·rw [z];exact nit b u e
  ·exact nit c _ z
theorem bG.tok (I:bG X pins σ H s) (t:Nat):bG X pins σ H { s with toks:=t }:=I.un (h':=s.heap) (t':=t) Un.refl I.hok
theorem bG.kept {t':Nat} (I:bG X pins σ H s) (k:∀ b u,s.heap.get? b=some u→h'.get? b=some u):bG X pins σ H { s with heap:=h',toks:=t' }:=I.un (Un.kept k) (I.hok.kept k)
theorem bG.laid {a:Addr}{o:HO}{t':Nat} (I:bG X pins σ H s) (k:∀ b u,s.heap.get? b=some u→h'.get? b=some u) (hp:s.heap.objs.size≤a) (new:gE X.prog X.w (upd H a o) h' a o) :
  bG X pins σ (upd H a o) { s with heap:=h',toks:=t' }:=I.un (Un.laid k hp (I.hok.fresh hp)) (I.hok.laid k hp new)
theorem bG.write {x e:Addr}{o:HO}{t':Nat} (I:bG X pins σ H s) (mu:Mut (H x)) (he:e=x∨H e=some (.own x)) (k:∀ b u,b≠e→s.heap.get? b=some u→h'.get? b=some u) (heo:∃ u,h'.get? e=some u)
  (new:gE X.prog X.w (upd H x o) h' x o):bG X pins σ (upd H x o) { s with heap:=h',toks:=t' }:=I.un (Un.write mu he k heo) (I.hok.write mu he k heo new)
theorem bG.weak {σ':List (Option V)} (I:bG X pins σ H s) (hl:σ'.length=σ.length) (w:∀ (i:Nat) v,σ'[i]? = some (some v)→σ[i]? = some (some v)):bG X pins σ' H s:=
 ⟨I.ok,I.os,I.bare,I.base,let ⟨m,hn,hl'⟩:=I.loc; ⟨m,hn,fun i x v e1 e2 e3=>hl' i x v e1 (w i v e2) e3⟩,I.cell,I.free,I.freeC,I.pin,I.hok,hl.trans I.len⟩
theorem bG.pins_of {pins':List (Addr×Obj)} (I:bG X pins σ H s) (h:∀ p∈pins',s.heap.get? p.1=some p.2∧H p.1=none∧p.1≠X.env.locals∧p.1∉X.fs∧∀ v,p.2.data≠.cell v):bG X pins' σ H s:=
 ⟨I.ok,I.os,I.bare,I.base,I.loc,I.cell,I.free,I.freeC,fun p hp=>(List.mem_append.mp hp).elim (fun z=>I.pin p (List.mem_append_left _ z)) (h p),I.hok,I.len⟩
theorem aCA {N:List Str} (hN:N.Nodup) {i j:Nat}{x:Str} (a:N[i]? = some x) (b:N[j]? = some x):i=j:=by
 obtain ⟨h1,e1⟩:=List.getElem?_eq_some_iff.mp a
 obtain ⟨h2,e2⟩:=List.getElem?_eq_some_iff.mp b
 exact (List.getElem_inj hN).mp (e1.trans e2.symm)
theorem aBe {M:Model}{A:Around}{E:Value→Shared→Prop}{i:Nat}{x:Str}{v:V}{u:Value}{Q:Unit→Shared→Prop} (I:bG X pins σ H s) (hN:X.N.Nodup) (hi:X.N[i]? = some x) (hx:Loc X.env.scope x) (r:cG v u)
  (h:∀ s',bG X pins (σ.set i (some v)) H s'→(∃ a,Heap.SameBut a s.heap s'.heap∧(a=X.env.locals∨X.env.cells.lookup x=some a))→Q () s') (hf:X.fn x=true∨X.env.scope.names.lookup x=some .local:=by first | exact .inl rfl | exact .inr rfl | assumption):wpAny M A (storeName X.env x u) Q E s:=by
 obtain ⟨m,hn,hl⟩:=id I.loc
 have hcls:(X.env.scope.kind == .class || (X.env.scope.kind == .module && X.env.locals != X.env.globals))=false:=by rw [I.ok.kind];rfl
 have hiσ:i<σ.length:=by rw [I.len];exact (List.getElem?_eq_some_iff.mp hi).1
 have cne:=I.cne
 have tracked:∀ {a:Addr}{h':Heap},(∃ o,s.heap.get? a=some o∧H a=none)→Heap.SameBut a s.heap h'→uH X.prog X.w H h':=fun {a h'} ha hs b ob e=>by
  obtain ⟨_,_,hfree⟩:=ha
  refine (I.hok b ob e).stay (fun c w' hc q=>(hs.2 c ?_).trans q) (fun _ q=>q) (fun _ _ q=>q) fun _ _ _ q=>q
  rintro rfl
  rcases hc with rfl | hc
  ·rw [hfree] at e;cases e
  ·rw [hfree] at hc;cases hc
 rcases hx with hk | hk
 ·refine wpAny_storeName_local hk hn (fun h' hn' hs=>?_) hcls
  obtain ⟨oL,_,_,hoL,_⟩:=id hn
  refine h _ ⟨I.ok,I.os,I.bare,⟨fun b o e n hb hx=>?_,fun b o e n hb hx=>?_,I.base.free,fun b o e hx=>?_,I.base.tups,I.base.frzs,I.base.tbls⟩,⟨_,hn',fun j y v' e1 e2 e3=>?_⟩,fun y c e=>?_,I.free,I.freeC,fun p hp=>?_,tracked ⟨oL,hoL,I.free⟩ hs,by simpa using I.len⟩ ⟨_,hs,.inl rfl⟩
  ·exact (hs.2 b (Nat.ne_of_lt (Nat.lt_of_lt_of_le (Heap.lt_size e) I.ok.above))).trans (I.base.keep b o e n hb hx)
  ·obtain ⟨sl,e1⟩:=I.base.slot b o e n hb hx
   exact ⟨sl,(hs.2 b (Nat.ne_of_lt (Nat.lt_of_lt_of_le (Heap.lt_size e) I.ok.above))).trans e1⟩
  ·obtain ⟨o',e1⟩:=I.base.there b o e hx
   exact ⟨o',(hs.2 b (Nat.ne_of_lt (Nat.lt_of_lt_of_le (Heap.lt_size e) I.ok.above))).trans e1⟩
  ·by_cases hj:j=i
   ·subst hj
    rw [hi] at e1;cases e1
    rw [List.getElem?_set_self hiσ] at e2
    cases e2
    exact ⟨u,r,.inl ⟨hk,by simp⟩⟩
   ·rw [List.getElem?_set_ne (Ne.symm hj)] at e2
    obtain ⟨u',r',q⟩:=hl j y v' e1 e2 e3
    refine ⟨u',r',?_⟩
    rcases q with ⟨k,e⟩ | ⟨k,c,e,z⟩
    ·refine .inl ⟨k,?_⟩
     have:y≠x:=fun e=>hj (aCA hN e1 (e ▸ hi))
     simp [this,e]
    ·exact .inr ⟨k,c,e,z.sameBut hs (cne y c e)⟩
  ·obtain ⟨w',z⟩:=I.cell y c e
   exact ⟨w',z.sameBut hs (cne y c e)⟩
  ·obtain ⟨e,n,ne,nf,d⟩:=I.pin p hp
   exact ⟨(hs.2 p.1 ne).trans e,n,ne,nf,d⟩
 ·have hfn:X.fn x=true:=by
   rcases hf with z | z
   ·exact z
   ·rw [z] at hk;cases hk
  obtain ⟨c,hc⟩:=I.ok.has x (.inl hk)
  obtain ⟨w',z⟩:=I.cell x c hc
  refine wpAny_storeName_cell I.ok.kind hk hc z (fun h' hc' hs=>?_)
  obtain ⟨oc,hoc,hocd⟩:=id z
  refine h { s with heap:=h' } ⟨I.ok,I.os,I.bare,⟨fun b o e n hb hx=>?_,fun b o e n hb hx=>?_,I.base.free,fun b o e hx=>?_,I.base.tups,I.base.frzs,I.base.tbls⟩,⟨m,hn.sameBut hs (Ne.symm (cne x c hc)),fun j y v' e1 e2 e3=>?_⟩,fun y c' e=>?_,I.free,I.freeC,fun p hp=>?_,tracked ⟨oc,hoc,I.freeC x c hc⟩ hs,by simpa using I.len⟩ ⟨c,hs,.inr hc⟩
  ·exact (hs.2 b (Nat.ne_of_lt (Nat.lt_of_lt_of_le (Heap.lt_size e) (I.ok.cab x c hfn hc)))).trans (I.base.keep b o e n hb hx)
  ·obtain ⟨sl,e1⟩:=I.base.slot b o e n hb hx
   exact ⟨sl,(hs.2 b (Nat.ne_of_lt (Nat.lt_of_lt_of_le (Heap.lt_size e) (I.ok.cab x c hfn hc)))).trans e1⟩
  ·obtain ⟨o',e1⟩:=I.base.there b o e hx
   exact ⟨o',(hs.2 b (Nat.ne_of_lt (Nat.lt_of_lt_of_le (Heap.lt_size e) (I.ok.cab x c hfn hc)))).trans e1⟩
  ·by_cases hj:j=i
   ·subst hj
    rw [hi] at e1;cases e1
    rw [List.getElem?_set_self hiσ] at e2
    cases e2
    exact ⟨u,r,.inr ⟨.inl hk,c,hc,hc'⟩⟩
   ·rw [List.getElem?_set_ne (Ne.symm hj)] at e2
    obtain ⟨u',r',q⟩:=hl j y v' e1 e2 e3
    refine ⟨u',r',?_⟩
    rcases q with q | ⟨k,c',e,z'⟩
    ·exact .inl q
    ·refine .inr ⟨k,c',e,z'.sameBut hs ?_⟩
     rintro rfl
     exact hj (aCA hN e1 (I.ok.inj _ _ _ e hc ▸ hi))
  ·by_cases hcc:c'=c
   ·subst hcc;exact ⟨_,hc'⟩
   ·obtain ⟨w2,z2⟩:=I.cell y c' e
    exact ⟨w2,z2.sameBut hs hcc⟩
  ·obtain ⟨e,n,ne,nf,d⟩:=I.pin p hp
   refine ⟨(hs.2 p.1 ?_).trans e,n,ne,nf,d⟩
   intro q
   rw [q,hoc] at e
   have q':oc=p.2:=Option.some.inj e
   exact d w' (by rw [← q'];exact hocd)
theorem aCM {M:Model}{A:Around}{E:Value→Shared→Prop}{i:Nat}{x:Str}{v:V}{u:Value}{Q:Unit→Shared→Prop} (I:bG X pins σ H s) (hN:X.N.Nodup) (hi:X.N[i]? = some x) (hx:Loc X.env.scope x) (r:cG v u)
  (h:∀ s',bG X pins (σ.set i (some v)) H s'→Q () s') (hf:X.fn x=true∨X.env.scope.names.lookup x=some .local:=by first | exact .inl rfl | exact .inr rfl | assumption):wpAny M A (storeName X.env x u) Q E s:=
 aBe I hN hi hx r (fun s' I' _=>h s' I') hf
theorem bG.call' {s':Shared}{ch:List Addr} (I:bG X pins σ H s) (ho:s'.os=s.os) (u:Un (frs X.stack) ch H H' s.heap s'.heap) (hok:uH X.prog X.w H' s'.heap) (hg:AllBare s'.gens)
  (hch:∀ b∈ch,(b∈X.ex∨X.s₀.heap.objs.size≤b)∧b≠X.env.locals∧(∀ x c,X.env.cells.lookup x=some c→c≠b)∧∀ p∈X.pn++pins,p.1≠b):bG X pins σ H' s':=by
 obtain ⟨h',g',d',t',o'⟩:=s'
 have e:o'=s.os:=ho
 subst e
 exact I.call (g':=g') (t':=t') (d':=d') u hok hg hch
end
abbrev XK:=Value→Option Addr→Hp→Prop
abbrev St:=List (Option V)
abbrev VK:=V→Hp→Prop
abbrev TE:=St→Hp→VK→Prop
abbrev TT:=St→Hp→(Bool→Hp→Prop)→Prop
abbrev TA:=St→Hp→(List V→Hp→Prop)→Prop
structure aGN where
 nx:St→Hp→Prop
 rt:VK
 bk:St→Hp→Prop:=fun _ _=>False
 ct:St→Hp→Prop:=fun _ _=>False
abbrev TS:=aGN→St→Hp→Prop
def EP (X:Cx) (pins:List (Addr×Obj)) (σ:St) (Q:VK) (u:Value) (s':Shared):Prop:=∃ v H',bG X pins σ H' s'∧cG v u∧Q v H'
def TP (X:Cx) (pins:List (Addr×Obj)) (σ:St) (Q:Bool→Hp→Prop) (b:Bool) (s':Shared):Prop:=∃ H',bG X pins σ H' s'∧Q b H'
def AP (X:Cx) (pins:List (Addr×Obj)) (σ:St) (Q:List V→Hp→Prop) (us:List Value) (s':Shared):Prop:=∃ vs H',bG X pins σ H' s'∧cE vs us∧Q vs H'
def SP (X:Cx) (pins:List (Addr×Obj)) (D:aGN) (f:Flow) (s':Shared):Prop:=
 match f with
 | .next=>∃ σ' H',bG X pins σ' H' s'∧D.nx σ' H'
 | .brk=>∃ σ' H',bG X pins σ' H' s'∧D.bk σ' H'
 | .cont=>∃ σ' H',bG X pins σ' H' s'∧D.ct σ' H'
 | .ret u=>∃ v σ' H',bG X pins σ' H' s'∧cG v u∧D.rt v H'
def PE (X:Cx) (e:Expr) (t:TE):Prop:=
 ∀ (pins:List (Addr×Obj)) (s:Shared) (σ:St) (H:Hp) (Q:VK),bG X pins σ H s→t σ H Q→wpAny (model X.prog X.w) X.A (eval e X.env) (EP X pins σ Q) X.xe s
def PT (X:Cx) (e:Expr) (t:TT):Prop:=
 ∀ (pins:List (Addr×Obj)) (s:Shared) (σ:St) (H:Hp) (Q:Bool→Hp→Prop),bG X pins σ H s→t σ H Q→wpAny (model X.prog X.w) X.A (isTrue e X.env (eval e X.env)) (TP X pins σ Q) X.xe s
def PW (X:Cx) (e:Expr) (t:TT):Prop:=
 ∀ (whole:Sem Value) (pins:List (Addr×Obj)) (s:Shared) (σ:St) (H:Hp) (Q:Bool→Hp→Prop),bG X pins σ H s→t σ H Q→wpAny (model X.prog X.w) X.A (isTrue e X.env whole) (TP X pins σ Q) X.xe s
theorem PW.pt {X:Cx}{e:Expr}{t:TT} (h:PW X e t):PT X e t:=h _
def PA (X:Cx) (es:List Expr) (t:TA):Prop:=
 ∀ (pos:Pos) (pins:List (Addr×Obj)) (s:Shared) (σ:St) (H:Hp) (Q:List V→Hp→Prop),bG X pins σ H s→t σ H Q→wpAny (model X.prog X.w) X.A (spliced (backTo pos (starEach es X.env))) (AP X pins σ Q) X.xe s
def PS (X:Cx) (st:Stmt) (t:TS):Prop:=
 ∀ (pins:List (Addr×Obj)) (s:Shared) (σ:St) (H:Hp) (D:aGN),bG X pins σ H s→t D σ H→wpAny (model X.prog X.w) X.A (exec st X.env) (SP X pins D) X.xe s
def PSs (X:Cx) (st:List Stmt) (t:TS):Prop:=
 ∀ (pins:List (Addr×Obj)) (s:Shared) (σ:St) (H:Hp) (D:aGN),bG X pins σ H s→t D σ H→wpAny (model X.prog X.w) X.A (execs st X.env) (SP X pins D) X.xe s
theorem fG {α:Type}{t:Sem α}{Q Q':α→Shared→Prop}{M:Model}{A:Around}{E:Value→Shared→Prop}{s:Shared} (h:wpAny M A t Q E s) (hQ:∀ a s,Q a s→Q' a s):wpAny M A t Q' E s:=wpAny_mono h hQ fun _ _ x=>x
section
variable {X:Cx}
def wP (i:Nat):TE:=fun σ H Q=>∃ v,σ[i]? = some (some v)∧Q v H
def tC (v:V):TE:=fun _ H Q=>Q v H
theorem aKQ {i:Nat}{x:Str}{pos:Pos} (hN:X.N[i]? = some x) (hv:Vis X.env.scope x) (hd:(x == ("__debug__":Str))=false:=by decide) (hcd:(x == ("__classdict__":Str))=false:=by decide):PE X (.Name x pos) (wP i):=by
 intro pins s σ H Q I h
 obtain ⟨v,e,h⟩:=h
 obtain ⟨m,hn,hl⟩:=I.loc
 obtain ⟨u,r,l⟩:=hl i x v hN e hv
 have fin:EP X pins σ Q u s:=⟨v,H,I,r,h⟩
 rcases l with ⟨hk,hm⟩ | ⟨hk,c,hc,hcell⟩
 ·exact wpAny_Name (wpAny_loadName_local I.ok.kind hk hn hm fin) hd
 ·rcases hk with hk | hk
  ·exact wpAny_Name (wpAny_loadName_cell I.ok.kind hk hc hcell fin) hd
  ·exact wpAny_Name (wpAny_loadName_free I.ok.kind hk hc hcell fin hcd) hd
theorem aLq {i j pos}:PE X (.Constant (.int i) j pos) (tC (.int i)):=fun _ _ _ H _ I h=>wpAny_Constant_int ⟨.int i,H,I.tok _,⟨_,rfl⟩,h⟩
theorem aL1 {b j pos}:PE X (.Constant (.bool b) j pos) (tC (.bl b)):=fun _ _ _ H _ I h=>Constant_bool ⟨.bl b,H,I,rfl,h⟩
def Gl (X:Cx) (x:Str):Prop:=X.env.kindOf x=some .globalImplicit
theorem aE1 {E:Value→Shared→Prop}{pins:List (Addr×Obj)}{s:Shared}{σ:St}{H:Hp}{x:Str}{u:Value}{pos:Pos}{Q:Value→Shared→Prop} (I:bG X pins σ H s) (hg:Gl X x) (hm:X.mg x=some u) (h:Q u s)
  (hd:(x == ("__debug__":Str))=false:=by decide):wpAny (model X.prog X.w) X.A (eval (.Name x pos) X.env) Q E s:=
 Calls.Name_function_global I.ok.kind hg (Calls.loadGlobal_global (by rw [I.ok.glob];exact I.mod.glob.keeps I.bk) hm h) hd
theorem oC {E:Value→Shared→Prop}{pins:List (Addr×Obj)}{s:Shared}{σ:St}{H:Hp}{x:Str}{u:Value}{pos:Pos}{Q:Value→Shared→Prop} (I:bG X pins σ H s) (hg:Gl X x) (hm:X.mg x=none) (hv:bootBuiltins x=some u) (h:Q u s)
  (hn:x≠"__name__":=by decide) (hd:(x == ("__debug__":Str))=false:=by decide):wpAny (model X.prog X.w) X.A (eval (.Name x pos) X.env) Q E s:=by
 obtain ⟨mb,h1,h2⟩:=I.mod.blt
 exact Calls.Name_function_global I.ok.kind hg (Calls.loadGlobal_builtin (by rw [I.ok.glob];exact I.mod.glob.keeps I.bk) hm (by rw [I.ok.blt];exact h1.keeps I.bk) ((h2 x hn).trans hv) h) hd
theorem aJ2 {x:Str}{v:V}{u:Value}{pos:Pos} (hg:Gl X x) (hm:X.mg x=some u) (r:cG v u) (hd:(x == ("__debug__":Str))=false:=by decide):PE X (.Name x pos) (tC v):=
 fun _ _ _ H _ I h=>aE1 I hg hm ⟨v,H,I,r,h⟩ hd
theorem xA {x:Str}{v:V}{u:Value}{pos:Pos} (hg:Gl X x) (hm:X.mg x=none) (hv:bootBuiltins x=some u) (r:cG v u) (hn:x≠"__name__":=by decide) (hd:(x == ("__debug__":Str))=false:=by decide):PE X (.Name x pos) (tC v):=
 fun _ _ _ H _ I h=>oC I hg hm hv ⟨v,H,I,r,h⟩ hn hd
variable {a b:Expr}{ta tb:TE}{pos:Pos}
def PC (X:Cx) (op:CmpOp) (a b:Expr) (t:TE):Prop:=
 ∀ (pins:List (Addr×Obj)) (s:Shared) (σ:St) (H:Hp) (Q:VK),bG X pins σ H s→t σ H Q →
  wpAny (model X.prog X.w) X.A (eval a X.env) (fun v s₁=>wpAny (model X.prog X.w) X.A (eval b X.env) (fun u s₂=>wpAny (model X.prog X.w) X.A (compareOp op v u) (EP X pins σ Q) X.xe s₂) X.xe s₁) X.xe s
def tB (t:TE):TT:=fun σ H Q=>t σ H fun x H1=>∃ c,x = .bl c∧Q c H1
theorem aLi {op:CmpOp}{t:TE} (h:PC X op a b t) (h1:behindInMarks op b=false:=by first | exact nobehind _ (by decide) (by decide) | rfl):PT X (.Compare a [op] [b] pos) (tB t):=by
 intro pins s σ H Q I hw
 refine wpAny_isTrue_Compare1 (fG (h pins s σ H _ I hw) fun v s1 h1=>fG h1 fun u s2 h2=>fG h2 fun c s3 ⟨x,H1,I1,r1,q1⟩=>?_) h1
 obtain ⟨d,rfl,q⟩:=q1
 cases r1
 exact wpAny_truthy_bool ⟨H1,I1,q⟩
variable {tA tB':TT}{rest:List Expr}
def aM3 (t u:TT):TT:=fun σ H Q=>t σ H fun c H1=>if c=true then u σ H1 Q else Q false H1
def tOr (t u:TT):TT:=fun σ H Q=>t σ H fun c H1=>if c=true then Q true H1 else u σ H1 Q
def aNc (t:TT):TT:=fun σ H Q=>t σ H fun c H1=>Q (!c) H1
theorem aJj (ha:PT X a tA):PW X (.BoolOp .And [a] pos) tA:=by
 intro wh pins s σ H Q I h
 refine isTrue_and (fG (ha pins s σ H Q I h) fun c s1 e=>?_)
 cases c with
 | true=>exact isTrue_and_nil e
 | false=>exact e
theorem aLH (ha:PT X a tA):PW X (.BoolOp .Or [a] pos) tA:=by
 intro wh pins s σ H Q I h
 refine isTrue_or (fG (ha pins s σ H Q I h) fun c s1 e=>?_)
 cases c with
 | false=>exact isTrue_or_nil e
 | true=>exact e
theorem aKI (ha:PT X a tA) (hb:PW X (.BoolOp .And (b::rest) pos) tB'):PW X (.BoolOp .And (a::b::rest) pos) (aM3 tA tB'):=by
 intro wh pins s σ H Q I h
 refine isTrue_and (fG (ha pins s σ H _ I h) fun c s1 ⟨H1,I1,q1⟩=>?_)
 cases c with
 | true=>exact hb wh pins s1 σ H1 Q I1 q1
 | false=>exact ⟨H1,I1,q1⟩
theorem aMc (ha:PT X a tA) (hb:PW X (.BoolOp .Or (b::rest) pos) tB'):PW X (.BoolOp .Or (a::b::rest) pos) (tOr tA tB'):=by
 intro wh pins s σ H Q I h
 refine isTrue_or (fG (ha pins s σ H _ I h) fun c s1 ⟨H1,I1,q1⟩=>?_)
 cases c with
 | true=>exact ⟨H1,I1,q1⟩
 | false=>exact hb wh pins s1 σ H1 Q I1 q1
theorem aLl (ha:PT X a tA):PT X (.UnaryOp .Not a pos) (aNc tA):=by
 intro pins s σ H Q I h
 exact isTrue_not (ha pins s σ H (fun c H1=>Q (!c) H1) I h)
def aMi (ta tb:TE):TE:=fun σ H Q=>ta σ H fun x H1=>∃ c,x = .bl c∧if c=true then tb σ H1 Q else Q (.bl false) H1
theorem aLf {op}{t:TE} (h:PE X a t):PE X (.BoolOp op [a] pos) t:=fun pins s σ H Q I hw=>BoolOp_one (h pins s σ H Q I hw)
theorem aLx (ha:PE X a ta) (hb:PE X (.BoolOp .And (b::rest) pos) tb):PE X (.BoolOp .And (a::b::rest) pos) (aMi ta tb):=by
 intro pins s σ H Q I h
 refine BoolOp_and (fG (ha pins s σ H _ I h) fun v s1 ⟨x,H1,I1,r1,q1⟩=>?_)
 obtain ⟨c,rfl,q1⟩:=q1
 cases r1
 refine wpAny_truthy_bool ?_
 cases c with
 | true=>exact hb pins s1 σ H1 Q I1 q1
 | false=>exact ⟨.bl false,H1,I1,rfl,q1⟩
end
def jS (K:PySem.W.Frag) (H:Hp) (a:Addr) (xs:List V):Prop:=
 Rd H a (.lst xs) ∨
  ∃ (o:Obj) (its:Array Value) (n:Nat),K.lookup a=some o∧o.cls = .type "list"∧o.dict=none∧o.data = .seq its n∧its.size≤sizeLine∧cE xs its.toList
def fY (K:PySem.W.Frag) (H:Hp) (a:Addr) (xs:List V):Prop:=
 Rd H a (.tup xs) ∨
  ∃ (o:Obj) (its:Array Value) (n:Nat),K.lookup a=some o∧o.cls = .type "tuple"∧o.data = .seq its n∧its.size≤sizeLine∧cE xs its.toList
def aNj:Value→Option V
 | .none=>some .non
 | .bool b=>some (.bl b)
 | .int i _=>some (.int i)
 | .str x _=>some (.str x)
 | .bytes b _=>some (.byt b)
 | .float b _=>some (.flt b)
 | .ref a=>some (.ref a)
 | .type n=>some (.ty n)
 | _=>none
theorem cG.abs {x:V}{u:Value} (r:cG x u):aNj u=some x:=by
 cases x with
 | non=>cases r;rfl
 | bl _=>cases r;rfl
 | int _=>obtain ⟨t,rfl⟩:=r;rfl
 | str _=>obtain ⟨t,rfl⟩:=r;rfl
 | byt _=>obtain ⟨t,rfl⟩:=r;rfl
 | flt _=>obtain ⟨t,rfl⟩:=r;rfl
 | ref _=>cases r;rfl
 | ty _=>cases r;rfl
theorem cG.inj {x y:V}{u:Value} (r:cG x u) (q:cG y u):x=y:=Option.some.inj (r.abs.symm.trans q.abs)
theorem cE.inj:∀ {xs ys:List V}{us:List Value},cE xs us→cE ys us→xs=ys
 | _,_,_,.nil,.nil=>rfl
 | _,_,_,.cons r t,.cons r' t'=>by rw [r.inj r',cE.inj t t']
section
variable {X:Cx}{pins:List (Addr×Obj)}{σ:St}{H:Hp}{s:Shared}{a:Addr}{xs ys:List V}
theorem jS.of {K:PySem.W.Frag} (h:H a=some (.lst xs)):jS K H a xs:=.inl (.inl h)
theorem fY.of {K:PySem.W.Frag} (h:H a=some (.tup xs)):fY K H a xs:=.inl (.inl h)
theorem bG.list (I:bG X pins σ H s) (h:jS X.K H a xs):∃ its:List Value,cE xs its∧PlainL s.heap a its.toArray∧xs.length≤sizeLine:=by
 rcases h with h | ⟨o,its,n,hk,hc,hd,hs,hz,r⟩
 ·obtain ⟨z,its,n,r,e⟩:=h.ok I.hok
  exact ⟨its,r,⟨_,n,e,rfl,rfl,rfl⟩,z⟩
 ·refine ⟨its.toList,r,⟨o,n,I.kIn a o hk,hc,hd,by simpa using hs⟩,?_⟩
  have e:=r.length
  simp only [Array.length_toList] at e
  omega
theorem bG.tuple (I:bG X pins σ H s) (h:fY X.K H a xs):∃ its:List Value,cE xs its∧IsTup s.heap a its.toArray∧xs.length≤sizeLine:=by
 rcases h with h | ⟨o,its,n,hk,hc,hs,hz,r⟩
 ·obtain ⟨z,its,r,p⟩:=h.ok I.hok
  exact ⟨its,r,p,z⟩
 ·refine ⟨its.toList,r,⟨o,I.kIn a o hk,hc,n,by simpa using hs⟩,?_⟩
  have e:=r.length
  simp only [Array.length_toList] at e
  omega
theorem bG.list_inj (I:bG X pins σ H s) (h:jS X.K H a xs) (h':jS X.K H a ys):xs=ys:=by
 obtain ⟨its,r,⟨o,n,e,_,_,d⟩,_⟩:=I.list h
 obtain ⟨its',r',⟨o',n',e',_,_,d'⟩,_⟩:=I.list h'
 rw [e] at e';cases e'
 rw [d] at d'
 injection d' with d1 _
 have:its=its':=by simpa using congrArg Array.toList d1
 subst this
 exact r.inj r'
theorem bG.tuple_inj (I:bG X pins σ H s) (h:fY X.K H a xs) (h':fY X.K H a ys):xs=ys:=by
 obtain ⟨its,r,⟨o,e,_,n,d⟩,_⟩:=I.tuple h
 obtain ⟨its',r',⟨o',e',_,n',d'⟩,_⟩:=I.tuple h'
 rw [e] at e';cases e'
 rw [d] at d'
 injection d' with d1 _
 have:its=its':=by simpa using congrArg Array.toList d1
 subst this
 exact r.inj r'
end
abbrev Cx.wish (X:Cx) (E:Value→Shared→Prop):Cx:={ X with xe:=E }
abbrev Cx.nox (X:Cx):Cx:=X.wish fun _ _=>False
theorem Cx.Ok.wish {X:Cx} (ok:X.Ok) (E:Value→Shared→Prop):(X.wish E).Ok:=
 ⟨ok.mod,ok.kind,ok.glob,ok.blt,ok.above,ok.inj,ok.has,ok.cab,ok.hd,ok.frames,ok.stk,ok.exf,ok.bs,ok.bsz,ok.noex,ok.exfs,ok.funs,ok.frf⟩
theorem Cx.Ok.unwish {X:Cx}{E:Value→Shared→Prop} (ok:(X.wish E).Ok):X.Ok:=
 ⟨ok.mod,ok.kind,ok.glob,ok.blt,ok.above,ok.inj,ok.has,ok.cab,ok.hd,ok.frames,ok.stk,ok.exf,ok.bs,ok.bsz,ok.noex,ok.exfs,ok.funs,ok.frf⟩
section
variable {X:Cx}{pins:List (Addr×Obj)}{σ:St}{H:Hp}{s:Shared}{E:Value→Shared→Prop}
theorem bG.wish (I:bG X pins σ H s) (E:Value→Shared→Prop):bG (X.wish E) pins σ H s:=⟨I.ok.wish E,I.os,I.bare,I.base,I.loc,I.cell,I.free,I.freeC,I.pin,I.hok,I.len⟩
theorem bG.unwish (I:bG (X.wish E) pins σ H s):bG X pins σ H s:=⟨I.ok.unwish,I.os,I.bare,I.base,I.loc,I.cell,I.free,I.freeC,I.pin,I.hok,I.len⟩
theorem SP.unwish {D:aGN}{f:Flow}{s':Shared} (h:SP (X.wish E) pins D f s'):SP X pins D f s':=by
 cases f with
 | next=>obtain ⟨σ',H',I,q⟩:=h;exact ⟨σ',H',I.unwish,q⟩
 | brk=>obtain ⟨σ',H',I,q⟩:=h;exact ⟨σ',H',I.unwish,q⟩
 | cont=>obtain ⟨σ',H',I,q⟩:=h;exact ⟨σ',H',I.unwish,q⟩
 | ret u=>obtain ⟨v,σ',H',I,r,q⟩:=h;exact ⟨v,σ',H',I.unwish,r,q⟩
theorem PSs.nox {st:List Stmt}{t:TS} (h:PSs X.nox st t):PSs X st t:=fun pins s σ H D I hw=>
 wpAny_mono (h pins s σ H D (I.wish _) hw) (fun _ _ q=>q.unwish) fun _ _ z=>False.elim z
end
section
variable {X:Cx}{st:Stmt}{rest:List Stmt}{t u:TS}{e:Expr}{te:TE}{pos:Pos}
def aL2:TS:=fun D σ H=>D.nx σ H
def aMT (t u:TS):TS:=fun D σ H=>t { D with nx:=u D } σ H
theorem aJN:PSs X [] aL2:=fun _ _ σ H _ I h=>wpAny_execs_nil ⟨σ,H,I,h⟩
theorem aHQ (h1:PS X st t) (h2:PSs X rest u):PSs X (st::rest) (aMT t u):=by
 intro pins s σ H D I h
 refine wpAny_execs_cons (fG (h1 pins s σ H { D with nx:=u D } I h) fun f s1 q=>?_)
 cases f with
 | next=>
  obtain ⟨σ',H',I',q⟩:=q
  exact h2 pins s1 σ' H' D I' q
 | ret v=>exact q
 | brk=>exact q
 | cont=>exact q
theorem aJn (h1:PS X st t):PSs X [st] t:=by
 intro pins s σ H D I h
 refine wpAny_execs_cons (fG (h1 pins s σ H D I h) fun f s1 q=>?_)
 cases f with
 | next=>exact wpAny_execs_nil q
 | ret v=>exact q
 | brk=>exact q
 | cont=>exact q
theorem bG.quiet {pins:List (Addr×Obj)}{σ:St}{H:Hp}{s:Shared} (I:bG X pins σ H s):interactive X.env=false:=by simp [interactive,I.ok.kind]
def aG1 (te:TE):TS:=fun D σ H=>te σ H fun _ H1=>D.nx σ H1
theorem iW (he:PE X e te) (hs:swapsWith e none pos.line X.env=pure false:=by rfl):PS X (.Expr e pos) (aG1 te):=by
 intro pins s σ H D I h
 exact wpAny_Expr_any (fG (he pins s σ H _ I h) fun v s1 ⟨x,H1,I1,r1,q1⟩=>⟨σ,H1,I1,q1⟩) I.quiet hs
def aNe (te:TE):TS:=fun D σ H=>te σ H D.rt
theorem aKJ (he:PE X e te):PS X (.Return (some e) pos) (aNe te):=by
 intro pins s σ H D I h
 exact wpAny_Return_some (fG (he pins s σ H _ I h) fun v s1 ⟨x,H1,I1,r1,q1⟩=>⟨x,σ,H1,I1,r1,q1⟩)
def aNm (c:TT) (t u:TS):TS:=fun D σ H=>c σ H fun b H1=>if b=true then t D σ H1 else u D σ H1
theorem aL7 {c:Expr}{a b:List Stmt}{tc:TT} (hc:PT X c tc) (ha:PSs X a t) (hb:PSs X b u):PS X (.If c a b pos) (aNm tc t u):=by
 intro pins s σ H D I h
 refine wpAny_If (fG (hc pins s σ H _ I h) fun d s1 ⟨H1,I1,q1⟩=>?_)
 cases d with
 | true=>exact ha pins s1 σ H1 D I1 q1
 | false=>exact hb pins s1 σ H1 D I1 q1
end
abbrev TG:=V→St→Hp→(St→Hp→Prop)→Prop
abbrev TGs:=List V→St→Hp→(St→Hp→Prop)→Prop
def PG (X:Cx) (target:Expr) (t:TG):Prop:=
 ∀ (pins:List (Addr×Obj)) (s:Shared) (σ:St) (H:Hp) (v:V) (u:Value) (Q:St→Hp→Prop),bG X pins σ H s→cG v u→t v σ H Q →
  wpAny (model X.prog X.w) X.A (assign target X.env u) (fun _ s'=>∃ σ' H',bG X pins σ' H' s'∧Q σ' H') X.xe s
def PGs (X:Cx) (ts:List Expr) (t:TGs):Prop:=
 ∀ (pins:List (Addr×Obj)) (s:Shared) (σ:St) (H:Hp) (vs:List V) (us:List Value) (Q:St→Hp→Prop),bG X pins σ H s→cE vs us→t vs σ H Q →
  wpAny (model X.prog X.w) X.A (assignInOrder ((assignEach ts X.env).map (·.2)) us) (fun _ s'=>∃ σ' H',bG X pins σ' H' s'∧Q σ' H') X.xe s
section
variable {X:Cx}{pos:Pos}
def pS (i:Nat):TG:=fun v σ H Q=>Q (σ.set i (some v)) H
theorem aK {i:Nat}{x:Str} (hN:X.N.Nodup) (hi:X.N[i]? = some x) (hx:Loc X.env.scope x) (hf:X.fn x=true∨X.env.scope.names.lookup x=some .local:=by first | exact .inl rfl | exact .inr rfl | assumption):PG X (.Name x pos) (pS i):=by
 intro pins s σ H v u Q I r h
 exact wpAny_assign_Name (aCM I hN hi hx r (fun s' I'=>⟨_,H,I',h⟩) hf)
def aMw:TGs:=fun vs σ H Q=>vs=[]∧Q σ H
def aIf (t:TG) (u:TGs):TGs:=fun vs σ H Q=>∃ v r,vs=v::r∧t v σ H fun σ' H'=>u r σ' H' Q
theorem k6:PGs X [] aMw:=by
 intro pins s σ H vs us Q I r h
 obtain ⟨e,h⟩:=h
 subst e
 cases r
 exact assignInOrder_nil ⟨σ,H,I,h⟩
theorem cU {e:Expr}{es:List Expr}{t:TG}{u:TGs} (h1:PG X e t) (h2:PGs X es u)
  (hs:(assignEach (e::es) X.env).map (·.2)=assign e X.env::(assignEach es X.env).map (·.2):=by rfl):PGs X (e::es) (aIf t u):=by
 intro pins s σ H vs us Q I r h
 obtain ⟨v,vr,e1,h⟩:=h
 subst e1
 cases r with
 | cons r rr=>
  rw [hs]
  refine assignInOrder_cons (fG (h1 pins s σ H _ _ _ I r h) fun _ s1 ⟨σ1,H1,I1,q1⟩=>?_)
  exact h2 pins s1 σ1 H1 _ _ Q I1 rr q1
def aLU (K:PySem.W.Frag) (n:Nat) (t:TGs):TG:=fun v σ H Q=>∃ a xs,v = .ref a∧fY K H a xs∧xs.length=n∧t xs σ H Q
theorem oD {es:List Expr}{k:Nat}{t:TGs}{n:Nat} (hc:X.calm=true) (h:PGs X es t)
  (hn:(assignEach es X.env).length=n:=by rfl) (hst:(assignEach es X.env).findIdx? (·.1)=none:=by rfl):PG X (.Tuple es k pos) (aLU X.K n t):=by
 intro pins s σ H v u Q I r hw
 obtain ⟨a,xs,e1,hq,hl,hw⟩:=hw
 subst e1
 cases r
 obtain ⟨its,rv,ht,hz⟩:=I.tuple hq
 refine assign_Tuple_tuple (I.ok.hd hc) ht (by simp [hn,← hl,rv.length]) hst fun h' hx=>?_
 have I1:bG X pins σ H { s with heap:=h' }:=I.kept (t':=s.toks) fun b o e=>hx b o (Nat.ne_of_lt (Heap.lt_size e)) e
 exact h pins _ σ H xs _ Q I1 (by simpa using rv) hw
def aAq (te:TE) (g:TG):TS:=fun D σ H=>te σ H fun x H1=>g x σ H1 D.nx
theorem bE {tg e:Expr}{te:TE}{g:TG} (he:PE X e te) (hg:PG X tg g) (hs:swapsWithSole [tg] e pos.line X.env=pure false:=by rfl) (hw:swappedStores [tg] e X.env=pure none:=by rfl)
  (h1:(assignEach [tg] X.env).map (·.2)=[assign tg X.env]:=by rfl):PS X (.Assign [tg] e pos) (aAq te g):=by
 intro pins s σ H D I h
 refine wpAny_Assign_stores (fG (he pins s σ H _ I h) fun v s1 ⟨x,H1,I1,r1,q1⟩=>?_) hs hw
 rw [h1]
 exact fG (hg pins s1 σ H1 x v _ I1 r1 q1) fun _ s2 q=>q
theorem f9 {i:Nat}{x:Str}{e:Expr}{te:TE}{pos':Pos} (hN:X.N.Nodup) (hi:X.N[i]? = some x) (hx:Loc X.env.scope x) (he:PE X e te) (hs:swapsWith e (some (.Name x pos')) pos.line X.env=pure false:=by rfl) (hf:X.fn x=true∨X.env.scope.names.lookup x=some .local:=by first | exact .inl rfl | exact .inr rfl | assumption) :
  PS X (.Assign [.Name x pos'] e pos) (aAq te (pS i)):=by
 intro pins s σ H D I h
 refine wpAny_Assign_Name (fG (he pins s σ H _ I h) fun v s1 ⟨y,H1,I1,r1,q1⟩=>?_) hs
 exact aCM I1 hN hi hx r1 (fun s2 I2=>⟨_,H1,I2,q1⟩) hf
end
section
variable {X:Cx}{pos:Pos}
def aKB (c:TT) (tb:TS):TS:=fun D σ H=>∃ W:Nat→St→Hp→Prop,(∃ m,W m σ H)∧∀ m σ H,W m σ H →
 c σ H fun b H1=>if b=true then ∃ N:St→Hp→Prop,(∀ σ' H',N σ' H'→∃ m',m'<m∧W m' σ' H')∧tb { D with nx:=N,ct:=N,bk:=D.nx } σ H1 else D.nx σ H1
theorem aH2 {c:Expr}{body:List Stmt}{tc:TT}{tb:TS} (hp:PassesOwn (model X.prog X.w) X.A X.env X.xe) (hc:PT X c tc) (hb:PSs X body tb):PS X (.While c body [] pos) (aKB tc tb):=by
 intro pins s σ H D I h
 obtain ⟨W,⟨m0,w0⟩,turn⟩:=h
 refine wpAny_While (codeAny_whileLoop (fun n s'=>∃ σ' H',bG X pins σ' H' s'∧W n σ' H') ?_ m0 ⟨σ,H,I,w0⟩)
 rintro n s1 ⟨σ1,H1,I1,w1⟩
 refine wpAny_passesOwn hp (fG (hc pins s1 σ1 H1 _ I1 (turn n σ1 H1 w1)) fun b s2 ⟨H2,I2,q2⟩=>?_)
 cases b with
 | true=>
  obtain ⟨N,hN,q2⟩:=q2
  rw [if_pos rfl]
  refine wpAny_passesOwn hp (fG (hb pins s2 σ1 H2 _ I2 q2) fun f s3 q3=>?_)
  cases f with
  | next=>
   obtain ⟨σ3,H3,I3,n3⟩:=q3
   obtain ⟨m',hm,w3⟩:=hN σ3 H3 n3
   exact ⟨m',hm,σ3,H3,I3,w3⟩
  | cont=>
   obtain ⟨σ3,H3,I3,n3⟩:=q3
   obtain ⟨m',hm,w3⟩:=hN σ3 H3 n3
   exact ⟨m',hm,σ3,H3,I3,w3⟩
  | brk=>exact q3
  | ret v=>exact q3
 | false=>
  rw [if_neg Bool.false_ne_true]
  exact wpAny_execs_nil ⟨σ1,H2,I2,q2⟩
end
structure It where
 go:Nat→Hp→Prop
 yld:Nat→Hp→V→Hp→Prop
 stop:Nat→Hp→Prop
def pW (X:Cx) (pins:List (Addr×Obj)) (H:Hp) (b:Addr):Prop:=
 H b=none∧b≠X.env.locals∧b∉X.fs∧(b∈X.ex∨X.s₀.heap.objs.size≤b)∧(∀ x c,X.env.cells.lookup x=some c→c≠b)∧∀ p∈X.pn++pins,p.1≠b
theorem bG.fpOk {X:Cx}{pins:List (Addr×Obj)}{σ:St}{H H':Hp}{s:Shared}{b:Addr} (I:bG X pins σ H s) (hb:s.heap.objs.size≤b) (hn:H' b=none):pW X pins H' b:=by
 refine ⟨hn,Nat.ne_of_gt (Nat.lt_of_lt_of_le I.lt hb),I.nofs hb,.inr (Nat.le_trans I.sz hb),fun x c e z=>?_,fun p hp z=>?_⟩
 ·obtain ⟨v,q⟩:=I.cell x c e
  exact absurd (Nat.lt_of_lt_of_le q.lt (by rw [z];exact hb)) (Nat.lt_irrefl _)
 ·exact absurd (Nat.lt_of_lt_of_le (Heap.lt_size (I.pin p hp).1) (by rw [z];exact hb)) (Nat.lt_irrefl _)
structure aCe (P:Program) (w:World) (K:PySem.W.Frag) (tg:Expr) (J:It) (fp:List Addr) (it:Addr) (tn:Nat→Heap→Prop):Prop where
 mem:it∈fp
 obj:∀ i h,tn i h→∀ b∈fp,∃ o,h.get? b=some o∧∀ v,o.data≠.cell v
 keep:∀ i h h',tn i h→(∀ b∈fp,∀ o,h.get? b=some o→h'.get? b=some o)→tn i h'
 item:∀ (X:Cx),X.prog=P→X.w=w→X.K=K→X.calm=true→∀ (i:Nat) (pins:List (Addr×Obj)) (s:Shared) (σ:St) (H:Hp) (E:Value→Shared→Prop),bG X pins σ H s→(∀ b∈fp,pW X pins H b)→tn i s.heap→J.go i H →
  wpAny (model P w) X.A (pyNext (.ref it)) (fun r s1=>∃ u,r=some u ∧
   wpAny (model P w) X.A (letOwnedTupleGo tg (.ref it) u) (fun _ s2=>∃ x H',bG X pins σ H' s2∧cG x u∧J.yld i H x H'∧tn (i+1) s2.heap∧∀ b∈fp,H' b=none) E s1) E s
 done:∀ (X:Cx),X.prog=P→X.w=w→X.K=K→X.calm=true→∀ (i:Nat) (pins:List (Addr×Obj)) (s:Shared) (σ:St) (H:Hp) (E:Value→Shared→Prop),bG X pins σ H s→(∀ b∈fp,pW X pins H b)→tn i s.heap→J.stop i H →
  wpAny (model P w) X.A (pyNext (.ref it)) (fun r s1=>r=none∧bG X pins σ H s1) E s
 self:∀ (A:Around) (i:Nat) (s:Shared) (Q:Value→Shared→Prop) (E:Value→Shared→Prop),tn i s.heap→Q (.ref it) s→wpAny (model P w) A (pyIter (.ref it)) Q E s
abbrev TI:=St→Hp→(It→Hp→Prop)→Prop
def PIE (X:Cx) (pins:List (Addr×Obj)) (σ:St) (tg:Expr) (R:It→Hp→Prop) (itv:Value) (s2:Shared):Prop:=
 ∃ (it:Addr) (fp:List Addr) (tn:Nat→Heap→Prop) (J:It) (H':Hp),itv = .ref it∧bG X pins σ H' s2∧aCe X.prog X.w X.K tg J fp it tn∧tn 0 s2.heap∧(∀ b∈fp,pW X pins H' b)∧R J H'
def PI (X:Cx) (tg iter:Expr) (wi:TI):Prop:=
 ∀ (pins:List (Addr×Obj)) (s:Shared) (σ:St) (H:Hp) (R:It→Hp→Prop),bG X pins σ H s→wi σ H R →
  wpAny (model X.prog X.w) X.A (eval iter X.env) (fun v s1=>wpAny (model X.prog X.w) X.A (pyIter v) (PIE X pins σ tg R) X.xe s1) X.xe s
theorem aDo {M:Model}{A:Around}{E:Value→Shared→Prop}{s:Shared}{tg:Expr}{it:Addr}{u:Value}{o:Obj}{n:String}{vs:Array Value}{Q:Unit→Shared→Prop} (ho:s.heap.get? it=some o) (hc:o.cls = .type n) (hd:o.data = .fields vs)
  (hn:["enumerate","zip","dict_itemiterator","dict_reverseitemiterator","odict_iterator","itertools.zip_longest","itertools.pairwise"].contains n=false) (hQ:Q () s):wpAny M A (letOwnedTupleGo tg (.ref it) u) Q E s:=by
 unfold letOwnedTupleGo
 cases tg <;> first
  | exact wpAny_pure hQ
  | (cases u <;> first
    | exact wpAny_pure hQ
    | (refine wpAny_bind (wpAny_load ho ?_);rw [hc,hd];show wpAny M A (if (["enumerate","zip","dict_itemiterator","dict_reverseitemiterator","odict_iterator","itertools.zip_longest","itertools.pairwise"].contains n && vs[0]? == some (rawInt _))=true then _ else _) Q E s;rw [if_neg (by intro h;rw [hn,Bool.false_and] at h;cases h)];exact wpAny_pure hQ))
def Itl (K:PySem.W.Frag) (a:Addr):It:=
 ⟨fun i H=>∃ xs x,jS K H a xs∧xs[i]? = some x,fun i H x H'=>H'=H∧∀ xs,jS K H a xs→xs[i]? = some x,fun i H=>∃ xs,jS K H a xs∧xs.length≤i⟩
def Itt (K:PySem.W.Frag) (a:Addr):It:=
 ⟨fun i H=>∃ xs x,fY K H a xs∧xs[i]? = some x,fun i H x H'=>H'=H∧∀ xs,fY K H a xs→xs[i]? = some x,fun i H=>∃ xs,fY K H a xs∧xs.length≤i⟩
def Itr (lo:Int) (n:Nat):It:=⟨fun i _=>i<n,fun i H x H'=>H'=H∧x = .int (lo+i),fun i _=>n≤i⟩
theorem aAN {P:Program}{w:World}{K:PySem.W.Frag}{tg:Expr} (a it:Addr):aCe P w K tg (Itl K a) [it] it (fun i h=>h.IsListIter it a i) where
 mem:=by simp
 obj:=fun i h st b hb=>by
  have e:b=it:=by simpa using hb
  subst e
  obtain ⟨o,e,c,d⟩:=st
  exact ⟨o,e,fun v z=>by rw [d] at z;cases z⟩
 keep:=fun i h h' st k=>st.at fun o e=>k it (by simp) o e
 item:=by
  intro X hP hw hK hc i pins s σ H E I hf st hg
  subst hP hw hK
  obtain ⟨xs,x,hq,hx⟩:=hg
  obtain ⟨its,rv,p,hz⟩:=I.list hq
  obtain ⟨u,hu,ru⟩:=rv.get hx
  obtain ⟨f0,f1,f2,f3,f4,f5⟩:=hf it (by simp)
  refine wpAny_pyNext_list_item st p.isList (x:=u) (by simpa using hu) fun h' st' sb=>?_
  have I1:bG X pins σ H { s with heap:=h' }:=I.turned (t':=s.toks) (fun b o hb e=>(sb.2 b hb).trans e) f0 f1 f3 f4 f5
  obtain ⟨o,e,c,d⟩:=id st'
  exact ⟨u,rfl,aDo (s:={ s with heap:=h' }) e c d (by decide) ⟨x,H,I1,ru,⟨rfl,fun ys hy=>by rw [I.list_inj hy hq];exact hx⟩,st',fun b hb=>(hf b hb).1⟩⟩
 done:=by
  intro X hP hw hK hc i pins s σ H E I hf st hg
  subst hP hw hK
  obtain ⟨xs,hq,hx⟩:=hg
  obtain ⟨its,rv,p,hz⟩:=I.list hq
  obtain ⟨f0,f1,f2,f3,f4,f5⟩:=hf it (by simp)
  have hl:=rv.length
  exact wpAny_pyNext_list_end (I.ok.hd hc) st p.isList (by simp;omega) fun h' eb=>⟨rfl,I.turned (t':=s.toks) (fun b o hb e=>eb b o hb e) f0 f1 f3 f4 f5⟩
 self:=fun _ _ _ _ _ st h=>wpAny_pyIter_listiter st h
theorem zQ {P:Program}{w:World}{K:PySem.W.Frag}{tg:Expr} (a it:Addr):aCe P w K tg (Itt K a) [it] it (fun i h=>h.IsTupleIter it a i) where
 mem:=by simp
 obj:=fun i h st b hb=>by
  have e:b=it:=by simpa using hb
  subst e
  obtain ⟨o,e,c,d⟩:=st
  exact ⟨o,e,fun v z=>by rw [d] at z;cases z⟩
 keep:=fun i h h' st k=>st.at fun o e=>k it (by simp) o e
 item:=by
  intro X hP hw hK hc i pins s σ H E I hf st hg
  subst hP hw hK
  obtain ⟨xs,x,hq,hx⟩:=hg
  obtain ⟨its,rv,p,hz⟩:=I.tuple hq
  obtain ⟨u,hu,ru⟩:=rv.get hx
  obtain ⟨f0,f1,f2,f3,f4,f5⟩:=hf it (by simp)
  refine wpAny_pyNext_tuple_item st (show s.heap.IsTuple a its.toArray from p) (x:=u) (by simpa using hu) fun h' st' sb=>?_
  have I1:bG X pins σ H { s with heap:=h' }:=I.turned (t':=s.toks) (fun b o hb e=>(sb.2 b hb).trans e) f0 f1 f3 f4 f5
  obtain ⟨o,e,c,d⟩:=id st'
  exact ⟨u,rfl,aDo (s:={ s with heap:=h' }) e c d (by decide) ⟨x,H,I1,ru,⟨rfl,fun ys hy=>by rw [I.tuple_inj hy hq];exact hx⟩,st',fun b hb=>(hf b hb).1⟩⟩
 done:=by
  intro X hP hw hK hc i pins s σ H E I hf st hg
  subst hP hw hK
  obtain ⟨xs,hq,hx⟩:=hg
  obtain ⟨its,rv,p,hz⟩:=I.tuple hq
  obtain ⟨f0,f1,f2,f3,f4,f5⟩:=hf it (by simp)
  have hl:=rv.length
  exact wpAny_pyNext_tuple_end (I.ok.hd hc) st (show s.heap.IsTuple a its.toArray from p) (by simp;omega) fun h' eb=>⟨rfl,I.turned (t':=s.toks) (fun b o hb e=>eb b o hb e) f0 f1 f3 f4 f5⟩
 self:=fun _ _ _ _ _ st h=>wpAny_pyIter_tupleiter st h
theorem aEq {P:Program}{w:World}{K:PySem.W.Frag}{tg:Expr} (it:Addr) (lo:Int) (n:Nat):aCe P w K tg (Itr lo n) [it] it (fun i h=>IsRangeIter h it (lo+(i:Nat) * 1) ((n:Int)-(i:Nat)) 1) where
 mem:=by simp
 obj:=fun i h st b hb=>by
  have e:b=it:=by simpa using hb
  subst e
  exact ⟨_,st,fun v z=>by
   have z':Data.fields _=Data.cell v:=z
   cases z'⟩
 keep:=fun i h h' st k=>k it (by simp) _ st
 item:=by
  intro X hP hw hK hc i pins s σ H E I hf st hg
  subst hP hw hK
  obtain ⟨f0,f1,f2,f3,f4,f5⟩:=hf it (by simp)
  have W:=Walks.range (prog:=X.prog) (w:=X.w) (I.ok.hd hc) it lo 1 n
  refine W.item i s _ _ hg st fun v h' tk hv st' kk=>?_
  obtain ⟨t,rfl⟩:=hv
  have I1:bG X pins σ H { s with heap:=h',toks:=tk }:=I.turned (fun b o hb e=>kk b o (by simpa using hb) e) f0 f1 f3 f4 f5
  refine ⟨_,rfl,aDo (s:={ s with heap:=h',toks:=tk }) (n:="range_iterator") st' rfl rfl (by decide) ⟨.int (lo+i),H,I1,⟨t,?_⟩,⟨rfl,rfl⟩,st',fun b hb=>(hf b hb).1⟩⟩
  rw [Int.mul_one]
 done:=by
  intro X hP hw hK hc i pins s σ H E I hf st hg
  subst hP hw hK
  obtain ⟨f0,f1,f2,f3,f4,f5⟩:=hf it (by simp)
  exact wpAny_pyNext_range_end (I.ok.hd hc) st (by have:n≤i:=hg;omega) fun h' eb=>⟨rfl,I.turned (t':=s.toks) (fun b o hb e=>eb b o hb e) f0 f1 f3 f4 f5⟩
 self:=fun _ _ _ _ _ st h=>wpAny_pyIter_rangeiter st h
section
variable {X:Cx}{tg:Expr}
def aMq (K:PySem.W.Frag) (tl:TE):TI:=fun σ H R=>tl σ H fun x H1=>∃ a,x = .ref a∧(∃ xs,jS K H1 a xs)∧R (Itl K a) H1
def aMR (K:PySem.W.Frag) (tl:TE):TI:=fun σ H R=>tl σ H fun x H1=>∃ a,x = .ref a∧(∃ xs,fY K H1 a xs)∧R (Itt K a) H1
theorem aJ4 {l:Expr}{tl:TE} (hl:PE X l tl):PI X tg l (aMq X.K tl):=by
 intro pins s σ H R I h
 refine fG (hl pins s σ H _ I h) fun v s1 ⟨x,H1,I1,r1,q1⟩=>?_
 obtain ⟨a,e,⟨xs,hq⟩,q⟩:=q1
 subst e
 cases r1
 obtain ⟨its,rv,p,hz⟩:=I1.list hq
 refine wpAny_pyIter_list p.isList ?_
 refine ⟨s1.heap.objs.size,[s1.heap.objs.size],_,_,H1,rfl,I1.kept (t':=s1.toks) fun b o e=>Heap.get?_push_of_some _ e,aAN a _,⟨_,Heap.get?_push_size _ rfl,rfl,rfl⟩,fun b hb=>?_,q⟩
 have e:b=s1.heap.objs.size:=by simpa using hb
 subst e
 exact I1.fpOk (Nat.le_refl _) (I1.hok.fresh (Nat.le_refl _))
theorem aKx {l:Expr}{tl:TE} (hl:PE X l tl):PI X tg l (aMR X.K tl):=by
 intro pins s σ H R I h
 refine fG (hl pins s σ H _ I h) fun v s1 ⟨x,H1,I1,r1,q1⟩=>?_
 obtain ⟨a,e,⟨xs,hq⟩,q⟩:=q1
 subst e
 cases r1
 obtain ⟨its,rv,p,hz⟩:=I1.tuple hq
 refine wpAny_pyIter_tuple (show s1.heap.IsTuple a its.toArray from p) ?_
 refine ⟨s1.heap.objs.size,[s1.heap.objs.size],_,_,H1,rfl,I1.kept (t':=s1.toks) fun b o e=>Heap.get?_push_of_some _ e,zQ a _,⟨_,Heap.get?_push_size _ rfl,rfl,rfl⟩,fun b hb=>?_,q⟩
 have e:b=s1.heap.objs.size:=by simpa using hb
 subst e
 exact I1.fpOk (Nat.le_refl _) (I1.hok.fresh (Nat.le_refl _))
theorem aDS {pins:List (Addr×Obj)}{σ:St}{H:Hp}{s:Shared}{R:It→Hp→Prop}{E:Value→Shared→Prop}{lo hi:Int}{t u v:Tok}{tk:Nat} (I:bG X pins σ H s) (h1 : -(2 ^ 62)≤lo) (h2:lo<2 ^ 62) (h3 : -(2 ^ 62)≤hi) (h4:hi<2 ^ 62)
  (q:R (Itr lo (hi-lo).toNat) H):wpAny (model X.prog X.w) X.A (pyIter (.ref s.heap.objs.size)) (PIE X pins σ tg R) E { s with heap:=s.heap.push { cls:=.type "range",data:=.fields #[.int lo t,.int hi u,.int 1 v] },toks:=tk }:=by
 refine wpAny_pyIter_range (IsRange.new ..) (small_one h1 h2 h3 h4) ?_
 have I1:bG X pins σ H { s with heap:=s.heap.push { cls:=.type "range",data:=.fields #[.int lo t,.int hi u,.int 1 v] },toks:=tk }:=I.kept fun b o e=>Heap.get?_push_of_some _ e
 refine ⟨(s.heap.push { cls:=.type "range",data:=.fields #[.int lo t,.int hi u,.int 1 v] }).objs.size,[(s.heap.push { cls:=.type "range",data:=.fields #[.int lo t,.int hi u,.int 1 v] }).objs.size],_,_,H,rfl,
  I1.kept (t':=tk) fun b o e=>Heap.get?_push_of_some _ e,aEq _ lo (hi-lo).toNat,?_,fun b hb=>?_,q⟩
 ·have e1:lo+((0:Nat):Int) * 1=lo:=by simp
  have e2:(((hi-lo).toNat:Nat):Int)-((0:Nat):Int)=Builtin.Range.rangeSize lo hi 1:=by rw [rangeSize_one];split <;> omega
  show IsRangeIter _ _ (lo+((0:Nat):Int) * 1) ((((hi-lo).toNat:Nat):Int)-((0:Nat):Int)) 1
  rw [e1,e2]
  exact Heap.get?_push_size _ rfl
 ·have e:b=(s.heap.push { cls:=.type "range",data:=.fields #[.int lo t,.int hi u,.int 1 v] }).objs.size:=by simpa using hb
  subst e
  exact I1.fpOk (Nat.le_refl _) (I1.hok.fresh (Nat.le_refl _))
def aMo (ta:TA):TI:=fun σ H R=>ta σ H fun vs H1=>∃ j:Int,vs=[.int j] ∧ -(2 ^ 62)≤j∧j<2 ^ 62∧R (Itr 0 j.toNat) H1
def aKg (ta:TA):TI:=fun σ H R=>ta σ H fun vs H1=>∃ i j:Int,vs=[.int i,.int j]∧(-(2 ^ 62)≤i∧i<2 ^ 62 ∧ -(2 ^ 62)≤j∧j<2 ^ 62)∧R (Itr i (j-i).toNat) H1
theorem aF2 {a:Expr}{ta:TA}{p pos:Pos} (hg:Gl X "range") (hm:X.mg "range"=none) (ha:PA X [a] ta) (hs:starEach [a] X.env=[(false,eval a X.env)]:=by rfl):PI X tg (.Call (.Name "range" p) [a] [] pos) (aMo ta):=by
 intro pins s σ H R I h
 refine Call_ (oC I hg hm boot_range (PyProof.Rows.callWith_type1 (fG (ha pos pins s σ H _ I h) fun us s1 ⟨vs,H1,I1,r1,q1⟩=>?_) hs rfl))
 obtain ⟨j,e,q1,q2,q⟩:=q1
 subst e
 cases r1 with
 | cons r rr=>
  cases rr
  obtain ⟨t,rfl⟩:=r
  exact call_range_1 (aDS I1 (by omega) (by omega) q1 q2 (by simpa using q))
theorem aGi {a b:Expr}{ta:TA}{p pos:Pos} (hg:Gl X "range") (hm:X.mg "range"=none) (ha:PA X [a,b] ta) (hs:starEach [a,b] X.env=[(false,eval a X.env),(false,eval b X.env)]:=by rfl) (hs2:starEach [b] X.env=[(false,eval b X.env)]:=by rfl) :
  PI X tg (.Call (.Name "range" p) [a,b] [] pos) (aKg ta):=by
 intro pins s σ H R I h
 refine Call_ (oC I hg hm boot_range (PyProof.Rows.callWith_type1 (fG (ha pos pins s σ H _ I h) fun us s1 ⟨vs,H1,I1,r1,q1⟩=>?_) (by rw [hs,hs2]) (by rw [hs2];rfl)))
 obtain ⟨i,j,e,⟨q1,q2,q3,q4⟩,q⟩:=q1
 subst e
 cases r1 with
 | cons r rr=>
  cases rr with
  | cons r' rr=>
   cases rr
   obtain ⟨t,rfl⟩:=r
   obtain ⟨t',rfl⟩:=r'
   exact call_range_2 (aDS I1 q1 q2 q3 q4 q)
def aMV (wi:TI) (g:TG) (tb:TS):TS:=fun D σ H=>wi σ H fun J H1=>∃ W:Nat→Nat→St→Hp→Prop,(∃ m,W 0 m σ H1)∧∀ i m σ H,W i m σ H →
 (J.stop i H∧D.nx σ H)∨(J.go i H∧∃ N:St→Hp→Prop,(∀ σ' H',N σ' H'→∃ m',m'<m∧W (i+1) m' σ' H')∧∀ x H',J.yld i H x H'→g x σ H' fun σ2 H2=>tb { D with nx:=N,ct:=N,bk:=D.nx } σ2 H2)
def yS (fp:List Addr) (h:Heap):List (Addr×Obj):=fp.filterMap fun b=>(h.get? b).map fun o=>(b,o)
theorem o9 {fp:List Addr}{h:Heap}{b:Addr}{o:Obj} (hb:b∈fp) (e:h.get? b=some o):(b,o)∈yS fp h:=List.mem_filterMap.mpr ⟨b,hb,by rw [e];rfl⟩
theorem aGc {fp:List Addr}{h:Heap}{p:Addr×Obj} (hp:p∈yS fp h):p.1∈fp∧h.get? p.1=some p.2:=by
 obtain ⟨b,hb,e⟩:=List.mem_filterMap.mp hp
 cases q:h.get? b with
 | none=>rw [q] at e;cases e
 | some o=>
  rw [q] at e
  have e':(b,o)=p:=Option.some.inj e
  subst e'
  exact ⟨hb,q⟩
theorem bG.pinned {pins:List (Addr×Obj)}{σ:St}{H:Hp}{s:Shared}{fp:List Addr} (I:bG X pins σ H s) (hf:∀ b∈fp,pW X pins H b) (ho:∀ b∈fp,∃ o,s.heap.get? b=some o∧∀ v,o.data≠.cell v):bG X (pins++yS fp s.heap) σ H s:=
 I.pins_of fun p hp=>(List.mem_append.mp hp).elim (fun z=>I.pin p (List.mem_append_right _ z)) fun z=>by
  obtain ⟨hb,e⟩:=aGc z
  obtain ⟨f0,f1,f2,_⟩:=hf p.1 hb
  obtain ⟨o,e',d⟩:=ho p.1 hb
  rw [e] at e';cases e'
  exact ⟨e,f0,f1,f2,d⟩
theorem bG.unpinned {pins pl:List (Addr×Obj)}{σ:St}{H:Hp}{s:Shared} (I:bG X (pins++pl) σ H s):bG X pins σ H s:=I.pins_of fun p hp=>I.pin p (List.mem_append_right _ (List.mem_append_left _ hp))
theorem aLu {iter:Expr}{body:List Stmt}{wi:TI}{g:TG}{tb:TS}{pos:Pos} (hp:PassesOwn (model X.prog X.w) X.A X.env X.xe) (hc:X.calm=true) (hi:PI X tg iter wi) (hg:PG X tg g) (hb:PSs X body tb)
  (hs:∀ x,foldedSetIterable iter X.env x=pure x:=by intro _;rfl):PS X (.For tg iter body [] pos) (aMV wi g tb):=by
 intro pins s σ H D I h
 refine wpAny_For (fG (hi pins s σ H _ I h) fun v s1 h1=>fG h1 fun itv s2 h2=>?_) hs
 obtain ⟨it,fp,tn,J,H2,e,I2,T,st2,f2,W,⟨m0,w0⟩,turn⟩:=h2
 subst e
 have stat:∀ {H':Hp},(∀ b∈fp,H' b=none)→∀ b∈fp,pW X pins H' b:=fun hn b hb=>⟨hn b hb,(f2 b hb).2⟩
 refine codeAny_forLoop_any (fun n s'=>∃ i σ' H',bG X pins σ' H' s'∧tn i s'.heap∧(∀ b∈fp,H' b=none)∧W i n σ' H') ?_ m0 ⟨0,σ,H2,I2,st2,fun b hb=>(f2 b hb).1,w0⟩
 rintro n s3 ⟨i,σ3,H3,I3,st3,fr3,w3⟩
 rcases turn i n σ3 H3 w3 with ⟨stop,qn⟩ | ⟨go,N,hN,step⟩
 ·refine wpAny_passesOwn hp (fG (T.done X rfl rfl rfl hc i pins s3 σ3 H3 X.xe I3 (stat fr3) st3 stop) fun r s4 ⟨hr,I4⟩=>?_)
  subst hr
  exact wpAny_execs_nil ⟨σ3,H3,I4,qn⟩
 ·refine wpAny_passesOwn hp (fG (T.item X rfl rfl rfl hc i pins s3 σ3 H3 X.xe I3 (stat fr3) st3 go) fun r s4 ⟨u,hr,h4⟩=>?_)
  subst hr
  refine wpAny_passesOwn hp (fG h4 fun _ s5 ⟨x,H5,I5,r5,y5,st5,fr5⟩=>?_)
  have I5':=I5.pinned (stat fr5) (T.obj _ _ st5)
  refine wpAny_passesOwn hp (fG (hg _ s5 σ3 H5 x u _ I5' r5 (step x H5 y5)) fun _ s6 ⟨σ6,H6,I6,q6⟩=>?_)
  refine wpAny_passesOwn hp (fG (hb _ s6 σ6 H6 _ I6 q6) fun f s7 q7=>?_)
  have again:∀ {σ7:St}{H7:Hp},bG X (pins++yS fp s5.heap) σ7 H7 s7→N σ7 H7→∃ m,m<n∧∃ i σ' H',bG X pins σ' H' s7∧tn i s7.heap∧(∀ b∈fp,H' b=none)∧W i m σ' H':=fun {σ7 H7} I7 n7=>by
   obtain ⟨m',hm,w7⟩:=hN σ7 H7 n7
   refine ⟨m',hm,i+1,σ7,H7,I7.unpinned,T.keep _ _ _ st5 fun b hb o e=>(I7.pin (b,o) (List.mem_append_right _ (List.mem_append_right _ (o9 hb e)))).1,fun b hb=>?_,w7⟩
   obtain ⟨o,e,d⟩:=T.obj _ _ st5 b hb
   exact (I7.pin (b,o) (List.mem_append_right _ (List.mem_append_right _ (o9 hb e)))).2.1
  cases f with
  | next=>obtain ⟨σ7,H7,I7,n7⟩:=q7;exact again I7 n7
  | cont=>obtain ⟨σ7,H7,I7,n7⟩:=q7;exact again I7 n7
  | brk=>obtain ⟨σ7,H7,I7,q7⟩:=q7;exact ⟨σ7,H7,I7.unpinned,q7⟩
  | ret v=>obtain ⟨x7,σ7,H7,I7,r7,q7⟩:=q7;exact ⟨x7,σ7,H7,I7.unpinned,r7,q7⟩
end
abbrev R2:=V→V→Hp→VK→Prop
def tK (X:Cx) (f:Value→Value→Sem Value) (r:R2):Prop:=
 ∀ (pins:List (Addr×Obj)) (s:Shared) (σ:St) (H:Hp) (x y:V) (v u:Value) (Q:VK),bG X pins σ H s→cG x v→cG y u→r x y H Q →
  wpAny (model X.prog X.w) X.A (f v u) (EP X pins σ Q) X.xe s
def nO (X:Cx) (f:Value) (r:List V→Hp→VK→Prop):Prop:=
 ∀ (pins:List (Addr×Obj)) (s:Shared) (σ:St) (H:Hp) (xs:List V) (us:List Value) (Q:VK),bG X pins σ H s→cE xs us→r xs H Q →
  wpAny (model X.prog X.w) X.A (call f us) (EP X pins σ Q) X.xe s
def aNq (X:Cx) (r:V→Hp→(Bool→Hp→Prop)→Prop):Prop:=
 ∀ (pins:List (Addr×Obj)) (s:Shared) (σ:St) (H:Hp) (x:V) (v:Value) (Q:Bool→Hp→Prop),bG X pins σ H s→cG x v→r x H Q →
  wpAny (model X.prog X.w) X.A (truthy v) (TP X pins σ Q) X.xe s
def tOp (r:R2) (ta tb:TE):TE:=fun σ H Q=>ta σ H fun x H1=>tb σ H1 fun y H2=>r x y H2 Q
def rI (C:Int→Int→Prop) (g:Int→Int→V):R2:=fun x y H Q=>∃ i j,x = .int i∧y = .int j∧C i j∧Q (g i j) H
def rI0 (g:Int→Int→V):R2:=fun x y H Q=>∃ i j,x = .int i∧y = .int j∧Q (g i j) H
section
variable {X:Cx}{a b c:Expr}{ta tb tc:TE}{pos:Pos}
theorem aKv (ha:PE X a ta) (hb:PE X b tb) {pins:List (Addr×Obj)}{s:Shared}{σ:St}{H:Hp}{R:V→V→Hp→Prop} (I:bG X pins σ H s)
  (h:ta σ H fun x H1=>tb σ H1 fun y H2=>R x y H2) {Q:Value→Shared→Prop}{f:Value→Value→Sem Value}
  (hf:∀ v u s2 x y H2,bG X pins σ H2 s2→cG x v→cG y u→R x y H2→wpAny (model X.prog X.w) X.A (f v u) Q X.xe s2) :
  wpAny (model X.prog X.w) X.A (eval a X.env) (fun v s₁=>wpAny (model X.prog X.w) X.A (eval b X.env) (fun u s₂=>wpAny (model X.prog X.w) X.A (f v u) Q X.xe s₂) X.xe s₁) X.xe s:=by
 refine fG (ha pins s σ H _ I h) fun v s1 ⟨x,H1,I1,r1,q1⟩=>?_
 refine fG (hb pins s1 σ H1 _ I1 q1) fun u s2 ⟨y,H2,I2,r2,q2⟩=>?_
 exact hf v u s2 x y H2 I2 r1 r2 q2
theorem aIo {op:Operator}{r:R2} (ho:tK X (binaryOp op) r) (ha:PE X a ta) (hb:PE X b tb):PE X (.BinOp a op b pos) (tOp r ta tb):=by
 intro pins s σ H Q I h
 exact wpAny_BinOp (aKv ha hb I h fun v u s2 x y H2 I2 rx ry q=>ho pins s2 σ H2 x y v u Q I2 rx ry q)
theorem opI {f:Value→Value→Sem Value}{C:Int→Int→Prop}{g:Int→Int→Int}
  (rule:∀ (i j:Int) (t u:Tok) (s:Shared) (Q:Value→Shared→Prop) (E:Value→Shared→Prop),C i j→Q (.int (g i j) s.toks) { s with toks:=s.toks+1 }→wpAny (model X.prog X.w) X.A (f (.int i t) (.int j u)) Q E s) :
  tK X f (rI C fun i j=>.int (g i j)):=by
 intro pins s σ H x y v u Q I rx ry h
 obtain ⟨i,j,rfl,rfl,hc,q⟩:=h
 obtain ⟨t,rfl⟩:=rx
 obtain ⟨t',rfl⟩:=ry
 exact rule i j t t' s _ _ hc ⟨.int (g i j),H,I.tok _,⟨_,rfl⟩,q⟩
theorem aLP {f:Value→Value→Sem Value}{g:Int→Int→Int}
  (rule:∀ (i j:Int) (t u:Tok) (s:Shared) (Q:Value→Shared→Prop) (E:Value→Shared→Prop),Q (.int (g i j) s.toks) { s with toks:=s.toks+1 }→wpAny (model X.prog X.w) X.A (f (.int i t) (.int j u)) Q E s) :
  tK X f (rI0 fun i j=>.int (g i j)):=by
 intro pins s σ H x y v u Q I rx ry h
 obtain ⟨i,j,rfl,rfl,q⟩:=h
 obtain ⟨t,rfl⟩:=rx
 obtain ⟨t',rfl⟩:=ry
 exact rule i j t t' s _ _ ⟨.int (g i j),H,I.tok _,⟨_,rfl⟩,q⟩
theorem aL4 {f:Value→Value→Sem Value}{g:Int→Int→Bool}
  (rule:∀ (i j:Int) (t u:Tok) (s:Shared) (Q:Value→Shared→Prop) (E:Value→Shared→Prop),Q (.bool (g i j)) s→wpAny (model X.prog X.w) X.A (f (.int i t) (.int j u)) Q E s) :
  tK X f (rI0 fun i j=>.bl (g i j)):=by
 intro pins s σ H x y v u Q I rx ry h
 obtain ⟨i,j,rfl,rfl,q⟩:=h
 obtain ⟨t,rfl⟩:=rx
 obtain ⟨t',rfl⟩:=ry
 exact rule i j t t' s _ _ ⟨.bl (g i j),H,I,rfl,q⟩
def aL6 (i j:Int):Prop:=0<j∧j<1073741824
def aGn (i j:Int):Prop:=(-(2 ^ 64)<i∧i<2 ^ 64)∨(-(2 ^ 64)<j∧j<2 ^ 64)
theorem aGn.ok {i j:Int} (h:aGn i j):IntMulOk i j:=by
 rcases h with ⟨h1,h2⟩ | ⟨h1,h2⟩
 ·exact .of_left (intBits_le_64 h1 h2)
 ·exact .of_right (intBits_le_64 h1 h2)
theorem aK0:tK X (binaryOp .Add) (rI0 fun i j=>.int (i+j)):=aLP fun _ _ _ _ _ _ _ q=>add_int q
theorem aKw:tK X (binaryOp .Sub) (rI0 fun i j=>.int (i-j)):=aLP fun _ _ _ _ _ _ _ q=>sub_int q
theorem aKG:tK X (binaryOp .Mult) (rI aGn fun i j=>.int (i * j)):=opI fun _ _ _ _ _ _ _ hc q=>mul_int q hc.ok
theorem aJD:tK X (binaryOp .FloorDiv) (rI aL6 fun i j=>.int (i / j)):=opI fun i j _ _ _ _ _ hc q=>by
 have h1:(0:Int)<j:=hc.1
 have h2:j<1073741824:=hc.2
 exact floordiv_int (by omega) (by rw [Int.fdiv_eq_ediv_of_nonneg i (by omega)];exact q) (.inl (PyProof.noPylong_small (by omega)))
theorem aKM:tK X (binaryOp .Mod) (rI (fun _ j=>0<j) fun i j=>.int (i % j)):=opI fun i j _ _ _ _ _ hc q=>by
 have h1:(0:Int)<j:=hc
 exact mod_int' (by omega) (by rw [Int.fmod_eq_emod_of_nonneg i (by omega)];exact q)
end
section
variable {X:Cx}{a b c:Expr}{ta tb tc:TE}{pos:Pos}
theorem aMt:tK X (compareOp .Lt) (rI0 fun i j=>.bl (decide (i<j))):=aL4 fun _ _ _ _ _ _ _ q=>lt_int q
theorem aMf:tK X (compareOp .LtE) (rI0 fun i j=>.bl (decide (i≤j))):=aL4 fun _ _ _ _ _ _ _ q=>le_int q
theorem tK.or {f:Value→Value→Sem Value}{r r':R2} (h:tK X f r) (h':tK X f r'):tK X f (fun x y H Q=>r x y H Q∨r' x y H Q):=by
 intro pins s σ H x y v u Q I rx ry q
 rcases q with q | q
 ·exact h pins s σ H x y v u Q I rx ry q
 ·exact h' pins s σ H x y v u Q I rx ry q
theorem aIa (b:Expr) {op:CmpOp} (h:op≠.In:=by decide) (h2:op≠.NotIn:=by decide):behindInMarks op b=false:=by
 have e1:(op == CmpOp.In)=false:=by cases op <;> first | rfl | exact absurd rfl h
 have e2:(op == CmpOp.NotIn)=false:=by cases op <;> first | rfl | exact absurd rfl h2
 cases b <;> simp [behindInMarks,e1,e2]
theorem aJO {op:CmpOp}{r:R2} (ho:tK X (compareOp op) r) (ha:PE X a ta) (hb:PE X b tb) (hm:behindInMarks op b=false):PE X (.Compare a [op] [b] pos) (tOp r ta tb):=by
 intro pins s σ H Q I h
 exact wpAny_Compare1 (aKv ha hb I h fun v u s2 x y H2 I2 rx ry q=>ho pins s2 σ H2 x y v u Q I2 rx ry q) hm
def aMA (t:TE):TT:=fun σ H Q=>t σ H fun x H'=>∃ k,x = .bl k∧Q k H'
theorem aJ6 {op:CmpOp}{r:R2} (ho:tK X (compareOp op) r) (ha:PE X a ta) (hb:PE X b tb) (hm:behindInMarks op b=false):PT X (.Compare a [op] [b] pos) (aMA (tOp r ta tb)):=by
 intro pins s σ H Q I h
 refine wpAny_isTrue_Compare1 (fG (ha pins s σ H _ I h) fun v s1 ⟨x,H1,I1,r1,q1⟩=>fG (hb pins s1 σ H1 _ I1 q1) fun u s2 ⟨y,H2,I2,r2,q2⟩=>
  fG (ho pins s2 σ H2 x y v u _ I2 r1 r2 q2) fun c s3 ⟨z,H3,I3,r3,k,e,q3⟩=>?_) hm
 subst e
 cases r3
 exact wpAny_truthy_bool ⟨H3,I3,q3⟩
def aK3 (r r':R2) (ta tb tc:TE):TE:=fun σ H Q=>ta σ H fun x H1=>tb σ H1 fun y H2=>r x y H2 fun z H3=>∃ k,z = .bl k ∧
 (if k=true then tc σ H3 fun w' H4=>r' y w' H4 Q else Q (.bl false) H3)
theorem aHX {op op':CmpOp}{r r':R2} (ho:tK X (compareOp op) r) (ho':tK X (compareOp op') r') (ha:PE X a ta) (hb:PE X b tb) (hc:PE X c tc)
  (hm:lastMarks [op,op'] [b,c]=false:=by with_unfolding_all rfl):PE X (.Compare a [op,op'] [b,c] pos) (aK3 r r' ta tb tc):=by
 intro pins s σ H Q I h
 refine Compare_chain (fG (ha pins s σ H _ I h) fun v s1 ⟨x,H1,I1,r1,q1⟩=>chain_link (fG (hb pins s1 σ H1 _ I1 q1) fun u s2 ⟨y,H2,I2,r2,q2⟩=>
  fG (ho pins s2 σ H2 x y v u _ I2 r1 r2 q2) fun d s3 ⟨z,H3,I3,r3,k,e,q3⟩=>?_)) hm
 subst e
 cases r3
 refine wpAny_truthy_bool ?_
 cases k with
 | false=>exact ite_ff ⟨.bl false,H3,I3,rfl,q3⟩
 | true=>exact ite_tt (chain_last (fG (hc pins s3 σ H3 _ I3 q3) fun w' s4 ⟨z',H4,I4,r4,q4⟩=>ho' pins s4 σ H4 y z' u w' Q I4 r2 r4 q4))
def aKu (K:PySem.W.Frag) (x:V) (H:Hp) (k:Bool):Prop:=
 match x with
 | .non=>k=false
 | .bl b=>k=b
 | .int i=>k=(i != 0)
 | .str y=>y.length≤sizeLine∧k=((y.length:Int) != 0)
 | .byt y=>y.size≤sizeLine∧k=((y.size:Int) != 0)
 | .ref p=>(∃ xs,jS K H p xs∧k = !xs.isEmpty)∨(∃ xs,fY K H p xs∧k = !xs.isEmpty)∨∃ kvs,H p=some (.dK kvs)∧k = !kvs.isEmpty
 | _=>False
theorem aEG {κ:Type}{kvs:List (κ×V)}{vs:List (κ×Value)} (r:KV kvs vs):(!vs.isEmpty) = !kvs.isEmpty:=by
 cases r <;> rfl
theorem yB {xs:List V}{its:List Value} (r:cE xs its):(!its.toArray.isEmpty) = !xs.isEmpty:=by
 cases r <;> simp
theorem zM:(sizeLine:Nat)<2 ^ 63:=by rw [sizeLine_eq];decide
theorem aIv:aNq X (fun x H Q=>∃ k,aKu X.K x H k∧Q k H):=by
 intro pins s σ H x v Q I rx h
 obtain ⟨k,e,q⟩:=h
 have hl:=zM
 have hs:sizeLine=16777216:=sizeLine_eq
 cases x with
 | non=>
  cases rx
  have e':k=false:=e
  subst e'
  exact truthy_none ⟨H,I,q⟩
 | bl b=>
  cases rx
  have e':k=b:=e
  subst e'
  exact wpAny_truthy_bool ⟨H,I,q⟩
 | int i=>
  obtain ⟨t,rfl⟩:=rx
  have e':k=(i != 0):=e
  subst e'
  exact PySem.P.truthy_int ⟨H,I,q⟩
 | str y=>
  obtain ⟨t,rfl⟩:=rx
  obtain ⟨hy,e'⟩:y.length≤sizeLine∧k=((y.length:Int) != 0):=e
  subst e'
  exact PySem.P.truthy_str (by omega) ⟨H,I.tok _,q⟩
 | byt y=>
  obtain ⟨t,rfl⟩:=rx
  obtain ⟨hy,e'⟩:y.size≤sizeLine∧k=((y.size:Int) != 0):=e
  subst e'
  exact PySem.W.truthy_bytes (by omega) ⟨H,I.tok _,q⟩
 | ref p=>
  cases rx
  have e':(∃ xs,jS X.K H p xs∧k = !xs.isEmpty)∨(∃ xs,fY X.K H p xs∧k = !xs.isEmpty)∨∃ kvs,H p=some (.dK kvs)∧k = !kvs.isEmpty:=e
  rcases e' with ⟨xs,hx,e'⟩ | ⟨xs,hx,e'⟩ | ⟨kvs,hx,e'⟩
  ·subst e'
   obtain ⟨its,r,pl,hz⟩:=I.list hx
   have hlen:=r.length
   exact wpAny_truthy_list pl.isList (by simp only [List.size_toArray];omega) ⟨H,I.tok _,by rw [yB r];exact q⟩
  ·subst e'
   obtain ⟨its,r,pl,hz⟩:=I.tuple hx
   have hlen:=r.length
   exact truthy_tuple pl (by simp only [List.size_toArray];omega) ⟨H,I.tok _,by rw [yB r];exact q⟩
  ·subst e'
   obtain ⟨hz,hS,vs,r,m⟩:kvs.length≤sizeLine∧(p == sysModules)=false∧∃ vs,KV kvs vs∧s.heap.DictOf (dE X.prog X.w) p vs:=I.hok p _ hx
   have hlen:kvs.length=vs.length:=Paired.length r
   exact wpAny_truthy_dict hS m (by omega) ⟨H,I.tok _,by rw [aEG r];exact q⟩
 | _=>exact (show False from e).elim
theorem aHb (ha:PE X a ta) (he:∀ whole,isTrue a X.env whole=(do let v ← whole;standAt a.pos;holding [v] (truthy v))) :
  PT X a (fun σ H Q=>ta σ H fun x H'=>∃ k,aKu X.K x H' k∧Q k H'):=by
 intro pins s σ H Q I h
 exact isTrue_plain (fG (ha pins s σ H _ I h) fun v s1 ⟨x,H1,I1,r1,q1⟩=>aIv pins s1 σ H1 x v Q I1 r1 q1) (he _)
theorem tN {x:V}{us:List Value} (r:cE [x] us):∃ u,us=[u]∧cG x u:=by
 cases r with
 | cons r1 r2=>cases r2;exact ⟨_,rfl,r1⟩
theorem aMy {x y:V}{us:List Value} (r:cE [x,y] us):∃ u w',us=[u,w']∧cG x u∧cG y w':=by
 cases r with
 | cons r1 r2=>
  cases r2 with
  | cons r3 r4=>cases r4;exact ⟨_,_,rfl,r1,r3⟩
theorem aHv:nO X (.builtin "abs") (fun xs H Q=>∃ i,xs=[.int i]∧Q (.int (if i<0 then -i else i)) H):=by
 intro pins s σ H xs us Q I r h
 obtain ⟨i,rfl,q⟩:=h
 obtain ⟨u,rfl,t,rfl⟩:=tN r
 exact call_abs_int fun u tk=>⟨.int (if i<0 then -i else i),H,I.tok _,⟨_,rfl⟩,q⟩
end
structure aLk (h:Heap) (x dx C:Addr) (mA:Str→Option Value):Prop where
 obj:h.get? x=some (PySem.W.instObj C dx)
 ns:h.Ns1 dx mA
 ne:dx≠x
theorem aGb {h:Heap}{dx:Addr}{mA:Str→Option Value} (n:h.Ns1 dx mA):∃ od,h.get? dx=some od∧∀ name,PySem.W.lookIn name od=some (mA name):=by
 obtain ⟨o,es,ep,ho,hd,hk,_,hm⟩:=n
 refine ⟨o,ho,fun name=>?_⟩
 have e:=hm name
 unfold nsFind findBy at e
 rw [← Array.find?_toList] at e
 unfold PySem.W.lookIn
 rw [hd]
 dsimp only
 split
 ·rename_i y q
  rw [q] at e
  exact congrArg some e
 ·rename_i q
  rw [q] at e
  have a:es.toList.any (·.refKey)=false:=by
   rw [List.any_eq_false]
   intro y hy
   obtain ⟨z,t,hkey⟩:=hk y (Array.mem_toList_iff.mp hy)
   simp [DictEntry.refKey,hkey]
  have a':¬ es.toList.any (·.refKey)=true:=by rw [a];exact Bool.false_ne_true
  rw [if_neg a']
  exact congrArg some e
theorem aLk.look {h:Heap}{x dx C:Addr}{mA:Str→Option Value} (I:aLk h x dx C mA):∃ od,PySem.W.InstAt h x (PySem.W.instObj C dx) C (some od)∧∀ name,PySem.W.lookIn name od=some (mA name):=
 let ⟨od,ho,hl⟩:=aGb I.ns
 ⟨od,⟨I.obj,rfl,rfl,ho⟩,hl⟩
section
variable {prog:Program}{w:World}{A:Around}{E:Value→Shared→Prop}{s:Shared}{K:PySem.W.Frag}{x dx C f:Addr}{mA:Str→Option Value}{name:Str}{v:Value}
end
theorem vQ.some_of {v:V}{o:Option Value} (r:vQ (some v) o):∃ u,o=some u∧cG v u:=by
 cases o with
 | none=>exact (show False from r).elim
 | some u=>exact ⟨u,rfl,r⟩
section
variable {P:Program}{w:World}{H H':Hp}{h h':Heap}{a C dx:Addr}{fs fs':List (Str×V)}
theorem aJK (hok:uH P w H h) (e:H a=some (.ins C dx fs)):∃ mA,aLk h a dx C mA∧(∀ f,vQ (fs.lookup f) (mA f))∧PySem.Within mA (fs.map (·.1))∧fs.length≤1000∧H dx=some (.own a):=by
 obtain ⟨d,z,ne,ob,mA,n,r,q⟩:=(show gE P w H h a (.ins C dx fs) from hok a _ e)
 exact ⟨mA,⟨ob,n,ne⟩,r,q,z,d⟩
end
structure Cls (K:PySem.W.Frag) (C:Addr):Prop where
 pg:PySem.W.plainGet K C Str.empty=true
 hd:PySem.W.hasDictIn K C=true
 po:PySem.W.plainOver K C=true
 sa:PySem.W.findIn K (.ref C) "__setattr__"=some (some (.builtin "object.__setattr__"))
theorem Cls.get {K:PySem.W.Frag}{C:Addr} (c:Cls K C) (f:Str):PySem.W.plainGet K C f=true:=c.pg
section
variable {X:Cx}{pins:List (Addr×Obj)}{σ:St}{H:Hp}{s:Shared}{a C dx:Addr}{fs:List (Str×V)}{f:Str}{v:V}{A:Around}{E:Value→Shared→Prop}
end
section
variable {X:Cx}{o e value:Expr}{f:Str}{pos pos' tpos:Pos}{ta tv:TE}
end
section
variable {X:Cx}{pins:List (Addr×Obj)}{σ:St}{H:Hp}{s:Shared}{A:Around}{E:Value→Shared→Prop}{Q:Value→Shared→Prop}{c:Value}{b:Bool}
inductive wV (K:PySem.W.Frag) (H:Hp):V→Value→Prop where
 | non:wV K H .non (.type "NoneType")
 | bl (x:Bool):wV K H (.bl x) (.type "bool")
 | int (i:Int):wV K H (.int i) (.type "int")
 | str (x:Str):wV K H (.str x) (.type "str")
 | flt (x:UInt64):wV K H (.flt x) (.type "float")
 | lst {a:Addr}{xs:List V} (e:H a=some (.lst xs)):wV K H (.ref a) (.type "list")
 | frz {a:Addr}{o:Obj}{xs:List V} (e:H a=some (.frz o (.lst xs))):wV K H (.ref a) (.type "list")
 | tup {a:Addr}{xs:List V} (e:H a=some (.tup xs)):wV K H (.ref a) (.type "tuple")
 | dK {a:Addr}{kvs:List (mI×V)} (e:H a=some (.dK kvs)):wV K H (.ref a) (.type "dict")
 | dT {a:Addr}{K':PySem.W.Frag}{f:Nat→Bool}{kvs:List (NK×V)} (e:H a=some (.dT K' f kvs)):wV K H (.ref a) (.type "dict")
 | ins {a C dx:Addr}{fs:List (Str×V)} (e:H a=some (.ins C dx fs)) (cl:Cls K C) (ha:PySem.W.findIn K (.ref C) "__class__"=some (some (.builtin "object.__class__")))
   (hn:PySem.W.specialIn K (.builtin "object.__class__") "__get__"=some (some (.builtin "getset_descriptor.__get__"))) (htk:PySem.W.takesIn K (.builtin "object.__class__")=some true)
   (hm:PySem.W.mroIn K C (.type "object")=some true):wV K H (.ref a) (.ref C)
theorem rP {x:V}{u t:Value} (I:bG X pins σ H s) (rx:cG x u) (ty:wV X.K H x t) (e:PySem.W.kitOne X.K t c=some b) (h:∀ tk,Q (.bool b) { s with toks:=tk }) :
  wpAny (model X.prog X.w) A (call (.builtin "isinstance") [u,c]) Q E s:=by
 cases ty with
 | non=>cases (show u=Value.none from rx);exact PySem.W.kia_one PySem.W.kitx_none I.kIn True.intro e (fun z=>nomatch z) h
 | bl y=>cases (show u=Value.bool y from rx);exact PySem.W.kia_one PySem.W.kitx_bool I.kIn True.intro e (fun z=>nomatch z) h
 | int i=>obtain ⟨t,q⟩:=(show ∃ t,u=Value.int i t from rx);cases q;exact PySem.W.kia_one PySem.W.kitx_int I.kIn True.intro e (fun z=>nomatch z) h
 | str y=>obtain ⟨t,q⟩:=(show ∃ t,u=Value.str y t from rx);cases q;exact PySem.W.kia_one PySem.W.kitx_str I.kIn True.intro e (fun z=>nomatch z) h
 | flt y=>obtain ⟨t,q⟩:=(show ∃ t,u=Value.float y t from rx);cases q;exact PySem.W.kia_one PySem.W.kitx_float I.kIn True.intro e (fun z=>nomatch z) h
 | @lst a xs ea=>
  cases (show u=Value.ref a from rx)
  obtain ⟨_,_,n,_,h1⟩:=(show gE X.prog X.w H s.heap a (.lst xs) from I.hok a _ ea)
  exact PySem.W.kia_one PySem.W.kitx_list I.kIn ⟨_,h1,rfl⟩ e (fun z=>nomatch z) h
 | @frz a ob xs ea=>
  cases (show u=Value.ref a from rx)
  obtain ⟨_,_,_,n,_,h1⟩:=(show gE X.prog X.w H s.heap a (.frz ob (.lst xs)) from I.hok a _ ea)
  exact PySem.W.kia_one PySem.W.kitx_list I.kIn ⟨_,h1,rfl⟩ e (fun z=>nomatch z) h
 | @tup a xs ea=>
  cases (show u=Value.ref a from rx)
  obtain ⟨_,_,_,p⟩:=(show gE X.prog X.w H s.heap a (.tup xs) from I.hok a _ ea)
  obtain ⟨o,h1,h2,_⟩:=p
  exact PySem.W.kia_one PySem.W.kitx_tuple I.kIn ⟨o,h1,h2⟩ e (fun z=>nomatch z) h
 | @dK a kvs ea=>
  cases (show u=Value.ref a from rx)
  obtain ⟨_,_,vs,_,p⟩:=(show gE X.prog X.w H s.heap a (.dK kvs) from I.hok a _ ea)
  obtain ⟨o,es,ep,h1,h2,_⟩:=p
  exact PySem.W.kia_one PySem.W.kitx_dict I.kIn ⟨o,h1,h2.1⟩ e (fun z=>nomatch z) h
 | @dT a K' f kvs ea=>
  cases (show u=Value.ref a from rx)
  obtain ⟨_,_,xs,_,o,es,ep,h1,h2,_⟩:=(show gE X.prog X.w H s.heap a (.dT K' f kvs) from I.hok a _ ea)
  exact PySem.W.kia_one PySem.W.kitx_dict I.kIn ⟨o,h1,h2.1⟩ e (fun z=>nomatch z) h
 | @ins a C dx fs ea cl ha hn htk hm=>
  cases (show u=Value.ref a from rx)
  obtain ⟨mA,O,_⟩:=aJK I.hok ea
  obtain ⟨od,J,_⟩:=O.look
  exact PySem.W.kia_one (PySem.W.kitx_own (cl.get _) cl.hd ha hn htk hm) I.kIn J e (fun z=>nomatch z) h
end
structure cL (k:Nat) (A:Around):Prop where
 hd:A.handled=none
 dp:A.depth+3 * k+5<recursionLimit
 un:A.units+16 * k+200<cLine
theorem cL.mono {j k:Nat}{A:Around} (r:cL k A) (h:j≤k):cL j A:=⟨r.hd,by have:=r.dp;omega,by have:=r.un;omega⟩
theorem cL.deeper {k:Nat}{A:Around} (r:cL (k+1) A) (env:Env):cL k (A.deeper env):=
 ⟨r.hd,by have:=r.dp;show A.depth+1+3 * k+5<_;omega,by have:=r.un;show A.units+3+16 * k+200<_;omega⟩
theorem cL.depth {k:Nat}{A:Around} (r:cL k A):A.depth<recursionLimit:=by have:=r.dp;omega
theorem cL.units {k:Nat}{A:Around} (r:cL k A):A.units+64<cLine:=by have:=r.un;omega
def aKL:TA:=fun _ H Q=>Q [] H
def aIG (ta:TE) (tr:TA):TA:=fun σ H Q=>ta σ H fun x H1=>tr σ H1 fun xs H2=>Q (x::xs) H2
section
variable {X:Cx}{e:Expr}{es:List Expr}{te:TE}{t:TA}{pos:Pos}
theorem dS:PA X [] aKL:=fun _ _ _ _ H Q I h=>Calls.spliced_nil ⟨[],H,I,.nil,h⟩
theorem bX (ha:PE X e te) (hr:PA X es t) (hs:starEach (e::es) X.env=(false,eval e X.env)::starEach es X.env:=by rfl):PA X (e::es) (aIG te t):=by
 intro pos pins s σ H Q I h
 rw [hs]
 show wpAny _ _ (spliced ((false,eval e X.env)::backTo pos (starEach es X.env))) _ _ s
 refine Calls.spliced_cons (fG (ha pins s σ H _ I h) fun u s1 ⟨x,H1,I1,r1,q1⟩=>?_)
 exact fG (hr pos pins s1 σ H1 _ I1 q1) fun us s2 ⟨xs,H2,I2,r2,q2⟩=>⟨x::xs,H2,I2,.cons r1 r2,q2⟩
def aMS (t:TA):TE:=fun σ H Q=>t σ H fun xs H1=>xs.length≤sizeLine∧∀ p,H1 p=none→Q (.ref p) (upd H1 p (.tup xs))
def aNa (t:TA):TE:=fun σ H Q=>t σ H fun xs H1=>xs.length≤sizeLine∧∀ p,H1 p=none→Q (.ref p) (upd H1 p (.lst xs))
theorem aHr {x1} (h:PA X es t):PE X (.Tuple es x1 pos) (aMS t):=by
 intro pins s σ H Q I hq
 refine wpAny_Tuple_spliced (fG (h pos pins s σ H _ I hq) fun us s1 ⟨xs,H1,I1,r,z,q⟩=>⟨by rw [← r.length];exact z,?_⟩)
 have hf:H1 s1.heap.objs.size=none:=I1.hok.fresh (Nat.le_refl _)
 refine ⟨.ref s1.heap.objs.size,upd H1 s1.heap.objs.size (.tup xs),I1.laid (t':=s1.toks) (fun b u e=>Heap.get?_push_of_some _ e) (Nat.le_refl _) ?_,rfl,q _ hf⟩
 exact ⟨z,us,r,⟨_,Heap.get?_push_size _ rfl,rfl,_,rfl⟩⟩
theorem aLj (h:PA X es t):PE X (.List es pos) (aNa t):=by
 intro pins s σ H Q I hq
 refine wpAny_List_spliced (fG (h pos pins s σ H _ I hq) fun us s1 ⟨xs,H1,I1,r,z,q⟩=>⟨by rw [← r.length];exact z,?_⟩)
 have hf:H1 s1.heap.objs.size=none:=I1.hok.fresh (Nat.le_refl _)
 refine ⟨.ref s1.heap.objs.size,upd H1 s1.heap.objs.size (.lst xs),I1.laid (t':=s1.toks) (fun b u e=>Heap.get?_push_of_some _ e) (Nat.le_refl _) ?_,rfl,q _ hf⟩
 exact ⟨z,us,0,r,Heap.get?_push_size _ rfl⟩
end
abbrev Sp:=List V→Hp→VK→XK→Prop
abbrev CXT:=List Env→Hp→Shared→XK→Value→Shared→Prop
structure aJl (P:Program) (w:World) (K:PySem.W.Frag) (mg:Str→Option Value) (base:Heap) (A:Around) (outer:List Env) (s:Shared) (H:Hp):Prop where
 frames:A.frames=some outer
 mod:Mod K mg base
 bs:∀ b o,base.get? b=some o→s.heap.get? b=some o∧H b=none
 bsz:base.objs.size≤s.heap.objs.size
 funs:s.heap.FunFrames base outer
 frf:∀ b∈frs outer,H b=none
 hok:uH P w H s.heap
 bare:AllBare s.gens
def CE (outer:List Env) (P:Program) (w:World) (H:Hp) (s:Shared) (Q:VK) (u:Value) (s':Shared):Prop:=
 ∃ v H',s'.os=s.os∧AllBare s'.gens∧Un (frs outer) [] H H' s.heap s'.heap∧uH P w H' s'.heap∧cG v u∧Q v H'
def CR (CX:CXT) (outer:List Env) (P:Program) (w:World) (H:Hp) (s:Shared) (Q:VK) (E:XK) (r:Result) (s':Shared):Prop:=
 match r with
 | .ok (.ret u)=>CE outer P w H s Q u s'
 | .ok _=>False
 | .error e=>CX outer H s E e s'
structure uT (P:Program) (w:World) (K:PySem.W.Frag) (mg:Str→Option Value) (base:Heap) (CX:CXT) (k:Nat) (f:Addr) (fd:FuncData) (ps:List Str) (sp:Sp):Prop where
 len:∀ vs H Q E,sp vs H Q E→vs.length=ps.length
 run:∀ (A:Around) (outer:List Env) (s:Shared) (H:Hp) (args:Args) (us:List Value) (vs:List V) (Q:VK) (E:XK),cL k A→aJl P w K mg base A outer s H→BindsTo s fd args (ps.zip us)→cE vs us→sp vs H Q E →
  codeAny (model P w) A (.call (.ref f) args) (CR CX outer P w H s Q E) s
section
variable {X:Cx}{pins:List (Addr×Obj)}{σ:St}{H:Hp}{s s':Shared}
theorem bG.env0 (I:bG X pins σ H s):aJl X.prog X.w X.K X.mg X.base X.A X.stack s H:=
 ⟨I.ok.frames,I.ok.mod,I.bs,Nat.le_trans I.ok.bsz I.sz,I.stack,I.stkFree,I.hok,I.bare⟩
theorem bG.after {Q:VK}{u:Value} (I:bG X pins σ H s) (h:CE X.stack X.prog X.w H s Q u s'):EP X pins σ Q u s':=by
 obtain ⟨v,H',os,bare,un,hok,r,q⟩:=h
 obtain ⟨hh,g,d,t,os'⟩:=s'
 obtain rfl:os'=s.os:=os
 exact ⟨v,H',I.call (h':=hh) (g':=g) (d':=d) (t':=t) (ch:=[]) un hok bare (fun b z=>absurd z (by simp)),r,q⟩
end
def aL0 (sp:Sp) (dvs:List V) (E:XK) (t:TA):TE:=fun σ H Q=>t σ H fun vs H1=>sp (vs++dvs) H1 Q E
def pT (K:PySem.W.Frag) (fd:FuncData) (ps:List Str) (ds:List Value):Prop:=
 ∀ (s:Shared) (us:List Value),K.In s.heap→(us++ds).length=ps.length→BindsTo s fd ⟨us,[]⟩ (ps.zip (us++ds))
theorem pT.all {K:PySem.W.Frag}{fd:FuncData}{ps:List Str} (h:∀ us:List Value,us.length=ps.length→bindArgs fd ⟨us,[]⟩=pure (ps.zip us)):pT K fd ps []:=fun s us _ hl=>by
 rw [List.append_nil] at hl ⊢
 exact .of_eq (h us hl)
def aEo (CX:CXT) (X:Cx) (E:XK):Prop:=∀ (pins:List (Addr×Obj)) (σ:St) (H:Hp) (s:Shared) (e:Value) (s':Shared),bG X pins σ H s→CX X.stack H s E e s'→X.xe e s'
section
variable {X:Cx}{CX:CXT}{k:Nat}{f C:Addr}{fd:FuncData}{ps:List Str}{sp:Sp}{dvs:List V}{ds:List Value}{E:XK}{x m:Str}{p pos apos:Pos}{e o:Expr}{es:List Expr}{ta:TE}{t:TA}
theorem aLg {pins:List (Addr×Obj)}{σ:St}{H:Hp}{s:Shared}{Q:VK}{us:List Value}{vs:List V} (F:uT X.prog X.w X.K X.mg X.base CX k f fd ps sp) (hr:cL k X.A) (hb:pT X.K fd ps ds) (hd:cE dvs ds) (hx:aEo CX X E)
  (I:bG X pins σ H s) (r:cE vs us) (h:sp (vs++dvs) H Q E):wpAny (model X.prog X.w) X.A (call (.ref f) us) (EP X pins σ Q) X.xe s:=by
 have r2:cE (vs++dvs) (us++ds):=r.append hd
 have hl:(us++ds).length=ps.length:=by rw [← r2.length];exact F.len _ _ _ _ h
 refine wpAny_call (codeAny_mono (F.run X.A X.stack s H ⟨us,[]⟩ (us++ds) (vs++dvs) Q E hr I.env0 (hb s us I.kIn hl) r2 h) fun r s' hq=>?_)
 cases r with
 | error e=>exact hx pins σ H s e s' I hq
 | ok fl=>
  cases fl with
  | ret u=>exact I.after hq
  | next=>exact False.elim hq
  | brk=>exact False.elim hq
  | cont=>exact False.elim hq
theorem aCd (F:uT X.prog X.w X.K X.mg X.base CX k f fd ps sp) (hr:cL k X.A) (hg:Gl X x) (hm:X.mg x=some (.ref f)) (hk:PySem.W.keepIn X.K (.ref f)=true) (hb:pT X.K fd ps ds) (hd:cE dvs ds) (hx:aEo CX X E)
  (ha:PA X (e::es) t) (hdb:(x == ("__debug__":Str))=false:=by decide) (he:starEach (e::es) X.env=(false,eval e X.env)::starEach es X.env:=by rfl) (hpl:(backTo pos (starEach es X.env)).any (·.1)=false:=by rfl) :
  PE X (.Call (.Name x p) (e::es) [] pos) (aL0 sp dvs E t):=by
 intro pins s σ H Q I h
 refine wpAny_Call_Name_kw (aE1 I hg hm ?_ hdb)
 refine PySem.W.callWith_K (h₀:=X.base) I.ok.mod.kin hk (fG (ha pos pins s σ H _ I h) fun us s1 ⟨vs,H1,I1,r,q⟩=>⟨I1.kIn,?_⟩) he hpl
 exact aLg F hr hb hd hx I1 r q
end
section
variable {X:Cx}{CX:CXT}{k:Nat}{f C:Addr}{fd:FuncData}{ps ks:List Str}{sp:Sp}{E:XK}{x m:Str}{p pos apos kpos:Pos}{e o:Expr}{es:List Expr}{kws:List Keyword}{te ta:TE}{t tk:TA}{nm:Option Str}
variable {g:List Value→List Value→List Value}{gV:List V→List V→List V}
end
structure bD (N P:List Str) (sc:Scope):Prop where
 kind:sc.kind = .function
 co:sc.isCoroutine=false
 gen:sc.isGenerator=false
 nd:N.Nodup
 pre:N.take P.length=P
 par:∀ x∈P,sc.names.lookup x=some .local∨sc.names.lookup x=some .cell
 nofree:∀ y∈sc.names,y.2≠.free
theorem aA3 {kindOf:Str→Option NameKind}{x:Str}:∀ {binds:List (Str×Value)}{m:Str→Option Value},(∀ v,(x,v)∉binds)→bindL kindOf binds m x=m x
 | [],_,_=>rfl
 | (n,v)::r,m,h=>by
  unfold bindL
  rw [aA3 fun w hw=>h w (List.mem_cons_of_mem _ hw)]
  split
  ·have:x≠n:=by rintro rfl;exact h v List.mem_cons_self
   simp [this]
  ·rfl
theorem aBp {kindOf:Str→Option NameKind}{x:Str}:∀ {binds:List (Str×Value)}{m:Str→Option Value},(∀ v,(x,v)∉binds)→bindC kindOf binds m x=m x
 | [],_,_=>rfl
 | (n,v)::r,m,h=>by
  unfold bindC
  rw [aBp fun w hw=>h w (List.mem_cons_of_mem _ hw)]
  split
  ·rfl
  ·have:x≠n:=by rintro rfl;exact h v List.mem_cons_self
   simp [this]
theorem aBc {kindOf:Str→Option NameKind}{x:Str}{v:Value}:∀ {P:List Str}{vs:List Value}{i:Nat}{m:Str→Option Value},P.Nodup→P[i]? = some x→vs[i]? = some v→kindOf x=some .local →
  bindL kindOf (P.zip vs) m x=some v
 | [],_,_,_,_,h,_,_=>by simp at h
 | _::_,[],_,_,_,_,h,_=>by simp at h
 | p::P,w::vs,0,m,nd,h1,h2,hk=>by
  simp at h1 h2;subst h1;subst h2
  show bindL kindOf ((p,w)::P.zip vs) m p=_
  unfold bindL
  rw [aA3 fun v hv=>(List.nodup_cons.mp nd).1 (List.of_mem_zip hv).1,if_pos hk]
  simp
 | p::P,w::vs,i+1,m,nd,h1,h2,hk=>by
  show bindL kindOf ((p,w)::P.zip vs) m x=_
  unfold bindL
  exact aBc (i:=i) (List.nodup_cons.mp nd).2 (by simpa using h1) (by simpa using h2) hk
theorem aBh {kindOf:Str→Option NameKind}{x:Str}{v:Value}:∀ {P:List Str}{vs:List Value}{i:Nat}{m:Str→Option Value},P.Nodup→P[i]? = some x→vs[i]? = some v→kindOf x≠some .local →
  bindC kindOf (P.zip vs) m x=some v
 | [],_,_,_,_,h,_,_=>by simp at h
 | _::_,[],_,_,_,_,h,_=>by simp at h
 | p::P,w::vs,0,m,nd,h1,h2,hk=>by
  simp at h1 h2;subst h1;subst h2
  show bindC kindOf ((p,w)::P.zip vs) m p=_
  unfold bindC
  rw [aBp fun v hv=>(List.nodup_cons.mp nd).1 (List.of_mem_zip hv).1,if_neg hk]
  simp
 | p::P,w::vs,i+1,m,nd,h1,h2,hk=>by
  show bindC kindOf ((p,w)::P.zip vs) m x=_
  unfold bindC
  exact aBh (i:=i) (List.nodup_cons.mp nd).2 (by simpa using h1) (by simpa using h2) hk
def start (N:List Str) (vs:List V):St:=vs.map some++List.replicate (N.length-vs.length) none
def d6 (CX:CXT) (P:Program) (w:World) (K:PySem.W.Frag) (mg:Str→Option Value) (base:Heap) (N:List Str) (qual:Str) (scope:Scope) (f:Addr) (cd:Value) (A:Around) (outer:List Env) (s:Shared) (H:Hp) (E:XK):Cx where
 prog:=P
 w:=w
 K:=K
 mg:=mg
 base:=base
 A:=A.deeper (envOfC qual scope s.heap.objs.size f cd)
 N:=N
 s₀:=s
 H₀:=H
 env:=envOfC qual scope s.heap.objs.size f cd
 outer:=outer
 stack:=envOfC qual scope s.heap.objs.size f cd::outer
 ex:=[]
 calm:=true
 fn:=fun _=>true
 pn:=[]
 xe:=fun e s'=>wpAny (model P w) (A.deeper (envOfC qual scope s.heap.objs.size f cd)) (leaving (envOfC qual scope s.heap.objs.size f cd) e) (fun _ s''=>CX outer H s E e s'') (fun e' s''=>CX outer H s E e' s'') s'
theorem aCU {sc:Scope}{n:Nat}{x:Str} (h:sc.names.lookup x=some .cell):∃ c,(cellsFrom n sc.names []).lookup x=some c:=by
 have q:=PySem.W.cellsFrom_some sc.names n [] (.inl h)
 exact Option.isSome_iff_exists.mp q
theorem aGu {CX:CXT}{P:Program}{w:World}{K:PySem.W.Frag}{mg:Str→Option Value}{base:Heap}{N ps:List Str}{qual:Str}{scope:Scope}{f:Addr}{cd:Value}{A:Around}{outer:List Env}{s s1:Shared}{H:Hp}{E:XK}{us:List Value}{vs:List V}
  (S:bD N ps scope) (hd:A.handled=none) (e0:aJl P w K mg base A outer s H) (hl:vs.length=ps.length) (r:cE vs us)
  (x:InCallC s s.heap.objs.size (bindL (envOfC qual scope s.heap.objs.size f cd).kindOf (ps.zip us) fun _=>none) (cellsFrom (s.heap.objs.size+1) scope.names []) (bindC (envOfC qual scope s.heap.objs.size f cd).kindOf (ps.zip us) fun _=>none) s1) :
  bG (d6 CX P w K mg base N qual scope f cd A outer s H E) [] (start N vs) H s1:=by
 have hpl:ps.length≤N.length:=by have:=congrArg List.length S.pre;rw [List.length_take] at this;omega
 obtain ⟨h1,tk,rfl,hk⟩:=x.done
 have noA:∀ b:Addr,b∉(d6 CX P w K mg base N qual scope f cd A outer s H E).ex:=fun b z=>absurd (show b∈([]:List Addr) from z) (by simp)
 refine ⟨⟨e0.mod,S.kind,rfl,rfl,Nat.le_refl _,fun y z c h1 h2=>?_,fun y hy=>?_,fun y c _ h=>?_,fun _=>hd,Around.frames_deeper e0.frames,.inr ⟨rfl,rfl⟩,fun b z=>absurd z (noA b),e0.bs,e0.bsz,fun b _ _=>noA b,fun b z=>absurd z (noA b),e0.funs,e0.frf⟩,
  rfl,e0.bare,Un.kept hk,⟨_,x.toInCall.ns,fun i y v h1 h2 h3=>?_⟩,fun y c h=>⟨_,x.cell y c h⟩,e0.hok.fresh (Nat.le_refl _),fun y c h=>?_,fun p hp=>absurd (show p∈([]:List (Addr×Obj)) from hp) (by simp),e0.hok.kept hk,?_⟩
 ·exact name_of_addr x.apart (PySem.mem_of_lookup h1) (PySem.mem_of_lookup h2)
 ·have hy:scope.names.lookup y=some .cell∨scope.names.lookup y=some .free:=hy
  rcases hy with hy | hy
  ·exact aCU hy
  ·exact absurd rfl (S.nofree _ (PySem.mem_of_lookup hy))
 ·exact Nat.le_of_lt (x.above y c (PySem.mem_of_lookup h))
 ·have hi:i<vs.length:=by
   unfold start at h2
   by_cases hi:i<vs.length
   ·exact hi
   ·rw [List.getElem?_append_right (by simpa using hi)] at h2
    rw [List.getElem?_replicate] at h2
    split at h2 <;> cases h2
  have ha:vs[i]? = some v:=by
   unfold start at h2
   rw [List.getElem?_append_left (by simpa using hi),List.getElem?_map] at h2
   cases e:vs[i]? with
   | none=>rw [e] at h2;cases h2
   | some a=>rw [e] at h2;cases h2;rfl
  obtain ⟨u,hu,rv⟩:=r.get ha
  have hp:ps[i]? = some y:=by
   rw [← S.pre,List.getElem?_take_of_lt (by omega)];exact h1
  have ndP:ps.Nodup:=by rw [← S.pre];exact S.nd.sublist (List.take_sublist _ _)
  refine ⟨u,rv,?_⟩
  rcases S.par y (List.mem_of_getElem? hp) with k | k
  ·exact .inl ⟨k,aBc ndP hp hu k⟩
  ·obtain ⟨c,e⟩:=aCU (n:=s.heap.objs.size+1) k
   refine .inr ⟨.inl k,c,e,?_⟩
   have q:=x.cell y c e
   rw [aBh ndP hp hu (by show scope.names.lookup y≠_;rw [k];decide)] at q
   exact q
 ·exact e0.hok.fresh (Nat.le_of_lt (x.above y c (PySem.mem_of_lookup h)))
 ·unfold start
  show _=N.length
  rw [List.length_append,List.length_map,List.length_replicate]
  omega
theorem aL9 {CX:CXT}{P:Program}{w:World}{K:PySem.W.Frag}{mg:Str→Option Value}{base:Heap}{k:Nat}{f:Addr}{name qual:Str}{params:Arguments}{body:List Stmt}{scope:Scope}{dV kV doc pm cdv ct oc:Value}{an od:Option Addr}
  {osl:Array (Option Value)}{N ps:List Str}{sp:Sp} (lk:K.lookup f=some ⟨oc,od,.func (PySem.W.fnOf name qual params body scope dV kV doc pm an cdv ct),osl⟩) (hcd:PySem.W.codeIn K cdv qual=true) (S:bD N ps scope)
  (len:∀ vs H Q E,sp vs H Q E→vs.length=ps.length)
  (hbody:∀ (A:Around) (outer:List Env) (s:Shared) (H:Hp) (vs:List V) (Q:VK) (E:XK),cL k (A.deeper (envOfC qual scope s.heap.objs.size f cdv))→sp vs H Q E →
   ∃ t,PSs (d6 CX P w K mg base N qual scope f cdv A outer s H E) body t∧t { nx:=fun _ H'=>Q .non H',rt:=Q } (start N vs) H) :
  uT P w K mg base CX (k+1) f (PySem.W.fnOf name qual params body scope dV kV doc pm an cdv ct) ps sp:=by
 refine ⟨len,fun A outer s H args us vs Q E hr e0 hb r hsp=>?_⟩
 have hl:=len _ _ _ _ hsp
 have KX:K.In s.heap:=e0.mod.kin.keeps fun b o e=>(e0.bs b o e).1
 have lim:s.heap.NoLimit:=e0.mod.nolimit.keeps fun b o e=>(e0.bs b o e).1
 have hkind:∀ y∈ps.zip us,scope.names.lookup y.1=some .local∨(scope.names.lookup y.1=some .cell∧((cellsFrom (s.heap.objs.size+1) scope.names []).lookup y.1).isSome=true):=fun ⟨n,v⟩ hy=>by
  rcases S.par n (List.of_mem_zip hy).1 with q | q
  ·exact .inl q
  ·exact .inr ⟨q,PySem.W.cellsFrom_some _ _ _ (.inl q)⟩
 refine codeAny_call_function hr.depth (KX _ _ lk) rfl S.co S.gen rfl (PySem.W.codeRec_of KX hcd) (hb _ _ _ _ ?_)
 refine wpAny_newFunctionEnv_cells S.kind hkind fun env he s1 x=>?_
 subst he
 refine ⟨lim.keeps x.toInCall.keep,codeAny_func ?_⟩
 obtain ⟨t,ht,hq⟩:=hbody A outer s H vs Q E (hr.deeper _) hsp
 have I:bG (d6 CX P w K mg base N qual scope f cdv A outer s H E) [] (start N vs) H s1:=aGu S hr.hd e0 hl r x
 refine wpAny_mono (ht [] s1 (start N vs) H _ I hq) (fun fl s' hs=>?_) fun e s' hs=>hs
 have fin:∀ {σ':St}{H':Hp}{v:V}{u:Value},bG (d6 CX P w K mg base N qual scope f cdv A outer s H E) [] σ' H' s'→cG v u→Q v H'→CE outer P w H s Q u s':=
  fun {σ' H' v u} J rv q=>⟨v,H',J.os,J.bare,J.base,J.hok,rv,q⟩
 cases fl with
 | ret u=>
  obtain ⟨v,σ',H',J,rv,q⟩:=hs
  exact fin J rv q
 | next=>
  obtain ⟨σ',H',J,q⟩:=hs
  exact fin (v:=V.non) (u:=Value.none) J rfl q
 | brk=>
  obtain ⟨_,_,_,q⟩:=hs
  exact False.elim q
 | cont=>
  obtain ⟨_,_,_,q⟩:=hs
  exact False.elim q
section
variable {X:Cx}{x:Str}{p pos:Pos}{e:Expr}{es:List Expr}{t:TA}{id T:String}{r:List V→Hp→VK→Prop}
def tCB (r:List V→Hp→VK→Prop) (t:TA):TE:=fun σ H Q=>t σ H fun vs H1=>r vs H1 Q
theorem bJ (hc:nO X (.builtin id) r) (hg:Gl X x) (hm:X.mg x=none) (hv:bootBuiltins x=some (.builtin id)) (ha:PA X (e::es) t) (hn:x≠"__name__":=by decide) (hdb:(x == ("__debug__":Str))=false:=by decide)
  (he:starEach (e::es) X.env=(false,eval e X.env)::starEach es X.env:=by rfl) (hpl:(backTo pos (starEach es X.env)).any (·.1)=false:=by rfl):PE X (.Call (.Name x p) (e::es) [] pos) (tCB r t):=by
 intro pins s σ H Q I h
 refine wpAny_Call_Name_kw (oC I hg hm hv ?_ hn hdb)
 exact PyProof.Rows.callWith_builtin1 (fG (ha pos pins s σ H _ I h) fun us s1 ⟨vs,H1,I1,r1,q1⟩=>hc pins s1 σ H1 vs us Q I1 r1 q1) he hpl
theorem cB (hc:nO X (.type T) r) (hg:Gl X x) (hm:X.mg x=none) (hv:bootBuiltins x=some (.type T)) (ha:PA X (e::es) t) (hn:x≠"__name__":=by decide) (hdb:(x == ("__debug__":Str))=false:=by decide)
  (he:starEach (e::es) X.env=(false,eval e X.env)::starEach es X.env:=by rfl) (hpl:(backTo pos (starEach es X.env)).any (·.1)=false:=by rfl):PE X (.Call (.Name x p) (e::es) [] pos) (tCB r t):=by
 intro pins s σ H Q I h
 refine wpAny_Call_Name_kw (oC I hg hm hv ?_ hn hdb)
 exact PyProof.Rows.callWith_type1 (fG (ha pos pins s σ H _ I h) fun us s1 ⟨vs,H1,I1,r1,q1⟩=>hc pins s1 σ H1 vs us Q I1 r1 q1) he hpl
end
end L2
namespace HT
open PySem PyProof.Rows
section
open PySem.SeqAt
open PySem.AutoSeq1 (wpAny_loadPart')
open PySem.MeetsSeq PySem.MeetsSeq2 PySem.MeetsSeq3
end
section
variable {prog:Program}{w:World}{A:Around}{E:Value→Shared→Prop}{s:Shared}
theorem cat_tup {t b:Addr}{vs ws:List Value}{Q:Value→Shared→Prop} (ht:IsTup s.heap t vs.toArray) (hb:IsTup s.heap b ws.toArray) (hv:vs≠[])
  (h1:ws=[]→Q (.ref t) s) (h2:ws≠[]→Q (.ref s.heap.objs.size) { s with heap:=s.heap.push { cls:=.type "tuple",data:=.seq (vs++ws).toArray } })
  (hsz:vs.length+ws.length≤sizeLine):wpAny (model prog w) A (binaryOp .Add (.ref t) (.ref b)) Q E s:=by
 obtain ⟨⟨cls,dd,data,sl⟩,ho,hc,n,hd⟩:=id ht
 obtain ⟨⟨cls2,dd2,data2,sl2⟩,ho2,hc2,n2,hd2⟩:=id hb
 simp only at hc hd hc2 hd2
 subst hc hd hc2 hd2
 have e:vs.toArray++ws.toArray=(vs++ws).toArray:=by simp
 by_cases hw:ws=[]
 ·exact concat_meets ⟨_,ho,rfl⟩ ⟨_,ho2,rfl⟩ noFill_tuple_add seq_tuple_add PySem.F.slot_tuple_add PySem.F.entry_tuple_add (PySem.F.args_tuple_add_2 _ _)
   (tuple_addW1 t b vs.toArray ws.toArray n n2 dd dd2 sl sl2 (by simpa using hv) (by simp [hw])) ⟨ho,ho2,h1 hw⟩
 ·refine concat_meets ⟨_,ho,rfl⟩ ⟨_,ho2,rfl⟩ noFill_tuple_add seq_tuple_add PySem.F.slot_tuple_add PySem.F.entry_tuple_add (PySem.F.args_tuple_add_2 _ _)
   (tuple_addW2 t b vs.toArray ws.toArray n n2 dd dd2 sl sl2 (by simpa using hv) (by simpa using hw) (by rw [List.size_toArray,List.size_toArray];exact hsz)) ⟨ho,ho2,?_⟩
  rw [e]
  exact h2 hw
def sIx (n d:Nat):Option Int→Nat
 | none=>d
 | some v=>if v<0 then (v+(n:Int)).toNat else min v.toNat n
theorem sIx_none (n d:Nat):sIx n d none=d:=rfl
theorem sIx_nat (n d k:Nat):sIx n d (some (k:Int))=min k n:=by
 show (if (k:Int)<0 then ((k:Int)+(n:Int)).toNat else min (k:Int).toNat n)=min k n
 rw [if_neg (by omega),Int.toNat_natCast]
end
end HT
namespace L2
open PySem PySem.Spec PyProof.Rows
abbrev TO:=St→Hp→(Option Int→Hp→Prop)→Prop
def PO (X:Cx) (e:Option Expr) (t:TO):Prop:=
 ∀ (pins:List (Addr×Obj)) (s:Shared) (σ:St) (H:Hp) (Q:Option Int→Hp→Prop),bG X pins σ H s→t σ H Q →
  wpAny (model X.prog X.w) X.A (evalPart e X.env) (fun u s'=>∃ o H',bG X pins σ H' s'∧IsPart u o∧Q o H') X.xe s
def aJh:TO:=fun _ H Q=>Q none H
def aLL (t:TE):TO:=fun σ H Q=>t σ H fun x H1=>∃ i,x = .int i∧Q (some i) H1
theorem aD1 {ns:List Int}:∀ {us:List Value},cE (ns.map V.int) us→IntsAre us ns:=by
 induction ns with
 | nil=>intro us r;rw [List.map_nil] at r;cases r;exact .nil
 | cons n ns ih=>
  intro us r
  rw [List.map_cons] at r
  cases r with
  | cons r1 r2=>
   obtain ⟨t,e⟩:=r1
   subst e
   exact .cons n t (ih r2)
section
variable {X:Cx}{e:Expr}{te:TE}{lo hi:Option Expr}{tl th:TO}{pos p2:Pos}
theorem aKf:PO X none aJh:=by
 intro pins s σ H Q I h
 rw [evalPart_none]
 exact wpAny_pure ⟨none,H,I,.none,h⟩
theorem aJp (h:PE X e te):PO X (some e) (aLL te):=by
 intro pins s σ H Q I hw
 rw [evalPart_some]
 refine fG (h pins s σ H _ I hw) fun u s1 ⟨x,H1,I1,r1,q1⟩=>?_
 obtain ⟨i,rfl,q⟩:=q1
 obtain ⟨t,rfl⟩:=r1
 exact ⟨some i,H1,I1,.int i t,q⟩
def SlR (X:Cx) (r:V→Option Int→Option Int→Hp→VK→Prop):Prop:=
 ∀ (pins:List (Addr×Obj)) (s:Shared) (σ:St) (H:Hp) (x:V) (v vl vu:Value) (lo hi:Option Int) (sl:Addr) (Q:VK),bG X pins σ H s→cG x v→s.heap.IsSliceOf sl vl vu .none→IsPart vl lo→IsPart vu hi→r x lo hi H Q →
  ∃ T id,typeLookup (.type T) "__getitem__"=pure (some (.builtin id))∧s.TypeIs v T∧wpAny (model X.prog X.w) X.A (getItem v (.ref sl)) (EP X pins σ Q) X.xe s
def tSl (r:V→Option Int→Option Int→Hp→VK→Prop) (te:TE) (tl th:TO):TE:=fun σ H Q=>te σ H fun x H1=>tl σ H1 fun l H2=>th σ H2 fun u H3=>r x l u H3 Q
theorem aH1 {r:V→Option Int→Option Int→Hp→VK→Prop} (hr:SlR X r) (he:PE X e te) (hl:PO X lo tl) (hu:PO X hi th):PE X (.Subscript e (.Slice lo hi none p2) pos) (tSl r te tl th):=by
 intro pins s σ H Q I h
 refine Subscript_ (fG (he pins s σ H _ I h) fun v s1 ⟨x,H1,I1,r1,q1⟩=>?_)
 refine wpAny_Slice (fG (hl pins s1 σ H1 _ I1 q1) fun vl s2 ⟨l,H2,I2,pl,q2⟩=>fG (hu pins s2 σ H2 _ I2 q2) fun vu s3 ⟨u,H3,I3,pu,q3⟩=>?_)
 rw [evalPart_none]
 refine wpAny_pure ?_
 have I4:bG X pins σ H3 { s3 with heap:=s3.heap.push { cls:=.type "slice",data:=.fields #[vl,vu,.none] } }:=I3.kept (t':=s3.toks) fun b ob q=>Heap.get?_push_of_some _ q
 obtain ⟨T,id,hT,ht,hg⟩:=hr pins { s3 with heap:=s3.heap.push { cls:=.type "slice",data:=.fields #[vl,vu,.none] } } σ H3 x v vl vu l u s3.heap.objs.size Q I4 r1 (Heap.IsSliceOf.new ..) pl pu q3
 show wpAny (model X.prog X.w) X.A (subscriptTail e (.Slice lo hi none p2) v (.ref s3.heap.objs.size)) (EP X pins σ Q) X.xe { s3 with heap:=s3.heap.push { cls:=.type "slice",data:=.fields #[vl,vu,.none] } }
 exact tail_any (ops:=[.ref s3.heap.objs.size,v]) ht hT hg (by with_unfolding_all rfl)
def aGe (xs:List V) (lo hi:Option Int):List V:=(xs.drop (HT.sIx xs.length 0 lo)).take (HT.sIx xs.length xs.length hi-HT.sIx xs.length 0 lo)
theorem aDT (xs:List V) (lo hi:Option Int):(aGe xs lo hi).length≤xs.length:=by
 unfold aGe
 rw [List.length_take,List.length_drop]
 omega
def aMg (K:PySem.W.Frag):R2:=fun x y H Q=>∃ a b xs ys,x = .ref a∧y = .ref b∧fY K H a xs∧fY K H b ys∧xs≠[]∧xs.length+ys.length≤sizeLine ∧
 (ys=[]→Q (.ref a) H)∧(ys≠[]→∀ p,H p=none→Q (.ref p) (upd H p (.tup (xs++ys))))
theorem cE.nil_iff {xs:List V}{us:List Value} (r:cE xs us):us=[]↔xs=[]:=by
 cases r with
 | nil=>simp
 | cons _ _=>simp
theorem aJo:tK X (binaryOp .Add) (aMg X.K):=by
 intro pins s σ H x y v u Q I rx ry h
 obtain ⟨a,b,xs,ys,rfl,rfl,ha,hb,hx,hz,q1,q2⟩:=h
 cases rx
 cases ry
 obtain ⟨its,r1,p1,_⟩:=I.tuple ha
 obtain ⟨its2,r2,p2,_⟩:=I.tuple hb
 refine HT.cat_tup p1 p2 (fun z=>hx (r1.nil_iff.mp z)) (fun z=>⟨.ref a,H,I,rfl,q1 (r2.nil_iff.mp z)⟩) (fun z=>?_) (by rw [← r1.length,← r2.length];exact hz)
 refine ⟨.ref s.heap.objs.size,_,I.laid (t':=s.toks) (o:=.tup (xs++ys)) (fun b ob q=>Heap.get?_push_of_some _ q) (Nat.le_refl _) ?_,rfl,q2 (fun w=>z (r2.nil_iff.mpr w)) _ (I.hok.fresh (Nat.le_refl _))⟩
 exact ⟨by rw [List.length_append];exact hz,_,r1.append r2,IsTup.new _ _⟩
end
def ixN (n:Nat) (i:Int):Option Nat:=if 0≤i then (if i<n then some i.toNat else none) else if -(n:Int)≤i then some (i+n).toNat else none
def gT {α:Type} (xs:List α) (i:Int):Option α:=(ixN xs.length i).bind fun j=>xs[j]?
theorem aKb {n:Nat}{i:Int}{j:Nat} (h:ixN n i=some j):seqIndex? i n=some j∧j<n ∧ -(n:Int)≤i∧i<n:=by
 unfold ixN at h
 by_cases h0:0≤i
 ·rw [if_pos h0] at h
  by_cases h1:i<n
  ·rw [if_pos h1] at h
   have e:i.toNat=j:=Option.some.inj h
   exact ⟨by rw [seqIndex_of h0 h1,e],by omega,by omega,h1⟩
  ·rw [if_neg h1] at h;cases h
 ·rw [if_neg h0] at h
  by_cases h1 : -(n:Int)≤i
  ·rw [if_pos h1] at h
   have e:(i+n).toNat=j:=Option.some.inj h
   exact ⟨by rw [seqIndex_neg (by omega) h1,e],by omega,h1,by omega⟩
  ·rw [if_neg h1] at h;cases h
theorem aBW {α:Type}{xs:List α}{i:Int}{v:α} (h:gT xs i=some v):∃ j,seqIndex? i xs.length=some j∧xs[j]? = some v∧j<xs.length ∧ -(xs.length:Int)≤i∧i<xs.length:=by
 unfold gT at h
 cases e:ixN xs.length i with
 | none=>rw [e] at h;cases h
 | some j=>
  rw [e] at h
  obtain ⟨h1,h2,h3,h4⟩:=aKb e
  exact ⟨j,h1,h,h2,h3,h4⟩
theorem xI {α:Type}{xs:List α}{j:Nat}{v:α} (h:xs[j]? = some v):gT xs (j:Int)=some v:=by
 have hj:j<xs.length:=(List.getElem?_eq_some_iff.mp h).1
 have e:ixN xs.length (j:Int)=some j:=by
  unfold ixN
  rw [if_pos (by omega),if_pos (by omega)];simp
 unfold gT;rw [e];exact h
def aEU (b:Expr):Prop:=∀ o i,subscripted b false o i=operate [o,i] (getItem o i)
def IxR (X:Cx) (r:R2):Prop:=
 ∀ (value slice:Expr) (pins:List (Addr×Obj)) (s:Shared) (σ:St) (H:Hp) (x y:V) (v u:Value) (Q:VK),bG X pins σ H s→cG x v→cG y u→r x y H Q →
  subscripted slice false v u=operate [v,u] (getItem v u)→wpAny (model X.prog X.w) X.A (subscriptTail value slice v u) (EP X pins σ Q) X.xe s
def MtR (X:Cx) (id:String) (r:V→List V→Hp→VK→Prop):Prop:=
 ∀ (pins:List (Addr×Obj)) (s:Shared) (σ:St) (H:Hp) (x:V) (xs:List V) (v:Value) (us:List Value) (Q:VK),bG X pins σ H s→cG x v→cE xs us→r x xs H Q →
  wpAny (model X.prog X.w) X.A (call (.builtin id) (v::us)) (EP X pins σ Q) X.xe s
section
variable {X:Cx}{a b:Expr}{ta tb:TE}{pos:Pos}
theorem IxR.or {r r':R2} (h:IxR X r) (h':IxR X r'):IxR X (fun x y H Q=>r x y H Q∨r' x y H Q):=by
 intro value slice pins s σ H x y v u Q I rx ry q hs
 rcases q with q | q
 ·exact h value slice pins s σ H x y v u Q I rx ry q hs
 ·exact h' value slice pins s σ H x y v u Q I rx ry q hs
theorem aMu {r:R2} (hr:IxR X r) (ha:PE X a ta) (hb:PE X b tb) (hs:aEU b):PE X (.Subscript a b pos) (tOp r ta tb):=by
 intro pins s σ H Q I h
 exact Subscript_ (aKv ha hb I h fun v u s2 x y H2 I2 rx ry q=>hr a b pins s2 σ H2 x y v u Q I2 rx ry q (hs _ _))
def aLS (K:PySem.W.Frag):R2:=fun x y H Q=>∃ p xs i v,x = .ref p∧y = .int i∧jS K H p xs∧gT xs i=some v∧Q v H
def aLO (K:PySem.W.Frag):R2:=fun x y H Q=>∃ p xs i v,x = .ref p∧y = .int i∧fY K H p xs∧gT xs i=some v∧Q v H
def aMp:R2:=fun x y H Q=>∃ z i c,x = .str z∧y = .int i∧z.length≤sizeLine∧gT z.cps.toList i=some c∧Q (.str ⟨#[c]⟩) H
theorem aJC:IxR X (aLS X.K):=by
 intro value slice pins s σ H x y v u Q I rx ry h hs
 obtain ⟨p,xs,i,z,rfl,rfl,hq,he,q⟩:=h
 cases rx
 obtain ⟨t,rfl⟩:=ry
 obtain ⟨its,r,pl,hz⟩:=I.list hq
 obtain ⟨j,h1,h2,h3,h4,h5⟩:=aBW he
 obtain ⟨w,ew,rw'⟩:=r.get h2
 have hl:=r.length
 have hn:=zM
 have fin:EP X pins σ Q w s:=⟨z,H,I,rw',q⟩
 by_cases h0:0≤i
 ·have hj:i.toNat=j:=by
   rw [seqIndex_of h0 h5] at h1
   exact Option.some.inj h1
  exact item_listR pl.isList h0 (by omega) (by rw [hj];simpa using ew) fin hs
 ·have hj:(i+(its.toArray.size:Int)).toNat=j:=by
   rw [seqIndex_neg (by omega) h4] at h1
   rw [List.size_toArray,← hl]
   exact Option.some.inj h1
  exact subscriptTail_builtinR (x:=w) pl.isList.typeIs slot_list_getitem.lookup
   (wpAny_getItem_list_neg (Q:=fun r s'=>r=w∧EP X pins σ Q r s') pl.isList (by omega) (by rw [List.size_toArray] <;> omega) (by omega) (by rw [hj];simpa using ew) ⟨rfl,fin⟩) hs
theorem aLE:IxR X (aLO X.K):=by
 intro value slice pins s σ H x y v u Q I rx ry h hs
 obtain ⟨p,xs,i,z,rfl,rfl,hq,he,q⟩:=h
 cases rx
 obtain ⟨t,rfl⟩:=ry
 obtain ⟨its,r,pl,hz⟩:=I.tuple hq
 obtain ⟨j,h1,h2,h3,h4,h5⟩:=aBW he
 obtain ⟨w,ew,rw'⟩:=r.get h2
 have hl:=r.length
 have hn:=zM
 have fin:EP X pins σ Q w s:=⟨z,H,I,rw',q⟩
 exact subscriptTail_builtinR (x:=w) pl.typeIs slot_tuple_getitem.lookup
  (getItem_tuple (j:=j) (Q:=fun r s'=>r=w∧EP X pins σ Q r s') pl (by omega) (by omega) (by rw [List.size_toArray,← hl];exact h1) (by simpa using ew) ⟨rfl,fin⟩) hs
theorem aKU:IxR X aMp:=by
 intro value slice pins s σ H x y v u Q I rx ry h hs
 obtain ⟨z,i,c,rfl,rfl,hz,he,q⟩:=h
 obtain ⟨t,rfl⟩:=rx
 obtain ⟨t',rfl⟩:=ry
 obtain ⟨j,h1,h2,h3,h4,h5⟩:=aBW he
 have hl:z.cps.toList.length=z.length:=by simp [Str.length]
 rw [hl] at h1 h4 h5
 have hn:=zM
 exact tail_any (typeIs_str s z t) slot_str_getitem.lookup (getItem_str (c:=c) (by
  have e1:decide (i < -(2 ^ 63:Int))=false:=decide_eq_false (by omega)
  have e2:decide (i ≥ 2 ^ 63)=false:=decide_eq_false (by omega)
  rw [e1,e2,Bool.or_false]) (by rw [h1];simpa using h2) ⟨.str ⟨#[c]⟩,H,I.tok _,⟨_,rfl⟩,q⟩) hs
def rIx (K:PySem.W.Frag):R2:=fun x y H Q=>aLS K x y H Q∨aLO K x y H Q∨aMp x y H Q
theorem aK6:IxR X (rIx X.K):=aJC.or (aLE.or aKU)
theorem aCc (lo hi:Option Int) (n:Nat):(sliceBounds lo hi none n).1=((HT.sIx n 0 lo:Nat):Int)∧(sliceBounds lo hi none n).2.1=((HT.sIx n n hi:Nat):Int)∧(sliceBounds lo hi none n).2.2=1:=by
 refine ⟨?_,?_,rfl⟩
 ·cases lo with
  | none=>simp [sliceBounds,HT.sIx]
  | some i=>
   simp only [sliceBounds,HT.sIx,Option.getD_none,show (1:Int) > 0 by decide,if_true]
   by_cases h:i<0
   ·simp only [h,if_true] <;> omega
   ·simp only [h,if_false] <;> omega
 ·cases hi with
  | none=>simp [sliceBounds,HT.sIx]
  | some i=>
   simp only [sliceBounds,HT.sIx,Option.getD_none,show (1:Int) > 0 by decide,if_true]
   by_cases h:i<0
   ·simp only [h,if_true] <;> omega
   ·simp only [h,if_false] <;> omega
theorem aAl (its:List Value) (lo hi:Option Int):slicePick its.toArray lo hi none=((its.drop (HT.sIx its.length 0 lo)).take (HT.sIx its.length its.length hi-HT.sIx its.length 0 lo)).toArray:=by
 obtain ⟨h1,h2,h3⟩:=aCc lo hi its.toArray.size
 unfold slicePick
 rw [h1,h2,h3]
 simp only [sliceRange_one,pick_run,List.size_toArray] <;> rfl
def aM7 (K:PySem.W.Frag):V→Option Int→Option Int→Hp→VK→Prop:=fun x lo hi H Q=>∃ a xs,x = .ref a∧jS K H a xs∧∀ p,H p=none→Q (.ref p) (upd H p (.lst (aGe xs lo hi)))
theorem aI3:SlR X (aM7 X.K):=by
 intro pins s σ H x v vl vu lo hi sl Q I rx hs pl pu h
 obtain ⟨a,xs,rfl,hx,q⟩:=h
 cases rx
 obtain ⟨its,r,ht,hz⟩:=I.list hx
 have hlen:=r.length
 refine ⟨"list",_,slot_list_getitem.lookup,ht.isList.typeIs,?_⟩
 refine wpAny_getItem_list_slice ht.isList hs pl pu .none (by simp) ?_ (by rw [List.size_toArray] <;> omega)
 rw [aAl,← hlen]
 refine ⟨.ref s.heap.objs.size,_,I.laid (t':=s.toks) (o:=.lst (aGe xs lo hi)) (fun b ob q=>Heap.get?_push_of_some _ q) (Nat.le_refl _) ?_,rfl,q _ (I.hok.fresh (Nat.le_refl _))⟩
 exact ⟨Nat.le_trans (aDT xs lo hi) hz,_,0,(r.drop (HT.sIx xs.length 0 lo)).take (HT.sIx xs.length xs.length hi-HT.sIx xs.length 0 lo),Heap.get?_push_size _ rfl⟩
theorem aBN:nO X (.builtin "len") (fun xs H Q=>∃ p ys,xs=[.ref p]∧(jS X.K H p ys∨fY X.K H p ys)∧Q (.int ys.length) H):=by
 intro pins s σ H xs us Q I r h
 obtain ⟨p,ys,rfl,hq,q⟩:=h
 obtain ⟨u,rfl,rx⟩:=tN r
 cases rx
 have hn:=zM
 rcases hq with hq | hq
 ·obtain ⟨its,r',pl,hz⟩:=I.list hq
  have hlen:=r'.length
  exact Calls.call_len_list pl.isList (by simp only [List.size_toArray] <;> omega) ⟨.int ys.length,H,I.tok _,⟨s.toks+1,by rw [List.size_toArray,hlen]⟩,q⟩
 ·obtain ⟨its,r',pl,hz⟩:=I.tuple hq
  have hlen:=r'.length
  exact len_tuple pl (by simp only [List.size_toArray] <;> omega) ⟨.int ys.length,H,I.tok _,⟨s.toks+1,by rw [List.size_toArray,hlen]⟩,q⟩
theorem aAc:nO X (.type "tuple") (fun xs H Q=>∃ p ys,xs=[.ref p]∧((jS X.K H p ys∧∀ l,H l=none→Q (.ref l) (upd H l (.tup ys)))∨(fY X.K H p ys∧Q (.ref p) H))):=by
 intro pins s σ H xs us Q I r h
 obtain ⟨p,ys,rfl,h⟩:=h
 obtain ⟨u,rfl,rx⟩:=tN r
 cases rx
 rcases h with ⟨hq,q⟩ | ⟨hq,q⟩
 ·obtain ⟨its,r',pl,hz⟩:=I.list hq
  have hlen:=r'.length
  refine call_tuple_list pl.isList (fun h' kp=>?_) (by simp only [List.size_toArray] <;> omega)
  have I1:bG X pins σ H { s with heap:=h' }:=I.kept (t':=s.toks) kp
  have I2:bG X pins σ (upd H h'.objs.size (.tup ys)) { s with heap:=h'.push { cls:=.type "tuple",data:=.seq its.toArray } }:=
   I1.laid (t':=s.toks) (fun b o e=>Heap.get?_push_of_some _ e) (Nat.le_refl _) (show gE X.prog X.w _ _ _ (.tup ys) from ⟨hz,its,r',IsTup.new _ _⟩)
  exact ⟨.ref h'.objs.size,_,I2,rfl,q _ (I1.hok.fresh (Nat.le_refl _))⟩
 ·obtain ⟨its,r',pl,hz⟩:=I.tuple hq
  exact call_tuple_same pl ⟨.ref p,H,I,rfl,q⟩
def tyV (K:PySem.W.Frag) (T:String) (x:V) (H:Hp):Prop:=match x with
 | .str _=>T="str"
 | .int _=>T="int"
 | .ref p=>(T="list"∧∃ xs,jS K H p xs)∨(T="tuple"∧∃ o,K.lookup p=some o∧o.cls = .type "tuple"∧o.dict=none) ∨
   (T="dict"∧((∃ kvs,H p=some (.dK kvs))∨∃ K' f kvs,H p=some (.dT K' f kvs)))∨(T="set"∧∃ S n,H p=some (.set S n))
 | _=>False
theorem aID {pins:List (Addr×Obj)}{σ:St}{H:Hp}{s:Shared}{T:String}{x:V}{v:Value} (I:bG X pins σ H s) (r:cG x v) (ty:tyV X.K T x H) :
  s.TypeIs v T∧∀ a,v = .ref a→∃ ob,s.heap.get? a=some ob∧ob.dict=none:=by
 cases x with
 | str z=>
  obtain ⟨t,rfl⟩:=r
  cases (show T="str" from ty)
  exact ⟨typeIs_str s z t,fun _ e=>nomatch e⟩
 | int i=>
  obtain ⟨t,rfl⟩:=r
  cases (show T="int" from ty)
  exact ⟨typeIs_int s i t,fun _ e=>nomatch e⟩
 | ref p=>
  cases r
  rcases ty with ⟨rfl,xs,hq⟩ | ⟨rfl,o,hk,hc,hd⟩ | ⟨rfl,hk⟩ | ⟨rfl,S,n,hk⟩
  ·obtain ⟨its,_,pl,_⟩:=I.list hq
   refine ⟨pl.isList.typeIs,fun a e=>?_⟩
   cases e
   obtain ⟨o,n,e,c,hd,_⟩:=pl
   exact ⟨o,e,hd⟩
  ·refine ⟨⟨o,I.kIn p o hk,hc⟩,fun a e=>?_⟩
   cases e
   exact ⟨o,I.kIn _ o hk,hd⟩
  ·have z:∃ o,s.heap.get? p=some o∧o.ExactDict:=by
    rcases hk with ⟨kvs,hk⟩ | ⟨_,_,kvs,hk⟩
    ·obtain ⟨_,_,_,_,o,_,_,e,ex,_⟩:=I.hok p _ hk
     exact ⟨o,e,ex⟩
    ·obtain ⟨_,_,_,_,o,_,_,e,ex,_⟩:=I.hok p _ hk
     exact ⟨o,e,ex⟩
   obtain ⟨o,e,ex⟩:=z
   refine ⟨⟨o,e,ex.1⟩,fun a e2=>?_⟩
   cases e2
   exact ⟨o,e,ex.2.1⟩
  ·obtain ⟨o,_,_,_,e,ex,_⟩:=I.hok p _ hk
   refine ⟨⟨o,e,ex.1⟩,fun a e2=>?_⟩
   cases e2
   exact ⟨o,e,ex.2.1⟩
 | _=>exact False.elim ty
def aLZ (K:PySem.W.Frag) (T:String) (r:V→List V→Hp→VK→Prop) (to:TE):TE:=fun σ H Q=>to σ H fun x H1=>tyV K T x H1∧r x [] H1 Q
def tBM (K:PySem.W.Frag) (T:String) (r:V→List V→Hp→VK→Prop) (to:TE) (t:TA):TE:=fun σ H Q=>to σ H fun x H1=>tyV K T x H1∧t σ H1 fun xs H2=>r x xs H2 Q
variable {o e:Expr}{es:List Expr}{to:TE}{t:TA}{name:Str}{apos cpos:Pos}{T id:String}{r:V→List V→Hp→VK→Prop}
theorem aK7 (pa:PlainAttrs T) (slot:Slot T name id) (hty:typeOf (.builtin id)=pure (.type "method_descriptor")) (hm:MtR X id r) (ho:PE X o to)
  (hbase:attributeBase o name X.env (eval o X.env)=eval o X.env:=by rfl) (hline:(apos.endLine == cpos.line)=true:=by rfl):PE X (.Call (.Attribute o name apos) [] [] cpos) (aLZ X.K T r to):=by
 intro pins s σ H Q I h
 refine wpAny_Call_method0_late hbase hline (fG (ho pins s σ H _ I h) fun v s1 ⟨x,H1,I1,r1,ty,q1⟩=>?_)
 obtain ⟨h1,h2⟩:=aID I1 r1 ty
 exact ⟨T,id,pa,slot,hty,h1,h2,Calls.callWith_builtin rfl (PySem.evalArgs_none (hm pins s1 σ H1 x [] v [] Q I1 r1 .nil q1))⟩
theorem nL (pa:PlainAttrs T) (slot:Slot T name id) (hty:typeOf (.builtin id)=pure (.type "method_descriptor")) (hm:MtR X id r) (ho:PE X o to) (ha:PA X (e::es) t)
  (hbase:attributeBase o name X.env (eval o X.env)=eval o X.env:=by rfl)
  (hfew:((backTo cpos (starEach (e::es) X.env)).all (fun x=>!x.1) && (backToKw cpos (keywordEach [] X.env)).all (fun x=>x.1.isSome)
   && decide ((e::es).length+([]:List Keyword).length+(if ([]:List Keyword).isEmpty then 0 else 1)<30))=true:=by rfl)
  (hline:(apos.endLine == cpos.line)=true:=by rfl) (hs:starEach (e::es) X.env=(false,eval e X.env)::starEach es X.env:=by rfl) (hplain:(backTo cpos (starEach es X.env)).any (·.1)=false:=by rfl) :
  PE X (.Call (.Attribute o name apos) (e::es) [] cpos) (tBM X.K T r to t):=by
 intro pins s σ H Q I h
 refine wpAny_Call_method_late hbase hfew hline rfl (fG (ho pins s σ H _ I h) fun v s1 ⟨x,H1,I1,r1,ty,q1⟩=>?_)
 obtain ⟨h1,h2⟩:=aID I1 r1 ty
 refine ⟨T,id,pa,slot,hty,h1,h2,?_⟩
 have hA:=ha cpos pins s1 σ H1 _ I1 q1
 rw [hs] at hA ⊢
 refine Calls.callWith_builtin (by show (false || (backTo cpos (starEach es X.env)).any (·.1))=false;rw [hplain] <;> rfl) (Calls.evalArgs_plain ?_)
 exact fG hA fun us s2 ⟨vs,H2,I2,r2,q2⟩=>hm pins s2 σ H2 x vs v us Q I2 r1 r2 q2
end
def MtM (X:Cx) (id:String) (r:V→List V→Hp→VK→Prop):Prop:=
 ∀ (pins:List (Addr×Obj)) (s:Shared) (σ:St) (H:Hp) (x:V) (xs:List V) (v:Value) (us:List Value) (Q:VK),bG X pins σ H s→cG x v→cE xs us→r x xs H Q →
  wpAny (model X.prog X.w) X.A (call (.builtin id) (v::us)) (EP X pins σ Q) X.xe s
theorem cE.one:∀ {x:V}{us:List Value},cE [x] us→∃ u,us=[u]∧cG x u
 | _,_,.cons r .nil=>⟨_,rfl,r⟩
theorem cE.zero:∀ {us:List Value},cE [] us→us=[]
 | _,.nil=>rfl
theorem cE.dropLast {xs:List V}{us:List Value} (h:cE xs us):cE xs.dropLast us.dropLast:=by
 induction h with
 | nil=>exact .nil
 | cons r t ih=>
  cases t with
  | nil=>exact .nil
  | cons q t'=>exact .cons r ih
theorem cE.rep {xs:List V}{us:List Value} (h:cE xs us):∀ k:Nat,cE (List.replicate k xs).flatten (List.replicate k us).flatten
 | 0=>.nil
 | k+1=>by
  rw [List.replicate_succ,List.replicate_succ,List.flatten_cons,List.flatten_cons]
  exact cE.append h (cE.rep h k)
theorem aEm {α:Type} (l:List α):l.eraseIdx (l.length-1)=l.dropLast:=by
 induction l with
 | nil=>rfl
 | cons a r ih=>
  cases r with
  | nil=>rfl
  | cons b r=>
   have e:(a::b::r).length-1=((b::r).length-1)+1:=by
    have h1:(a::b::r).length=r.length+2:=rfl
    have h2:(b::r).length=r.length+1:=rfl
    omega
   rw [e,List.eraseIdx_cons_succ,ih]
   all_goals rfl
theorem rG (its:List Value):∀ (k:Nat) (acc:List Value),
  List.foldl (fun x1 x2=>x1++x2) acc.toArray (List.replicate k its.toArray)=(acc++(List.replicate k its).flatten).toArray
 | 0,acc=>by simp
 | k+1,acc=>by
  have e:acc.toArray++its.toArray=(acc++its).toArray:=by simp
  have e2:(acc++its)++(List.replicate k its).flatten=acc++(List.replicate (k+1) its).flatten:=by
   rw [List.replicate_succ,List.flatten_cons,List.append_assoc]
  rw [← e2,← rG its k (acc++its),← e,List.replicate_succ,List.foldl_cons]
section
variable {X:Cx}{pins:List (Addr×Obj)}{σ:St}{H:Hp}{s:Shared}{l b:Addr}{xs ys zs:List V}
theorem bG.lset {its its':List Value}{n:Nat}{f:Array Value→Array Value}{t':Nat} (I:bG X pins σ H s) (hH:H l=some (.lst xs))
  (e:s.heap.get? l=some { cls:=.type "list",data:=.seq its.toArray n }) (hf:f its.toArray=its'.toArray) (hv:cE ys its') (hz:ys.length≤sizeLine) :
  bG X pins σ (upd H l (.lst ys)) { s with heap:=s.heap.update l (Obj.mapSeq f),toks:=t' }:=by
 have q:=PySem.IsL.update e f
 rw [hf] at q
 refine I.write (x:=l) (e:=l) (by rw [hH];exact trivial) (.inl rfl) (fun b' u hb hu=>(Heap.get?_update_other s.heap (Obj.mapSeq f) (Ne.symm hb)).trans hu) ⟨_,q⟩ ?_
 exact ⟨hz,its',_,hv,q⟩
theorem bG.lnew {its:List Value}{t':Nat} (I:bG X pins σ H s) (hv:cE ys its) (hz:ys.length≤sizeLine) :
  bG X pins σ (upd H s.heap.objs.size (.lst ys)) { s with heap:=s.heap.push { cls:=.type "list",data:=.seq its.toArray },toks:=t' }:=
 I.laid (fun _ _ q=>Heap.get?_push_of_some _ q) (Nat.le_refl _) ⟨hz,its,0,hv,Heap.get?_push_size _ rfl⟩
theorem bG.fresh (I:bG X pins σ H s):H s.heap.objs.size=none:=I.hok.fresh (Nat.le_refl _)
theorem bG.lstM (I:bG X pins σ H s) (hH:H l=some (.lst xs)):xs.length≤sizeLine∧∃ (its:List Value) (n:Nat),cE xs its∧xs.length=its.length∧s.heap.get? l=some { cls:=.type "list",data:=.seq its.toArray n }:=by
 obtain ⟨z,its,n,r,e⟩:=I.hok l _ hH
 exact ⟨z,its,n,r,r.length,e⟩
theorem aDV {n:Nat} (h:n≤sizeLine):Builtin.List.listTooLong n=false:=by
 unfold Builtin.List.listTooLong
 exact decide_eq_false (by omega)
end
section
variable {X:Cx}
def aEY:V→List V→Hp→VK→Prop:=fun x vs H Q=>∃ l xs y,x = .ref l∧vs=[y]∧H l=some (.lst xs)∧xs.length<sizeLine∧Q .non (upd H l (.lst (xs++[y])))
theorem e7:MtM X "list.append" aEY:=by
 intro pins s σ H x vs v us Q I rx rv h
 obtain ⟨l,xs,y,rfl,rfl,hH,hz,q⟩:=h
 cases rx
 obtain ⟨u,rfl,ru⟩:=rv.one
 obtain ⟨z,its,n,r,hl,e⟩:=I.lstM hH
 refine call_meets F.slot_list_append ⟨_,e,rfl⟩ F.entry_list_append (F.args_list_append_2 _ _) (PySem.list_append l its.toArray n u (by rw [List.size_toArray];omega)) ⟨e,?_⟩
 refine ⟨.non,_,I.lset (its':=its++[u]) hH e (by simp) (r.append (.cons ru .nil)) ?_,rfl,q⟩
 rw [List.length_append,List.length_singleton]
 omega
def aE6:V→List V→Hp→VK→Prop:=fun x vs H Q=>∃ l b xs zs,x = .ref l∧vs=[.ref b]∧H l=some (.lst xs)∧H b=some (.lst zs)∧xs.length+zs.length≤sizeLine∧Q .non (upd H l (.lst (xs++zs)))
theorem aFR:MtM X "list.extend" aE6:=by
 intro pins s σ H x vs v us Q I rx rv h
 obtain ⟨l,b,xs,zs,rfl,rfl,hH,hB,hz,q⟩:=h
 cases rx
 obtain ⟨u,rfl,ru⟩:=rv.one
 cases ru
 obtain ⟨z,its,n,r,hl,e⟩:=I.lstM hH
 obtain ⟨z2,its2,n2,r2,hl2,e2⟩:=I.lstM hB
 have hsz:its.toArray.size+its2.toArray.size≤sizeLine:=by rw [List.size_toArray,List.size_toArray];omega
 have hlong:¬ (!its.toArray.isEmpty && Builtin.List.listTooLong (its.toArray.size+its2.toArray.size))=true:=by
  rw [aDV hsz,Bool.and_false]
  exact Bool.false_ne_true
 refine call_meets F.slot_list_extend ⟨_,e,rfl⟩ F.entry_list_extend (F.args_list_extend_2 _ _)
  (AutoSeq1.list_extend_list_list_0 l its.toArray n b its2.toArray n2 hlong (by rw [List.size_toArray];omega) (by omega)) ⟨e,e2,?_⟩
 refine ⟨.non,_,I.lset (its':=its++its2) hH e (by simp) (r.append r2) ?_,rfl,q⟩
 rw [List.length_append]
 omega
def aMb:V→List V→Hp→VK→Prop:=fun x vs H Q=>∃ l xs y,x = .ref l∧vs=[]∧H l=some (.lst xs)∧xs[xs.length-1]? = some y∧Q y (upd H l (.lst xs.dropLast))
theorem aLh:MtM X "list.pop" aMb:=by
 intro pins s σ H x vs v us Q I rx rv h
 obtain ⟨l,xs,y,rfl,rfl,hH,hy,q⟩:=h
 cases rx
 have hus:=rv.zero
 subst hus
 obtain ⟨z,its,n,r,hl,e⟩:=I.lstM hH
 obtain ⟨u,hu,ru⟩:=r.get hy
 have hy':its.toArray[its.toArray.size-1]? = some u:=by
  show its.toArray[its.length-1]? = some u
  rw [← Array.getElem?_toList,← hl]
  exact hu
 refine call_meets F.slot_list_pop ⟨_,e,rfl⟩ F.entry_list_pop (F.args_list_pop_1 _) (MeetsSeq.list_pop_last l its.toArray n u hy' (by rw [List.size_toArray];omega)) ⟨e,?_⟩
 refine ⟨y,_,I.lset (its':=its.dropLast) hH e ?_ r.dropLast ?_,ru,q⟩
 ·show its.toArray.eraseIdxIfInBounds (its.toArray.size-1)=its.dropLast.toArray
  rw [List.size_toArray,List.eraseIdxIfInBounds_toArray,aEm]
 ·rw [List.length_dropLast]
  omega
def aNd:R2:=fun x y H Q=>∃ l k xs,x = .ref l∧y = .int k∧H l=some (.lst xs) ∧ -(2 ^ 63)≤k∧k<2 ^ 63∧xs.length * k.toNat≤sizeLine ∧
 ∀ p,H p=none→Q (.ref p) (upd H p (.lst (List.replicate k.toNat xs).flatten))
theorem aCg {α:Type} (xs:List α) (k:Nat):(List.replicate k xs).flatten.length=k * xs.length:=by
 induction k with
 | zero=>simp
 | succ k ih=>rw [List.replicate_succ,List.flatten_cons,List.length_append,ih,Nat.succ_mul,Nat.add_comm]
theorem aKs:tK X (binaryOp .Mult) aNd:=by
 intro pins s σ H x y v u Q I rx ry h
 obtain ⟨l,k,xs,rfl,rfl,hH,h1,h2,hz,q⟩:=h
 cases rx
 obtain ⟨t,rfl⟩:=ry
 obtain ⟨z,its,n,r,hl,e⟩:=I.lstM hH
 have hlen:its.toArray.size * k.toNat≤sizeLine:=by rw [List.size_toArray,← hl];exact hz
 have hcap:¬ its.toArray.size * k.toNat > (2 ^ 63-1) / 8:=by
  have:(sizeLine:Nat)≤(2 ^ 63-1) / 8:=by decide
  omega
 have hfit:¬ (!Builtin.List.listFitsIndex k)=true:=by
  rw [fitsIndex_both h1 h2]
  exact Bool.false_ne_true
 have hlong:¬ Builtin.List.listTooLong (its.toArray.size * k.toNat)=true:=by
  rw [aDV hlen]
  exact Bool.false_ne_true
 have hnew:List.foldl (fun x1 x2=>x1++x2) #[] (List.replicate (if its.toArray.isEmpty=true then 0 else k.toNat) its.toArray)=(List.replicate k.toNat its).flatten.toArray:=by
  have f0:∀ m:Nat,List.foldl (fun x1 x2=>x1++x2) #[] (List.replicate m its.toArray)=(List.replicate m its).flatten.toArray:=fun m=>by
   have:=rG its m []
   rw [List.nil_append] at this
   exact this
  rw [f0]
  cases its with
  | nil=>simp
  | cons a r'=>rw [if_neg (by simp)]
 refine wpAny_binaryOp_repeat_ref (T:="list") (U:="int") (by decide) ⟨_,e,rfl⟩ (fun s'=>typeIs_int s' k t) noFill_list_mul F.fills_int_mul F.slot_int_rmul repeat_list F.slot_int_index.lookup
  (call_meets F.slot_int_rmul (typeIs_int s k t) F.entry_int_rmul (F.args_int_rmul_2 _ _) (int___rmul___int_list k t l its.toArray n)
   ⟨e,rfl,⟨_,e,rfl⟩,call_meets F.slot_list_mul ⟨_,e,rfl⟩ F.entry_list_mul (F.args_list_mul_2 _ _) (AutoListH.list___mul___list_int_3 l its.toArray n k t hfit hcap hlong) ⟨e,?_⟩⟩)
 rw [hnew]
 exact ⟨.ref _,_,I.lnew (t':=s.toks) (r.rep k.toNat) (by rw [aCg,Nat.mul_comm];exact hz),rfl,q _ I.fresh⟩
end
section
variable {prog:Program}{w:World}{A:Around}{E:Value→Shared→Prop}{s:Shared}
end
section
variable {X:Cx}
end
end L2
namespace Att
open PySem PySem.W PySem.Calls PyProof.Rows
theorem wR {P:Params}{h:Heap}:∀ (ns:List Int) (vs:List Value),WellAll P h vs (ns.map WData.int)→IntsAre vs ns:=by
 intro ns
 induction ns with
 | nil=>
  intro vs w
  rw [List.map_nil] at w
  cases w
  exact .nil
 | cons n ns ih=>
  intro vs w
  rw [List.map_cons] at w
  cases w with
  | cons a b=>
   cases a
   exact .cons _ _ (ih _ b)
theorem aGG {l:OpenLaw}{n:Nat} (hn:l.most=some n) {P:Params}{h:Heap}{args:List WData}{vals:List Value}
  (hpre:l.row.toRowW.claim.pre args=true) (hwl:WellAll P h vals args) :
  ∃ a vs ns,vals=[Value.ref a]∧args=[WData.list (ns.map WData.int)]∧h.get? a=some { cls:=.type "list",data:=.seq vs.toArray }∧IntsAre vs ns∧ns.length≤n:=by
 have hsh:WShape.hasAll [] args [.list .int]=true:=(pre_splitW hpre).1
 have hc:l.pre.holds [] { args:=args }=true:=(pre_splitW hpre).2
 obtain ⟨d,r,rfl,h1,h2⟩:=hasAllW_cons hsh
 obtain rfl:=hasAllW_nil h2
 obtain ⟨xs,rfl,h3⟩:=hasW_list h1
 obtain ⟨ns,rfl⟩:=items_int h3
 have hlen:ns.length≤n:=by
  unfold OpenLaw.pre at hc
  have h4:(WTm.not (.lt (.lit (.int (n:Int))) (.len (.arg 0)))).holds [] { args:=[.list (ns.map .int)] }=true:=by
   have h4:=(holds_andW hc).1
   rw [hn] at h4
   exact h4
  have h5:=condW_of h4 (w_not (w_lt w_lit (w_len_list (w_arg rfl))))
  rw [List.length_map] at h5
  refine Nat.le_of_not_lt fun q=>?_
  have q':(n:Int)<((ns.length:Nat):Int):=by omega
  first
   | (rw [decide_eq_true q'] at h5;exact absurd h5 (by decide))
   | (simp at h5;omega)
 cases hwl with
 | cons w1 w2=>
  cases w2
  cases w1 with
  | list ho hall=>exact ⟨_,_,ns,rfl,rfl,ho,wR ns _ hall,hlen⟩
theorem aF6 (l:OpenLaw) (args:List WData):l.row.toRowW.claim.post args (.bool true) args=true:=
 postW_of (r:=l.row.toRowW) (X:=(true == true))
  (show WShape.has [] (.bool true) .bool=true by first | rfl | decide | simp [WShape.has,WShape.arms,WShape.armsAll])
  (show (WTm.eq .res (.lit (.bool true))).value [] { args:=args,res:=some (.bool true),after:=args }=some (.bool (true == true)) from w_eq_bool (w_res rfl) w_lit) rfl
theorem attach_call {l:OpenLaw}{n:Nat}{q:Program}{loose:List Str}{XP:(Str→Option Value)→Heap→Prop}{YP:World→Heap→Prop}{d:DefRec}
  (hn:l.most=some n) (hdf:d.params.defaults=[])
  (call:∀ (w:World) (s₀ s₁:Shared) (mg mb:Str→Option Value) (fa:Addr) (o:Obj) (pm cd doc:Value) (a:Addr) (vs:List Value) (ns:List Int),
   Ground q loose [] XP w s₀ mg mb s₁.heap→YP w s₁.heap →
   s₁.heap.get? fa=some o→o.data = .func (docDef d.name d.params d.body d.scope pm cd doc)→s₁.heap.CodeRec cd d.name→mg d.name=some (.ref fa) →
   s₁.heap.get? a=some { cls:=.type "list",data:=.seq vs.toArray }→IntsAre vs ns→ns.length≤n→s₁.gens = #[] →
   codeAny (model l.prog w) callerA (.call (.ref fa) ⟨[.ref a],[]⟩) (fun r s'=>r = .ok (.ret (.bool true))∧OldK s₁.heap s'.heap∧s'.os=s₁.os∧AllBare s'.gens) s₁) :
  WalkO q loose XP YP l.row.toRowW d [] (fun f vs=>PySem.call f vs):=by
 intro w s₀ s₁ mg mb G Y fa o pm cd doc dV kV ho hd hcd hD hmg hg args vals as hpre hlay hrd hwl hlo
 obtain rfl:dV = .none:=Dflts.none hD hdf
 obtain rfl:kV = .none:=Dflts.noKw hD
 obtain ⟨a,vs,ns,rfl,rfl,hobj,hints,hlen⟩:=aGG hn hpre hwl
 refine enter_call (codeAny_mono (call w s₀ s₁ mg mb fa o pm cd doc a vs ns G Y ho (fd_plain hd) hcd hmg hobj hints hlen hg) fun r s' hq=>?_)
 obtain ⟨rfl,h2,h3,h4⟩:=hq
 exact ⟨.inl ⟨.bool true,.bool true,[],rfl,fun _=>rfl,.bool true,aF6 l _,fun _=>⟨List.Pairwise.nil,fun _ hm=>(nomatch hm)⟩⟩,h2,h3,h4⟩
section
variable {prog:Program}{w:World}{A:Around}{E:Value→Shared→Prop}{s:Shared}{K:Frag}
end
end Att
namespace L2
open PySem PySem.Spec PyProof.Rows
theorem aAZ:∀ {vs:List Value}{ns:List Int},IntsAre vs ns→cE (ns.map V.int) vs
 | _,_,.nil=>.nil
 | _,_,.cons n t h=>.cons ⟨t,rfl⟩ (aAZ h)
def aJV (H:Hp):Prop:=∀ b,H b=none∨∃ o xs,H b=some (.frz o (.lst xs))
theorem aHF {P:Program}{w:World}{K:PySem.W.Frag}{mg mb:Str→Option Value}{CX:CXT}{k:Nat}{fa a:Addr}{fd:FuncData}{x:Str}{sp:Sp}{s₁:Shared}{vs:List Value}{ns:List Int}
  (KX:K.In s₁.heap) (hns:s₁.heap.Ns mainGlobals mg) (hb:s₁.heap.Ns builtinsNs mb) (hbb:∀ x:Str,x≠"__name__"→mb x=bootBuiltins x) (hlim:s₁.heap.NoLimit) (hg:s₁.gens = #[])
  (ha:s₁.heap.get? a=some { cls:=.type "list",data:=.seq vs.toArray }) (hi:IntsAre vs ns) (hl:ns.length≤sizeLine) (hr:cL k callerA)
  (F:∀ base:Heap,K.In base→base.Ns mainGlobals mg→uT P w K mg base CX k fa fd [x] sp) (hbind:∀ (s:Shared) (u:Value),BindsTo s fd ⟨[u],[]⟩ [(x,u)])
  (hsp:∀ H:Hp,aJV H→jS K H a (ns.map V.int)→sp [.ref a] H (fun v _=>v = .bl true) fun _ _ _=>False)
  (hCX:∀ H e s',CX [] H s₁ (fun _ _ _=>False) e s'→False) :
  codeAny (model P w) callerA (.call (.ref fa) ⟨[.ref a],[]⟩) (fun r s'=>r = .ok (.ret (.bool true))∧OldK s₁.heap s'.heap∧s'.os=s₁.os∧AllBare s'.gens) s₁:=by
 have rv:=aAZ hi
 have lenV:=hi.length
 have core:∀ H:Hp,aJV H→jS K H a (ns.map V.int)→uH P w H s₁.heap→(∀ b,H b≠none→b=a)→(H a≠none→K.lookup a=none) →
   codeAny (model P w) callerA (.call (.ref fa) ⟨[.ref a],[]⟩) (fun r s'=>r = .ok (.ret (.bool true))∧OldK s₁.heap s'.heap∧s'.os=s₁.os∧AllBare s'.gens) s₁:=by
  intro H hO hS hok hA hK
  have base_of:∀ {b:Addr}{o:Obj},s₁.heap.get? b=some o→H b=none→(aBR s₁.heap H).get? b=some o:=fun e n=>aHN e n
  have noA:∀ {b:Addr}{o:Obj}{es:Array DictEntry}{ep:Nat},s₁.heap.get? b=some o→o.data = .dict es ep→H b=none:=fun {b o es ep} e d=>by
   cases q:H b with
   | none=>rfl
   | some u=>
    have e':b=a:=hA b (by rw [q];simp)
    subst e'
    rw [ha] at e;cases e
    have d':Data.seq vs.toArray _=Data.dict es ep:=d
    cases d'
  have nsK:∀ {b:Addr}{m:Str→Option Value},s₁.heap.Ns b m→(aBR s₁.heap H).Ns b m:=fun {b m} ⟨o,es,ep,e,d,r⟩=>⟨o,es,ep,base_of e (noA e d),d,r⟩
  have hKb:K.In (aBR s₁.heap H):=fun b o e=>base_of (KX b o e) (by
   cases q:H b with
   | none=>rfl
   | some u=>
    have e':b=a:=hA b (by rw [q];simp)
    subst e'
    rw [hK (by rw [q];simp)] at e;cases e)
  have hM:Mod K mg (aBR s₁.heap H):=⟨hKb,nsK hns,⟨mb,nsK hb,hbb⟩,let ⟨mc,h1,h2⟩:=hlim; ⟨mc,nsK h1,h2⟩⟩
  have e0:aJl P w K mg (aBR s₁.heap H) callerA [] s₁ H:=⟨rfl,hM,fun b o e=>aJP e,Nat.le_of_eq (aFZ _ _),trivial,fun b hb=>absurd (show b∈([]:List Addr) from hb) (by simp),hok,.of_eq hg⟩
  refine codeAny_mono ((F _ hKb (nsK hns)).run callerA [] s₁ H ⟨[.ref a],[]⟩ [.ref a] [.ref a] _ _ hr e0 (hbind s₁ (.ref a)) (.cons rfl .nil) (hsp H hO hS)) fun r s' h=>?_
  cases r with
  | error e=>exact (hCX H e s' h).elim
  | ok fl=>
   cases fl with
   | next=>exact False.elim h
   | brk=>exact False.elim h
   | cont=>exact False.elim h
   | ret u=>
    obtain ⟨v,H',os,bare,un,hok',r',q⟩:=h
    have q':v = .bl true:=q
    subst q'
    obtain rfl:u=Value.bool true:=r'
    refine ⟨rfl,OldK.of_keep fun b o e=>?_,os,bare⟩
    cases q:H b with
    | none=>exact un.keep b o e q (by intro z;exact absurd (show b∈([]:List Addr) from z) (by simp)) (by simp)
    | some u=>
     rcases hO b with z | ⟨ob,xs,z⟩
     ·rw [q] at z;cases z
     ·have z2:=un.frzs b ob _ z
      obtain ⟨e1,_⟩:=hok b _ z
      obtain ⟨e2,_⟩:=hok' b _ z2
      rw [e] at e1;cases e1
      exact e2
 cases hk:K.lookup a with
 | some o=>
  have e:=KX a o hk
  rw [ha] at e
  cases e
  refine core (fun _=>none) (fun _=>.inl rfl) (.inr ⟨_,vs.toArray,_,hk,rfl,rfl,rfl,by rw [List.size_toArray,lenV];exact hl,by simpa using rv⟩) (fun b u z=>by have z':(none:Option HO)=some u:=z;cases z') (fun b z=>absurd rfl z) fun z=>absurd rfl z
 | none=>
  refine core (fun b=>if b=a then some (.frz { cls:=.type "list",data:=.seq vs.toArray } (.lst (ns.map V.int))) else none) (fun b=>?_) (.inl (.inr ⟨{ cls:=.type "list",data:=.seq vs.toArray },if_pos rfl⟩)) (fun b u z=>?_) (fun b z=>?_) fun _=>hk
  ·by_cases hb:b=a
   ·exact .inr ⟨_,_,if_pos hb⟩
   ·exact .inl (if_neg hb)
  ·by_cases hb:b=a
   ·have z':=(if_pos hb).symm.trans z
    cases z'
    subst hb
    exact ⟨ha,by rw [List.length_map];exact hl,vs,_,rv,ha⟩
   ·have z':=(if_neg hb).symm.trans z
    cases z'
  ·by_cases hb:b=a
   ·exact hb
   ·exact absurd (if_neg hb) z
abbrev oB {K:PySem.W.Frag}{h:Heap} (_:K.In h):PySem.W.Frag:=K
theorem aJG {l:PySem.W.OpenLaw}{n k:Nat}{q:Program}{loose:List Str}{XP:(Str→Option Value)→Heap→Prop}{YP:World→Heap→Prop}{d:DefRec}{K:Params→PySem.W.Frag}{CX:World→CXT}{sp:World→Sp}{x:Str}
  (hn:l.most=some n) (hn2:n≤sizeLine) (hdf:d.params.defaults=[]) (hr:cL k callerA)
  (hY:∀ (w:World) (h:Heap),YP w h→(K w.params).In h)
  (F:∀ (w:World) (mg:Str→Option Value) (fa:Addr) (h:Heap),(K w.params).In h→h.Ns mainGlobals mg→mg d.name=some (.ref fa) →
   ∃ fd:FuncData,(∀ (s:Shared) (u:Value),BindsTo s fd ⟨[u],[]⟩ [(x,u)]) ∧
    ∀ base:Heap,(K w.params).In base→base.Ns mainGlobals mg→uT l.prog w (K w.params) mg base (CX w) k fa fd [x] (sp w))
  (hsp:∀ (w:World) (H:Hp) (a:Addr) (ns:List Int),ns.length≤n→aJV H→jS (K w.params) H a (ns.map V.int)→sp w [.ref a] H (fun v _=>v = .bl true) fun _ _ _=>False)
  (hCX:∀ (w:World) (H:Hp) (s:Shared) (e:Value) (s':Shared),CX w [] H s (fun _ _ _=>False) e s'→False) :
  PySem.W.WalkO q loose XP YP l.row.toRowW d [] (fun f vs=>PySem.call f vs):=by
 refine Att.attach_call hn hdf fun w s₀ s₁ mg mb fa o pm cd doc a vs ns G Y ho hd hcd hmg hobj hints hlen hg=>?_
 have KX:=hY w _ Y
 obtain ⟨fd,hb,hF⟩:=F w mg fa _ KX G.T.g hmg
 exact aHF KX G.T.g G.T.b G.T.builtins G.T.nolimit hg hobj hints (Nat.le_trans hlen hn2) hr hF hb (fun H hO hS=>hsp w H a ns hlen hO hS) fun H e s'=>hCX w H s₁ e s'
theorem aHE {l:PySem.W.OpenLaw}{n k:Nat}{q:Program}{loose:List Str}{XP:(Str→Option Value)→Heap→Prop}{YP:World→Heap→Prop}{d:DefRec}{K:Params→PySem.W.Frag}{CX:CXT}{sp:PySem.W.Frag→Sp}{x:Str}
  (hn:l.most=some n) (hn2:n≤sizeLine) (hdf:d.params.defaults=[]) (hr:cL k callerA)
  (hY:∀ (w:World) (h:Heap),YP w h→(K w.params).In h)
  (F:∀ (w:World) (mg:Str→Option Value) (fa:Addr) (h:Heap),(K w.params).In h→h.Ns mainGlobals mg→mg d.name=some (.ref fa) →
   ∃ fd:FuncData,(∀ (s:Shared) (u:Value),BindsTo s fd ⟨[u],[]⟩ [(x,u)]) ∧
    ∀ base:Heap,(K w.params).In base→base.Ns mainGlobals mg→uT l.prog w (K w.params) mg base CX k fa fd [x] (sp (K w.params)))
  (hsp:∀ (K:PySem.W.Frag) (H:Hp) (a:Addr) (ns:List Int),ns.length≤n→aJV H→jS K H a (ns.map V.int)→sp K [.ref a] H (fun v _=>v = .bl true) fun _ _ _=>False)
  (hCX:∀ (H:Hp) (s:Shared) (e:Value) (s':Shared),CX [] H s (fun _ _ _=>False) e s'→False) :
  PySem.W.WalkO q loose XP YP l.row.toRowW d [] (fun f vs=>PySem.call f vs):=
 aJG (K:=K) (CX:=fun _=>CX) (sp:=fun w=>sp (K w.params)) hn hn2 hdf hr hY F (fun w H a ns h1 h2 h3=>hsp (K w.params) H a ns h1 h2 h3) fun _ H s e s'=>hCX H s e s'
def nJ (s:Stmt):Arguments:=match s with
 | .FunctionDef _ a _ _ _ _ _ _ _ _=>a
 | _=>{ posonlyargs:=[],args:=[],vararg:=none,kwonlyargs:=[],kw_defaults:=[],kwarg:=none,defaults:=[] }
def aW (s:Stmt):List Stmt:=match s with
 | .FunctionDef _ _ b _ _ _ _ _ _ _=>b
 | _=>[]
def aD (s:Stmt):Scope:=match s with
 | .FunctionDef _ _ _ _ _ _ sc _ _ _=>sc
 | _=>{ kind:=.function,names:=[],isGenerator:=false,isCoroutine:=false }
abbrev kK:CXT:=fun _ _ _ _ _ _=>False
abbrev E0:XK:=fun _ _ _=>False
theorem aIh {X:Cx}:aEo kK X E0:=fun _ _ _ _ _ _ _ h=>h.elim
structure Fun (K:PySem.W.Frag) (x qual:Str) (st:Stmt) (f:Addr) (fd:FuncData):Prop where
 ex:∃ (oc:Value) (od:Option Addr) (kV doc pm:Value) (an:Option Addr) (cdv ct:Value) (osl:Array (Option Value)),
  fd=PySem.W.fnOf x qual (nJ st) (aW st) (aD st) .none kV doc pm an cdv ct∧K.lookup f=some ⟨oc,od,.func fd,osl⟩∧PySem.W.codeIn K cdv qual=true
 kp:PySem.W.keepIn K (.ref f)=true
section
variable {P:Program}{w:World}{K:PySem.W.Frag}{mg:Str→Option Value}{base:Heap}
theorem Fun.ok {x qual:Str}{st:Stmt}{f:Addr}{fd:FuncData}{N ps:List Str}{k:Nat}{sp:Sp} (F:Fun K x qual st f fd) (S:bD N ps (aD st)) (len:∀ vs H Q E,sp vs H Q E→vs.length=ps.length)
  (hbody:∀ (cdv:Value) (A:Around) (outer:List Env) (s:Shared) (H:Hp) (vs:List V) (Q:VK) (E:XK),cL k (A.deeper (envOfC qual (aD st) s.heap.objs.size f cdv))→sp vs H Q E →
   ∃ t,PSs (d6 kK P w K mg base N qual (aD st) f cdv A outer s H E).nox (aW st) t∧t { nx:=fun _ H'=>Q .non H',rt:=Q } (start N vs) H):uT P w K mg base kK (k+1) f fd ps sp:=by
 obtain ⟨oc,od,kV,doc,pm,an,cdv,ct,osl,rfl,lk,hcd⟩:=F.ex
 refine aL9 lk hcd S len fun A outer s H vs Q E hr hsp=>?_
 obtain ⟨t,h,q⟩:=hbody cdv A outer s H vs Q E hr hsp
 exact ⟨t,h.nox,q⟩
theorem Fun.binds {x qual:Str}{st:Stmt}{f:Addr}{fd:FuncData}{ps:List Str} (F:Fun K x qual st f fd)
  (h:∀ (kV doc pm:Value) (an:Option Addr) (cdv ct:Value) (us:List Value),us.length=ps.length→bindArgs (PySem.W.fnOf x qual (nJ st) (aW st) (aD st) .none kV doc pm an cdv ct) ⟨us,[]⟩=pure (ps.zip us)):pT K fd ps []:=by
 obtain ⟨oc,od,kV,doc,pm,an,cdv,ct,osl,rfl,lk,hcd⟩:=F.ex
 exact .all (h kV doc pm an cdv ct)
theorem aD3 {x qual:Str}{st:Stmt}{f:Addr}{oc:Value}{od an:Option Addr}{osl:Array (Option Value)}{kV doc pm cdv ct:Value} (l:K.lookup f=some ⟨oc,od,.func (PySem.W.fnOf x qual (nJ st) (aW st) (aD st) .none kV doc pm an cdv ct),osl⟩)
  (c:PySem.W.codeIn K cdv qual=true) (k:PySem.W.keepIn K (.ref f)=true):Fun K x qual st f (PySem.W.fnOf x qual (nJ st) (aW st) (aD st) .none kV doc pm an cdv ct):=⟨⟨oc,od,kV,doc,pm,an,cdv,ct,osl,rfl,l,c⟩,k⟩
end
theorem cM {n:Nat} (h:n≤1000):n<sizeLine:=Nat.lt_of_le_of_lt h (by decide)
section
variable {X:Cx}
theorem pv (i:Nat) {x:Str}{pos:Pos} (hN:X.N[i]? = some x:=by rfl) (hv:Vis X.env.scope x:=by first | exact Or.inl rfl | exact Or.inr (Or.inl rfl) | exact Or.inr (Or.inr rfl)) (hd:(x == ("__debug__":Str))=false:=by decide)
  (hcd:(x == ("__classdict__":Str))=false:=by decide):PE X (.Name x pos) (wP i):=aKQ hN hv hd hcd
end
theorem aH0 {A B:Prop} (h:B):if false=true then A else B:=by
 rw [if_neg Bool.false_ne_true]
 exact h
theorem aHe {A B:Prop} (h:A):if true=true then A else B:=by
 rw [if_pos rfl]
 exact h
def bY (H H':Hp):Prop:=∀ b o,H b=some o→H' b=some o
theorem bY.refl (H:Hp):bY H H:=fun _ _ h=>h
theorem bY.trans {H H1 H2:Hp} (a:bY H H1) (b:bY H1 H2):bY H H2:=fun c o h=>b c o (a c o h)
theorem bY.free {H H':Hp} (e:bY H H') {l:Addr} (h:H' l=Option.none):H l=Option.none:=by
 cases q:H l with
 | none=>rfl
 | some o=>
  rw [e l o q] at h
  cases h
theorem bY.seq {K:PySem.W.Frag}{H H':Hp}{a:Addr}{xs:List V} (e:bY H H') (h:jS K H a xs):jS K H' a xs:=by
 rcases h with (h | ⟨o,h⟩) | h
 ·exact .inl (.inl (e _ _ h))
 ·exact .inl (.inr ⟨o,e _ _ h⟩)
 ·exact .inr h
def qN (env:Env) (names:List (Str×NameKind)) (acc:List (Str×Addr)):List (Str×Addr):=
 match names with
 | []=>acc
 | x::r=>qN env r (if x.2 == .free then (x.1,(env.cells.lookup x.1).getD 0)::acc else acc)
theorem aHH (env:Env):∀ (names:List (Str×NameKind)) (acc:List (Str×Addr)),(∀ x∈names,x.2 = .free→∃ c,env.cells.lookup x.1=some c) →
  (forIn names acc (fun (x:Str×NameKind) (cs:List (Str×Addr))=>(if x.2 == .free then (do
   let c ← cellOf env x.1
   pure (ForInStep.yield ((x.1,c)::cs))) else pure (ForInStep.yield cs):Sem (ForInStep (List (Str×Addr))))))=(pure (qN env names acc):Sem _):=by
 intro names
 induction names with
 | nil=>intro acc _;rw [List.forIn_nil];rfl
 | cons x r ih=>
  intro acc h
  rw [List.forIn_cons]
  have hr:=fun y hy=>h y (List.mem_cons_of_mem _ hy)
  show _=(pure (qN env r (if x.2 == .free then (x.1,(env.cells.lookup x.1).getD 0)::acc else acc)):Sem _)
  by_cases hf:x.2 = .free
  ·obtain ⟨c,e⟩:=h x List.mem_cons_self hf
   have e1:cellOf env x.1=pure c:=by unfold cellOf;rw [e]
   have e2:(x.2 == NameKind.free)=true:=by rw [hf];rfl
   simp only [e2,if_true,e1,pure_bind]
   rw [ih _ hr]
   simp only [e,Option.getD_some]
  ·have e2:(x.2 == NameKind.free)=false:=by simpa using hf
   simp only [e2,Bool.false_eq_true,if_false,pure_bind]
   exact ih _ hr
theorem pR {scope:Scope}{env:Env} (h:∀ x∈scope.names,x.2 = .free→∃ c,env.cells.lookup x.1=some c):closureFor scope env=pure (qN env scope.names []):=by
 have q:=aHH env scope.names [] h
 unfold closureFor
 simp only [bind_pure]
 exact q
theorem wA (env:Env) (x:Str):∀ (names:List (Str×NameKind)) (acc:List (Str×Addr)),
  (qN env names acc).lookup x=if (x,NameKind.free)∈names then some ((env.cells.lookup x).getD 0) else acc.lookup x:=by
 intro names
 induction names with
 | nil=>intro acc;rfl
 | cons y r ih=>
  intro acc
  obtain ⟨n,k⟩:=y
  show (qN env r (if k == .free then (n,(env.cells.lookup n).getD 0)::acc else acc)).lookup x=_
  rw [ih]
  by_cases h1:(x,NameKind.free)∈r
  ·rw [if_pos h1,if_pos (List.mem_cons_of_mem _ h1)]
  ·rw [if_neg h1]
   by_cases hk:k = .free
   ·subst hk
    rw [if_pos (by rfl),List.lookup_cons]
    by_cases hx:x=n
    ·subst hx
     simp
    ·have:(x == n)=false:=by simpa using hx
     rw [this,if_neg]
     intro z
     rcases List.mem_cons.mp z with z | z
     ·exact hx (Prod.mk.inj z).1
     ·exact h1 z
   ·have:(k == NameKind.free)=false:=by simpa using hk
    rw [this,if_neg (by simp),if_neg]
    intro z
    rcases List.mem_cons.mp z with z | z
    ·exact hk (Prod.mk.inj z).2.symm
    ·exact h1 z
theorem wE (f:Str→NameKind→NameKind) (x:Str):∀ names:List (Str×NameKind),(names.map fun y=>(y.1,f y.1 y.2)).lookup x=(names.lookup x).map (f x)
 | []=>rfl
 | (n,k)::r=>by
  rw [List.map_cons,List.lookup_cons,List.lookup_cons,wE f x r]
  by_cases hx:x=n
  ·subst hx;simp
  ·have:(x == n)=false:=by simpa using hx
   simp [this]
theorem qA (scope:Scope) (env:Env) (x:Str):(relabel scope env).names.lookup x =
  (scope.names.lookup x).map fun k=>if (k == .free && env.scope.kind == .function && env.kindOf x == some .cell) then .cell else k:=by
 have q:=wE (fun n k=>if (k == .free && env.scope.kind == .function && env.kindOf n == some .cell) then .cell else k) x scope.names
 rw [← q]
 unfold relabel
 dsimp only
 congr 1
 refine List.map_congr_left fun y _=>?_
 obtain ⟨n,k⟩:=y
 dsimp only
 split <;> rfl
def oE (sc cs:Scope) (N Nc:List Str) (fr:List (Option Nat)):Bool:=
 cs.kind == .function && cs.names.all (fun x=>(x.2 != .cell || cs.names.lookup x.1 == some .cell) && (x.2 != .local || cs.names.lookup x.1 == some .local) && (x.2 != .free || sc.names.lookup x.1 == some .cell || sc.names.lookup x.1 == some .free))
  && fr.length == Nc.length && (fr.zip Nc).all (fun y=>match y.1 with
   | none=>true
   | some j=>N[j]? == some y.2 && cs.names.lookup y.2 == some .free)
structure sO (sc cs:Scope) (N Nc:List Str) (fr:List (Option Nat)):Prop where
 kind:cs.kind = .function
 cel:∀ x∈cs.names,x.2 = .cell→cs.names.lookup x.1=some .cell
 nms:∀ x∈cs.names,x.2 = .local→cs.names.lookup x.1=some .local
 fre:∀ x∈cs.names,x.2 = .free→sc.names.lookup x.1=some .cell∨sc.names.lookup x.1=some .free
 len:fr.length=Nc.length
 frs:∀ (i j:Nat),fr[i]? = some (some j)→∃ x,Nc[i]? = some x∧N[j]? = some x∧cs.names.lookup x=some .free
theorem sO.of {sc cs:Scope}{N Nc:List Str}{fr:List (Option Nat)} (h:oE sc cs N Nc fr=true):sO sc cs N Nc fr:=by
 unfold oE at h
 rw [Bool.and_eq_true,Bool.and_eq_true,Bool.and_eq_true] at h
 obtain ⟨⟨⟨h1,h2⟩,h3⟩,h4⟩:=h
 rw [List.all_eq_true] at h2 h4
 refine ⟨by simpa using h1,fun x hx hk=>?_,fun x hx hk=>?_,fun x hx hk=>?_,by simpa using h3,fun i j e=>?_⟩
 ·have q:=h2 x hx
  simp only [Bool.and_eq_true] at q
  have q2:=q.1.1
  rw [hk] at q2
  simpa using q2
 ·have q:=h2 x hx
  simp only [Bool.and_eq_true] at q
  have q2:=q.1.2
  rw [hk] at q2
  simpa using q2
 ·have q:=h2 x hx
  simp only [Bool.and_eq_true] at q
  have q2:=q.2
  rw [hk] at q2
  simp at q2
  rcases q2 with a | a
  ·exact .inl a
  ·exact .inr a
 ·have hl:fr.length=Nc.length:=by simpa using h3
  obtain ⟨hi,ei⟩:=List.getElem?_eq_some_iff.mp e
  have hi':i<Nc.length:=by omega
  have hm:(fr[i],Nc[i])∈fr.zip Nc:=by
   have:(fr.zip Nc)[i]'(by simp;omega)=(fr[i],Nc[i]):=by simp
   rw [← this]
   exact List.getElem_mem _
  have q:=h4 _ hm
  rw [ei] at q
  simp only [Bool.and_eq_true] at q
  exact ⟨Nc[i],by simp [hi'],by simpa using q.1,by simpa using q.2⟩
theorem lA:∀ (names:List (Str×NameKind)) (n:Nat) (acc:List (Str×Addr)),cellsFrom n names acc=cellsFrom n names []++acc
 | [],_,_=>rfl
 | (name,kind)::r,n,acc=>by
  unfold cellsFrom
  split
  ·rw [lA r (n+1) ((name,n)::acc),lA r (n+1) [(name,n)],List.append_assoc]
   rfl
  ·exact lA r n acc
theorem kX:∀ (names:List (Str×NameKind)) (n:Nat) (acc:List (Str×Addr)) (x:Str) (c:Addr),(x,c)∈cellsFrom n names acc→(x,c)∈acc∨(x,NameKind.cell)∈names
 | [],_,_,_,_,h=>.inl h
 | (name,kind)::r,n,acc,x,c,h=>by
  unfold cellsFrom at h
  split at h
  ·rename_i hk
   rcases kX r _ _ x c h with z | z
   ·rcases List.mem_cons.mp z with z | z
    ·refine .inr ?_
     have e:=(Prod.mk.inj z).1
     have k':kind=NameKind.cell:=by simpa using hk
     rw [e,k']
     exact List.mem_cons_self
    ·exact .inl z
   ·exact .inr (List.mem_cons_of_mem _ z)
  ·rcases kX r _ _ x c h with z | z
   ·exact .inl z
   ·exact .inr (List.mem_cons_of_mem _ z)
theorem n9:∀ (names:List (Str×NameKind)) (n:Nat) (acc:List (Str×Addr)) (x:Str),((x,NameKind.cell)∈names∨∃ c,acc.lookup x=some c)→∃ c,(cellsFrom n names acc).lookup x=some c
 | [],_,_,_,h=>by
  rcases h with h | h
  ·cases h
  ·exact h
 | (name,kind)::r,n,acc,x,h=>by
  unfold cellsFrom
  split
  ·rename_i hk
   refine n9 r _ _ x ?_
   rcases h with h | ⟨c,h⟩
   ·rcases List.mem_cons.mp h with z | z
    ·refine .inr ⟨n,?_⟩
     rw [(Prod.mk.inj z).1,List.lookup_cons]
     simp
    ·exact .inl z
   ·by_cases hx:x=name
    ·exact .inr ⟨n,by rw [hx,List.lookup_cons];simp⟩
    ·refine .inr ⟨c,?_⟩
     have:(x == name)=false:=by simpa using hx
     rw [List.lookup_cons,this]
     exact h
  ·rename_i hk
   refine n9 r _ _ x ?_
   rcases h with h | h
   ·rcases List.mem_cons.mp h with z | z
    ·exact absurd (by rw [← (Prod.mk.inj z).2];rfl) hk
    ·exact .inl z
   ·exact .inr h
theorem aEQ {M:Model}{A:Around}{E:Value→Shared→Prop}{s:Shared}{scope:Scope}{globals:Addr}{closure:List (Str×Addr)}{qual:Str}{func:Option Addr}{code:Value}{env:Env}{builtins:Addr}{Q:Env→Shared→Prop}
  (h:Q (newEnv scope s.heap.objs.size globals (cellsFrom (s.heap.objs.size+1) scope.names closure) qual func code (some env) builtins) { s with heap:=pushCells (s.heap.push { cls:=.type "dict",data:=.dict #[] }) scope.names }) :
  wpAny M A (newFunctionEnv scope globals closure [] qual func code (some env) builtins) Q E s:=by
 simp only [newFunctionEnv,Option.isSome_some,if_true]
 refine wpAny_bind (wpAny_alloc ?_)
 refine wpAny_bind (wpAny_layCells _ (fun name kind cells=>by cases hkc:kind == NameKind.cell <;> simp [hkc]) _ _ _ _ ?_)
 rw [show ({ s with heap:=s.heap.push { cls:=.type "dict",data:=.dict #[] } }:Shared).heap.objs.size=s.heap.objs.size+1 from Heap.size_push ..]
 rw [List.forIn_nil]
 exact wpAny_bind (wpAny_pure (wpAny_pure h))
def w6 (X:Cx) (scope:Scope) (Nc:List Str) (Cc:Addr) (pins:List (Addr×Obj)) (fp:List Addr) (s3:Shared) (H3:Hp):Cx:=
 { X with N:=Nc,s₀:=s3,H₀:=H3,env:=compEnvC scope (cellsFrom (Cc+1) scope.names (qN X.env scope.names [])) Cc X.env,outer:=X.stack,stack:=X.stack,ex:=fp,fn:=fun x=>scope.names.lookup x == some .cell,pn:=X.pn++pins,xe:=fun _ _=>False }
def σc (fr:List (Option Nat)) (σ:St):St:=fr.map fun o=>o.bind fun j=>(σ[j]?).bind id
def Fwd (σ' σ:St):Prop:=σ'.length=σ.length∧∀ (i:Nat) v,σ[i]? = some (some v)→σ'[i]? = some (some v)
def aCO (X:Cx) (ifs:List Expr) (t:TT):Prop:=
 ∀ (pins:List (Addr×Obj)) (s:Shared) (σ:St) (H:Hp) (Q:Bool→Hp→Prop),bG X pins σ H s→t σ H Q →
  wpAny (model X.prog X.w) X.A (forIn ifs true fun c r=>if r=true then do
   let ok ← isTrue c X.env (eval c X.env)
   pure (ForInStep.yield ok) else pure (ForInStep.yield r)) (TP X pins σ Q) X.xe s
def aLW:TT:=fun _ H Q=>Q true H
theorem aIj {X:Cx}:aCO X [] aLW:=fun _ _ _ H _ I h=>wpAny_tests_nil ⟨H,I,h⟩
theorem aII {X:Cx}{c:Expr}{t:TT} (h:PT X c t):aCO X [c] t:=fun pins s σ H Q I q=>wpAny_tests_one (h pins s σ H Q I q)
section
variable {prog:Program}{w:World}{A:Around}{R:Result→Shared→Prop}{s:Shared}
theorem aGl {elt target iter:Expr}{ifs:List Expr}{scope:Scope}{pos:Pos}{it acc:Value}{env:Env} (I:Nat→Shared→Prop)
  (turn:∀ n s,I n s→wpAny (model prog w) A (pyNext it) (fun r s₁=>match r with
   | none=>R (.ok .next) s₁
   | some v=>wpAny (model prog w) A (letOwnedTupleGo target it v) (fun _ s₂=>wpAny (model prog w) A (assign target env v) (fun _ s₃=>
     wpAny (model prog w) A (forIn ifs true fun c r=>if r=true then do
      let ok ← isTrue c env (eval c env)
      pure (ForInStep.yield ok) else pure (ForInStep.yield r)) (fun ok s₄=>
      if ok=true then wpAny (model prog w) A (eval elt env) (fun x s₅=>
       wpAny (model prog w) A (call (.builtin "list.append") [acc,x]) (fun _ s₆=>∃ m,m<n∧I m s₆) (fun _ _=>False) s₅) (fun _ _=>False) s₄
      else ∃ m,m<n∧I m s₄) (fun _ _=>False) s₃) (fun _ _=>False) s₂) (fun _ _=>False) s₁) (fun _ _=>False) s)
  (n:Nat) (h:I n s) :
  codeAny (model prog w) A (.compLoop (.ListComp elt [⟨target,iter,ifs,0⟩] scope pos) 0 it acc env) R s:=by
 refine codeAny_loop rfl I (fun n s hI=>?_) n h
 refine wpAny_noted (m:=compTurn (.ListComp elt [⟨target,iter,ifs,0⟩] scope pos) 0 it acc env) (env:=env) ?_
 rw [compTurn_list]
 have no:∀ {E:Value→Shared→Prop} (e:Value) (s:Shared),False→E e s:=fun _ _ f=>f.elim
 refine wpAny_bind (wpAny_standAt (wpAny_bind (wpAny_mono (turn n s hI) (fun r s₁ h₁=>?_) no)))
 cases r with
 | none=>exact wpAny_pure h₁
 | some v=>
  refine wpAny_bind (wpAny_mono h₁ (fun _ s₂ h₂=>?_) no)
  refine wpAny_bind (wpAny_mono h₂ (fun _ s₃ h₃=>?_) no)
  refine wpAny_bind (wpAny_mono h₃ (fun ok s₄ h₄=>?_) no)
  cases ok with
  | false=>exact wpAny_pure ⟨rfl,h₄⟩
  | true=>
   refine wpAny_bind (wpAny_bind (wpAny_mono h₄ (fun x s₅ h₅=>?_) no))
   exact wpAny_bind (wpAny_mono h₅ (fun _ s₆ h₆=>wpAny_pure (wpAny_pure ⟨rfl,h₆⟩)) no)
end
theorem oY {env:Env}{names:List (Str×NameKind)}{x:Str}{c:Addr} (hf:∀ y∈names,y.2 = .free→∃ c,env.cells.lookup y.1=some c) (h:(qN env names []).lookup x=some c):(x,NameKind.free)∈names∧env.cells.lookup x=some c:=by
 rw [wA] at h
 by_cases hm:(x,NameKind.free)∈names
 ·rw [if_pos hm] at h
  obtain ⟨c',e⟩:=hf _ hm rfl
  rw [e] at h
  exact ⟨hm,by rw [e];exact h⟩
 ·rw [if_neg hm] at h
  cases h
theorem aEZ {env:Env}{names:List (Str×NameKind)}{x:Str}{c:Addr} (hm:(x,NameKind.free)∈names) (h:env.cells.lookup x=some c):(qN env names []).lookup x=some c:=by
 rw [wA,if_pos hm,h]
 rfl
structure aEf (scope:Scope) (cl:List (Str×Addr)) (n:Nat) (h:Heap):Prop where
 has:∀ x,(x,NameKind.cell)∈scope.names→∃ c,(cellsFrom (n+1) scope.names cl).lookup x=some c∧n<c
 off:∀ x c,(x,NameKind.cell)∉scope.names→cl.lookup x=some c→(cellsFrom (n+1) scope.names cl).lookup x=some c
 two:∀ x c,(cellsFrom (n+1) scope.names cl).lookup x=some c→((x,NameKind.cell)∈scope.names∧n<c∧h.IsCell c none)∨cl.lookup x=some c
 inj:∀ x y c,(cellsFrom (n+1) scope.names cl).lookup x=some c→(cellsFrom (n+1) scope.names cl).lookup y=some c→n<c→(∀ z d,cl.lookup z=some d→d≤n)→x=y
theorem aK2 (scope:Scope) (cl:List (Str×Addr)) (h0:Heap) (o:Obj):aEf scope cl h0.objs.size (pushCells (h0.push o) scope.names):=by
 have ok:=cellsFrom_ok scope.names (h0.push o) (h0.objs.size+1) [] ⟨fun _ _ hm=>(nomatch hm),List.Pairwise.nil⟩ (by rw [Heap.size_push];exact Nat.le_refl _)
 rw [Heap.size_push] at ok
 have lk:∀ x,(cellsFrom (h0.objs.size+1) scope.names cl).lookup x=((cellsFrom (h0.objs.size+1) scope.names []).lookup x).or (cl.lookup x):=fun x=>by
  rw [lA,List.lookup_append]
 have two:∀ x c,(cellsFrom (h0.objs.size+1) scope.names cl).lookup x=some c→((x,c)∈cellsFrom (h0.objs.size+1) scope.names [])∨cl.lookup x=some c:=fun x c e=>by
  rw [lk] at e
  cases e1:(cellsFrom (h0.objs.size+1) scope.names []).lookup x with
  | none=>rw [e1] at e;exact .inr e
  | some d=>rw [e1] at e;cases e;exact .inl (PySem.mem_of_lookup e1)
 refine ⟨fun x hx=>?_,fun x c hx e=>?_,fun x c e=>?_,fun x y c e1 e2 hc hcl=>?_⟩
 ·obtain ⟨c,e⟩:=n9 scope.names (h0.objs.size+1) [] x (.inl hx)
  exact ⟨c,by rw [lk,e];rfl,(ok.empty x c (PySem.mem_of_lookup e)).2⟩
 ·rw [lk]
  cases e1:(cellsFrom (h0.objs.size+1) scope.names []).lookup x with
  | none=>exact e
  | some d=>
   rcases kX _ _ _ _ _ (PySem.mem_of_lookup e1) with z | z
   ·cases z
   ·exact absurd z hx
 ·rcases two x c e with z | z
  ·refine .inl ⟨?_,(ok.empty x c z).2,(ok.empty x c z).1⟩
   rcases kX _ _ _ _ _ z with q | q
   ·cases q
   ·exact q
  ·exact .inr z
 ·rcases two x c e1 with z1 | z1
  ·rcases two y c e2 with z2 | z2
   ·exact name_of_addr ok.apart z1 z2
   ·exact absurd (hcl _ _ z2) (Nat.not_le.mpr hc)
  ·exact absurd (hcl _ _ z1) (Nat.not_le.mpr hc)
section
variable {X:Cx}{scope:Scope}{Nc:List Str}{fr:List (Option Nat)}{pins:List (Addr×Obj)}{σ:St}{H:Hp}{s:Shared}{fp:List Addr}
theorem pM (ok:sO X.env.scope scope X.N Nc fr) (I:bG X pins σ H s):∀ y∈scope.names,y.2 = .free→∃ c,X.env.cells.lookup y.1=some c:=fun y hy hk=>by
 rcases ok.fre y hy hk with z | z
 ·exact I.ok.has y.1 (.inl z)
 ·exact I.ok.has y.1 (.inr z)
theorem aEE (ok:sO X.env.scope scope X.N Nc fr) (I:bG X pins σ H s) (hf:∀ b∈fp,pW X pins H b) (hlt:∀ b∈fp,b<s.heap.objs.size) {h1:Heap}{m1:Str→Option Value}
  (hn:h1.Ns s.heap.objs.size m1) (up:∀ b o,s.heap.get? b=some o→h1.get? b=some o) (cs:aEf scope (qN X.env scope.names []) s.heap.objs.size h1) :
  bG (w6 X scope Nc s.heap.objs.size pins fp s H) [] (σc fr σ) H { s with heap:=h1 }:=by
 have hcell:=pM ok I
 have stk:∀ b,b∈frs X.stack→b∈X.env.locals::X.fs:=I.stkSub
 have clt:∀ x c,X.env.cells.lookup x=some c→c<s.heap.objs.size:=fun x c e=>by
  obtain ⟨v,q⟩:=I.cell x c e
  exact q.lt
 have cll:∀ x c,(qN X.env scope.names []).lookup x=some c→c≤s.heap.objs.size:=fun x c e=>Nat.le_of_lt (clt x c (oY hcell e).2)
 have kw:∀ x,(relabel scope X.env).names.lookup x=some .cell∨(relabel scope X.env).names.lookup x=some .free→scope.names.lookup x=some .free∨scope.names.lookup x=some .cell:=fun x h=>by
  rw [qA] at h
  cases e:scope.names.lookup x with
  | none=>rw [e] at h;rcases h with h | h <;> cases h
  | some k=>
   rw [e] at h
   by_cases hk:k = .free
   ·rw [hk];exact .inl rfl
   ·have:(k == NameKind.free)=false:=by simpa using hk
    simp only [Option.map_some,this,Bool.false_and,Bool.false_eq_true,if_false] at h
    rcases h with h | h
    ·exact .inr h
    ·exact absurd (Option.some.inj h) hk
 refine ⟨⟨I.ok.mod,ok.kind,I.ok.glob,I.ok.blt,Nat.le_refl _,fun x y c h1 h2=>?_,fun x hx=>?_,fun x c h e=>?_,I.ok.hd,I.ok.frames,.inl rfl,fun b hb=>⟨?_,fun x c e=>?_⟩,I.bs,Nat.le_trans I.ok.bsz I.sz,fun b o e hb=>?_,fun b hb hb'=>?_,I.stack,I.stkFree⟩,
  rfl,I.bare,Un.kept up,⟨m1,hn,fun i x v e1 e2 e3=>?_⟩,fun x c e=>?_,I.hok.fresh (Nat.le_refl _),fun x c e=>?_,fun p hp=>?_,I.hok.kept up,?_⟩
 ·rcases cs.two x c h1 with ⟨_,z,_⟩ | z1
  ·exact cs.inj x y c h1 h2 z cll
  ·rcases cs.two y c h2 with ⟨_,z,_⟩ | z2
   ·exact cs.inj x y c h1 h2 z cll
   ·exact I.ok.inj x y c (oY hcell z1).2 (oY hcell z2).2
 ·rcases kw x hx with q | q
  ·have hm:(x,NameKind.free)∈scope.names:=PySem.mem_of_lookup q
   obtain ⟨c,e⟩:=hcell _ hm rfl
   have nc:(x,NameKind.cell)∉scope.names:=fun z=>by
    have:=ok.cel _ z rfl
    rw [q] at this
    cases this
   exact ⟨c,cs.off x c nc (aEZ hm e)⟩
  ·obtain ⟨c,e,_⟩:=cs.has x (PySem.mem_of_lookup q)
   exact ⟨c,e⟩
 ·have q:scope.names.lookup x=some .cell:=by
   have h':(scope.names.lookup x == some NameKind.cell)=true:=h
   simpa using h'
  obtain ⟨c',e',l⟩:=cs.has x (PySem.mem_of_lookup q)
  have e2:(cellsFrom (s.heap.objs.size+1) scope.names (qN X.env scope.names [])).lookup x=some c:=e
  rw [e'] at e2
  cases e2
  exact Nat.le_of_lt l
 ·exact Nat.ne_of_lt (hlt b hb)
 ·rcases cs.two x c e with ⟨_,z,_⟩ | z
  ·exact Nat.ne_of_gt (Nat.lt_trans (hlt b hb) z)
  ·exact (hf b hb).2.2.2.2.1 x c (oY hcell z).2
 ·rcases (hf b hb).2.2.2.1 with z | z
  ·exact I.ok.noex b o e z
  ·exact absurd (Nat.lt_of_lt_of_le (Heap.lt_size e) (Nat.le_trans I.ok.bsz z)) (Nat.lt_irrefl _)
 ·have q:=hf b hb
  rcases List.mem_cons.mp (stk b hb') with z | z
  ·exact q.2.1 z
  ·exact q.2.2.1 z
 ·have e2':(σc fr σ)[i]? = some (some v):=e2
  unfold σc at e2'
  rw [List.getElem?_map] at e2'
  cases ef:fr[i]? with
  | none=>rw [ef] at e2';cases e2'
  | some o=>
   rw [ef] at e2'
   cases o with
   | none=>cases e2'
   | some j=>
    obtain ⟨y,a1,a2,a3⟩:=ok.frs i j ef
    have a1':(w6 X scope Nc s.heap.objs.size pins fp s H).N[i]? = some y:=a1
    rw [a1'] at e1
    obtain rfl:y=x:=Option.some.inj e1
    have ej:σ[j]? = some (some v):=by
     have e2'':(σ[j]?).bind id=some v:=Option.some.inj e2'
     cases es:σ[j]? with
     | none=>rw [es] at e2'';cases e2''
     | some z=>rw [es] at e2'';cases z with
      | none=>cases e2''
      | some z'=>exact congrArg some e2''
    have hm:(y,NameKind.free)∈scope.names:=PySem.mem_of_lookup a3
    have kc:=ok.fre _ hm rfl
    obtain ⟨m,hn',hl⟩:=I.loc
    obtain ⟨u,r,l⟩:=hl j y v a2 ej (.inr kc)
    refine ⟨u,r,.inr ?_⟩
    rcases l with ⟨k,_⟩ | ⟨k,c,e,z⟩
    ·exfalso
     have k':X.env.scope.names.lookup y=some .local:=k
     rcases kc with q | q <;> (rw [q] at k';cases k')
    ·have nc:(y,NameKind.cell)∉scope.names:=fun z=>by
      have:=ok.cel _ z rfl
      rw [a3] at this
      cases this
     refine ⟨?_,c,cs.off y c nc (aEZ hm e),?_⟩
     ·show (relabel scope X.env).names.lookup y=some .cell∨(relabel scope X.env).names.lookup y=some .free
      rw [qA,a3]
      show some (if _ then _ else _)=_∨some (if _ then _ else _)=_
      split
      ·exact .inl rfl
      ·exact .inr rfl
     ·obtain ⟨oc,ho,hd⟩:=z
      exact ⟨oc,up _ _ ho,hd⟩
 ·rcases cs.two x c e with ⟨_,_,z⟩ | z
  ·exact ⟨none,z⟩
  ·obtain ⟨v,oc,ho,hd⟩:=I.cell x c (oY hcell z).2
   exact ⟨v,oc,up _ _ ho,hd⟩
 ·rcases cs.two x c e with ⟨_,z,_⟩ | z
  ·exact I.hok.fresh (Nat.le_of_lt z)
  ·exact I.freeC x c (oY hcell z).2
 ·have hp':p∈X.pn++pins:=by
   rcases List.mem_append.mp hp with z | z
   ·exact z
   ·exact absurd z (by simp)
  obtain ⟨e,n,ne,nf,d⟩:=I.pin p hp'
  refine ⟨up _ _ e,n,Nat.ne_of_lt (Heap.lt_size e),fun z=>?_,d⟩
  rcases List.mem_cons.mp (stk _ z) with z | z
  ·exact ne z
  ·exact nf z
 ·unfold σc
  rw [List.length_map]
  exact ok.len
end
def aEc (J:It) (σ₀:St) (g:TG) (tt:TT) (te:TE) (D:Addr) (H1:Hp) (Q:VK):Prop:=
 ∃ W:Nat→Nat→List V→Hp→Prop,(∃ m,W 0 m [] (upd H1 D (.lst [])))∧∀ i m ys H,W i m ys H →
  (J.stop i H∧Q (.ref D) H)∨(J.go i H∧∀ x H',J.yld i H x H'→g x σ₀ H' fun σ2 H2=>Fwd σ2 σ₀∧tt σ2 H2 fun b H3=>
   if b=true then te σ2 H3 fun y H4=>H4 D=some (.lst ys)∧ys.length<sizeLine∧∃ m',m'<m∧W (i+1) m' (ys++[y]) (upd H4 D (.lst (ys++[y])))
   else ∃ m',m'<m∧W (i+1) m' ys H3)
def aDf (X:Cx) (pins:List (Addr×Obj)) (σ:St) (Q:VK) (acc:Value) (C:Addr) (r:Result) (s':Shared):Prop:=
 ∃ D H',acc = .ref D∧r = .ok .next∧bG X pins σ H' s'∧pW X pins H' C∧(∃ m,s'.heap.Ns C m)∧Q (.ref D) H'
section
variable {X:Cx}{scope:Scope}{Nc:List Str}{fr:List (Option Nat)}{pins:List (Addr×Obj)}{σ:St}{H:Hp}{s:Shared}{fp:List Addr}
theorem aAS {tg elt iter:Expr}{ifs:List Expr}{pos:Pos}{g:TG}{tt:TT}{te:TE}{J:It}{it:Addr}{tn:Nat→Heap→Prop}{Q:VK}{E:Value→Shared→Prop} (ok:sO X.env.scope scope X.N Nc fr) (hc:X.calm=true)
  (hg:∀ Cc pins fp s3 H3,PG (w6 X scope Nc Cc pins fp s3 H3) tg g) (ht:∀ Cc pins fp s3 H3,aCO (w6 X scope Nc Cc pins fp s3 H3) ifs tt) (he:∀ Cc pins fp s3 H3,PE (w6 X scope Nc Cc pins fp s3 H3) elt te)
  (I:bG X pins σ H s) (T:aCe X.prog X.w X.K tg J fp it tn) (st:tn 0 s.heap) (hf:∀ b∈fp,pW X pins H b) (w:∀ D,H D=none→aEc J (σc fr σ) g tt te D H Q) :
  wpAny (model X.prog X.w) X.A (newList []) (fun acc s₃=>wpAny (model X.prog X.w) X.A (newFunctionEnv scope X.env.globals (qN X.env scope.names []) [] X.env.qual none .none (some X.env)) (fun cenv s₄=>
   codeAny (model X.prog X.w) X.A (.compStart (.ListComp elt [⟨tg,iter,ifs,0⟩] scope pos) 0 (.ref it) acc { cenv with scope:=relabel scope X.env }) (aDf X pins σ Q acc cenv.locals) s₄) E s₃) E s:=by
 have flt:∀ b∈fp,b<s.heap.objs.size:=fun b hb=>by
  obtain ⟨o,e,_⟩:=T.obj 0 _ st b hb
  exact Heap.lt_size e
 refine wpAny_newList ?_ (by show 0≤sizeLine;exact Nat.zero_le _)
 have I3:=I.lnew (ys:=[]) (its:=[]) (t':=s.toks) .nil (Nat.zero_le _)
 have st3:tn 0 (s.heap.push { cls:=.type "list",data:=.seq ([]:List Value).toArray }):=T.keep 0 _ _ st fun b _ o e=>Heap.get?_push_of_some _ e
 obtain ⟨W,⟨m0,w0⟩,turn⟩:=w s.heap.objs.size I.fresh
 have hf3:∀ b∈fp,pW X pins (upd H s.heap.objs.size (.lst [])) b:=fun b hb=>⟨by rw [aS (Nat.ne_of_lt (flt b hb))];exact (hf b hb).1,(hf b hb).2⟩
 generalize hD:s.heap.objs.size=D at *
 generalize hs3:({ s with heap:=s.heap.push { cls:=.type "list",data:=.seq ([]:List Value).toArray } }:Shared)=s3
 have I3':bG X pins σ (upd H D (.lst [])) s3:=hs3 ▸ I3
 have st3':tn 0 s3.heap:=by rw [← hs3];exact st3
 have flt3:∀ b∈fp,b<s3.heap.objs.size:=fun b hb=>by
  obtain ⟨o,e,_⟩:=T.obj 0 _ st3' b hb
  exact Heap.lt_size e
 refine aEQ ?_
 generalize hh1:pushCells (s3.heap.push { cls:=.type "dict",data:=.dict #[] }) scope.names=h1
 have hn1:h1.Ns s3.heap.objs.size (fun _=>none):=hh1 ▸ (Heap.Ns.new s3.heap (.type "dict")).keeps (pushCells_keeps _ _)
 have up:∀ b o,s3.heap.get? b=some o→h1.get? b=some o:=fun b o e=>hh1 ▸ pushCells_keeps _ _ b o (Heap.get?_push_of_some _ e)
 have cs1:aEf scope (qN X.env scope.names []) s3.heap.objs.size h1:=hh1 ▸ aK2 scope (qN X.env scope.names []) s3.heap _
 have I4:bG (w6 X scope Nc s3.heap.objs.size pins fp s3 (upd H D (.lst []))) [] (σc fr σ) (upd H D (.lst [])) { s3 with heap:=h1 }:=aEE ok I3' hf3 flt3 hn1 up cs1
 have st4:tn 0 h1:=T.keep 0 _ _ st3' fun b _ o e=>up b o e
 generalize hXc:w6 X scope Nc s3.heap.objs.size pins fp s3 (upd H D (.lst []))=Xc at I4
 have hg':PG Xc tg g:=hXc ▸ hg _ _ _ _ _
 have ht':aCO Xc ifs tt:=hXc ▸ ht _ _ _ _ _
 have he':PE Xc elt te:=hXc ▸ he _ _ _ _ _
 have eP:Xc.prog=X.prog:=by rw [← hXc];rfl
 have ew:Xc.w=X.w:=by rw [← hXc];rfl
 have eK:Xc.K=X.K:=by rw [← hXc];rfl
 have eA:Xc.A=X.A:=by rw [← hXc];rfl
 have ec:Xc.calm=true:=by rw [← hXc];exact hc
 have ex:Xc.xe=fun _ _=>False:=by rw [← hXc];rfl
 have ee:Xc.env=compEnvC scope (cellsFrom (s3.heap.objs.size+1) scope.names (qN X.env scope.names [])) s3.heap.objs.size X.env:=by rw [← hXc];rfl
 have elo:Xc.env.locals=s3.heap.objs.size:=by rw [ee];rfl
 have stat:∀ {H':Hp},(∀ b∈fp,H' b=none)→∀ b∈fp,pW Xc [] H' b:=fun {H'} hn b hb=>by
  have q:=hf b hb
  refine ⟨hn b hb,by rw [elo];exact Nat.ne_of_lt (flt3 b hb),fun z=>?_,.inl (by rw [← hXc];exact hb),fun x c e=>?_,fun p hp=>?_⟩
  ·have z':b∈frs X.stack:=by rw [← hXc] at z;exact z
   rcases List.mem_cons.mp (I.stkSub b z') with z | z
   ·exact q.2.1 z
   ·exact q.2.2.1 z
  ·have e':(cellsFrom (s3.heap.objs.size+1) scope.names (qN X.env scope.names [])).lookup x=some c:=by rw [ee] at e;exact e
   rcases cs1.two x c e' with ⟨_,z,_⟩ | z
   ·exact Nat.ne_of_gt (Nat.lt_trans (flt3 b hb) z)
   ·exact q.2.2.2.2.1 x c (oY (pM ok I) z).2
  ·have hp':p∈(X.pn++pins)++[]:=by rw [← hXc] at hp;exact hp
   rw [List.append_nil] at hp'
   exact q.2.2.2.2.2 p hp'
 have loop:codeAny (model X.prog X.w) X.A (.compLoop (.ListComp elt [⟨tg,iter,ifs,0⟩] scope pos) 0 (.ref it) (.ref D) Xc.env) (aDf X pins σ Q (.ref D) s3.heap.objs.size) { s3 with heap:=h1 }:=by
  refine aGl (fun n s'=>∃ i ys H',bG Xc [] (σc fr σ) H' s'∧tn i s'.heap∧(∀ b∈fp,H' b=none)∧W i n ys H') ?_ m0 ⟨0,[],_,I4,st4,fun b hb=>(hf3 b hb).1,w0⟩
  rintro n s5 ⟨i,ys,H5,I5,st5,fr5,w5⟩
  rcases turn i n ys H5 w5 with ⟨stop,qn⟩ | ⟨go,step⟩
  ·have q:=T.done Xc eP ew eK ec i [] s5 (σc fr σ) H5 (fun _ _=>False) I5 (stat fr5) st5 stop
   rw [eA] at q
   refine fG q fun r s6 ⟨hr,I6⟩=>?_
   subst hr
   obtain ⟨m6,hn6,_⟩:=I6.loc
   have fC:H5 s3.heap.objs.size=none:=by have:=I6.free;rwa [elo] at this
   have bs:=I6.base
   have os:=I6.os
   have hk:=I6.hok
   rw [← hXc] at bs os hk
   refine ⟨D,H5,rfl,rfl,I3'.call' os bs hk I6.bare fun b hb=>?_,I3'.fpOk (Nat.le_refl _) fC,⟨m6,by rw [elo] at hn6;exact hn6⟩,qn⟩
   have q:=hf b hb
   exact ⟨q.2.2.2.1,q.2.1,q.2.2.2.2.1,q.2.2.2.2.2⟩
  ·have q:=T.item Xc eP ew eK ec i [] s5 (σc fr σ) H5 (fun _ _=>False) I5 (stat fr5) st5 go
   rw [eA] at q
   refine fG q fun r s6 ⟨u,hr,h6⟩=>?_
   subst hr
   refine fG h6 fun _ s7 ⟨x,H7,I7,r7,y7,st7,fr7⟩=>?_
   have I7':=I7.pinned (stat fr7) (T.obj _ _ st7)
   have q8:=hg' _ s7 _ H7 x u _ I7' r7 (step x H7 y7)
   rw [eP,ew,eA,ex] at q8
   refine fG q8 fun _ s8 ⟨σ8,H8,I8,fw8,q8⟩=>?_
   have q9:=ht' _ s8 σ8 H8 _ I8 q8
   rw [eP,ew,eA,ex] at q9
   refine fG q9 fun b s9 ⟨H9,I9,q9⟩=>?_
   have again:∀ {H':Hp}{ys':List V}{s':Shared},bG Xc ([]++yS fp s7.heap) σ8 H' s'→(∃ m',m'<n∧W (i+1) m' ys' H')→∃ m,m<n∧∃ i ys H',bG Xc [] (σc fr σ) H' s'∧tn i s'.heap∧(∀ b∈fp,H' b=none)∧W i m ys H':=fun {H' ys' s'} J' ⟨m',hm,w'⟩=>by
    refine ⟨m',hm,i+1,ys',H',(J'.unpinned).weak fw8.1.symm fw8.2,T.keep _ _ _ st7 fun b hb o e=>(J'.pin (b,o) (List.mem_append_right _ (List.mem_append_right _ (o9 hb e)))).1,fun b hb=>?_,w'⟩
    obtain ⟨o,e,d⟩:=T.obj _ _ st7 b hb
    exact (J'.pin (b,o) (List.mem_append_right _ (List.mem_append_right _ (o9 hb e)))).2.1
   cases b with
   | false=>
    rw [if_neg (by simp)]
    exact again I9 q9
   | true=>
    rw [if_pos rfl]
    have q9':te σ8 H9 fun y H4=>H4 D=some (.lst ys)∧ys.length<sizeLine∧∃ m',m'<n∧W (i+1) m' (ys++[y]) (upd H4 D (.lst (ys++[y]))):=q9
    have q10:=he' _ s9 σ8 H9 _ I9 q9'
    rw [eP,ew,eA,ex] at q10
    refine fG q10 fun y s10 ⟨z,H10,I10,r10,e10,l10,w10⟩=>?_
    have q11:=e7 (X:=Xc) _ s10 σ8 H10 (.ref D) [z] (.ref D) [y] (fun v H'=>∃ m',m'<n∧W (i+1) m' (ys++[z]) H') I10 rfl (.cons r10 .nil) ⟨D,ys,z,rfl,rfl,e10,l10,w10⟩
    rw [eP,ew,eA,ex] at q11
    exact fG q11 fun _ s11 ⟨_,H11,I11,_,w11⟩=>again I11 w11
 have loop':=loop
 rw [ee] at loop'
 exact codeAny_compStart_list loop' (T.self X.A 0 _ _ _ st4 loop')
def aIw (fr:List (Option Nat)) (wi:TI) (g:TG) (tt:TT) (te:TE):TE:=fun σ H Q=>wi σ H fun J H1=>∀ D,H1 D=none→aEc J (σc fr σ) g tt te D H1 Q
theorem yP {C:Addr}{H':Hp}{s':Shared}{h':Heap} (I:bG X pins σ H' s') (f:pW X pins H' C) (hs:Heap.SameBut C s'.heap h'):bG X pins σ H' { s' with heap:=h' }:=
 I.turned (t':=s'.toks) (fun b o hb e=>(hs.2 b hb).trans e) f.1 f.2.1 f.2.2.2.1 f.2.2.2.2.1 f.2.2.2.2.2
theorem aE0 {tg elt iter:Expr}{ifs:List Expr}{pos:Pos}{g:TG}{tt:TT}{te:TE}{wi:TI} (ok:oE X.env.scope scope X.N Nc fr=true) (hc:X.calm=true) (hi:PI X tg iter wi)
  (hg:∀ Cc pins fp s3 H3,PG (w6 X scope Nc Cc pins fp s3 H3) tg g) (ht:∀ Cc pins fp s3 H3,aCO (w6 X scope Nc Cc pins fp s3 H3) ifs tt) (he:∀ Cc pins fp s3 H3,PE (w6 X scope Nc Cc pins fp s3 H3) elt te)
  (hs:∀ x,foldedSetIterable iter X.env x=pure x:=by intro _;rfl) :
  PE X (.ListComp elt [⟨tg,iter,ifs,0⟩] scope pos) (aIw fr wi g tt te):=by
 have ok:=sO.of ok
 intro pins s σ H Q I h
 rw [eval_ListComp]
 refine wpAny_comprehension_free (use:=none) rfl hs (pR (pM ok I)) ok.kind ok.nms (fG (hi pins s σ H _ I h) fun v s1 h1=>fG h1 fun itv s2 h2=>?_)
 obtain ⟨it,fp,tn,J,H2,e,I2,T,st2,f2,w⟩:=h2
 subst e
 refine fG (aAS ok hc hg ht he I2 T st2 f2 w) fun acc s3 h3=>fG h3 fun cenv s4 h4=>codeAny_mono h4 fun r s5 h5=>?_
 obtain ⟨D,H5,rfl,rfl,I5,f5,⟨m5,n5⟩,q5⟩:=h5
 exact ⟨m5,n5,fun h' sb=>⟨.ref D,H5,yP I5 f5 sb,rfl,q5⟩⟩
theorem aFF {tg elt iter:Expr}{ifs:List Expr}{pos pos' pos'':Pos}{g:TG}{tt:TT}{te:TE}{wi:TI}{i:Nat}{x:Str} (ok:oE X.env.scope scope X.N Nc fr=true) (hc:X.calm=true) (hN:X.N.Nodup) (hi:X.N[i]? = some x) (hx:Loc X.env.scope x) (hit:PI X tg iter wi)
  (hg:∀ Cc pins fp s3 H3,PG (w6 X scope Nc Cc pins fp s3 H3) tg g) (ht:∀ Cc pins fp s3 H3,aCO (w6 X scope Nc Cc pins fp s3 H3) ifs tt) (he:∀ Cc pins fp s3 H3,PE (w6 X scope Nc Cc pins fp s3 H3) elt te)
  (hsw:swapsWith (.ListComp elt [⟨tg,iter,ifs,0⟩] scope pos) (some (.Name x pos')) pos''.line X.env=pure true)
  (hs:∀ x,foldedSetIterable iter X.env x=pure x:=by intro _;rfl) (hf:X.fn x=true∨X.env.scope.names.lookup x=some .local:=by first | exact .inl rfl | exact .inr rfl | assumption) :
  PS X (.Assign [.Name x pos'] (.ListComp elt [⟨tg,iter,ifs,0⟩] scope pos) pos'') (aAq (aIw fr wi g tt te) (pS i)):=by
 have ok:=sO.of ok
 intro pins s σ H Dn I h
 rw [exec_Assign_Name_used _ _ _ _ hsw]
 refine wpAny_bind (wpAny_standAt (wpAny_bind ?_))
 refine wpAny_bind (m:=comprehension (.ListComp elt [⟨tg,iter,ifs,0⟩] scope pos) scope X.env (firstIterPos [⟨tg,iter,ifs,0⟩] pos) (newList []) false (eval iter X.env) (some (assign (.Name x pos') X.env))) ?_
 refine fG (wpAny_comprehension_free (use:=some (assign (.Name x pos') X.env)) (Q:=fun _ s'=>SP X pins Dn .next s') rfl hs (pR (pM ok I)) ok.kind ok.nms (fG (hit pins s σ H _ I h) fun v s1 h1=>fG h1 fun itv s2 h2=>?_)) fun _ s' q=>wpAny_pure (wpAny_pure q)
 obtain ⟨it,fp,tn,J,H2,e,I2,T,st2,f2,w⟩:=h2
 subst e
 refine fG (aAS ok hc hg ht he I2 T st2 f2 w) fun acc s3 h3=>fG h3 fun cenv s4 h4=>codeAny_mono h4 fun r s5 h5=>?_
 obtain ⟨D,H5,rfl,rfl,I5,f5,⟨m5,n5⟩,q5⟩:=h5
 refine wpAny_assign_Name (aBe (v:=.ref D) I5 hN hi hx rfl (fun s6 I6 ⟨a,sb,ha⟩=>?_) hf)
 have nC:cenv.locals≠a:=by
  rcases ha with ha | ha
  ·rw [ha];exact f5.2.1
  ·exact Ne.symm (f5.2.2.2.2.1 x a ha)
 refine ⟨m5,n5.sameBut sb nC,fun h' sb'=>⟨_,H5,yP I6 f5 sb',q5⟩⟩
end
section
variable {X:Cx}
def aLV (K:PySem.W.Frag):R2:=fun x y H Q=>∃ a b ys,x = .ref a∧y = .ref b∧fY K H a []∧fY K H b ys∧Q (.ref b) H
theorem aJz:tK X (binaryOp .Add) (aLV X.K):=by
 intro pins s σ H x y v u Q I rx ry h
 obtain ⟨a,b,ys,rfl,rfl,ha,hb,q⟩:=h
 cases rx
 cases ry
 obtain ⟨its,r1,p1,_⟩:=I.tuple ha
 obtain ⟨its2,r2,p2,_⟩:=I.tuple hb
 have e:its=[]:=r1.nil_iff.mpr rfl
 subst e
 obtain ⟨⟨cls,dd,data,sl⟩,ho,hc,n,hd⟩:=id p1
 obtain ⟨⟨cls2,dd2,data2,sl2⟩,ho2,hc2,n2,hd2⟩:=id p2
 simp only at hc hd hc2 hd2
 subst hc hd hc2 hd2
 exact concat_meets ⟨_,ho,rfl⟩ ⟨_,ho2,rfl⟩ noFill_tuple_add seq_tuple_add PySem.F.slot_tuple_add PySem.F.entry_tuple_add (PySem.F.args_tuple_add_2 _ _)
  (tuple_addW0 a b [].toArray its2.toArray n n2 dd dd2 sl sl2 (by simp)) ⟨ho,ho2,⟨.ref b,H,I,rfl,q⟩⟩
theorem v9:fillsNumberSlot (.type "tuple") "mul"=pure false:=
 PySem.fillsNumberSlot_seq (id:="tuple.__mul__") (r:=some (.builtin "tuple.__rmul__")) F.slot_tuple_mul.lookup (by decide +kernel) F.slot_tuple_rmul.lookup (by decide +kernel)
theorem aBL:seqRepeat? (.type "tuple")=pure (some (.builtin "tuple.__mul__")):=by
 unfold seqRepeat?
 have e1   := PySem.seqSlot_of (T:="tuple") (name:="__mul__") (id:="tuple.__mul__") F.slot_tuple_mul.lookup (by decide +kernel)
 have e2   := PySem.seqSlot_of (T:="tuple") (name:="__rmul__") (id:="tuple.__rmul__") F.slot_tuple_rmul.lookup (by decide +kernel)
 rw [e1,e2]
 rfl
theorem y9 (a:Int) (t:Tok) (l:Addr) (items:Array Value) (n:Nat) (dd:Option Addr) (sl:Array (Option Value)) :
  Meets (Builtin.«int.__rmul__» ⟨[.int a t,.ref l],[]⟩) (fun _ R s=>s.heap.get? l=some { cls:=.type "tuple",dict:=dd,data:=.seq items n,slots:=sl }∧R (.ok (.ret Value.notImplemented)) s):=
 .of_wp fun prog w A R s h=>by
  obtain ⟨hp,g,d,tk,os⟩:=s
  obtain ⟨hl,h⟩:=h
  wp_walk
  exact ⟨_,rfl,h⟩
theorem aEs (l:Addr) (items:Array Value) (n:Nat) (dd:Option Addr) (sl:Array (Option Value)) (x:Int) (u:Tok) (h1:1<x) (h2:x<2 ^ 63) (h3:items.isEmpty=false) (h4:items.size * x≤sizeLine) :
  Meets (Builtin.«tuple.__mul__» ⟨[.ref l,.int x u],[]⟩) (fun _ R s=>s.heap.get? l=some { cls:=.type "tuple",dict:=dd,data:=.seq items n,slots:=sl } ∧
   R (.ok (.ret (Value.ref s.heap.objs.size))) { s with heap:=s.heap.push { cls:=Value.type "tuple",data:=Data.seq (List.foldl (fun x1 x2=>x1++x2) #[] (List.replicate x.toNat items)) } }):=
 .of_wp fun prog w A R s h=>by
  obtain ⟨hl,h⟩:=h
  have hT:s.TypeIs (.ref l) "tuple":=⟨_,hl,rfl⟩
  have hI:IsTup s.heap l items:=⟨_,hl,rfl,n,rfl⟩
  have f1:=AutoSeq1.idx_int
  unfold Builtin.«tuple.__mul__»
  obtain ⟨hp,g,d,tk,os⟩:=s
  wp_walk using wpAny_loadPart' hl
  rw [if_neg (by simp;omega)]
  refine wpAny_bind (tupleItemsOf_ hI ?_)
  dsimp only
  have hx1:(x == 1)=false:=by
   have:x≠1:=by omega
   simpa using this
  have e0:¬ (items.isEmpty || x == 1)=true:=by
   rw [h3,hx1]
   simp
  have e1:¬ (decide (x≤0) || items.isEmpty)=true:=by
   have:¬ x≤0:=by omega
   rw [h3]
   simpa using this
  have hl9:(sizeLine:Int)≤(2 ^ 63-1) / 8:=by decide
  have e2:¬ ((items.size:Int) * x > (2 ^ 63-1) / 8):=by omega
  have e3:¬ Builtin.Tuple.tupleTooMany ((items.size:Int) * x)=true:=by
   unfold Builtin.Tuple.tupleTooMany
   simpa using h4
  rw [if_neg e0,if_neg e1,if_neg e2,if_neg e3]
  have hsz:(List.foldl (fun x1 x2=>x1++x2) #[] (List.replicate x.toNat items)).size≤sizeLine:=by
   have q:=rG items.toList x.toNat []
   have q2:List.foldl (fun x1 x2=>x1++x2) #[] (List.replicate x.toNat items)=(List.replicate x.toNat items.toList).flatten.toArray:=by
    simpa using q
   rw [q2,List.size_toArray,aCg,Array.length_toList]
   have e:((x.toNat:Nat):Int)=x:=by omega
   have:((x.toNat * items.size:Nat):Int)≤(sizeLine:Int):=by
    rw [Int.natCast_mul,e,Int.mul_comm]
    exact h4
   omega
  exact wpAny_bind (m:=Builtin.Tuple.tupleExact _) (wpAny_newObj_type (wpAny_pure ⟨_,rfl,h⟩) hsz)
def aMk (K:PySem.W.Frag):R2:=fun x y H Q=>∃ l k xs,x = .ref l∧y = .int k∧fY K H l xs∧1<k∧k<2 ^ 63∧xs≠[]∧(xs.length:Int) * k≤sizeLine ∧
 ∀ p,H p=none→Q (.ref p) (upd H p (.tup (List.replicate k.toNat xs).flatten))
theorem aJZ:tK X (binaryOp .Mult) (aMk X.K):=by
 intro pins s σ H x y v u Q I rx ry h
 obtain ⟨l,k,xs,rfl,rfl,hH,h1,h2,hne,hz,q⟩:=h
 cases rx
 obtain ⟨t,rfl⟩:=ry
 obtain ⟨its,r,ht,hzz⟩:=I.tuple hH
 have hl:=r.length
 obtain ⟨⟨cls,dd,data,sl⟩,ho,hc,n,hd⟩:=id ht
 simp only at hc hd
 subst hc hd
 have hnew:List.foldl (fun x1 x2=>x1++x2) #[] (List.replicate k.toNat its.toArray)=(List.replicate k.toNat its).flatten.toArray:=by
  have:=rG its k.toNat []
  rw [List.nil_append] at this
  exact this
 have h3:its.toArray.isEmpty=false:=by
  cases its with
  | nil=>exact absurd (r.nil_iff.mp rfl) hne
  | cons a b=>rfl
 have h4:(its.toArray.size:Int) * k≤sizeLine:=by rw [List.size_toArray,← hl];exact hz
 refine wpAny_binaryOp_repeat_ref (T:="tuple") (U:="int") (by decide) ⟨_,ho,rfl⟩ (fun s'=>typeIs_int s' k t) v9 F.fills_int_mul F.slot_int_rmul aBL F.slot_int_index.lookup
  (call_meets F.slot_int_rmul (typeIs_int s k t) F.entry_int_rmul (F.args_int_rmul_2 _ _) (y9 k t l its.toArray n dd sl)
   ⟨ho,rfl,⟨_,ho,rfl⟩,call_meets F.slot_tuple_mul ⟨_,ho,rfl⟩ F.entry_tuple_mul (F.args_tuple_mul_2 _ _) (aEs l its.toArray n dd sl k t h1 h2 h3 h4) ⟨ho,?_⟩⟩)
 rw [hnew]
 have hln:(List.replicate k.toNat xs).flatten.length≤sizeLine:=by
  rw [aCg]
  have e:((k.toNat:Nat):Int)=k:=by omega
  have:((k.toNat * xs.length:Nat):Int)≤(sizeLine:Int):=by
   rw [Int.natCast_mul,e,Int.mul_comm]
   exact hz
  omega
 refine ⟨.ref s.heap.objs.size,_,I.laid (t':=s.toks) (o:=.tup (List.replicate k.toNat xs).flatten) (fun b ob q=>Heap.get?_push_of_some _ q) (Nat.le_refl _) ⟨hln,_,r.rep k.toNat,IsTup.new _ _⟩,rfl,q _ I.fresh⟩
theorem aDR {bs:List Bool}:∀ {us:List Value},cE (bs.map V.bl) us→PyProof.Rows.LSm.BoolsAre us bs:=by
 induction bs with
 | nil=>intro us r;cases r;exact .nil
 | cons b bs ih=>
  intro us r
  cases r with
  | cons a t=>cases a;exact .cons _ (ih t)
end
section
variable {X:Cx}
theorem aJ5 {s:Shared}{h':Heap}{o:Obj} (hk:∀ b x,b∉[s.heap.objs.size]→(s.heap.push o).get? b=some x→h'.get? b=some x):∀ b x,s.heap.get? b=some x→h'.get? b=some x:=
 fun b x e=>hk b x (fun hm=>by
  rw [List.mem_singleton.mp hm] at e
  exact Nat.lt_irrefl _ (Heap.lt_size e)) (Heap.get?_push_of_some _ e)
theorem aKW (bs:List Bool):((List.range bs.length).all fun i=>(bs[i]?).getD true)=bs.all id:=by
 rw [Bool.eq_iff_iff]
 simp only [List.all_eq_true,List.mem_range,id]
 constructor
 ·intro h b hb
  obtain ⟨i,hi,rfl⟩:=List.mem_iff_getElem.mp hb
  have:=h i hi
  simpa [hi] using this
 ·intro h i hi
  simp only [List.getElem?_eq_getElem hi,Option.getD_some]
  exact h _ (List.getElem_mem hi)
theorem aHR (hc:X.calm=true):nO X (.builtin "all") (fun xs H Q=>∃ (p:Addr) (bs:List Bool),xs=[.ref p]∧jS X.K H p (bs.map V.bl)∧Q (.bl (bs.all id)) H):=by
 intro pins s σ H xs us Q I r h
 obtain ⟨p,bs,rfl,hq,q⟩:=h
 obtain ⟨u,rfl,rx⟩:=tN r
 cases rx
 obtain ⟨its,r',pl,hz⟩:=I.list hq
 have hb:=aDR r'
 have hl:=pl.isList
 have hlt:p<s.heap.objs.size:=by obtain ⟨_,e,_⟩:=hl;exact Heap.lt_size e
 refine call_all_walk (wpAny_pyIter_list hl ?_)
 refine ⟨s.heap.objs.size,[s.heap.objs.size,p],[s.heap.objs.size],its.toArray.size,_,_,fun i=>(bs[i]?).getD true,rfl,Walks.list (A:=X.A.in1) (I.ok.hd hc) _ p (Nat.ne_of_lt hlt) its.toArray,
  ⟨⟨_,Heap.get?_push_size _ rfl,rfl,rfl⟩,hl.push _⟩,fun i v s' Q' E' hP hQ=>?_,fun h' tk hk=>?_⟩
 ·obtain ⟨b,e,rfl⟩:=hb.get i v (by simpa using hP)
  simp only [e,Option.getD_some] at hQ
  exact wpAny_truthy_bool hQ
 ·have e:its.toArray.size=bs.length:=by
   have:=r'.length
   rw [List.length_map] at this
   rw [List.size_toArray,← this]
  rw [e,aKW]
  exact ⟨.bl (bs.all id),H,I.kept (aJ5 hk),rfl,q⟩
def aEA (K:PySem.W.Frag) (H:Hp) (x:V) (n:String):Prop:=match x with
 | .non=>n="NoneType"
 | .bl _=>n="bool"
 | .int _=>n="int"
 | .str _=>n="str"
 | .ref a=>(n="list"∧∃ xs,jS K H a xs)∨(n="tuple"∧∃ xs,fY K H a xs)
 | _=>False
theorem aJF {pins:List (Addr×Obj)}{σ:St}{H:Hp}{s:Shared}{A:Around}{E:Value→Shared→Prop}{Q:Value→Shared→Prop}{c:Value}{b:Bool}{x:V}{u:Value}{n:String} (I:bG X pins σ H s) (rx:cG x u) (ty:aEA X.K H x n)
  (e:PySem.W.kitOne X.K (.type n) c=some b) (h:∀ tk,Q (.bool b) { s with toks:=tk }):wpAny (model X.prog X.w) A (call (.builtin "isinstance") [u,c]) Q E s:=by
 cases x with
 | non=>cases (show n=_ from ty);exact rP I rx .non e h
 | bl y=>cases (show n=_ from ty);exact rP I rx (.bl y) e h
 | int i=>cases (show n=_ from ty);exact rP I rx (.int i) e h
 | str y=>cases (show n=_ from ty);exact rP I rx (.str y) e h
 | ref a=>
  cases (show u=Value.ref a from rx)
  rcases (show (n="list"∧∃ xs,jS X.K H a xs)∨(n="tuple"∧∃ xs,fY X.K H a xs) from ty) with ⟨rfl,xs,hx⟩ | ⟨rfl,xs,hx⟩
  ·obtain ⟨its,_,pl,_⟩:=I.list hx
   obtain ⟨o,h1,h2,_⟩:=pl.isList
   exact PySem.W.kia_one PySem.W.kitx_list I.kIn ⟨o,h1,h2⟩ e (fun z=>nomatch z) h
  ·obtain ⟨its,_,pl,_⟩:=I.tuple hx
   obtain ⟨o,h1,h2,_⟩:=pl
   exact PySem.W.kia_one PySem.W.kitx_tuple I.kIn ⟨o,h1,h2⟩ e (fun z=>nomatch z) h
 | _=>exact False.elim ty
def wM (n c:String):Bool:=n == c || (n == "bool" && c == "int")
theorem aJX (K:PySem.W.Frag) {n c:String} (hn:n="NoneType"∨n="bool"∨n="int"∨n="str"∨n="list"∨n="tuple") (hc:c="int"∨c="bool"∨c="str"∨c="list"∨c="tuple"):PySem.W.kitOne K (.type n) (.type c)=some (wM n c):=by
 rcases hn with rfl | rfl | rfl | rfl | rfl | rfl <;> rcases hc with rfl | rfl | rfl | rfl | rfl <;> first | rfl | (unfold PySem.W.kitOne;rfl) | trace_state
theorem aC1:nO X (.builtin "isinstance") (fun xs H Q=>∃ x c n,xs=[x,.ty c]∧(c="int"∨c="bool"∨c="str"∨c="list"∨c="tuple")∧aEA X.K H x n∧Q (.bl (wM n c)) H):=by
 intro pins s σ H xs us Q I r h
 obtain ⟨x,c,n,rfl,hc,ty,q⟩:=h
 obtain ⟨u,u2,rfl,rx,rc⟩:=aMy r
 cases rc
 have hn:n="NoneType"∨n="bool"∨n="int"∨n="str"∨n="list"∨n="tuple":=by
  cases x with
  | non=>exact .inl ty
  | bl y=>exact .inr (.inl ty)
  | int i=>exact .inr (.inr (.inl ty))
  | str y=>exact .inr (.inr (.inr (.inl ty)))
  | ref a=>
   rcases (show (n="list"∧∃ xs,jS X.K H a xs)∨(n="tuple"∧∃ xs,fY X.K H a xs) from ty) with z | z
   ·exact .inr (.inr (.inr (.inr (.inl z.1))))
   ·exact .inr (.inr (.inr (.inr (.inr z.1))))
  | _=>exact False.elim ty
 exact aJF I rx ty (aJX X.K hn hc) fun tk=>⟨.bl (wM n c),H,I.tok tk,rfl,q⟩
end
inductive D where
 | int (i:Int) | bl (b:Bool) | non | str (x:Str) | tup (ds:List D) | lst (ds:List D)
 deriving Inhabited
mutual
def i5 (K:PySem.W.Frag) (C:Hp) (v:V):D→Prop
 | .int i=>v = .int i
 | .bl b=>v = .bl b
 | .non=>v = .non
 | .str x=>v = .str x
 | .tup ds=>∃ a xs,v = .ref a∧fY K C a xs∧bO K C xs ds
 | .lst ds=>∃ a xs,v = .ref a∧jS K C a xs∧bO K C xs ds
def bO (K:PySem.W.Frag) (C:Hp) (vs:List V):List D→Prop
 | []=>vs=[]
 | d::ds=>∃ x xs,vs=x::xs∧i5 K C x d∧bO K C xs ds
end
theorem bY.seqT {K:PySem.W.Frag}{H H':Hp}{a:Addr}{xs:List V} (e:bY H H') (h:fY K H a xs):fY K H' a xs:=by
 rcases h with h | h
 ·rcases h with h | ⟨o,h⟩
  ·exact .inl (.inl (e _ _ h))
  ·exact .inl (.inr ⟨o,e _ _ h⟩)
 ·exact .inr h
mutual
theorem i5.mono {K:PySem.W.Frag}{C C':Hp} (e:bY C C'):∀ {v:V} (d:D),i5 K C v d→i5 K C' v d
 | v,.int i,h=>by unfold i5 at h ⊢;exact h
 | v,.bl i,h=>by unfold i5 at h ⊢;exact h
 | v,.non,h=>by unfold i5 at h ⊢;exact h
 | v,.str i,h=>by unfold i5 at h ⊢;exact h
 | v,.tup ds,h=>by
  unfold i5 at h ⊢
  obtain ⟨a,xs,r,q,t⟩:=h
  exact ⟨a,xs,r,e.seqT q,bO.mono e ds t⟩
 | v,.lst ds,h=>by
  unfold i5 at h ⊢
  obtain ⟨a,xs,r,q,t⟩:=h
  exact ⟨a,xs,r,e.seq q,bO.mono e ds t⟩
theorem bO.mono {K:PySem.W.Frag}{C C':Hp} (e:bY C C'):∀ {vs:List V} (ds:List D),bO K C vs ds→bO K C' vs ds
 | vs,[],h=>by unfold bO at h ⊢;exact h
 | vs,d::ds,h=>by
  unfold bO at h ⊢
  obtain ⟨x,xs,r,q,t⟩:=h
  exact ⟨x,xs,r,i5.mono e d q,bO.mono e ds t⟩
end
section
variable {K:PySem.W.Frag}{C:Hp}
theorem aT {v:V}{i:Int}:i5 K C v (.int i)↔v = .int i:=by unfold i5;exact Iff.rfl
theorem c6 {v:V}{i:Bool}:i5 K C v (.bl i)↔v = .bl i:=by unfold i5;exact Iff.rfl
theorem eD {v:V}:i5 K C v .non↔v = .non:=by unfold i5;exact Iff.rfl
theorem fZ {v:V}{i:Str}:i5 K C v (.str i)↔v = .str i:=by unfold i5;exact Iff.rfl
theorem bM {v:V}{ds:List D}:i5 K C v (.tup ds)↔∃ a xs,v = .ref a∧fY K C a xs∧bO K C xs ds:=by rw [i5]
theorem bV {v:V}{ds:List D}:i5 K C v (.lst ds)↔∃ a xs,v = .ref a∧jS K C a xs∧bO K C xs ds:=by rw [i5]
theorem gD {vs:List V}:bO K C vs []↔vs=[]:=by rw [bO]
theorem dA {vs:List V}{d:D}{ds:List D}:bO K C vs (d::ds)↔∃ x xs,vs=x::xs∧i5 K C x d∧bO K C xs ds:=by rw [bO]
theorem bO.cons {v:V}{vs:List V}{d:D}{ds:List D} (h:i5 K C v d) (t:bO K C vs ds):bO K C (v::vs) (d::ds):=dA.mpr ⟨v,vs,rfl,h,t⟩
theorem bO.nil:bO K C [] []:=gD.mpr rfl
theorem bO.length:∀ {vs:List V}{ds:List D},bO K C vs ds→vs.length=ds.length
 | vs,[],h=>by
  rw [gD.mp h]
  rfl
 | vs,d::ds,h=>by
  obtain ⟨x,xs,rfl,_,t⟩:=dA.mp h
  simp [bO.length t]
theorem bO.append:∀ {vs us:List V}{ds es:List D},bO K C vs ds→bO K C us es→bO K C (vs++us) (ds++es)
 | vs,us,[],es,h,q=>by rw [gD.mp h];exact q
 | vs,us,d::ds,es,h,q=>by
  obtain ⟨x,xs,rfl,a,t⟩:=dA.mp h
  exact bO.cons a (bO.append t q)
theorem bO.drop:∀ {vs:List V}{ds:List D} (n:Nat),bO K C vs ds→bO K C (vs.drop n) (ds.drop n)
 | vs,ds,0,h=>h
 | vs,[],n+1,h=>by rw [gD.mp h];exact .nil
 | vs,d::ds,n+1,h=>by
  obtain ⟨x,xs,rfl,a,t⟩:=dA.mp h
  exact bO.drop n t
theorem bO.take:∀ {vs:List V}{ds:List D} (n:Nat),bO K C vs ds→bO K C (vs.take n) (ds.take n)
 | vs,ds,0,h=>by simp;exact .nil
 | vs,[],n+1,h=>by rw [gD.mp h];exact .nil
 | vs,d::ds,n+1,h=>by
  obtain ⟨x,xs,rfl,a,t⟩:=dA.mp h
  exact bO.cons a (bO.take n t)
theorem bO.get:∀ {vs:List V}{ds:List D}{i:Nat}{d:D},bO K C vs ds→ds[i]? = some d→∃ v,vs[i]? = some v∧i5 K C v d
 | vs,[],i,d,h,e=>by cases e
 | vs,c::ds,0,d,h,e=>by
  obtain ⟨x,xs,rfl,a,t⟩:=dA.mp h
  cases e
  exact ⟨x,rfl,a⟩
 | vs,c::ds,i+1,d,h,e=>by
  obtain ⟨x,xs,rfl,a,t⟩:=dA.mp h
  exact bO.get (i:=i) t e
theorem bO.rep {vs:List V}{ds:List D} (h:bO K C vs ds):∀ k:Nat,bO K C (List.replicate k vs).flatten (List.replicate k ds).flatten
 | 0=>.nil
 | k+1=>by
  rw [List.replicate_succ,List.flatten_cons,List.replicate_succ,List.flatten_cons]
  exact h.append (bO.rep h k)
theorem bO.ints {vs:List V}:∀ {ns:List Int},bO K C vs (ns.map D.int)→vs=ns.map V.int:=by
 intro ns
 induction ns generalizing vs with
 | nil=>intro h;exact gD.mp h
 | cons n ns ih=>
  intro h
  obtain ⟨x,xs,rfl,a,t⟩:=dA.mp h
  rw [aT.mp a,ih t]
  rfl
theorem bO.bools {vs:List V}:∀ {ns:List Bool},bO K C vs (ns.map D.bl)→vs=ns.map V.bl:=by
 intro ns
 induction ns generalizing vs with
 | nil=>intro h;exact gD.mp h
 | cons n ns ih=>
  intro h
  obtain ⟨x,xs,rfl,a,t⟩:=dA.mp h
  rw [c6.mp a,ih t]
  rfl
end
structure eM (C H C1 H1:Hp):Prop where
 hh:bY H H1
 cc:bY C C1
 ch:bY C1 H1
 ow:∀ b,C b=none→H b≠none→C1 b=none
theorem eM.refl {C H:Hp} (h:bY C H):eM C H C H:=⟨bY.refl _,bY.refl _,h,fun _ e _=>e⟩
theorem eM.trans {C H C1 H1 C2 H2:Hp} (a:eM C H C1 H1) (b:eM C1 H1 C2 H2):eM C H C2 H2:=
 ⟨a.hh.trans b.hh,a.cc.trans b.cc,b.ch,fun c e n=>b.ow c (a.ow c e n) fun z=>n (a.hh.free z)⟩
theorem bY.upd {H:Hp}{p:Addr}{o:HO} (h:H p=none):bY H (upd H p o):=fun b u e=>by rw [aS (b8 e h)];exact e
theorem eM.new {C H:Hp}{p:Addr}{o:HO} (h:bY C H) (hp:H p=none):eM C H (upd C p o) (upd H p o):=by
 refine ⟨bY.upd hp,bY.upd (h.free hp),fun b u e=>?_,fun b e n=>?_⟩
 ·by_cases hb:b=p
  ·subst hb;rw [bH] at e ⊢;exact e
  ·rw [aS hb] at e ⊢;exact h b u e
 ·rw [aS (fun z=>n (by rw [z];exact hp))];exact e
theorem eM.newO {C H:Hp}{p:Addr}{o:HO} (h:bY C H) (hp:H p=none):eM C H C (upd H p o):=
 ⟨bY.upd hp,bY.refl _,h.trans (bY.upd hp),fun b e n=>e⟩
inductive DM where
 | k (kvs:List (Int×Int)) | t (kvs:List (List Int×Int)) | p (kvs:List ((Int×List Int)×Int))
def nkT (r:List Int):NK:=r.map fun i=>Sum.inl (Sum.inl i)
def nkP (p:Int×List Int):NK:=[Sum.inl (Sum.inl p.1),Sum.inr (p.2.map Sum.inl)]
def shT:Nat→Bool:=fun _=>true
def shP:Nat→Bool:=fun i=>i == 0
def tJ (K:PySem.W.Frag):DM→HO
 | .k kvs=>.dK (kvs.map fun p=>(Sum.inl p.1,.int p.2))
 | .t kvs=>.dT K shT (kvs.map fun p=>(nkT p.1,.int p.2))
 | .p kvs=>.dT K shP (kvs.map fun p=>(nkP p.1,.int p.2))
theorem xB {K:PySem.W.Frag}{m:DM}{xs:List V}:tJ K m≠.lst xs:=by cases m <;> intro z <;> cases z
inductive Sl where
 | un | im (d:D) | ow (ds:List D) | od (m:DM) | fd (m:DM)
abbrev DS:=List Sl
structure Dcs (K:PySem.W.Frag) (H0:Hp) (δ:DS) (σ:St) (C H:Hp):Prop where
 od:∀ (i:Nat) m,δ[i]? = some (.od m)→∃ l,σ[i]? = some (some (.ref l))∧C l=none∧H0 l=none∧H l=some (tJ K m)
 fd:∀ (i:Nat) m,δ[i]? = some (.fd m)→∃ l o,σ[i]? = some (some (.ref l))∧C l=some (.frz o (tJ K m))
 ap:∀ (i j:Nat) m n l,i≠j→δ[i]? = some (.od m)→δ[j]? = some (.od n)→σ[i]? = some (some (.ref l))→σ[j]? ≠ some (some (.ref l))
def Sl.isD:Sl→Bool
 | .od _=>true
 | .fd _=>true
 | _=>false
theorem aAO {α:Type}{l:List α}{i j:Nat}{x y:α} (h:(l.set i x)[j]? = some y):(j=i∧x=y∧i<l.length)∨(j≠i∧l[j]? = some y):=by
 by_cases e:j=i
 ·subst e
  have hl:j<l.length:=by
   have:=(List.getElem?_eq_some_iff.mp h).1
   simpa using this
  rw [List.getElem?_set_self hl] at h
  exact .inl ⟨rfl,Option.some.inj h,hl⟩
 ·rw [List.getElem?_set_ne (Ne.symm e)] at h
  exact .inr ⟨e,h⟩
section
variable {K:PySem.W.Frag}{H0 C H C1 H1:Hp}{δ:DS}{σ:St}
theorem Dcs.grow (D:Dcs K H0 δ σ C H) (e:eM C H C1 H1):Dcs K H0 δ σ C1 H1:=by
 refine ⟨fun i m h=>?_,fun i m h=>?_,D.ap⟩
 ·obtain ⟨l,a,b,c,d⟩:=D.od i m h
  exact ⟨l,a,e.ow l b (by rw [d];simp),c,e.hh _ _ d⟩
 ·obtain ⟨l,o,a,b⟩:=D.fd i m h
  exact ⟨l,o,a,e.cc _ _ b⟩
theorem Dcs.weak (D:Dcs K H0 δ σ C H) {δ':DS} (h:∀ (i:Nat) x,δ'[i]? = some x→x.isD=true→δ[i]? = some x):Dcs K H0 δ' σ C H:=
 ⟨fun i m e=>D.od i m (h i _ e rfl),fun i m e=>D.fd i m (h i _ e rfl),fun i j m n l hij e1 e2=>D.ap i j m n l hij (h i _ e1 rfl) (h j _ e2 rfl)⟩
theorem Dcs.set1 (D:Dcs K H0 δ σ C H) {i:Nat}{x:Sl} (hx:x.isD=false):Dcs K H0 (δ.set i x) σ C H:=D.weak fun j y e hy=>by
 rcases aAO e with ⟨_,z,_⟩ | ⟨_,e⟩
 ·rw [← z,hx] at hy;cases hy
 ·exact e
theorem Dcs.set2 (D:Dcs K H0 δ σ C H) {i:Nat}{x:Sl}{o:Option V} (hx:x.isD=false):Dcs K H0 (δ.set i x) (σ.set i o) C H:=by
 have key:∀ (j:Nat) y,(δ.set i x)[j]? = some y→y.isD=true→j≠i∧δ[j]? = some y:=fun j y e hy=>by
  rcases aAO e with ⟨_,z,_⟩ | ⟨hj,e⟩
  ·rw [← z,hx] at hy;cases hy
  ·exact ⟨hj,e⟩
 refine ⟨fun j m e=>?_,fun j m e=>?_,fun j k m n l hjk e1 e2 e3=>?_⟩
 ·obtain ⟨hj,e⟩:=key j _ e rfl
  rw [List.getElem?_set_ne (Ne.symm hj)]
  exact D.od j m e
 ·obtain ⟨hj,e⟩:=key j _ e rfl
  rw [List.getElem?_set_ne (Ne.symm hj)]
  exact D.fd j m e
 ·obtain ⟨hj,e1⟩:=key j _ e1 rfl
  obtain ⟨hk,e2⟩:=key k _ e2 rfl
  rw [List.getElem?_set_ne (Ne.symm hj)] at e3
  rw [List.getElem?_set_ne (Ne.symm hk)]
  exact D.ap j k m n l hjk e1 e2 e3
theorem Dcs.frzL (D:Dcs K H0 δ σ C H) {l:Addr}{xs:List V} (hc:C l=none) (hl:H l=some (.lst xs)):Dcs K H0 δ σ (upd C l (.lst xs)) H:=by
 refine ⟨fun i m e=>?_,fun i m e=>?_,D.ap⟩
 ·obtain ⟨k,a,b,c,d⟩:=D.od i m e
  exact ⟨k,a,by rw [aS (aAH d hl xB)];exact b,c,d⟩
 ·obtain ⟨k,o,a,b⟩:=D.fd i m e
  exact ⟨k,o,a,bY.upd hc _ _ b⟩
theorem Dcs.updL (D:Dcs K H0 δ σ C H) {l:Addr}{xs ys:List V} (hl:H l=some (.lst xs)):Dcs K H0 δ σ C (upd H l (.lst ys)):=by
 refine ⟨fun i m e=>?_,D.fd,D.ap⟩
 obtain ⟨k,a,b,c,d⟩:=D.od i m e
 exact ⟨k,a,b,c,by rw [aS (aAH d hl xB)];exact d⟩
theorem Dcs.none (h:∀ (i:Nat) x,δ[i]? = some x→x.isD=false):Dcs K H0 δ σ C H:=by
 refine ⟨fun i m e=>?_,fun i m e=>?_,fun i j m n l _ e=>?_⟩
 ·have:=h i _ e
  cases this
 ·have:=h i _ e
  cases this
 ·have:=h i _ e
  cases this
end
structure gI (K:PySem.W.Frag) (C0 H0:Hp) (δ:DS) (σ:St) (C H:Hp):Prop where
 len:σ.length=δ.length
 ext:eM C0 H0 C H
 im:∀ (i:Nat) d,δ[i]? = some (.im d)→∃ v,σ[i]? = some (some v)∧i5 K C v d
 ow:∀ (i:Nat) ds,δ[i]? = some (.ow ds)→∃ l xs,σ[i]? = some (some (.ref l))∧C l=none∧H0 l=none∧H l=some (.lst xs)∧bO K C xs ds
 ap:∀ (i j:Nat) ds es l,i≠j→δ[i]? = some (.ow ds)→δ[j]? = some (.ow es)→σ[i]? = some (some (.ref l))→σ[j]? ≠ some (some (.ref l))
 dc:Dcs K H0 δ σ C H
section
variable {K:PySem.W.Frag}{C0 H0 C H C1 H1:Hp}{δ:DS}{σ:St}
theorem gI.grow (R:gI K C0 H0 δ σ C H) (e:eM C H C1 H1):gI K C0 H0 δ σ C1 H1:=by
 refine ⟨R.len,R.ext.trans e,fun i d h=>?_,fun i ds h=>?_,R.ap,R.dc.grow e⟩
 ·obtain ⟨v,a,b⟩:=R.im i d h
  exact ⟨v,a,b.mono e.cc⟩
 ·obtain ⟨l,xs,a,b,c,d,f⟩:=R.ow i ds h
  exact ⟨l,xs,a,e.ow l b (by rw [d];simp),c,e.hh _ _ d,f.mono e.cc⟩
theorem gI.ch (R:gI K C0 H0 δ σ C H):bY C H:=R.ext.ch
theorem aR {α:Type}{l:List α}{i j:Nat}{x y:α} (h:(l.set i x)[j]? = some y):(j=i∧x=y∧i<l.length)∨(j≠i∧l[j]? = some y):=by
 by_cases e:j=i
 ·subst e
  have hl:j<l.length:=by
   have:=(List.getElem?_eq_some_iff.mp h).1
   simpa using this
  rw [List.getElem?_set_self hl] at h
  exact .inl ⟨rfl,Option.some.inj h,hl⟩
 ·rw [List.getElem?_set_ne (Ne.symm e)] at h
  exact .inr ⟨e,h⟩
theorem gI.setI (R:gI K C0 H0 δ σ C H) {i:Nat}{v:V}{d:D} (h:i5 K C v d):gI K C0 H0 (δ.set i (.im d)) (σ.set i (some v)) C H:=by
 refine ⟨by simp [R.len],R.ext,fun j e h'=>?_,fun j ds h'=>?_,fun j k ds es l hjk h1 h2 h3=>?_,R.dc.set2 rfl⟩
 ·rcases aR h' with ⟨rfl,e1,hl⟩ | ⟨hj,h'⟩
  ·cases e1
   exact ⟨v,by rw [List.getElem?_set_self (by rw [R.len];exact hl)],h⟩
  ·obtain ⟨u,a,b⟩:=R.im j e h'
   exact ⟨u,by rw [List.getElem?_set_ne (Ne.symm hj)];exact a,b⟩
 ·rcases aR h' with ⟨_,e1,_⟩ | ⟨hj,h'⟩
  ·cases e1
  ·obtain ⟨l,xs,a,b⟩:=R.ow j ds h'
   exact ⟨l,xs,by rw [List.getElem?_set_ne (Ne.symm hj)];exact a,b⟩
 ·rcases aR h1 with ⟨_,e1,_⟩ | ⟨hj,h1⟩
  ·cases e1
  ·rcases aR h2 with ⟨_,e1,_⟩ | ⟨hk,h2⟩
   ·cases e1
   ·rw [List.getElem?_set_ne (Ne.symm hj)] at h3
    rw [List.getElem?_set_ne (Ne.symm hk)]
    exact R.ap j k ds es l hjk h1 h2 h3
theorem gI.setO (R:gI K C0 H0 δ σ C H) {i:Nat}{l:Addr}{xs:List V}{ds:List D} (h0:H0 l=none) (hc:C l=none) (hn:∀ (j:Nat) es,j≠i→δ[j]? = some (.ow es)→σ[j]? ≠ some (some (.ref l))) (hl:H l=some (.lst xs)) (h:bO K C xs ds) :
  gI K C0 H0 (δ.set i (.ow ds)) (σ.set i (some (.ref l))) C H:=by
 refine ⟨by simp [R.len],R.ext,fun j e h'=>?_,fun j es h'=>?_,fun j k es fs m hjk h1 h2 h3=>?_,R.dc.set2 rfl⟩
 ·rcases aR h' with ⟨_,e1,_⟩ | ⟨hj,h'⟩
  ·cases e1
  ·obtain ⟨u,a,b⟩:=R.im j e h'
   exact ⟨u,by rw [List.getElem?_set_ne (Ne.symm hj)];exact a,b⟩
 ·rcases aR h' with ⟨rfl,e1,hl'⟩ | ⟨hj,h'⟩
  ·cases e1
   exact ⟨l,xs,by rw [List.getElem?_set_self (by rw [R.len];exact hl')],hc,h0,hl,h⟩
  ·obtain ⟨m,ys,a,b⟩:=R.ow j es h'
   exact ⟨m,ys,by rw [List.getElem?_set_ne (Ne.symm hj)];exact a,b⟩
 ·rcases aR h1 with ⟨rfl,e1,hl1⟩ | ⟨hj,g1⟩
  ·cases e1
   rw [List.getElem?_set_self (by rw [R.len];exact hl1)] at h3
   cases h3
   rcases aR h2 with ⟨z,_⟩ | ⟨hk,h2⟩
   ·exact absurd z.symm hjk
   ·rw [List.getElem?_set_ne (Ne.symm hk)]
    exact hn k fs hk h2
  ·rw [List.getElem?_set_ne (Ne.symm hj)] at h3
   rcases aR h2 with ⟨rfl,e1,hl1⟩ | ⟨hk,h2⟩
   ·rw [List.getElem?_set_self (by rw [R.len];exact hl1)]
    intro z
    cases z
    exact hn j es hj g1 h3
   ·rw [List.getElem?_set_ne (Ne.symm hk)]
    exact R.ap j k es fs m hjk g1 h2 h3
theorem gI.freeze' (R:gI K C0 H0 δ σ C H) {i:Nat}{ds:List D} (h:δ[i]? = some (.ow ds)):∃ C1,gI K C0 H0 (δ.set i (.im (.lst ds))) σ C1 H:=by
 obtain ⟨l,xs,a,b,c,d,f⟩:=R.ow i ds h
 have hl:i<δ.length:=(List.getElem?_eq_some_iff.mp h).1
 have up:bY C (upd C l (.lst xs)):=bY.upd b
 have ch:bY (upd C l (.lst xs)) H:=fun z u e=>by
  by_cases hz:z=l
  ·subst hz;rw [bH] at e;cases e;exact d
  ·rw [aS hz] at e;exact R.ch z u e
 refine ⟨upd C l (.lst xs),by simp [R.len],⟨R.ext.hh,R.ext.cc.trans up,ch,fun z e n=>?_⟩,fun j e h'=>?_,fun j es h'=>?_,fun j k es fs m hjk h1 h2 h3=>?_,(R.dc.frzL b d).set1 rfl⟩
 ·rw [aS (fun q=>n (by rw [q];exact c))]
  exact R.ext.ow z e n
 ·rcases aR h' with ⟨rfl,e1,hl'⟩ | ⟨hj,h'⟩
  ·cases e1
   exact ⟨.ref l,a,bV.mpr ⟨l,xs,rfl,jS.of bH,f.mono up⟩⟩
  ·obtain ⟨u,a',b'⟩:=R.im j e h'
   exact ⟨u,a',b'.mono up⟩
 ·rcases aR h' with ⟨_,e1,_⟩ | ⟨hj,h'⟩
  ·cases e1
  ·obtain ⟨m,ys,a',b',c',d',f'⟩:=R.ow j es h'
   refine ⟨m,ys,a',?_,c',d',f'.mono up⟩
   rw [aS]
   ·exact b'
   ·intro z
    subst z
    exact R.ap i j ds es m (Ne.symm hj) h h' a a'
 ·rcases aR h1 with ⟨_,e1,_⟩ | ⟨hj,h1⟩
  ·cases e1
  ·rcases aR h2 with ⟨_,e1,_⟩ | ⟨hk,h2⟩
   ·cases e1
   ·exact R.ap j k es fs m hjk h1 h2 h3
theorem gI.change (R:gI K C0 H0 δ σ C H) {i:Nat}{ds es:List D}{l:Addr}{ys:List V} (h:δ[i]? = some (.ow ds)) (hs:σ[i]? = some (some (.ref l))) (hd:bO K C ys es) :
  gI K C0 H0 (δ.set i (.ow es)) σ C (upd H l (.lst ys)):=by
 obtain ⟨l',xs,a,b,c,d,f⟩:=R.ow i ds h
 rw [hs] at a
 cases a
 have hl:i<δ.length:=(List.getElem?_eq_some_iff.mp h).1
 have ne:∀ z u,C z=some u→z≠l:=fun z u e q=>by rw [q,b] at e;cases e
 refine ⟨by simp [R.len],⟨fun z u e=>?_,R.ext.cc,fun z u e=>?_,R.ext.ow⟩,fun j e h'=>?_,fun j fs h'=>?_,fun j k fs gs m hjk h1 h2 h3=>?_,(R.dc.updL d).set1 rfl⟩
 ·rw [aS (b8 e c)];exact R.ext.hh z u e
 ·rw [aS (ne z u e)];exact R.ch z u e
 ·rcases aR h' with ⟨_,e1,_⟩ | ⟨hj,h'⟩
  ·cases e1
  ·exact R.im j e h'
 ·rcases aR h' with ⟨rfl,e1,hl'⟩ | ⟨hj,h'⟩
  ·cases e1
   exact ⟨l,ys,hs,b,c,bH,hd⟩
  ·obtain ⟨m,zs,a',b',c',d',f'⟩:=R.ow j fs h'
   refine ⟨m,zs,a',b',c',?_,f'⟩
   rw [aS]
   ·exact d'
   ·intro z
    subst z
    exact R.ap i j ds fs m (Ne.symm hj) h h' hs a'
 ·have g1:∃ fs',δ[j]? = some (.ow fs'):=by
   rcases aR h1 with ⟨rfl,_,_⟩ | ⟨_,h1⟩
   ·exact ⟨_,h⟩
   ·exact ⟨_,h1⟩
  have g2:∃ fs',δ[k]? = some (.ow fs'):=by
   rcases aR h2 with ⟨rfl,_,_⟩ | ⟨_,h2⟩
   ·exact ⟨_,h⟩
   ·exact ⟨_,h2⟩
  obtain ⟨_,g1⟩:=g1
  obtain ⟨_,g2⟩:=g2
  exact R.ap j k _ _ m hjk g1 g2 h3
end
section
variable {X:Cx}{a b c e:Expr}{ta tb tc td:TE}{pos:Pos}
end
abbrev GE:=DS→(D→Prop)→Prop
abbrev GF:=DS→(List D→Prop)→Prop
abbrev GT:=DS→(Bool→Prop)→Prop
def DE (X:Cx) (e:Expr) (g:GE):Prop:=∃ t,PE X e t∧∀ C0 H0 δ σ C H (Q:D→Prop) (R:VK),gI X.K C0 H0 δ σ C H→g δ Q→(∀ d v C1 H1,Q d→eM C H C1 H1→i5 X.K C1 v d→R v H1)→t σ H R
def DF (X:Cx) (e:Expr) (g:GF):Prop:=∃ t,PE X e t∧∀ C0 H0 δ σ C H (Q:List D→Prop) (R:VK),gI X.K C0 H0 δ σ C H→g δ Q →
 (∀ ds p xs C1 H1,Q ds→eM C H C1 H1→C1 p=none→H p=none→H1 p=some (.lst xs)→bO X.K C1 xs ds→R (.ref p) H1)→t σ H R
def DT (X:Cx) (e:Expr) (g:GT):Prop:=∃ t,PT X e t∧∀ C0 H0 δ σ C H (Q:Bool→Prop) (R:Bool→Hp→Prop),gI X.K C0 H0 δ σ C H→g δ Q→(∀ b C1 H1,Q b→eM C H C1 H1→R b H1)→t σ H R
def DW (X:Cx) (e:Expr) (g:GT):Prop:=∃ t,PW X e t∧∀ C0 H0 δ σ C H (Q:Bool→Prop) (R:Bool→Hp→Prop),gI X.K C0 H0 δ σ C H→g δ Q→(∀ b C1 H1,Q b→eM C H C1 H1→R b H1)→t σ H R
def DA (X:Cx) (es:List Expr) (g:GF):Prop:=∃ t,PA X es t∧∀ C0 H0 δ σ C H (Q:List D→Prop) (R:List V→Hp→Prop),gI X.K C0 H0 δ σ C H→g δ Q→(∀ ds vs C1 H1,Q ds→eM C H C1 H1→bO X.K C1 vs ds→R vs H1)→t σ H R
abbrev GO:=D→D→(D→Prop)→Prop
def DOp (X:Cx) (f:Value→Value→Sem Value) (g:GO):Prop:=∃ r,tK X f r∧∀ x y dx dy C H (Q:D→Prop) (R:VK),bY C H→i5 X.K C x dx→i5 X.K C y dy→g dx dy Q→(∀ d v C1 H1,Q d→eM C H C1 H1→i5 X.K C1 v d→R v H1)→r x y H R
def aDJ (X:Cx) (f:Value) (g:List D→(D→Prop)→Prop):Prop:=∃ r,nO X f r∧∀ xs ds C H (Q:D→Prop) (R:VK),bY C H→bO X.K C xs ds→g ds Q→(∀ d v C1 H1,Q d→eM C H C1 H1→i5 X.K C1 v d→R v H1)→r xs H R
def aHs (X:Cx) (f:Value) (g:List D→(List D→Prop)→Prop):Prop:=∃ r,nO X f r∧∀ xs ds C H (Q:List D→Prop) (R:VK),bY C H→bO X.K C xs ds→g ds Q →
 (∀ es p ys C1 H1,Q es→eM C H C1 H1→C1 p=none→H p=none→H1 p=some (.lst ys)→bO X.K C1 ys es→R (.ref p) H1)→r xs H R
theorem aI6 {C H C1 H1:Hp}{p:Addr}{o:HO} (e:eM C H C1 H1) (hc:C1 p=none) (hn:H p=none) (h1:H1 p=some o):eM C H (upd C1 p o) H1:=by
 refine ⟨e.hh,e.cc.trans (bY.upd hc),fun b u q=>?_,fun b q n=>?_⟩
 ·by_cases hb:b=p
  ·subst hb;rw [bH] at q;cases q;exact h1
  ·rw [aS hb] at q;exact e.ch b u q
 ·rw [aS (fun z=>n (by rw [z];exact hn))];exact e.ow b q n
section
variable {X:Cx}{a b c e:Expr}{es:List Expr}{pos:Pos}{ga gb gc gd:GE}{gf:GF}{ta tb:GT}
abbrev gF (g:GF):GE:=fun δ Q=>g δ fun ds=>Q (.lst ds)
theorem DF.toE (h:DF X e gf):DE X e (gF gf):=by
 obtain ⟨t,p,h⟩:=h
 refine ⟨t,p,fun C0 H0 δ σ C H Q R rp g k=>h C0 H0 δ σ C H _ R rp g fun ds p xs C1 H1 q ex hc hn hl hd=>?_⟩
 exact k (.lst ds) _ (upd C1 p (.lst xs)) H1 q (aI6 ex hc hn hl) (bV.mpr ⟨p,xs,rfl,jS.of bH,hd.mono (bY.upd hc)⟩)
def aE (i:Nat):GE:=fun δ Q=>match δ[i]? with
 | some (.im d)=>Q d
 | _=>False
theorem aB {i:Nat}{x:Str} (h:PE X (.Name x pos) (wP i)):DE X (.Name x pos) (aE i):=by
 refine ⟨_,h,fun C0 H0 δ σ C H Q R rp g k=>?_⟩
 unfold aE at g
 split at g
 ·rename_i d e
  obtain ⟨v,a1,a2⟩:=rp.im i d e
  exact ⟨v,a1,k d v C H g (eM.refl rp.ch) a2⟩
 ·exact g.elim
abbrev gC (d:D):GE:=fun _ Q=>Q d
theorem aJ {i j}:DE X (.Constant (.int i) j pos) (gC (.int i)):=⟨_,aLq,fun C0 H0 δ σ C H Q R rp g k=>k _ _ C H g (eM.refl rp.ch) (aT.mpr rfl)⟩
theorem r8 {i j}:DE X (.Constant (.bool i) j pos) (gC (.bl i)):=⟨_,aL1,fun C0 H0 δ σ C H Q R rp g k=>k _ _ C H g (eM.refl rp.ch) (c6.mpr rfl)⟩
theorem aGX {x:Str}{i:Int}{t:Tok} (hg:Gl X x) (hm:X.mg x=some (.int i t)) (hd:(x == ("__debug__":Str))=false:=by decide):DE X (.Name x pos) (gC (.int i)):=
 ⟨_,aJ2 (v:=.int i) hg hm ⟨t,rfl⟩ hd,fun C0 H0 δ σ C H Q R rp g k=>k _ _ C H g (eM.refl rp.ch) (aT.mpr rfl)⟩
def bL (o:GO) (ga gb:GE):GE:=fun δ Q=>ga δ fun x=>gb δ fun y=>o x y Q
theorem bI {op:Operator}{o:GO} (ho:DOp X (binaryOp op) o) (ha:DE X a ga) (hb:DE X b gb):DE X (.BinOp a op b pos) (bL o ga gb):=by
 obtain ⟨r,pr,hr⟩:=ho
 obtain ⟨t1,p1,h1⟩:=ha
 obtain ⟨t2,p2,h2⟩:=hb
 refine ⟨_,aIo pr p1 p2,fun C0 H0 δ σ C H Q R rp g k=>?_⟩
 refine h1 C0 H0 δ σ C H _ _ rp g fun d v C1 H1 q e1 n1=>h2 C0 H0 δ σ C1 H1 _ _ (rp.grow e1) q fun d2 v2 C2 H2 q2 e2 n2=>?_
 exact hr v v2 d d2 C2 H2 Q R e2.ch (n1.mono e2.cc) n2 q2 fun d3 v3 C3 H3 q3 e3 n3=>k d3 v3 C3 H3 q3 (e1.trans (e2.trans e3)) n3
theorem aHA {op:CmpOp}{o:GO} (ho:DOp X (compareOp op) o) (ha:DE X a ga) (hb:DE X b gb) (hm:behindInMarks op b=false:=by first | exact aIa _ | with_unfolding_all rfl):DE X (.Compare a [op] [b] pos) (bL o ga gb):=by
 obtain ⟨r,pr,hr⟩:=ho
 obtain ⟨t1,p1,h1⟩:=ha
 obtain ⟨t2,p2,h2⟩:=hb
 refine ⟨_,aJO pr p1 p2 hm,fun C0 H0 δ σ C H Q R rp g k=>?_⟩
 refine h1 C0 H0 δ σ C H _ _ rp g fun d v C1 H1 q e1 n1=>h2 C0 H0 δ σ C1 H1 _ _ (rp.grow e1) q fun d2 v2 C2 H2 q2 e2 n2=>?_
 exact hr v v2 d d2 C2 H2 Q R e2.ch (n1.mono e2.cc) n2 q2 fun d3 v3 C3 H3 q3 e3 n3=>k d3 v3 C3 H3 q3 (e1.trans (e2.trans e3)) n3
def mU (Q:Bool→Prop):D→Prop
 | .bl b=>Q b
 | _=>False
theorem aBG {Q:Bool→Prop}{d:D}{K:PySem.W.Frag}{C:Hp}{v:V} (h:mU Q d) (n:i5 K C v d):∃ b,v = .bl b∧Q b:=by
 cases d with
 | bl b=>exact ⟨b,c6.mp n,h⟩
 | _=>exact h.elim
def dG (ga:GE):GT:=fun δ Q=>ga δ (mU Q)
theorem hJ {op:CmpOp}{o:GO} (ho:DOp X (compareOp op) o) (ha:DE X a ga) (hb:DE X b gb) (hm:behindInMarks op b=false:=by first | exact aIa _ | with_unfolding_all rfl):DT X (.Compare a [op] [b] pos) (dG (bL o ga gb)):=by
 obtain ⟨r,pr,hr⟩:=ho
 obtain ⟨t1,p1,h1⟩:=ha
 obtain ⟨t2,p2,h2⟩:=hb
 refine ⟨_,aJ6 pr p1 p2 hm,fun C0 H0 δ σ C H Q R rp g k=>?_⟩
 refine h1 C0 H0 δ σ C H _ _ rp g fun d v C1 H1 q e1 n1=>h2 C0 H0 δ σ C1 H1 _ _ (rp.grow e1) q fun d2 v2 C2 H2 q2 e2 n2=>?_
 refine hr v v2 d d2 C2 H2 _ _ e2.ch (n1.mono e2.cc) n2 q2 fun d3 v3 C3 H3 q3 e3 n3=>?_
 obtain ⟨c,rfl,qc⟩:=aBG q3 n3
 exact ⟨c,rfl,k c C3 H3 qc (e1.trans (e2.trans e3))⟩
def iH (o o':GO) (ga gb gc:GE):GE:=fun δ Q=>ga δ fun x=>gb δ fun y=>o x y (mU fun k=>if k=true then gc δ fun z=>o' y z Q else Q (.bl false))
theorem aDC {op op':CmpOp}{o o':GO} (ho:DOp X (compareOp op) o) (ho':DOp X (compareOp op') o') (ha:DE X a ga) (hb:DE X b gb) (hc:DE X c gc)
  (hm:lastMarks [op,op'] [b,c]=false:=by with_unfolding_all rfl):DE X (.Compare a [op,op'] [b,c] pos) (iH o o' ga gb gc):=by
 obtain ⟨r,pr,hr⟩:=ho
 obtain ⟨r',pr',hr'⟩:=ho'
 obtain ⟨t1,p1,h1⟩:=ha
 obtain ⟨t2,p2,h2⟩:=hb
 obtain ⟨t3,p3,h3⟩:=hc
 refine ⟨_,aHX pr pr' p1 p2 p3 hm,fun C0 H0 δ σ C H Q R rp g k=>?_⟩
 refine h1 C0 H0 δ σ C H _ _ rp g fun d v C1 H1 q e1 n1=>h2 C0 H0 δ σ C1 H1 _ _ (rp.grow e1) q fun d2 v2 C2 H2 q2 e2 n2=>?_
 refine hr v v2 d d2 C2 H2 _ _ e2.ch (n1.mono e2.cc) n2 q2 fun d3 v3 C3 H3 q3 e3 n3=>?_
 obtain ⟨c,rfl,qc⟩:=aBG q3 n3
 refine ⟨c,rfl,?_⟩
 have e123:=e1.trans (e2.trans e3)
 cases c with
 | false=>exact aH0 (k (.bl false) _ C3 H3 (by simpa using qc) e123 (c6.mpr rfl))
 | true=>
  refine aHe (h3 C0 H0 δ σ C3 H3 _ _ (rp.grow e123) (by simpa using qc) fun d4 v4 C4 H4 q4 e4 n4=>?_)
  exact hr' v2 v4 d2 d4 C4 H4 Q R e4.ch ((n2.mono e3.cc).mono e4.cc) n4 q4 fun d5 v5 C5 H5 q5 e5 n5=>k d5 v5 C5 H5 q5 (e123.trans (e4.trans e5)) n5
def iD (o o' o'':GO) (ga gb gc gd:GE):GE:=fun δ Q=>ga δ fun x=>gb δ fun y=>o x y (mU fun k=>if k=true then gc δ (fun z=>o' y z (mU fun k2=>if k2=true then gd δ fun w=>o'' z w Q else Q (.bl false))) else Q (.bl false))
def i8 (ga gb:GE):GE:=fun δ Q=>ga δ (mU fun c=>if c=true then gb δ Q else Q (.bl false))
def uG (ga gb:GE):GE:=fun δ Q=>ga δ (mU fun c=>if c=true then Q (.bl true) else gb δ Q)
def nP (ga:GE):GE:=fun δ Q=>ga δ (mU fun c=>Q (.bl (!c)))
theorem zR {op} (h:DE X a ga):DE X (.BoolOp op [a] pos) ga:=by
 obtain ⟨t,p,h⟩:=h
 exact ⟨t,aLf p,h⟩
theorem v6 {rest:List Expr} (ha:DE X a ga) (hb:DE X (.BoolOp .And (b::rest) pos) gb):DE X (.BoolOp .And (a::b::rest) pos) (i8 ga gb):=by
 obtain ⟨t1,p1,h1⟩:=ha
 obtain ⟨t2,p2,h2⟩:=hb
 refine ⟨_,aLx p1 p2,fun C0 H0 δ σ C H Q R rp g k=>h1 C0 H0 δ σ C H _ _ rp g fun d v C1 H1 q e1 n1=>?_⟩
 obtain ⟨c,rfl,qc⟩:=aBG q n1
 refine ⟨c,rfl,?_⟩
 cases c with
 | false=>exact aH0 (k (.bl false) _ C1 H1 (by simpa using qc) e1 (c6.mpr rfl))
 | true=>exact aHe (h2 C0 H0 δ σ C1 H1 _ _ (rp.grow e1) (by simpa using qc) fun d2 v2 C2 H2 q2 e2 n2=>k d2 v2 C2 H2 q2 (e1.trans e2) n2)
def rX (ga gb:GT):GT:=fun δ Q=>ga δ fun c=>if c=true then gb δ Q else Q false
def gOr (ga gb:GT):GT:=fun δ Q=>ga δ fun c=>if c=true then Q true else gb δ Q
def mC (ga:GT):GT:=fun δ Q=>ga δ fun c=>Q (!c)
theorem DW.t (h:DW X e ta):DT X e ta:=by
 obtain ⟨t,p,h⟩:=h
 exact ⟨t,p.pt,h⟩
theorem aJH (h:DT X a ta):DW X (.BoolOp .And [a] pos) ta:=by
 obtain ⟨t,p,h⟩:=h
 exact ⟨t,aJj p,h⟩
theorem aGU (h:DT X a ta):DW X (.BoolOp .Or [a] pos) ta:=by
 obtain ⟨t,p,h⟩:=h
 exact ⟨t,aLH p,h⟩
theorem aKT {rest:List Expr} (ha:DT X a ta) (hb:DW X (.BoolOp .And (b::rest) pos) tb):DW X (.BoolOp .And (a::b::rest) pos) (rX ta tb):=by
 obtain ⟨t1,p1,h1⟩:=ha
 obtain ⟨t2,p2,h2⟩:=hb
 refine ⟨_,aKI p1 p2,fun C0 H0 δ σ C H Q R rp g k=>h1 C0 H0 δ σ C H _ _ rp g fun c C1 H1 q e1=>?_⟩
 cases c with
 | false=>exact aH0 (k false C1 H1 (by simpa using q) e1)
 | true=>exact aHe (h2 C0 H0 δ σ C1 H1 _ _ (rp.grow e1) (by simpa using q) fun c2 C2 H2 q2 e2=>k c2 C2 H2 q2 (e1.trans e2))
theorem aHZ {rest:List Expr} (ha:DT X a ta) (hb:DW X (.BoolOp .Or (b::rest) pos) tb):DW X (.BoolOp .Or (a::b::rest) pos) (gOr ta tb):=by
 obtain ⟨t1,p1,h1⟩:=ha
 obtain ⟨t2,p2,h2⟩:=hb
 refine ⟨_,aMc p1 p2,fun C0 H0 δ σ C H Q R rp g k=>h1 C0 H0 δ σ C H _ _ rp g fun c C1 H1 q e1=>?_⟩
 cases c with
 | true=>exact aHe (k true C1 H1 (by simpa using q) e1)
 | false=>exact aH0 (h2 C0 H0 δ σ C1 H1 _ _ (rp.grow e1) (by simpa using q) fun c2 C2 H2 q2 e2=>k c2 C2 H2 q2 (e1.trans e2))
theorem vX (ha:DT X a ta):DT X (.UnaryOp .Not a pos) (mC ta):=by
 obtain ⟨t1,p1,h1⟩:=ha
 exact ⟨_,aLl p1,fun C0 H0 δ σ C H Q R rp g k=>h1 C0 H0 δ σ C H _ _ rp g fun c C1 H1 q e1=>k (!c) C1 H1 q e1⟩
def lG (ga:GE):GT:=fun δ Q=>ga δ fun d=>match d with
 | .bl b=>Q b
 | .int i=>Q (i != 0)
 | .non=>Q false
 | .str x=>x.length≤sizeLine∧Q ((x.length:Int) != 0)
 | .tup ds=>Q (!ds.isEmpty)
 | .lst ds=>Q (!ds.isEmpty)
theorem pD {K:PySem.W.Frag}{C:Hp}{xs:List V}{ds:List D} (h:bO K C xs ds):xs.isEmpty=ds.isEmpty:=by
 have:=h.length
 cases xs <;> cases ds <;> simp_all
theorem qM (ha:DE X a ga) (he:∀ whole,isTrue a X.env whole=(do
  let v ← whole
  standAt a.pos
  holding [v] (truthy v))):DT X a (lG ga):=by
 obtain ⟨t1,p1,h1⟩:=ha
 refine ⟨_,aHb p1 he,fun C0 H0 δ σ C H Q R rp g k=>h1 C0 H0 δ σ C H _ _ rp g fun d v C1 H1 q e1 n1=>?_⟩
 cases d with
 | bl b=>rw [c6.mp n1];exact ⟨b,rfl,k _ C1 H1 q e1⟩
 | int i=>rw [aT.mp n1];exact ⟨_,rfl,k _ C1 H1 q e1⟩
 | non=>rw [eD.mp n1];exact ⟨_,rfl,k _ C1 H1 q e1⟩
 | str i=>rw [fZ.mp n1];exact ⟨_,⟨q.1,rfl⟩,k _ C1 H1 q.2 e1⟩
 | tup ds=>
  obtain ⟨p,xs,rfl,hx,hd⟩:=bM.mp n1
  refine ⟨_,.inr (.inl ⟨xs,e1.ch.seqT hx,rfl⟩),k _ C1 H1 ?_ e1⟩
  rw [pD hd];exact q
 | lst ds=>
  obtain ⟨p,xs,rfl,hx,hd⟩:=bV.mp n1
  refine ⟨_,.inl ⟨xs,e1.ch.seq hx,rfl⟩,k _ C1 H1 ?_ e1⟩
  rw [pD hd];exact q
def t9 (t:GT) (ga gb:GE):GE:=fun δ Q=>t δ fun c=>if c=true then ga δ Q else gb δ Q
abbrev aI:GF:=fun _ Q=>Q []
def aA (ga:GE) (gr:GF):GF:=fun δ Q=>ga δ fun d=>gr δ fun ds=>Q (d::ds)
theorem aG:DA X [] aI:=⟨_,dS,fun C0 H0 δ σ C H Q R rp g k=>k [] [] C H g (eM.refl rp.ch) .nil⟩
theorem aC (ha:DE X e ga) (hr:DA X es gf) (hs:starEach (e::es) X.env=(false,eval e X.env)::starEach es X.env:=by rfl):DA X (e::es) (aA ga gf):=by
 obtain ⟨t1,p1,h1⟩:=ha
 obtain ⟨t2,p2,h2⟩:=hr
 refine ⟨_,bX p1 p2 hs,fun C0 H0 δ σ C H Q R rp g k=>h1 C0 H0 δ σ C H _ _ rp g fun d v C1 H1 q e1 n1=>?_⟩
 exact h2 C0 H0 δ σ C1 H1 _ _ (rp.grow e1) q fun ds vs C2 H2 q2 e2 n2=>k (d::ds) (v::vs) C2 H2 q2 (e1.trans e2) (.cons (n1.mono e2.cc) n2)
def bS (gf:GF):GE:=fun δ Q=>gf δ fun ds=>ds.length≤sizeLine∧Q (.tup ds)
theorem cT {x1} (h:DA X es gf):DE X (.Tuple es x1 pos) (bS gf):=by
 obtain ⟨t,p,h⟩:=h
 refine ⟨_,aHr p,fun C0 H0 δ σ C H Q R rp g k=>h C0 H0 δ σ C H _ _ rp g fun ds vs C1 H1 q e1 n1=>⟨by rw [n1.length];exact q.1,fun p hp=>?_⟩⟩
 exact k (.tup ds) _ (upd C1 p (.tup vs)) _ q.2 (e1.trans (eM.new e1.ch hp)) (bM.mpr ⟨p,vs,rfl,fY.of bH,n1.mono (bY.upd (e1.ch.free hp))⟩)
def g9 (gf:GF):GF:=fun δ Q=>gf δ fun ds=>ds.length≤sizeLine∧Q ds
theorem fR (h:DA X es gf):DF X (.List es pos) (g9 gf):=by
 obtain ⟨t,p,h⟩:=h
 refine ⟨_,aLj p,fun C0 H0 δ σ C H Q R rp g k=>h C0 H0 δ σ C H _ _ rp g fun ds vs C1 H1 q e1 n1=>⟨by rw [n1.length];exact q.1,fun p hp=>?_⟩⟩
 exact k ds p vs C1 _ q.2 (e1.trans (eM.newO e1.ch hp)) (e1.ch.free hp) (e1.hh.free hp) bH n1
def aZ (g:List D→(D→Prop)→Prop) (gf:GF):GE:=fun δ Q=>gf δ fun ds=>g ds Q
def i4 (g:List D→(List D→Prop)→Prop) (gf:GF):GF:=fun δ Q=>gf δ fun ds=>g ds Q
theorem aJ1 {x:Str}{f:Value}{g:List D→(List D→Prop)→Prop}{pos':Pos} (hc:aHs X f g) (ha:DA X (e::es) gf)
  (hp:∀ {t:TA}{r:List V→Hp→VK→Prop},nO X f r→PA X (e::es) t→PE X (.Call (.Name x pos') (e::es) [] pos) (tCB r t)):DF X (.Call (.Name x pos') (e::es) [] pos) (i4 g gf):=by
 obtain ⟨r,pr,hr⟩:=hc
 obtain ⟨t,p,h⟩:=ha
 refine ⟨_,hp pr p,fun C0 H0 δ σ C H Q R rp g k=>h C0 H0 δ σ C H _ _ rp g fun ds vs C1 H1 q e1 n1=>?_⟩
 exact hr vs ds C1 H1 Q R e1.ch n1 q fun es' p ys C2 H2 q2 e2 h1 h2 h3 h4=>k es' p ys C2 H2 q2 (e1.trans e2) h1 (e1.hh.free h2) h3 h4
end
def mS (o:Option D) (Q:D→Prop):Prop:=match o with
 | some d=>Q d
 | none=>False
theorem aLK {d:D}{Q:D→Prop}:mS (some d) Q=Q d:=rfl
def spD (K:PySem.W.Frag) (F:List D→Option D):Sp:=fun vs H Q _=>∃ C ds d,bY C H∧bO K C vs ds∧F ds=some d∧∀ v C' H',eM C H C' H'→i5 K C' v d→Q v H'
def fI (P:Program) (w:World) (K:PySem.W.Frag) (mg:Str→Option Value) (base:Heap) (k:Nat) (x:Str) (F:List D→Option D):Prop:=
 ∃ f fd ps,uT P w K mg base kK k f fd ps (spD K F)∧mg x=some (.ref f)∧PySem.W.keepIn K (.ref f)=true∧pT K fd ps []
section
variable {X:Cx}{a b c e:Expr}{es:List Expr}{pos:Pos}{ga gb gc gd:GE}{gf:GF}{ta tb:GT}
def aO (F:List D→Option D) (gf:GF):GE:=fun δ Q=>gf δ fun ds=>mS (F ds) Q
theorem aQ {F:List D→Option D}{k:Nat}{x:Str}{p:Pos} (h:fI X.prog X.w X.K X.mg X.base k x F) (hr:cL k X.A) (hg:Gl X x) (ha:DA X (e::es) gf) (hdb:(x == ("__debug__":Str))=false:=by decide)
  (he:starEach (e::es) X.env=(false,eval e X.env)::starEach es X.env:=by rfl) (hpl:(backTo pos (starEach es X.env)).any (·.1)=false:=by rfl):DE X (.Call (.Name x p) (e::es) [] pos) (aO F gf):=by
 obtain ⟨f,fd,ps,Fk,hm,hk,hb⟩:=h
 obtain ⟨t,pa,h⟩:=ha
 refine ⟨_,aCd Fk hr hg hm hk hb .nil aIh pa hdb he hpl,fun C0 H0 δ σ C H Q R rp g k=>h C0 H0 δ σ C H _ _ rp g fun ds vs C1 H1 q e1 n1=>?_⟩
 cases e2:F ds with
 | none=>rw [e2] at q;exact q.elim
 | some d=>
  rw [e2] at q
  exact ⟨C1,ds,d,e1.ch,by rw [List.append_nil];exact n1,e2,fun v C' H' ex nv=>k d v C' H' q (e1.trans ex) nv⟩
def eG:GO:=fun x y Q=>match x,y with
 | .tup ds,.int i=>mS (gT ds i) Q
 | .lst ds,.int i=>mS (gT ds i) Q
 | _,_=>False
theorem aE4 {K:PySem.W.Frag}{C:Hp}{xs:List V}{ds:List D}{i:Int}{d:D} (h:bO K C xs ds) (e:gT ds i=some d):∃ v,gT xs i=some v∧i5 K C v d:=by
 unfold gT at e ⊢
 rw [h.length]
 cases z:ixN ds.length i with
 | none=>rw [z] at e;cases e
 | some j=>
  rw [z] at e
  exact h.get e
theorem bC (ha:DE X a ga) (hb:DE X b gb) (hs:aEU b):DE X (.Subscript a b pos) (bL eG ga gb):=by
 obtain ⟨t1,p1,h1⟩:=ha
 obtain ⟨t2,p2,h2⟩:=hb
 refine ⟨_,aMu aK6 p1 p2 hs,fun C0 H0 δ σ C H Q R rp g k=>?_⟩
 refine h1 C0 H0 δ σ C H _ _ rp g fun d v C1 H1 q e1 n1=>h2 C0 H0 δ σ C1 H1 _ _ (rp.grow e1) q fun d2 v2 C2 H2 q2 e2 n2=>?_
 have n1':=n1.mono e2.cc
 cases d with
 | tup ds=>
  cases d2 with
  | int i=>
   obtain ⟨p,xs,rfl,hx,hd⟩:=bM.mp n1'
   rw [aT.mp n2]
   have q2':mS (gT ds i) Q:=q2
   cases z:gT ds i with
   | none=>rw [z] at q2';exact q2'.elim
   | some d3=>
    rw [z] at q2'
    obtain ⟨v3,ev,nv⟩:=aE4 hd z
    exact .inr (.inl ⟨p,xs,i,v3,rfl,rfl,e2.ch.seqT hx,ev,k d3 v3 C2 H2 q2' (e1.trans e2) nv⟩)
  | _=>exact q2.elim
 | lst ds=>
  cases d2 with
  | int i=>
   obtain ⟨p,xs,rfl,hx,hd⟩:=bV.mp n1'
   rw [aT.mp n2]
   have q2':mS (gT ds i) Q:=q2
   cases z:gT ds i with
   | none=>rw [z] at q2';exact q2'.elim
   | some d3=>
    rw [z] at q2'
    obtain ⟨v3,ev,nv⟩:=aE4 hd z
    exact .inl ⟨p,xs,i,v3,rfl,rfl,e2.ch.seq hx,ev,k d3 v3 C2 H2 q2' (e1.trans e2) nv⟩
  | _=>exact q2.elim
 | _=>exact q2.elim
abbrev GP:=DS→(Option Int→Prop)→Prop
def DO (X:Cx) (e:Option Expr) (g:GP):Prop:=∃ t,PO X e t∧∀ C0 H0 δ σ C H (Q:Option Int→Prop) (R:Option Int→Hp→Prop),gI X.K C0 H0 δ σ C H→g δ Q→(∀ o C1 H1,Q o→eM C H C1 H1→R o H1)→t σ H R
abbrev qX:GP:=fun _ Q=>Q none
def lM (g:GE):GP:=fun δ Q=>g δ fun d=>match d with
 | .int i=>Q (some i)
 | _=>False
theorem aFv:DO X none qX:=⟨_,aKf,fun C0 H0 δ σ C H Q R rp g k=>k none C H g (eM.refl rp.ch)⟩
theorem aFy (h:DE X e ga):DO X (some e) (lM ga):=by
 obtain ⟨t,p,h⟩:=h
 refine ⟨_,aJp p,fun C0 H0 δ σ C H Q R rp g k=>h C0 H0 δ σ C H _ _ rp g fun d v C1 H1 q e1 n1=>?_⟩
 cases d with
 | int i=>exact ⟨i,aT.mp n1,k (some i) C1 H1 q e1⟩
 | _=>exact q.elim
def aAs (xs:List D) (lo hi:Option Int):List D:=(xs.drop (HT.sIx xs.length 0 lo)).take (HT.sIx xs.length xs.length hi-HT.sIx xs.length 0 lo)
def uP (ga:GE) (gl gh:GP):GE:=fun δ Q=>ga δ fun d=>gl δ fun lo=>gh δ fun hi=>match d with
 | .tup ds=>Q (.tup (aAs ds lo hi))
 | _=>False
theorem aHW {K:PySem.W.Frag}{C:Hp}{xs:List V}{ds:List D}{lo hi:Option Int} (h:bO K C xs ds):bO K C (aGe xs lo hi) (aAs ds lo hi):=by
 unfold aGe aAs
 rw [h.length]
 exact (h.drop _).take _
def o6 (f:Int→Int→D):GO:=fun x y Q=>match x,y with
 | .int i,.int j=>Q (f i j)
 | _,_=>False
def jA (c:Int→Int→Prop) (f:Int→Int→D):GO:=fun x y Q=>match x,y with
 | .int i,.int j=>c i j∧Q (f i j)
 | _,_=>False
theorem u6 {f:Value→Value→Sem Value}{c:Int→Int→Prop}{g:Int→Int→Int} (h:tK X f (rI c fun i j=>.int (g i j))):DOp X f (jA c fun i j=>.int (g i j)):=by
 refine ⟨_,h,fun x y dx dy C H Q R ch n1 n2 q k=>?_⟩
 cases dx with
 | int i=>
  cases dy with
  | int j=>exact ⟨i,j,aT.mp n1,aT.mp n2,q.1,k _ _ C H q.2 (eM.refl ch) (aT.mpr rfl)⟩
  | _=>exact q.elim
 | _=>exact q.elim
theorem aDW {f:Value→Value→Sem Value}{g:Int→Int→Bool} (h:tK X f (rI0 fun i j=>.bl (g i j))):DOp X f (o6 fun i j=>.bl (g i j)):=by
 refine ⟨_,h,fun x y dx dy C H Q R ch n1 n2 q k=>?_⟩
 cases dx with
 | int i=>
  cases dy with
  | int j=>exact ⟨i,j,aT.mp n1,aT.mp n2,k _ _ C H q (eM.refl ch) (c6.mpr rfl)⟩
  | _=>exact q.elim
 | _=>exact q.elim
theorem aIA {f:Value→Value→Sem Value}{g:Int→Int→Int} (h:tK X f (rI0 fun i j=>.int (g i j))):DOp X f (o6 fun i j=>.int (g i j)):=by
 refine ⟨_,h,fun x y dx dy C H Q R ch n1 n2 q k=>?_⟩
 cases dx with
 | int i=>
  cases dy with
  | int j=>exact ⟨i,j,aT.mp n1,aT.mp n2,k _ _ C H q (eM.refl ch) (aT.mpr rfl)⟩
  | _=>exact q.elim
 | _=>exact q.elim
abbrev aBU:GO:=o6 fun i j=>.int (i-j)
abbrev oLt:GO:=o6 fun i j=>.bl (decide (i<j))
abbrev oLe:GO:=o6 fun i j=>.bl (decide (i≤j))
abbrev u0:GO:=jA (fun _ j=>0<j) fun i j=>.int (i % j)
abbrev aJf:GO:=jA aL6 fun i j=>.int (i / j)
theorem qS:DOp X (binaryOp .Sub) aBU:=aIA aKw
theorem aHz:DOp X (compareOp .Lt) oLt:=aDW aMt
theorem aFf:DOp X (compareOp .LtE) oLe:=aDW aMf
theorem mQ:DOp X (binaryOp .Mod) u0:=u6 aKM
theorem aD0:DOp X (binaryOp .FloorDiv) aJf:=u6 aJD
def fO:GO:=fun x y Q=>match x,y with
 | .int i,.int j=>Q (.int (i+j))
 | .tup xs,.tup ys=>xs.length+ys.length≤sizeLine∧Q (.tup (xs++ys))
 | _,_=>False
theorem d8:DOp X (binaryOp .Add) fO:=by
 refine ⟨_,aK0.or (aJo.or aJz),fun x y dx dy C H Q R ch n1 n2 q k=>?_⟩
 cases dx with
 | int i=>
  cases dy with
  | int j=>exact .inl ⟨i,j,aT.mp n1,aT.mp n2,k _ _ C H q (eM.refl ch) (aT.mpr rfl)⟩
  | _=>exact q.elim
 | tup ds=>
  cases dy with
  | tup es=>
   obtain ⟨p,xs,rfl,hx,hd⟩:=bM.mp n1
   obtain ⟨p2,ys,rfl,hy,he⟩:=bM.mp n2
   have q':ds.length+es.length≤sizeLine∧Q (.tup (ds++es)):=q
   refine .inr ?_
   cases ds with
   | nil=>
    have e:=gD.mp hd
    subst e
    exact .inr ⟨p,p2,ys,rfl,rfl,ch.seqT hx,ch.seqT hy,k _ _ C H q'.2 (eM.refl ch) n2⟩
   | cons d ds=>
    refine .inl ⟨p,p2,xs,ys,rfl,rfl,ch.seqT hx,ch.seqT hy,?_,by rw [hd.length,he.length];exact q'.1,fun z=>?_,fun _ p' hp=>?_⟩
    ·intro z
     have:=hd.length
     rw [z] at this
     simp at this
    ·subst z
     have e:es=[]:=by
      have:=he.length
      simpa using this.symm
     subst e
     rw [List.append_nil] at q'
     exact k _ _ C H q'.2 (eM.refl ch) n1
    ·exact k _ _ (upd C p' (.tup (xs++ys))) _ q'.2 (eM.new ch hp) (bM.mpr ⟨p',_,rfl,fY.of bH,(hd.append he).mono (bY.upd (ch.free hp))⟩)
  | _=>exact q.elim
 | _=>exact q.elim
def i6:GO:=fun x y Q=>match x,y with
 | .int i,.int j=>aGn i j∧Q (.int (i * j))
 | .tup xs,.int k=>1<k∧k<2 ^ 63∧xs≠[]∧(xs.length:Int) * k≤sizeLine∧Q (.tup (List.replicate k.toNat xs).flatten)
 | _,_=>False
theorem kB:DOp X (binaryOp .Mult) i6:=by
 refine ⟨_,aKG.or aJZ,fun x y dx dy C H Q R ch n1 n2 q k=>?_⟩
 cases dx with
 | int i=>
  cases dy with
  | int j=>exact .inl ⟨i,j,aT.mp n1,aT.mp n2,q.1,k _ _ C H q.2 (eM.refl ch) (aT.mpr rfl)⟩
  | _=>exact q.elim
 | tup ds=>
  cases dy with
  | int j=>
   obtain ⟨p,xs,rfl,hx,hd⟩:=bM.mp n1
   obtain ⟨q1,q2,q3,q4,q5⟩:=q
   refine .inr ⟨p,j,xs,rfl,aT.mp n2,ch.seqT hx,q1,q2,?_,by rw [hd.length];exact q4,fun p' hp=>?_⟩
   ·intro z
    have:=hd.length
    rw [z] at this
    exact q3 (by simpa using this.symm)
   ·exact k _ _ (upd C p' _) _ q5 (eM.new ch hp) (bM.mpr ⟨p',_,rfl,fY.of bH,(hd.rep _).mono (bY.upd (ch.free hp))⟩)
  | _=>exact q.elim
 | _=>exact q.elim
def oIs:GO:=fun x y Q=>match x,y with
 | .bl a,.bl b=>Q (.bl (a == b))
 | _,_=>False
def kE:GO:=fun x y Q=>match x,y with
 | .bl a,.bl b=>Q (.bl (a != b))
 | _,_=>False
def uZ (ga:GE):GE:=fun δ Q=>ga δ fun d=>match d with
 | .int i=>Q (.int (-i))
 | _=>False
def gX:List D→(D→Prop)→Prop:=fun ds Q=>match ds with
 | [.tup xs]=>Q (.int xs.length)
 | [.lst xs]=>Q (.int xs.length)
 | _=>False
theorem lC {K:PySem.W.Frag}{C:Hp}{vs:List V}{d:D} (h:bO K C vs [d]):∃ v,vs=[v]∧i5 K C v d:=by
 obtain ⟨x,xs,rfl,a,t⟩:=dA.mp h
 rw [gD.mp t]
 exact ⟨x,rfl,a⟩
theorem aDK {K:PySem.W.Frag}{C:Hp}{vs:List V}{d d2:D} (h:bO K C vs [d,d2]):∃ v u,vs=[v,u]∧i5 K C v d∧i5 K C u d2:=by
 obtain ⟨x,xs,rfl,a,t⟩:=dA.mp h
 obtain ⟨u,rfl,b⟩:=lC t
 exact ⟨x,u,rfl,a,b⟩
theorem fH:aDJ X (.builtin "len") gX:=by
 refine ⟨_,aBN,fun xs ds C H Q R ch n q k=>?_⟩
 unfold gX at q
 split at q
 ·obtain ⟨v,rfl,n1⟩:=lC n
  obtain ⟨p,ys,rfl,hy,hd⟩:=bM.mp n1
  refine ⟨p,ys,rfl,.inr (ch.seqT hy),?_⟩
  rw [hd.length]
  exact k _ _ C H q (eM.refl ch) (aT.mpr rfl)
 ·obtain ⟨v,rfl,n1⟩:=lC n
  obtain ⟨p,ys,rfl,hy,hd⟩:=bV.mp n1
  refine ⟨p,ys,rfl,.inl (ch.seq hy),?_⟩
  rw [hd.length]
  exact k _ _ C H q (eM.refl ch) (aT.mpr rfl)
 ·exact q.elim
def cA:List D→(D→Prop)→Prop:=fun ds Q=>match ds with
 | [.tup xs]=>Q (.tup xs)
 | [.lst xs]=>Q (.tup xs)
 | _=>False
theorem cV:aDJ X (.type "tuple") cA:=by
 refine ⟨_,aAc,fun xs ds C H Q R ch n q k=>?_⟩
 unfold cA at q
 split at q
 ·obtain ⟨v,rfl,n1⟩:=lC n
  obtain ⟨p,ys,rfl,hy,hd⟩:=bM.mp n1
  exact ⟨p,ys,rfl,.inr ⟨ch.seqT hy,k _ _ C H q (eM.refl ch) n1⟩⟩
 ·obtain ⟨v,rfl,n1⟩:=lC n
  obtain ⟨p,ys,rfl,hy,hd⟩:=bV.mp n1
  exact ⟨p,ys,rfl,.inl ⟨ch.seq hy,fun l hl=>k _ _ (upd C l (.tup ys)) _ q (eM.new ch hl) (bM.mpr ⟨l,ys,rfl,fY.of bH,hd.mono (bY.upd (ch.free hl))⟩)⟩⟩
 ·exact q.elim
def nF:List D→(List D→Prop)→Prop:=fun ds Q=>match ds with
 | [.tup xs]=>Q xs
 | [.lst xs]=>Q xs
 | _=>False
def pH:List D→(D→Prop)→Prop:=fun ds Q=>match ds with
 | [.int i]=>Q (.int (if i<0 then -i else i))
 | _=>False
theorem aEt:aDJ X (.builtin "abs") pH:=by
 refine ⟨_,aHv,fun xs ds C H Q R ch n q k=>?_⟩
 unfold pH at q
 split at q
 ·obtain ⟨v,rfl,n1⟩:=lC n
  rw [aT.mp n1]
  exact ⟨_,rfl,k _ _ C H q (eM.refl ch) (aT.mpr rfl)⟩
 ·exact q.elim
def bools:List D→Option (List Bool)
 | []=>some []
 | .bl b::r=>(bools r).map (b :: ·)
 | _::_=>none
theorem aCD:∀ {ds:List D}{bs:List Bool},bools ds=some bs→ds=bs.map D.bl
 | [],bs,h=>by cases h;rfl
 | .bl b::r,bs,h=>by
  unfold bools at h
  cases e:bools r with
  | none=>rw [e] at h;cases h
  | some cs=>rw [e] at h;cases h;rw [List.map_cons,← aCD e]
 | .int _::_,_,h=>by cases h
 | .non::_,_,h=>by cases h
 | .str _::_,_,h=>by cases h
 | .tup _::_,_,h=>by cases h
 | .lst _::_,_,h=>by cases h
theorem aA4 (bs:List Bool):bools (bs.map D.bl)=some bs:=by
 induction bs with
 | nil=>rfl
 | cons b bs ih=>rw [List.map_cons,bools,ih];rfl
theorem zZ {α:Type} (f:α→Bool) (l:List α):bools (l.map fun x=>D.bl (f x))=some (l.map f):=by
 rw [← aA4,List.map_map];rfl
def pC:List D→(D→Prop)→Prop:=fun ds Q=>match ds with
 | [.lst xs]=>match bools xs with
  | some bs=>Q (.bl (bs.all id))
  | none=>False
 | _=>False
theorem aEv (hc:X.calm=true):aDJ X (.builtin "all") pC:=by
 refine ⟨_,aHR hc,fun xs ds C H Q R ch n q k=>?_⟩
 unfold pC at q
 split at q
 ·split at q
  ·rename_i bs e
   obtain ⟨v,rfl,n1⟩:=lC n
   obtain ⟨p,ys,rfl,hy,hd⟩:=bV.mp n1
   rw [aCD e] at hd
   rw [hd.bools] at hy
   exact ⟨p,bs,rfl,ch.seq hy,k _ _ C H q (eM.refl ch) (c6.mpr rfl)⟩
  ·exact q.elim
 ·exact q.elim
def tyD:D→String
 | .int _=>"int"
 | .bl _=>"bool"
 | .non=>"NoneType"
 | .str _=>"str"
 | .tup _=>"tuple"
 | .lst _=>"list"
theorem aG7 {K:PySem.W.Frag}{C H:Hp}{v:V}{d:D} (ch:bY C H) (n:i5 K C v d):aEA K H v (tyD d):=by
 cases d with
 | int i=>rw [aT.mp n];rfl
 | bl i=>rw [c6.mp n];rfl
 | non=>rw [eD.mp n];rfl
 | str i=>rw [fZ.mp n];rfl
 | tup ds=>obtain ⟨p,ys,rfl,hy,hd⟩:=bM.mp n;exact .inr ⟨rfl,ys,ch.seqT hy⟩
 | lst ds=>obtain ⟨p,ys,rfl,hy,hd⟩:=bV.mp n;exact .inl ⟨rfl,ys,ch.seq hy⟩
def jY (T:String) (ga:GE):GE:=fun δ Q=>ga δ fun d=>Q (.bl (wM (tyD d) T))
theorem xJ {T:String}{y:Str}{p p':Pos} (hT:T="int"∨T="bool"∨T="str"∨T="list"∨T="tuple") (ha:DE X a ga) (hy:PE X (.Name y p') (tC (.ty T)))
  (hp:∀ {t:TA}{r:List V→Hp→VK→Prop},nO X (.builtin "isinstance") r→PA X [a,.Name y p'] t→PE X (.Call (.Name "isinstance" p) [a,.Name y p'] [] pos) (tCB r t))
  (hs:starEach [a,.Name y p'] X.env=(false,eval a X.env)::starEach [.Name y p'] X.env:=by rfl):DE X (.Call (.Name "isinstance" p) [a,.Name y p'] [] pos) (jY T ga):=by
 obtain ⟨t1,p1,h1⟩:=ha
 refine ⟨_,hp aC1 (bX p1 (bX hy dS) hs),fun C0 H0 δ σ C H Q R rp g k=>h1 C0 H0 δ σ C H _ _ rp g fun d v C1 H1 q e1 n1=>?_⟩
 exact ⟨v,T,tyD d,rfl,hT,aG7 e1.ch n1,k _ _ C1 H1 q e1 (c6.mpr rfl)⟩
end
def aC6 (K:PySem.W.Frag) (J:It) (its:List D) (C1:Hp):Prop:=∀ C2 H2,bY C1 C2→bY C2 H2→∀ i:Nat,
 (∀ d,its[i]? = some d→J.go i H2∧∀ x H3,J.yld i H2 x H3→∃ C3,eM C2 H2 C3 H3∧i5 K C3 x d)∧(its.length≤i→J.stop i H2)
def DI (X:Cx) (tg iter:Expr) (g:GF):Prop:=∃ wi,PI X tg iter wi∧∀ C0 H0 δ σ C H (Q:List D→Prop) (R:It→Hp→Prop),gI X.K C0 H0 δ σ C H→g δ Q →
 (∀ its J C1 H1,Q its→eM C H C1 H1→aC6 X.K J its C1→R J H1)→wi σ H R
section
variable {X:Cx}{a b c e tg iter:Expr}{es:List Expr}{pos:Pos}{ga gb gc gd:GE}{gf:GF}{ta tb:GT}
def uC (ga:GE):GF:=fun δ Q=>ga δ fun d=>match d with
 | .tup ds=>Q ds
 | _=>False
def xL (ga:GE):GF:=fun δ Q=>ga δ fun d=>match d with
 | .lst ds=>Q ds
 | _=>False
theorem aCX {K:PySem.W.Frag}{C1:Hp}{p:Addr}{xs:List V}{ds:List D} (hx:fY K C1 p xs) (hd:bO K C1 xs ds) (inj:∀ H ys,bY C1 H→fY K H p ys→True):aC6 K ⟨fun i H=>∃ xs x,fY K H p xs∧xs[i]? = some x,fun i H x H'=>H'=H∧∀ xs,fY K H p xs→xs[i]? = some x,fun i H=>∃ xs,fY K H p xs∧xs.length≤i⟩ ds C1:=by
 intro C2 H2 c1 c2 i
 have hx2:=c2.seqT (c1.seqT hx)
 refine ⟨fun d e=>?_,fun hl=>⟨xs,hx2,by rw [hd.length];exact hl⟩⟩
 obtain ⟨v,ev,nv⟩:=hd.get e
 refine ⟨⟨xs,v,hx2,ev⟩,fun x H3 y=>?_⟩
 obtain ⟨rfl,y⟩:=y
 have:=y xs hx2
 rw [ev] at this
 cases this
 exact ⟨C2,eM.refl c2,nv.mono c1⟩
theorem aC2 {K:PySem.W.Frag}{C1:Hp}{p:Addr}{xs:List V}{ds:List D} (hx:jS K C1 p xs) (hd:bO K C1 xs ds):aC6 K (Itl K p) ds C1:=by
 intro C2 H2 c1 c2 i
 have hx2:=c2.seq (c1.seq hx)
 refine ⟨fun d e=>?_,fun hl=>⟨xs,hx2,by rw [hd.length];exact hl⟩⟩
 obtain ⟨v,ev,nv⟩:=hd.get e
 refine ⟨⟨xs,v,hx2,ev⟩,fun x H3 y=>?_⟩
 obtain ⟨rfl,y⟩:=y
 have:=y xs hx2
 rw [ev] at this
 cases this
 exact ⟨C2,eM.refl c2,nv.mono c1⟩
theorem j8 (ha:DE X a ga):DI X tg a (uC ga):=by
 obtain ⟨t,p,h⟩:=ha
 refine ⟨_,aKx p,fun C0 H0 δ σ C H Q R rp g k=>h C0 H0 δ σ C H _ _ rp g fun d v C1 H1 q e1 n1=>?_⟩
 cases d with
 | tup ds=>
  obtain ⟨p,xs,rfl,hx,hd⟩:=bM.mp n1
  exact ⟨p,rfl,⟨xs,e1.ch.seqT hx⟩,k ds _ C1 H1 q e1 (aCX hx hd fun _ _ _ _=>trivial)⟩
 | _=>exact q.elim
theorem qF (ha:DE X a ga):DI X tg a (xL ga):=by
 obtain ⟨t,p,h⟩:=ha
 refine ⟨_,aJ4 p,fun C0 H0 δ σ C H Q R rp g k=>h C0 H0 δ σ C H _ _ rp g fun d v C1 H1 q e1 n1=>?_⟩
 cases d with
 | lst ds=>
  obtain ⟨p,xs,rfl,hx,hd⟩:=bV.mp n1
  exact ⟨p,rfl,⟨xs,e1.ch.seq hx⟩,k ds _ C1 H1 q e1 (aC2 hx hd)⟩
 | _=>exact q.elim
def bW (lo:Int) (n:Nat):List D:=(List.range n).map fun (k:Nat)=>D.int (lo+(k:Int))
theorem aC8 {K:PySem.W.Frag}{C1:Hp} (lo:Int) (n:Nat):aC6 K (Itr lo n) (bW lo n) C1:=by
 intro C2 H2 c1 c2 i
 have hl:(bW lo n).length=n:=by simp [bW]
 refine ⟨fun d e=>?_,fun h=>by rw [hl] at h;exact h⟩
 have hi:i<n:=by rw [← hl];exact (List.getElem?_eq_some_iff.mp e).1
 have ed:d = .int (lo+i):=by
  unfold bW at e
  rw [List.getElem?_map,List.getElem?_range hi] at e
  exact (Option.some.inj e).symm
 subst ed
 exact ⟨hi,fun x H3 y=>by obtain ⟨rfl,rfl⟩:=y;exact ⟨C2,eM.refl c2,aT.mpr rfl⟩⟩
def fK (ga:GE):GF:=fun δ Q=>ga δ fun d=>match d with
 | .int j=>(-(2 ^ 62)≤j∧j<2 ^ 62)∧Q (bW 0 j.toNat)
 | _=>False
theorem h9 {p:Pos} (hg:Gl X "range") (hm:X.mg "range"=none) (ha:DE X a ga) (hs:starEach [a] X.env=[(false,eval a X.env)]:=by rfl):DI X tg (.Call (.Name "range" p) [a] [] pos) (fK ga):=by
 obtain ⟨t,p,h⟩:=ha
 refine ⟨_,aF2 hg hm (bX p dS hs) hs,fun C0 H0 δ σ C H Q R rp g k=>h C0 H0 δ σ C H _ _ rp g fun d v C1 H1 q e1 n1=>?_⟩
 cases d with
 | int j=>rw [aT.mp n1];exact ⟨j,rfl,q.1.1,q.1.2,k _ _ C1 H1 q.2 e1 (aC8 0 _)⟩
 | _=>exact q.elim
def lZ (ga gb:GE):GF:=fun δ Q=>ga δ fun d=>gb δ fun d2=>match d,d2 with
 | .int i,.int j=>(-(2 ^ 62)≤i∧i<2 ^ 62 ∧ -(2 ^ 62)≤j∧j<2 ^ 62)∧Q (bW i (j-i).toNat)
 | _,_=>False
theorem aIZ {p:Pos} (hg:Gl X "range") (hm:X.mg "range"=none) (ha:DE X a ga) (hb:DE X b gb) (hs1:starEach [a,b] X.env=(false,eval a X.env)::starEach [b] X.env:=by rfl) (hs2:starEach [b] X.env=[(false,eval b X.env)]:=by rfl)
  (hp:∀ {t:TA},PA X [a,b] t→PI X tg (.Call (.Name "range" p) [a,b] [] pos) (aKg t)):DI X tg (.Call (.Name "range" p) [a,b] [] pos) (lZ ga gb):=by
 obtain ⟨t1,p1,h1⟩:=ha
 obtain ⟨t2,p2,h2⟩:=hb
 refine ⟨_,hp (bX p1 (bX p2 dS hs2) hs1),fun C0 H0 δ σ C H Q R rp g k=>h1 C0 H0 δ σ C H _ _ rp g fun d v C1 H1 q e1 n1=>h2 C0 H0 δ σ C1 H1 _ _ (rp.grow e1) q fun d2 v2 C2 H2 q2 e2 n2=>?_⟩
 cases d with
 | int i=>
  cases d2 with
  | int j=>
   rw [aT.mp n1,aT.mp n2]
   exact ⟨i,j,rfl,q2.1,k _ _ C2 H2 q2.2 (e1.trans e2) (aC8 i _)⟩
  | _=>exact q2.elim
 | _=>exact q2.elim
abbrev GG:=D→DS→(DS→Prop)→Prop
def DG (X:Cx) (tg:Expr) (ss:List Nat) (g:GG):Prop:=∃ t,PG X tg t∧∀ C0 H0 δ σ C H v d (Q:DS→Prop) (R:St→Hp→Prop),gI X.K C0 H0 δ σ C H→i5 X.K C v d→g d δ Q →
 (∀ δ' σ',Q δ'→gI X.K C0 H0 δ' σ' C H→σ'.length=σ.length→(∀ j:Nat,j∉ss→σ'[j]? = σ[j]?)→R σ' H)→t v σ H R
abbrev cY (i:Nat):GG:=fun d δ Q=>Q (δ.set i (.im d))
theorem aM {i:Nat}{x:Str} (h:PG X (.Name x pos) (pS i)):DG X (.Name x pos) [i] (cY i):=
 ⟨_,h,fun C0 H0 δ σ C H v d Q R rp n g k=>k _ _ g (rp.setI n) (by simp) fun j hj=>by rw [List.getElem?_set_ne];intro z;exact hj (by simp [z])⟩
def j6 (i j:Nat):GG:=fun d δ Q=>match d with
 | .tup [a,b]=>Q ((δ.set i (.im a)).set j (.im b))
 | _=>False
theorem n8 {i j:Nat}{x y:Str}{p1 p2:Pos}{k:Nat} (h1:PG X (.Name x p1) (pS i)) (h2:PG X (.Name y p2) (pS j))
  (hp:∀ {t1 t2:TG},PG X (.Name x p1) t1→PG X (.Name y p2) t2→PG X (.Tuple [.Name x p1,.Name y p2] k pos) (aLU X.K 2 (aIf t1 (aIf t2 aMw)))):DG X (.Tuple [.Name x p1,.Name y p2] k pos) [i,j] (j6 i j):=by
 refine ⟨_,hp h1 h2,fun C0 H0 δ σ C H v d Q R rp n g k=>?_⟩
 unfold j6 at g
 split at g
 ·rename_i d1 d2
  obtain ⟨p,xs,rfl,hx,hd⟩:=bM.mp n
  obtain ⟨v1,v2,rfl,n1,n2⟩:=aDK hd
  refine ⟨p,[v1,v2],rfl,rp.ch.seqT hx,rfl,v1,[v2],rfl,v2,[],rfl,rfl,?_⟩
  refine k _ _ g ((rp.setI n1).setI n2) (by simp) fun m hm=>?_
  rw [List.getElem?_set_ne,List.getElem?_set_ne]
  ·intro z;exact hm (by simp [z])
  ·intro z;exact hm (by simp [z])
 ·exact g.elim
def δc (fr:List (Option Nat)) (δ:DS):DS:=fr.map fun o=>match o with
 | none=>.un
 | some j=>match δ[j]? with
  | some (.im d)=>.im d
  | some (.fd m)=>.fd m
  | _=>.un
theorem gI.comp {K:PySem.W.Frag}{C0 H0 δ σ C H C1 H1} (fr:List (Option Nat)) (R:gI K C0 H0 δ σ C H) (cc:bY C C1) (ch:bY C1 H1):gI K C1 H1 (δc fr δ) (σc fr σ) C1 H1:=by
 have no:∀ (i:Nat) ds,(δc fr δ)[i]? ≠ some (.ow ds):=fun i ds e=>by
  unfold δc at e
  rw [List.getElem?_map] at e
  cases ef:fr[i]? with
  | none=>rw [ef] at e;cases e
  | some o=>
   rw [ef] at e
   cases o with
   | none=>cases e
   | some j=>
    simp only [Option.map_some] at e
    split at e <;> cases e
 have nod:∀ (i:Nat) m,(δc fr δ)[i]? ≠ some (.od m):=fun i ds e=>by
  unfold δc at e
  rw [List.getElem?_map] at e
  cases ef:fr[i]? with
  | none=>rw [ef] at e;cases e
  | some o=>
   rw [ef] at e
   cases o with
   | none=>cases e
   | some j=>
    simp only [Option.map_some] at e
    split at e <;> cases e
 refine ⟨by unfold σc δc;simp,eM.refl ch,fun i d e=>?_,fun i ds e=>absurd e (no i ds),fun i j ds es l _ e _=>absurd e (no i ds),fun i m e=>absurd e (nod i m),fun i m e=>?_,fun i j m n l _ e=>absurd e (nod i m)⟩
 rotate_left
 ·unfold δc at e
  unfold σc
  rw [List.getElem?_map] at e ⊢
  cases ef:fr[i]? with
  | none=>rw [ef] at e;cases e
  | some o=>
   rw [ef] at e
   cases o with
   | none=>cases e
   | some j=>
    simp only [Option.map_some] at e ⊢
    split at e
    ·cases e
    ·rename_i m' ed
     cases e
     obtain ⟨l,o,ev,nv⟩:=R.dc.fd j m ed
     refine ⟨l,o,?_,cc _ _ nv⟩
     show some ((σ[j]?).bind id)=_
     rw [ev]
     rfl
    ·cases e
 unfold δc at e
 unfold σc
 rw [List.getElem?_map] at e ⊢
 cases ef:fr[i]? with
 | none=>rw [ef] at e;cases e
 | some o=>
  rw [ef] at e
  cases o with
  | none=>cases e
  | some j=>
   simp only [Option.map_some] at e ⊢
   split at e
   ·rename_i d' ed
    cases e
    obtain ⟨v,ev,nv⟩:=R.im j d ed
    refine ⟨v,?_,nv.mono cc⟩
    show some ((σ[j]?).bind id)=_
    rw [ev]
    rfl
   ·cases e
   ·cases e
def cC (fr:List (Option Nat)) (gi:GF) (gg:GG) (ge:GE):GF:=fun δ Q=>gi δ fun its=>its.length≤sizeLine∧∃ f:D→D,(∀ d∈its,gg d (δc fr δ) fun δ2=>ge δ2 fun y=>y=f d)∧Q (its.map f)
def pG (fr:List (Option Nat)) (gi:GF) (gg:GG) (gt:GT) (ge:GE):GF:=fun δ Q=>gi δ fun its=>its.length≤sizeLine∧∃ (p:D→Bool) (f:D→D),(∀ d∈its,gg d (δc fr δ) fun δ2=>gt δ2 fun c=>c=p d∧(c=true→ge δ2 fun y=>y=f d))∧Q ((its.filter p).map f)
def aBP (fr:List (Option Nat)) (ss:List Nat):Bool:=ss.all fun j=>fr[j]? == some none
theorem aJw {fr:List (Option Nat)}{ss:List Nat} (h:aBP fr ss=true) {σ:St}{j:Nat} (hj:j∈ss):(σc fr σ)[j]? = some none:=by
 unfold aBP at h
 rw [List.all_eq_true] at h
 have e:fr[j]? = some none:=by simpa using h j hj
 unfold σc
 rw [List.getElem?_map,e]
 rfl
theorem aKX {fr:List (Option Nat)}{ss:List Nat} (h:aBP fr ss=true) {σ σ':St} (hl:σ'.length=(σc fr σ).length) (hj:∀ j:Nat,j∉ss→σ'[j]? = (σc fr σ)[j]?):Fwd σ' (σc fr σ):=by
 refine ⟨hl,fun i v e=>?_⟩
 by_cases hi:i∈ss
 ·rw [aJw h hi] at e
  cases e
 ·rw [hj i hi];exact e
def aGf (X:Cx) (ifs:List Expr) (g:GT):Prop:=∃ t,aCO X ifs t∧∀ C0 H0 δ σ C H (Q:Bool→Prop) (R:Bool→Hp→Prop),gI X.K C0 H0 δ σ C H→g δ Q→(∀ b C1 H1,Q b→eM C H C1 H1→R b H1)→t σ H R
end
theorem zN {K:PySem.W.Frag}{C0 H0 C H C1 H1:Hp}{δ:DS}{σ:St}{fr:List (Option Nat)}{ss:List Nat}{J:It}{its:List D}{g:TG}{tt:TT}{te:TE}{gg:GG}{gt:GT}{ge:GE}{p:D→Bool}{f:D→D}{A:Addr}{Q:List D→Prop}{R:VK}
  (hg:∀ C0 H0 δ σ C H v d (Q:DS→Prop) (R:St→Hp→Prop),gI K C0 H0 δ σ C H→i5 K C v d→gg d δ Q→(∀ δ' σ',Q δ'→gI K C0 H0 δ' σ' C H→σ'.length=σ.length→(∀ j:Nat,j∉ss→σ'[j]? = σ[j]?)→R σ' H)→g v σ H R)
  (ht:∀ C0 H0 δ σ C H (Q:Bool→Prop) (R:Bool→Hp→Prop),gI K C0 H0 δ σ C H→gt δ Q→(∀ b C1 H1,Q b→eM C H C1 H1→R b H1)→tt σ H R)
  (he:∀ C0 H0 δ σ C H (Q:D→Prop) (R:VK),gI K C0 H0 δ σ C H→ge δ Q→(∀ d v C1 H1,Q d→eM C H C1 H1→i5 K C1 v d→R v H1)→te σ H R)
  (fo:aBP fr ss=true) (rp:gI K C0 H0 δ σ C H) (e1:eM C H C1 H1) (wk:aC6 K J its C1) (hz:its.length≤sizeLine)
  (hf:∀ d∈its,gg d (δc fr δ) fun δ2=>gt δ2 fun c=>c=p d∧(c=true→ge δ2 fun y=>y=f d)) (q:Q ((its.filter p).map f))
  (k:∀ ds p xs C1 H1,Q ds→eM C H C1 H1→C1 p=none→H p=none→H1 p=some (.lst xs)→bO K C1 xs ds→R (.ref p) H1) (hA:H1 A=none):aEc J (σc fr σ) g tt te A H1 R:=by
 have hflt:∀ i:Nat,(((its.take i).filter p).map f).length≤i:=fun i=>by
  rw [List.length_map]
  exact Nat.le_trans (List.length_filter_le _ _) (by rw [List.length_take];omega)
 refine ⟨fun i m ys H2=>m=its.length-i∧i≤its.length∧∃ C2,eM C1 H1 C2 H2∧H2 A=some (.lst ys)∧C2 A=none∧bO K C2 ys (((its.take i).filter p).map f),⟨_,rfl,Nat.zero_le _,C1,eM.newO e1.ch hA,bH,e1.ch.free hA,by simpa using bO.nil⟩,?_⟩
 rintro i m ys H2 ⟨rfl,hi,C2,ex,hl,hc,hd⟩
 have W:=wk C2 H2 ex.cc ex.ch i
 by_cases hlt:i<its.length
 ·have ed:its[i]? = some its[i]:=by simp [hlt]
  obtain ⟨go,yl⟩:=W.1 _ ed
  refine .inr ⟨go,fun x H3 y=>?_⟩
  obtain ⟨C3,e3,n3⟩:=yl x H3 y
  have rc:gI K C3 H3 (δc fr δ) (σc fr σ) C3 H3:=rp.comp fr ((e1.cc.trans ex.cc).trans e3.cc) e3.ch
  refine hg C3 H3 _ _ C3 H3 x its[i] _ _ rc n3 (hf its[i] (List.getElem_mem hlt)) fun δ' σ' q' rp' hl' hj'=>⟨aKX fo hl' hj',?_⟩
  refine ht C3 H3 δ' σ' C3 H3 _ _ rp' q' fun b C4 H4 q4 e4=>?_
  have hA4:H4 A=some (.lst ys):=e4.hh _ _ (e3.hh _ _ hl)
  have hc4:C4 A=none:=e4.ow A (e3.ow A hc (by rw [hl];simp)) (by rw [e3.hh _ _ hl];simp)
  have ed2:=((hd.mono e3.cc).mono e4.cc)
  have tk:its.take (i+1)=its.take i++[its[i]]:=by rw [List.take_succ,ed];rfl
  cases b with
  | false=>
   rw [if_neg (by simp)]
   refine ⟨its.length-(i+1),by omega,rfl,hlt,C4,ex.trans (e3.trans e4),hA4,hc4,?_⟩
   rw [tk,List.filter_append,List.filter_cons_of_neg (by rw [← q4.1];simp)]
   simpa using ed2
  | true=>
   rw [if_pos rfl]
   refine he C3 H3 δ' σ' C4 H4 _ _ (rp'.grow e4) (q4.2 rfl) fun d v C5 H5 q5 e5 n5=>?_
   have hA5:H5 A=some (.lst ys):=e5.hh _ _ hA4
   have hc5:C5 A=none:=e5.ow A hc4 (by rw [hA4];simp)
   have hyl:ys.length<sizeLine:=by
    rw [hd.length]
    exact Nat.lt_of_le_of_lt (hflt i) (by omega)
   refine ⟨hA5,hyl,its.length-(i+1),by omega,rfl,hlt,C5,?_,bH,hc5,?_⟩
   ·have e:=ex.trans (e3.trans (e4.trans e5))
    refine ⟨fun z u ez=>?_,e.cc,fun z u ez=>?_,e.ow⟩
    ·rw [aS (b8 ez hA)];exact e.hh z u ez
    ·rw [aS (b8 ez hc5)];exact e.ch z u ez
   ·rw [tk,List.filter_append,List.filter_cons_of_pos (by rw [← q4.1]),List.map_append,List.filter_nil,List.map_cons,List.map_nil]
    refine (ed2.mono e5.cc).append (.cons ?_ .nil)
    rw [← q5];exact n5
 ·have e:i=its.length:=by omega
  refine .inl ⟨W.2 (by omega),?_⟩
  rw [e,List.take_length] at hd
  exact k _ A ys C2 H2 q (e1.trans ex) hc (e1.hh.free hA) hl hd
section
variable {X:Cx}{a b c e tg iter elt:Expr}{es:List Expr}{pos:Pos}{ge:GE}{gi:GF}{gt:GT}{gg:GG}{scope:Scope}{Nc:List Str}{fr:List (Option Nat)}{ss:List Nat}
def tDE (K:PySem.W.Frag) (g:GE):TE:=fun σ H R=>∃ C0 H0 δ C Q,gI K C0 H0 δ σ C H∧g δ Q∧∀ d v C1 H1,Q d→eM C H C1 H1→i5 K C1 v d→R v H1
def tDT (K:PySem.W.Frag) (g:GT):TT:=fun σ H R=>∃ C0 H0 δ C Q,gI K C0 H0 δ σ C H∧g δ Q∧∀ b C1 H1,Q b→eM C H C1 H1→R b H1
def tDG (K:PySem.W.Frag) (ss:List Nat) (g:GG):TG:=fun v σ H R=>∃ C0 H0 δ C d Q,gI K C0 H0 δ σ C H∧i5 K C v d∧g d δ Q∧∀ δ' σ',Q δ'→gI K C0 H0 δ' σ' C H→σ'.length=σ.length→(∀ j:Nat,j∉ss→σ'[j]? = σ[j]?)→R σ' H
theorem DE.can (h:DE X e ge):PE X e (tDE X.K ge):=by
 obtain ⟨t,p,h⟩:=h
 intro pins s σ H Q I q
 obtain ⟨C0,H0,δ,C,Q',rp,g,k⟩:=q
 exact p pins s σ H Q I (h C0 H0 δ σ C H Q' Q rp g k)
theorem DG.can (h:DG X tg ss gg):PG X tg (tDG X.K ss gg):=by
 obtain ⟨t,p,h⟩:=h
 intro pins s σ H v u Q I r q
 obtain ⟨C0,H0,δ,C,d,Q',rp,n,g,k⟩:=q
 exact p pins s σ H v u Q I r (h C0 H0 δ σ C H v d Q' Q rp n g k)
theorem aGf.can {ifs:List Expr} (h:aGf X ifs gt):aCO X ifs (tDT X.K gt):=by
 obtain ⟨t,p,h⟩:=h
 intro pins s σ H Q I q
 obtain ⟨C0,H0,δ,C,Q',rp,g,k⟩:=q
 exact p pins s σ H Q I (h C0 H0 δ σ C H Q' Q rp g k)
abbrev aG4:GT:=fun _ Q=>Q true
theorem aDD:aGf X [] aG4:=⟨_,aIj,fun C0 H0 δ σ C H Q R rp g k=>k true C H g (eM.refl rp.ch)⟩
theorem aDs (h:DT X c gt):aGf X [c] gt:=by
 obtain ⟨t,p,h⟩:=h
 exact ⟨t,aII p,h⟩
theorem aBi {ifs:List Expr} (h:DI X tg iter gi) (fo:aBP fr ss=true):∃ wi,PI X tg iter wi∧∀ C0 H0 δ σ C H (Q:List D→Prop) (R:VK),gI X.K C0 H0 δ σ C H→pG fr gi gg gt ge δ Q →
  (∀ ds p xs C1 H1,Q ds→eM C H C1 H1→C1 p=none→H p=none→H1 p=some (.lst xs)→bO X.K C1 xs ds→R (.ref p) H1)→aIw fr wi (tDG X.K ss gg) (tDT X.K gt) (tDE X.K ge) σ H R:=by
 obtain ⟨wi,pi,h⟩:=h
 refine ⟨wi,pi,fun C0 H0 δ σ C H Q R rp g k=>h C0 H0 δ σ C H _ _ rp g fun its J C1 H1 q e1 wk A hA=>?_⟩
 obtain ⟨hz,p,f,hf,q⟩:=q
 refine zN (gg:=gg) (gt:=gt) (ge:=ge) (ss:=ss) (fun C0 H0 δ σ C H v d Q R rp n g k=>⟨C0,H0,δ,C,d,Q,rp,n,g,k⟩) (fun C0 H0 δ σ C H Q R rp g k=>⟨C0,H0,δ,C,Q,rp,g,k⟩) (fun C0 H0 δ σ C H Q R rp g k=>⟨C0,H0,δ,C,Q,rp,g,k⟩) fo rp e1 wk hz hf q k hA
theorem aF8 {ifs:List Expr} (ok:oE X.env.scope scope X.N Nc fr=true) (fo:aBP fr ss=true) (hc:X.calm=true) (hi:DI X tg iter gi) (hg:∀ Cc pins fp s3 H3,DG (w6 X scope Nc Cc pins fp s3 H3) tg ss gg)
  (ht:∀ Cc pins fp s3 H3,aGf (w6 X scope Nc Cc pins fp s3 H3) ifs gt) (he:∀ Cc pins fp s3 H3,DE (w6 X scope Nc Cc pins fp s3 H3) elt ge) (hs:∀ x,foldedSetIterable iter X.env x=pure x:=by intro _;rfl) :
  DF X (.ListComp elt [⟨tg,iter,ifs,0⟩] scope pos) (pG fr gi gg gt ge):=by
 obtain ⟨wi,pi,h⟩:=aBi (ifs:=ifs) (gg:=gg) (gt:=gt) (ge:=ge) hi fo
 exact ⟨_,aE0 ok hc pi (fun a b c d e=>(hg a b c d e).can) (fun a b c d e=>(ht a b c d e).can) (fun a b c d e=>(he a b c d e).can) hs,h⟩
end
structure qU where
 nx:DS→Prop
 rt:D→Prop
 bk:DS→Prop:=fun _=>False
 ct:DS→Prop:=fun _=>False
abbrev GS:=qU→DS→Prop
structure Adm (K:PySem.W.Frag) (C0 H0:Hp) (E:aGN) (De:qU):Prop where
 nx:∀ δ σ C H,gI K C0 H0 δ σ C H→De.nx δ→E.nx σ H
 rt:∀ d v C H,eM C0 H0 C H→i5 K C v d→De.rt d→E.rt v H
 bk:∀ δ σ C H,gI K C0 H0 δ σ C H→De.bk δ→E.bk σ H
 ct:∀ δ σ C H,gI K C0 H0 δ σ C H→De.ct δ→E.ct σ H
def DSt (X:Cx) (st:Stmt) (g:GS):Prop:=∃ t,PS X st t∧∀ C0 H0 δ σ C H De E,gI X.K C0 H0 δ σ C H→g De δ→Adm X.K C0 H0 E De→t E σ H
def kJ (X:Cx) (sts:List Stmt) (g:GS):Prop:=∃ t,PSs X sts t∧∀ C0 H0 δ σ C H De E,gI X.K C0 H0 δ σ C H→g De δ→Adm X.K C0 H0 E De→t E σ H
section
variable {X:Cx}{a b c e tg iter elt:Expr}{st:Stmt}{sts s2:List Stmt}{pos:Pos}{ge:GE}{gi gf:GF}{gt:GT}{gg:GG}{g1 g2:GS}{scope:Scope}{Nc:List Str}{fr:List (Option Nat)}{ss:List Nat}
abbrev dW:GS:=fun De δ=>De.nx δ
def aX (g1 g2:GS):GS:=fun De δ=>g1 { De with nx:=g2 De } δ
theorem f6:kJ X [] dW:=⟨_,aJN,fun C0 H0 δ σ C H De E rp g k=>k.nx δ σ C H rp g⟩
theorem aH (h1:DSt X st g1) (h2:kJ X sts g2):kJ X (st::sts) (aX g1 g2):=by
 obtain ⟨t1,p1,h1⟩:=h1
 obtain ⟨t2,p2,h2⟩:=h2
 refine ⟨_,aHQ p1 p2,fun C0 H0 δ σ C H De E rp g k=>h1 C0 H0 δ σ C H { De with nx:=g2 De } { E with nx:=t2 E } rp g ⟨fun δ' σ' C' H' rp' q=>?_,k.rt,k.bk,k.ct⟩⟩
 exact h2 C0 H0 δ' σ' C' H' De E rp' q k
theorem aN (h1:DSt X st g1):kJ X [st] g1:=by
 obtain ⟨t1,p1,h1⟩:=h1
 exact ⟨_,aJn p1,h1⟩
def j5 (i:Nat) (g:GS):GS:=fun De δ=>match δ[i]? with
 | some (.ow ds)=>g De (δ.set i (.im (.lst ds)))
 | _=>False
theorem hX (i:Nat) (h:kJ X sts g1):kJ X sts (j5 i g1):=by
 obtain ⟨t,p,h⟩:=h
 refine ⟨t,p,fun C0 H0 δ σ C H De E rp g k=>?_⟩
 unfold j5 at g
 split at g
 ·rename_i ds e
  obtain ⟨C1,rp'⟩:=rp.freeze' e
  exact h C0 H0 _ σ C1 H De E rp' g k
 ·exact g.elim
def cF (ge:GE):GS:=fun De δ=>ge δ De.rt
theorem bN (he:DE X e ge):DSt X (.Return (some e) pos) (cF ge):=by
 obtain ⟨t,p,h⟩:=he
 exact ⟨_,aKJ p,fun C0 H0 δ σ C H De E rp g k=>h C0 H0 δ σ C H _ _ rp g fun d v C1 H1 q e1 n1=>k.rt d v C1 H1 (rp.ext.trans e1) n1 q⟩
def iG (gt:GT) (g1 g2:GS):GS:=fun De δ=>gt δ fun c=>if c=true then g1 De δ else g2 De δ
theorem l0 (hc:DT X c gt) (h1:kJ X sts g1) (h2:kJ X s2 g2):DSt X (.If c sts s2 pos) (iG gt g1 g2):=by
 obtain ⟨t0,p0,h0⟩:=hc
 obtain ⟨t1,p1,h1⟩:=h1
 obtain ⟨t2,p2,h2⟩:=h2
 refine ⟨_,aL7 p0 p1 p2,fun C0 H0 δ σ C H De E rp g k=>h0 C0 H0 δ σ C H _ _ rp g fun c C1 H1 q e1=>?_⟩
 cases c with
 | true=>exact aHe (h1 C0 H0 δ σ C1 H1 De E (rp.grow e1) (by simpa using q) k)
 | false=>exact aH0 (h2 C0 H0 δ σ C1 H1 De E (rp.grow e1) (by simpa using q) k)
def bR (ge:GE) (gg:GG):GS:=fun De δ=>ge δ fun d=>gg d δ De.nx
theorem bF (he:DE X e ge) (hg:DG X tg ss gg) (hp:∀ {te:TE}{g:TG},PE X e te→PG X tg g→PS X (.Assign [tg] e pos) (aAq te g)):DSt X (.Assign [tg] e pos) (bR ge gg):=by
 obtain ⟨t,p,h⟩:=he
 obtain ⟨t2,p2,h2⟩:=hg
 refine ⟨_,hp p p2,fun C0 H0 δ σ C H De E rp g k=>h C0 H0 δ σ C H _ _ rp g fun d v C1 H1 q e1 n1=>?_⟩
 exact h2 C0 H0 δ σ C1 H1 v d _ _ (rp.grow e1) n1 q fun δ' σ' q' rp' _ _=>k.nx δ' σ' C1 H1 rp' q'
def dN (i:Nat) (gf:GF):GS:=fun De δ=>gf δ fun ds=>De.nx (δ.set i (.ow ds))
theorem gP {i:Nat}{x:Str}{pos':Pos} (he:DF X e gf) (hp:∀ {te:TE},PE X e te→PS X (.Assign [.Name x pos'] e pos) (aAq te (pS i))):DSt X (.Assign [.Name x pos'] e pos) (dN i gf):=by
 obtain ⟨t,p,h⟩:=he
 refine ⟨_,hp p,fun C0 H0 δ σ C H De E rp g k=>h C0 H0 δ σ C H _ _ rp g fun ds p xs C1 H1 q e1 hc hn hl hd=>?_⟩
 have rp1:=rp.grow e1
 refine k.nx _ _ C1 H1 (rp1.setO (rp.ext.hh.free hn) hc (fun j es hj ho z=>?_) hl hd) q
 obtain ⟨l,ys,a,_,_,d,_⟩:=rp.ow j es ho
 rw [z] at a
 cases a
 rw [hn] at d
 cases d
def kI (i:Nat) (ge:GE):GS:=fun De δ=>match δ[i]? with
 | some (.ow ds)=>ge δ fun d=>ds.length<sizeLine∧De.nx (δ.set i (.ow (ds++[d])))
 | _=>False
theorem lV {i:Nat}{o:Expr}{nm:Str}{p2 p3:Pos} (he:DE X e ge) (hp:∀ {te:TE},PE X e te→PS X (.Expr (.Call (.Attribute o nm p2) [e] [] p3) pos) (aG1 (tBM X.K "list" aEY (wP i) (aIG te aKL)))):DSt X (.Expr (.Call (.Attribute o nm p2) [e] [] p3) pos) (kI i ge):=by
 obtain ⟨t,p,h⟩:=he
 refine ⟨_,hp p,fun C0 H0 δ σ C H De E rp g k=>?_⟩
 unfold kI at g
 split at g
 ·rename_i ds eo
  obtain ⟨l,xs,a,b,c,d,f⟩:=rp.ow i ds eo
  refine ⟨.ref l,a,.inl ⟨rfl,xs,jS.of d⟩,h C0 H0 δ σ C H _ _ rp g fun dv v C1 H1 q e1 n1=>?_⟩
  have d1:=e1.hh _ _ d
  refine ⟨l,xs,v,rfl,rfl,d1,by rw [f.length];exact q.1,k.nx _ σ C1 _ ((rp.grow e1).change eo a ((f.mono e1.cc).append (.cons n1 .nil))) q.2⟩
 ·exact g.elim
def qW (i:Nat) (gf:GF):GS:=fun De δ=>match δ[i]? with
 | some (.ow ds)=>gf δ fun es=>ds.length+es.length≤sizeLine∧De.nx (δ.set i (.ow (ds++es)))
 | _=>False
theorem aKH {i:Nat}{o:Expr}{nm:Str}{p2 p3:Pos} (he:DF X e gf) (hp:∀ {te:TE},PE X e te→PS X (.Expr (.Call (.Attribute o nm p2) [e] [] p3) pos) (aG1 (tBM X.K "list" aE6 (wP i) (aIG te aKL)))):DSt X (.Expr (.Call (.Attribute o nm p2) [e] [] p3) pos) (qW i gf):=by
 obtain ⟨t,p,h⟩:=he
 refine ⟨_,hp p,fun C0 H0 δ σ C H De E rp g k=>?_⟩
 unfold qW at g
 split at g
 ·rename_i ds eo
  obtain ⟨l,xs,a,b,c,d,f⟩:=rp.ow i ds eo
  refine ⟨.ref l,a,.inl ⟨rfl,xs,jS.of d⟩,h C0 H0 δ σ C H _ _ rp g fun es p ys C1 H1 q e1 hc hn hl hd=>?_⟩
  have d1:=e1.hh _ _ d
  refine ⟨l,p,xs,ys,rfl,rfl,d1,hl,by rw [f.length,hd.length];exact q.1,k.nx _ σ C1 _ ((rp.grow e1).change eo a ((f.mono e1.cc).append hd)) q.2⟩
 ·exact g.elim
theorem dY (ok:oE X.env.scope scope X.N Nc fr=true) (fo:aBP fr ss=true) (hc:X.calm=true) (hi:DI X tg iter gi) (hg:∀ Cc pins fp s3 H3,DG (w6 X scope Nc Cc pins fp s3 H3) tg ss gg)
  (he:∀ Cc pins fp s3 H3,DE (w6 X scope Nc Cc pins fp s3 H3) elt ge) (mg:∀ d δ (P P':DS→Prop),(∀ l,P l→P' l)→gg d δ P→gg d δ P') (hs:∀ x,foldedSetIterable iter X.env x=pure x:=by intro _;rfl) :
  DF X (.ListComp elt [⟨tg,iter,[],0⟩] scope pos) (cC fr gi gg ge):=by
 obtain ⟨wi,pi,h⟩:=hi
 refine ⟨_,aE0 (g:=tDG X.K ss gg) (tt:=tDT X.K aG4) (te:=tDE X.K ge) ok hc pi (fun a b c d e=>(hg a b c d e).can) (fun a b c d e=>(aDD (X:=w6 X scope Nc a b c d e)).can) (fun a b c d e=>(he a b c d e).can) hs,fun C0 H0 δ σ C H Q R rp g k=>h C0 H0 δ σ C H _ _ rp g fun its J C1 H1 q e1 wk A hA=>?_⟩
 obtain ⟨hz,f,hf,q⟩:=q
 refine zN (gg:=gg) (gt:=aG4) (ge:=ge) (ss:=ss) (p:=fun _=>true) (f:=f) (Q:=Q) (fun C0 H0 δ σ C H v d Q R rp n g k=>⟨C0,H0,δ,C,d,Q,rp,n,g,k⟩) (fun C0 H0 δ σ C H Q R rp g k=>⟨C0,H0,δ,C,Q,rp,g,k⟩) (fun C0 H0 δ σ C H Q R rp g k=>⟨C0,H0,δ,C,Q,rp,g,k⟩) fo rp e1 wk hz
  (fun d hd=>mg d _ _ _ (fun δ2 q2=>⟨rfl,fun _=>q2⟩) (hf d hd)) (by rw [List.filter_eq_self.mpr (fun _ _=>rfl)];exact q) k hA
theorem vM {i:Nat}{x:Str}{pos' pos'':Pos} (ok:oE X.env.scope scope X.N Nc fr=true) (fo:aBP fr ss=true) (hc:X.calm=true) (hN:X.N.Nodup) (hi:X.N[i]? = some x) (hx:Loc X.env.scope x) (hit:DI X tg iter gi) (hg:∀ Cc pins fp s3 H3,DG (w6 X scope Nc Cc pins fp s3 H3) tg ss gg)
  (he:∀ Cc pins fp s3 H3,DE (w6 X scope Nc Cc pins fp s3 H3) elt ge) (mg:∀ d δ (P P':DS→Prop),(∀ l,P l→P' l)→gg d δ P→gg d δ P') (hsw:swapsWith (.ListComp elt [⟨tg,iter,[],0⟩] scope pos) (some (.Name x pos')) pos''.line X.env=pure true)
  (hs:∀ x,foldedSetIterable iter X.env x=pure x:=by intro _;rfl) (hf:X.fn x=true∨X.env.scope.names.lookup x=some .local:=by first | exact .inl rfl | exact .inr rfl | assumption) :
  DSt X (.Assign [.Name x pos'] (.ListComp elt [⟨tg,iter,[],0⟩] scope pos) pos'') (dN i (cC fr gi gg ge)):=by
 obtain ⟨wi,pi,h⟩:=hit
 refine ⟨_,aFF (g:=tDG X.K ss gg) (tt:=tDT X.K aG4) (te:=tDE X.K ge) ok hc hN hi hx pi (fun a b c d e=>(hg a b c d e).can) (fun a b c d e=>(aDD (X:=w6 X scope Nc a b c d e)).can) (fun a b c d e=>(he a b c d e).can) hsw hs hf,fun C0 H0 δ σ C H De E rp g k=>h C0 H0 δ σ C H _ _ rp g fun its J C1 H1 q e1 wk A hA=>?_⟩
 obtain ⟨hz,f,hf,q⟩:=q
 refine zN (gg:=gg) (gt:=aG4) (ge:=ge) (ss:=ss) (p:=fun _=>true) (f:=f) (Q:=fun ds=>De.nx (δ.set i (.ow ds))) (fun C0 H0 δ σ C H v d Q R rp n g k=>⟨C0,H0,δ,C,d,Q,rp,n,g,k⟩) (fun C0 H0 δ σ C H Q R rp g k=>⟨C0,H0,δ,C,Q,rp,g,k⟩) (fun C0 H0 δ σ C H Q R rp g k=>⟨C0,H0,δ,C,Q,rp,g,k⟩) fo rp e1 wk hz
  (fun d hd=>mg d _ _ _ (fun δ2 q2=>⟨rfl,fun _=>q2⟩) (hf d hd)) (by rw [List.filter_eq_self.mpr (fun _ _=>rfl)];exact q) (fun ds p xs C1 H1 q e1 hc hn hl hd=>?_) hA
 have rp1:=rp.grow e1
 refine k.nx _ _ C1 H1 (rp1.setO (rp.ext.hh.free hn) hc (fun j es hj ho z=>?_) hl hd) q
 obtain ⟨l,ys,a,_,_,d,_⟩:=rp.ow j es ho
 rw [z] at a
 cases a
 rw [hn] at d
 cases d
theorem eJ {i:Nat}:∀ d δ (P P':DS→Prop),(∀ l,P l→P' l)→cY i d δ P→cY i d δ P':=fun _ _ _ _ h q=>h _ q
theorem uN {i j:Nat}:∀ d δ (P P':DS→Prop),(∀ l,P l→P' l)→j6 i j d δ P→j6 i j d δ P':=fun d δ P P' h q=>by
 unfold j6 at q ⊢
 split at q
 ·exact h _ q
 ·exact q.elim
theorem gI.rebase {K:PySem.W.Frag}{C0 H0 δ σ C H} (R:gI K C0 H0 δ σ C H):gI K C H0 δ σ C H:=⟨R.len,⟨R.ext.hh,bY.refl _,R.ext.ch,fun _ e _=>e⟩,R.im,R.ow,R.ap,R.dc⟩
theorem eM.unbase {C0 H0 C1 H1 C H:Hp} (e:eM C0 H0 C1 H1) (x:eM C1 H0 C H):eM C0 H0 C H:=⟨x.hh,e.cc.trans x.cc,x.ch,fun b a n=>x.ow b (e.ow b a n) n⟩
theorem gI.unbase {K:PySem.W.Frag}{C0 H0 C1 H1 δ σ C H} (e:eM C0 H0 C1 H1) (R:gI K C1 H0 δ σ C H):gI K C0 H0 δ σ C H:=⟨R.len,e.unbase R.ext,R.im,R.ow,R.ap,R.dc⟩
def gB (gi:GF) (gg:GG) (gb:GS):GS:=fun De δ=>gi δ fun its=>∃ P:Nat→DS→Prop,P 0 δ∧(∀ (i:Nat) d δ',its[i]? = some d→P i δ'→gg d δ' fun δ2=>gb { De with nx:=P (i+1),ct:=P (i+1),bk:=De.nx } δ2)∧∀ δ',P its.length δ'→De.nx δ'
theorem fP {gb:GS} (hc:X.calm=true) (hp:PassesOwn (model X.prog X.w) X.A X.env X.xe) (hi:DI X tg iter gi) (hg:DG X tg ss gg) (hb:kJ X sts gb) (hs:∀ x,foldedSetIterable iter X.env x=pure x:=by intro _;rfl):DSt X (.For tg iter sts [] pos) (gB gi gg gb):=by
 obtain ⟨wi,pi,h⟩:=hi
 obtain ⟨t2,p2,h2⟩:=hg
 obtain ⟨t3,p3,h3⟩:=hb
 refine ⟨_,aLu hp hc pi p2 p3 hs,fun C0 H0 δ σ C H De E rp g k=>h C0 H0 δ σ C H _ _ rp g fun its J C1 H1 q e1 wk=>?_⟩
 obtain ⟨P,P0,Pt,Pe⟩:=q
 have rp1:=rp.grow e1
 refine ⟨fun i m σ' H'=>m=its.length-i∧i≤its.length∧∃ δ' C',gI X.K C1 H0 δ' σ' C' H'∧P i δ',⟨_,rfl,Nat.zero_le _,δ,C1,rp1.rebase,P0⟩,?_⟩
 rintro i m σ' H' ⟨rfl,hi,δ',C',rp',p⟩
 have W:=wk C' H' rp'.ext.cc rp'.ch i
 by_cases hlt:i<its.length
 ·have ed:its[i]? = some its[i]:=by simp [hlt]
  obtain ⟨go,yl⟩:=W.1 _ ed
  refine .inr ⟨go,fun σ2 H2=>∃ δ2 C2,gI X.K C1 H0 δ2 σ2 C2 H2∧P (i+1) δ2,fun σ2 H2 ⟨δ2,C2,a,b⟩=>⟨its.length-(i+1),by omega,rfl,hlt,δ2,C2,a,b⟩,fun x H3 y=>?_⟩
  obtain ⟨C3,e3,n3⟩:=yl x H3 y
  refine h2 C1 H0 δ' σ' C3 H3 x its[i] _ _ (rp'.grow e3) n3 (Pt i _ δ' ed p) fun δ4 σ4 q4 rp4 _ _=>?_
  refine h3 C1 H0 δ4 σ4 C3 H3 _ _ rp4 q4 ⟨fun δ5 σ5 C5 H5 a b=>⟨δ5,C5,a,b⟩,fun d v C5 H5 a b c=>k.rt d v C5 H5 (rp1.ext.unbase a) b c,fun δ5 σ5 C5 H5 a b=>k.nx δ5 σ5 C5 H5 (a.unbase rp1.ext) b,fun δ5 σ5 C5 H5 a b=>⟨δ5,C5,a,b⟩⟩
 ·have e:i=its.length:=by omega
  subst e
  exact .inl ⟨W.2 (Nat.le_refl _),k.nx δ' σ' C' H' (rp'.unbase rp1.ext) (Pe δ' p)⟩
def jO (gt:GT) (gb:GS):GS:=fun De δ=>∃ P:Nat→DS→Prop,(∃ n,P n δ)∧∀ n δ',P n δ'→gt δ' fun c=>if c=true then gb { De with nx:=fun δ2=>∃ m,m<n∧P m δ2,ct:=fun δ2=>∃ m,m<n∧P m δ2,bk:=De.nx } δ' else De.nx δ'
theorem mP {gb:GS} (hp:PassesOwn (model X.prog X.w) X.A X.env X.xe) (hc:DT X c gt) (hb:kJ X sts gb):DSt X (.While c sts [] pos) (jO gt gb):=by
 obtain ⟨t0,p0,h0⟩:=hc
 obtain ⟨t1,p1,h1⟩:=hb
 refine ⟨_,aH2 hp p0 p1,fun C0 H0 δ σ C H De E rp g k=>?_⟩
 obtain ⟨P,⟨n0,P0⟩,Pt⟩:=g
 refine ⟨fun n σ' H'=>∃ δ' C',gI X.K C0 H0 δ' σ' C' H'∧P n δ',⟨n0,δ,C,rp,P0⟩,?_⟩
 rintro n σ' H' ⟨δ',C',rp',p⟩
 refine h0 C0 H0 δ' σ' C' H' _ _ rp' (Pt n δ' p) fun c C2 H2 q2 e2=>?_
 have rp2:=rp'.grow e2
 cases c with
 | true=>
  refine ⟨fun σ3 H3=>∃ m,m<n∧∃ δ3 C3,gI X.K C0 H0 δ3 σ3 C3 H3∧P m δ3,fun σ3 H3 z=>z,?_⟩
  have q2':gb { De with nx:=fun δ2=>∃ m,m<n∧P m δ2,ct:=fun δ2=>∃ m,m<n∧P m δ2,bk:=De.nx } δ':=by simpa using q2
  refine h1 C0 H0 δ' σ' C2 H2 _ _ rp2 q2' ⟨fun δ5 σ5 C5 H5 a ⟨m,b1,b2⟩=>⟨m,b1,δ5,C5,a,b2⟩,k.rt,k.nx,fun δ5 σ5 C5 H5 a ⟨m,b1,b2⟩=>⟨m,b1,δ5,C5,a,b2⟩⟩
 | false=>exact k.nx δ' σ' C2 H2 rp2 (by simpa using q2)
end
def bK (N:List Str) (ds:List D):DS:=ds.map Sl.im++List.replicate (N.length-ds.length) .un
theorem rA {K:PySem.W.Frag}{C H:Hp}{N:List Str}{vs:List V}{ds:List D} (ch:bY C H) (h:bO K C vs ds):gI K C H (bK N ds) (start N vs) C H:=by
 have no:∀ (i:Nat) es,(bK N ds)[i]? ≠ some (.ow es):=fun i es e=>by
  have:=List.mem_of_getElem? e
  unfold bK at this
  rcases List.mem_append.mp this with z | z
  ·obtain ⟨d,_,q⟩:=List.mem_map.mp z
   cases q
  ·have:=List.eq_of_mem_replicate z
   cases this
 refine ⟨?_,eM.refl ch,fun i d e=>?_,fun i es e=>absurd e (no i es),fun i j es fs l _ e _=>absurd e (no i es),Dcs.none fun i x e=>?_⟩
 rotate_right
 ·have:=List.mem_of_getElem? e
  unfold bK at this
  rcases List.mem_append.mp this with z | z
  ·obtain ⟨d,_,q⟩:=List.mem_map.mp z
   rw [← q]
   rfl
  ·rw [List.eq_of_mem_replicate z]
   rfl
 ·unfold start bK
  simp [h.length]
 ·unfold bK at e
  unfold start
  by_cases hi:i<ds.length
  ·rw [List.getElem?_append_left (by simpa using hi),List.getElem?_map] at e
   cases e2:ds[i]? with
   | none=>rw [e2] at e;cases e
   | some d'=>
    rw [e2] at e
    cases e
    obtain ⟨v,ev,nv⟩:=h.get e2
    refine ⟨v,?_,nv⟩
    rw [List.getElem?_append_left (by rw [List.length_map,h.length];exact hi),List.getElem?_map,ev]
    rfl
  ·rw [List.getElem?_append_right (by simpa using hi),List.getElem?_replicate] at e
   split at e <;> cases e
theorem pV {P:Program}{w:World}{K:PySem.W.Frag}{mg:Str→Option Value}{base:Heap}{x qual:Str}{st:Stmt}{f:Addr}{fd:FuncData}{N ps:List Str}{k:Nat}{F:List D→Option D}{g:GS} (Fn:Fun K x qual st f fd) (S:bD N ps (aD st))
  (hl:∀ ds d,F ds=some d→ds.length=ps.length)
  (hb:∀ (cdv:Value) (A:Around) (outer:List Env) (s:Shared) (H:Hp) (E:XK),cL k (A.deeper (envOfC qual (aD st) s.heap.objs.size f cdv))→kJ (d6 kK P w K mg base N qual (aD st) f cdv A outer s H E).nox (aW st) g)
  (hv:∀ ds d,F ds=some d→g { nx:=fun _=>d = .non,rt:=fun r=>r=d } (bK N ds)) (hm:mg x=some (.ref f)) (bi:pT K fd ps []):fI P w K mg base (k+1) x F:=by
 refine ⟨f,fd,ps,Fn.ok S (fun vs H Q E h=>?_) (fun cdv A outer s H vs Q E hr h=>?_),hm,Fn.kp,bi⟩
 ·obtain ⟨C,ds,d,_,n,e,_⟩:=h
  rw [n.length]
  exact hl ds d e
 ·obtain ⟨C,ds,d,ch,n,e,q⟩:=h
  obtain ⟨t,p,h⟩:=hb cdv A outer s H E hr
  refine ⟨t,p,h C H (bK N ds) (start N vs) C H _ _ (rA ch n) (hv ds d e) ⟨fun δ σ C' H' rp z=>?_,fun r v C' H' ex nv z=>?_,fun _ _ _ _ _ z=>z.elim,fun _ _ _ _ _ z=>z.elim⟩⟩
  ·subst z
   exact q _ C' H' rp.ext (eD.mpr rfl)
  ·subst z
   exact q v C' H' ex nv
section
variable {X:Cx}
def aMh (K:PySem.W.Frag):R2:=fun x y H Q=>∃ l b xs zs,x = .ref l∧y = .ref b∧jS K H l xs∧jS K H b zs∧xs.length+zs.length≤sizeLine∧∀ p,H p=none→Q (.ref p) (upd H p (.lst (xs++zs)))
theorem aJ3:tK X (binaryOp .Add) (aMh X.K):=by
 intro pins s σ H x y v u Q I rx ry h
 obtain ⟨l,b,xs,zs,rfl,rfl,hH,hB,hz,q⟩:=h
 cases rx
 cases ry
 obtain ⟨its,r,pl,z⟩:=I.list hH
 obtain ⟨its2,r2,pl2,z2⟩:=I.list hB
 have hl:=r.length
 have hl2:=r2.length
 obtain ⟨⟨cls,dd,data,sl⟩,ho,hc,n,hd⟩:=pl.isList
 obtain ⟨⟨cls2,dd2,data2,sl2⟩,ho2,hc2,n2,hd2⟩:=pl2.isList
 simp only at hc hd hc2 hd2
 subst hc hd hc2 hd2
 refine concat_meets ⟨_,ho,rfl⟩ ⟨_,ho2,rfl⟩ noFill_list_add seq_list_add PySem.F.slot_list_add PySem.F.entry_list_add (PySem.F.args_list_add_2 _ _) (list_addW l b its.toArray its2.toArray n n2 dd dd2 sl sl2 (by rw [List.size_toArray,List.size_toArray];omega)) ⟨ho,ho2,?_⟩
 have ea:its.toArray++its2.toArray=(its++its2).toArray:=by simp
 rw [ea]
 exact ⟨.ref _,_,I.lnew (t':=s.toks) (r.append r2) (by rw [List.length_append];omega),rfl,q _ I.fresh⟩
variable {a b c e:Expr}{es:List Expr}{pos:Pos}{ga gb:GE}
def lN (ga gb:GE):GF:=fun δ Q=>ga δ fun x=>gb δ fun y=>match x,y with
 | .lst xs,.lst ys=>xs.length+ys.length≤sizeLine∧Q (xs++ys)
 | _,_=>False
theorem aHT (ha:DE X a ga) (hb:DE X b gb):DF X (.BinOp a .Add b pos) (lN ga gb):=by
 obtain ⟨t1,p1,h1⟩:=ha
 obtain ⟨t2,p2,h2⟩:=hb
 refine ⟨_,aIo aJ3 p1 p2,fun C0 H0 δ σ C H Q R rp g k=>?_⟩
 refine h1 C0 H0 δ σ C H _ _ rp g fun d v C1 H1 q e1 n1=>h2 C0 H0 δ σ C1 H1 _ _ (rp.grow e1) q fun d2 v2 C2 H2 q2 e2 n2=>?_
 have n1':=n1.mono e2.cc
 have e12:=e1.trans e2
 cases d with
 | lst ds=>
  cases d2 with
  | lst es=>
   obtain ⟨p,xs,rfl,hx,hd⟩:=bV.mp n1'
   obtain ⟨p',ys,rfl,hy,he⟩:=bV.mp n2
   have q2':ds.length+es.length≤sizeLine∧Q (ds++es):=q2
   exact ⟨p,p',xs,ys,rfl,rfl,e2.ch.seq hx,e2.ch.seq hy,by rw [hd.length,he.length];exact q2'.1,fun l hl=>k _ l _ C2 _ q2'.2 (e12.trans (eM.newO e2.ch hl)) (e2.ch.free hl) (e12.hh.free hl) bH (hd.append he)⟩
  | _=>exact q2.elim
 | _=>exact q2.elim
end
mutual
def j7:D→D→Option Bool
 | .int i,.int j=>some (i == j)
 | .bl i,.bl j=>some (i == j)
 | .str i,.str j=>some (i == j)
 | .non,.non=>some true
 | .tup xs,.tup ys=>(mD xs ys).map fun b=>b && xs.length == ys.length
 | .lst xs,.lst ys=>if xs.length=ys.length then mD xs ys else some false
 | _,_=>none
def mD:List D→List D→Option Bool
 | x::xs,y::ys=>match j7 x y,mD xs ys with
  | some a,some b=>some (a && b)
  | _,_=>none
 | _,_=>some true
end
mutual
def l5:D→Nat
 | .tup ds=>iV ds+1
 | .lst ds=>iV ds+1
 | _=>0
def iV:List D→Nat
 | []=>0
 | d::ds=>max (l5 d) (iV ds)
end
mutual
theorem tP:∀ d:D,j7 d d=some true
 | .int i=>by simp [j7]
 | .bl i=>by simp [j7]
 | .str i=>by simp [j7]
 | .non=>by simp [j7]
 | .tup ds=>by simp [j7,vK ds]
 | .lst ds=>by simp [j7,vK ds]
theorem vK:∀ ds:List D,mD ds ds=some true
 | []=>by simp [mD]
 | d::ds=>by simp [mD,tP d,vK ds]
end
theorem u9:∀ {xs ys:List D}{r:Bool},mD xs ys=some r→∃ f:Nat→Bool,(∀ (j:Nat) x y,xs[j]? = some x→ys[j]? = some y→j7 x y=some (f j))∧r=(List.range (min xs.length ys.length)).all f
 | [],ys,r,h=>by
  refine ⟨fun _=>true,fun j x y e=>by simp at e,?_⟩
  have:r=true:=by simpa [mD] using h.symm
  simp [this]
 | x::xs,[],r,h=>by
  refine ⟨fun _=>true,fun j x y _ e=>by simp at e,?_⟩
  have:r=true:=by simpa [mD] using h.symm
  simp [this]
 | x::xs,y::ys,r,h=>by
  rw [mD] at h
  cases e1:j7 x y with
  | none=>rw [e1] at h;cases h
  | some a=>
   cases e2:mD xs ys with
   | none=>rw [e1,e2] at h;cases h
   | some b=>
    rw [e1,e2] at h
    obtain ⟨f,hf,hb⟩:=u9 e2
    refine ⟨fun j=>match j with
     | 0=>a
     | j+1=>f j,fun j x' y' h1 h2=>?_,?_⟩
    ·cases j with
     | zero=>cases h1;cases h2;exact e1
     | succ j=>exact hf j x' y' h1 h2
    ·have:r=(a && b):=(Option.some.inj h).symm
     rw [this,hb,List.length_cons,List.length_cons,Nat.succ_min_succ,List.range_succ_eq_map,List.all_cons,List.all_map]
     rfl
theorem rH:∀ {xs:List D}{j:Nat}{x:D},xs[j]? = some x→l5 x≤iV xs
 | [],j,x,h=>by simp at h
 | y::ys,0,x,h=>by
  cases h
  rw [iV]
  exact Nat.le_max_left _ _
 | y::ys,j+1,x,h=>by
  rw [iV]
  exact Nat.le_trans (rH (xs:=ys) (j:=j) h) (Nat.le_max_right _ _)
section
variable {X:Cx}{pins:List (Addr×Obj)}{σ:St}{H C:Hp}{s:Shared}
mutual
theorem xO (I:bG X pins σ H s) (ch:bY C H):∀ {v:V} (d e:D),i5 X.K C v d→i5 X.K C v e→d=e
 | v,.int i,e,h,h'=>by
  have z:=aT.mp h
  subst z
  cases e with
  | int j=>have z:=aT.mp h';cases z;rfl
  | bl j=>have z:=c6.mp h';cases z
  | non=>have z:=eD.mp h';cases z
  | str j=>have z:=fZ.mp h';cases z
  | tup j=>obtain ⟨_,_,z,_⟩:=bM.mp h';cases z
  | lst j=>obtain ⟨_,_,z,_⟩:=bV.mp h';cases z
 | v,.bl i,e,h,h'=>by
  have z:=c6.mp h
  subst z
  cases e with
  | int j=>have z:=aT.mp h';cases z
  | bl j=>have z:=c6.mp h';cases z;rfl
  | non=>have z:=eD.mp h';cases z
  | str j=>have z:=fZ.mp h';cases z
  | tup j=>obtain ⟨_,_,z,_⟩:=bM.mp h';cases z
  | lst j=>obtain ⟨_,_,z,_⟩:=bV.mp h';cases z
 | v,.non,e,h,h'=>by
  have z:=eD.mp h
  subst z
  cases e with
  | int j=>have z:=aT.mp h';cases z
  | bl j=>have z:=c6.mp h';cases z
  | non=>rfl
  | str j=>have z:=fZ.mp h';cases z
  | tup j=>obtain ⟨_,_,z,_⟩:=bM.mp h';cases z
  | lst j=>obtain ⟨_,_,z,_⟩:=bV.mp h';cases z
 | v,.str i,e,h,h'=>by
  have z:=fZ.mp h
  subst z
  cases e with
  | int j=>have z:=aT.mp h';cases z
  | bl j=>have z:=c6.mp h';cases z
  | non=>have z:=eD.mp h';cases z
  | str j=>have z:=fZ.mp h';cases z;rfl
  | tup j=>obtain ⟨_,_,z,_⟩:=bM.mp h';cases z
  | lst j=>obtain ⟨_,_,z,_⟩:=bV.mp h';cases z
 | v,.tup ds,e,h,h'=>by
  obtain ⟨a,xs,rfl,hx,hd⟩:=bM.mp h
  cases e with
  | int j=>have z:=aT.mp h';cases z
  | bl j=>have z:=c6.mp h';cases z
  | non=>have z:=eD.mp h';cases z
  | str j=>have z:=fZ.mp h';cases z
  | tup es=>
   obtain ⟨a',ys,z,hy,he⟩:=bM.mp h'
   cases z
   have q:=I.tuple_inj (ch.seqT hx) (ch.seqT hy)
   subst q
   rw [yL I ch ds es hd he]
  | lst es=>
   obtain ⟨a',ys,z,hy,he⟩:=bV.mp h'
   cases z
   obtain ⟨its,_,⟨o,h1,h2,_⟩,_⟩:=I.tuple (ch.seqT hx)
   obtain ⟨its2,_,pl,_⟩:=I.list (ch.seq hy)
   obtain ⟨o2,h3,h4,_⟩:=pl.isList
   rw [h1] at h3
   cases h3
   rw [h2] at h4
   exact absurd h4 (by decide)
 | v,.lst ds,e,h,h'=>by
  obtain ⟨a,xs,rfl,hx,hd⟩:=bV.mp h
  cases e with
  | int j=>have z:=aT.mp h';cases z
  | bl j=>have z:=c6.mp h';cases z
  | non=>have z:=eD.mp h';cases z
  | str j=>have z:=fZ.mp h';cases z
  | lst es=>
   obtain ⟨a',ys,z,hy,he⟩:=bV.mp h'
   cases z
   have q:=I.list_inj (ch.seq hx) (ch.seq hy)
   subst q
   rw [yL I ch ds es hd he]
  | tup es=>
   obtain ⟨a',ys,z,hy,he⟩:=bM.mp h'
   cases z
   obtain ⟨its,_,⟨o,h1,h2,_⟩,_⟩:=I.tuple (ch.seqT hy)
   obtain ⟨its2,_,pl,_⟩:=I.list (ch.seq hx)
   obtain ⟨o2,h3,h4,_⟩:=pl.isList
   rw [h1] at h3
   cases h3
   rw [h2] at h4
   exact absurd h4 (by decide)
theorem yL (I:bG X pins σ H s) (ch:bY C H):∀ {vs:List V} (ds es:List D),bO X.K C vs ds→bO X.K C vs es→ds=es
 | vs,[],es,h,h'=>by
  have z:=gD.mp h
  subst z
  cases es with
  | nil=>rfl
  | cons e es=>obtain ⟨_,_,z,_⟩:=dA.mp h';cases z
 | vs,d::ds,es,h,h'=>by
  obtain ⟨x,xs,rfl,n,t⟩:=dA.mp h
  cases es with
  | nil=>have z:=gD.mp h';cases z
  | cons e es=>
   obtain ⟨_,_,z,n',t'⟩:=dA.mp h'
   cases z
   rw [xO I ch d e n n',yL I ch ds es t t']
end
theorem nS {xs:List V}{its:List Value} (r:cE xs its) {j:Nat} (h:j<its.toArray.size):∃ x,xs[j]? = some x∧cG x its.toArray[j]:=by
 have h':j<its.length:=by simpa using h
 have hx:j<xs.length:=by rw [r.length];exact h'
 have e:xs[j]? = some xs[j]:=by simp [hx]
 obtain ⟨u,e1,e2⟩:=r.get e
 refine ⟨xs[j],e,?_⟩
 have:u=its.toArray[j]:=by
  have e3:its[j]? = some its[j]:=by simp [h']
  rw [e3] at e1
  cases e1
  simp
 rw [← this]
 exact e2
theorem aEh (I:bG X pins σ H s) (ch:bY C H):∀ (n:Nat) (d e:D) (r:Bool) (A:Around) (x y:V) (u v:Value),l5 d≤n→A.units+n<cLine→j7 d e=some r→cG x u→cG y v→i5 X.K C x d→i5 X.K C y e→SeqAt.EqAt A s u v r:=by
 intro n
 induction n with
 | zero=>
  intro d e r A x y u v hn hu he rx ry nx ny
  cases d with
  | int i=>
   cases e with
   | int j=>
    rw [j7] at he
    cases he
    have z:=aT.mp nx
    have z2:=aT.mp ny
    subst z z2
    obtain ⟨t,rfl⟩:=rx
    obtain ⟨t',rfl⟩:=ry
    exact SeqAt.EqAt.int_int i t j t'
   | _=>cases he
  | bl i=>
   cases e with
   | bl j=>
    rw [j7] at he
    cases he
    have z:=c6.mp nx
    have z2:=c6.mp ny
    subst z z2
    cases rx
    cases ry
    exact SeqAt.EqAt.bool_bool i j
   | _=>cases he
  | str i=>
   cases e with
   | str j=>
    rw [j7] at he
    cases he
    have z:=fZ.mp nx
    have z2:=fZ.mp ny
    subst z z2
    obtain ⟨t,rfl⟩:=rx
    obtain ⟨t',rfl⟩:=ry
    exact SeqAt.EqAt.str_str i t j t'
   | _=>cases he
  | non=>
   cases e with
   | non=>
    rw [j7] at he
    cases he
    have z:=eD.mp nx
    have z2:=eD.mp ny
    subst z z2
    cases rx
    cases ry
    exact SeqAt.EqAt.same _
   | _=>cases he
  | tup ds=>rw [l5] at hn;omega
  | lst ds=>rw [l5] at hn;omega
 | succ n ih=>
  intro d e r A x y u v hn hu he rx ry nx ny
  cases d with
  | tup ds=>
   cases e with
   | tup es=>
    obtain ⟨a,xs,rfl,hx,hd⟩:=bM.mp nx
    obtain ⟨b,ys,rfl,hy,hee⟩:=bM.mp ny
    cases rx
    cases ry
    by_cases hab:a=b
    ·subst hab
     have q:=xO I ch _ _ nx ny
     rw [← q,tP] at he
     cases he
     exact SeqAt.EqAt.same _
    ·refine SeqAt.EqAt.of_refs hab ?_
     rw [j7] at he
     cases e1:mD ds es with
     | none=>rw [e1] at he;cases he
     | some r0=>
      rw [e1] at he
      obtain ⟨f,hf,hr⟩:=u9 e1
      obtain ⟨its,r1,t1,_⟩:=I.tuple (ch.seqT hx)
      obtain ⟨its2,r2,t2,_⟩:=I.tuple (ch.seqT hy)
      have l1:its.toArray.size=ds.length:=by rw [List.size_toArray,← r1.length,hd.length]
      have l2:its2.toArray.size=es.length:=by rw [List.size_toArray,← r2.length,hee.length]
      have q:=SeqAt.RcAt.tuples (A:=A) (e:=f) t1 t2 (by omega) fun j h1 h2=>by
       obtain ⟨x',ex,rx'⟩:=nS r1 h1
       obtain ⟨y',ey,ry'⟩:=nS r2 h2
       have hj1:j<ds.length:=by omega
       have hj2:j<es.length:=by omega
       have ed:ds[j]? = some ds[j]:=by simp [hj1]
       have ee:es[j]? = some es[j]:=by simp [hj2]
       obtain ⟨x2,ex2,nx2⟩:=hd.get ed
       obtain ⟨y2,ey2,ny2⟩:=hee.get ee
       rw [ex] at ex2
       cases ex2
       rw [ey] at ey2
       cases ey2
       refine ih ds[j] es[j] (f j) A.in1 x' y' _ _ ?_ (by show A.units+1+n<cLine;omega) (hf j _ _ ed ee) rx' ry' nx2 ny2
       have:=rH ed
       rw [l5] at hn
       omega
      rw [l1,l2] at q
      have er:r=((List.range (min ds.length es.length)).all f && ds.length == es.length):=by
       rw [← hr]
       exact (Option.some.inj he).symm
      rw [er]
      exact q
   | _=>cases he
  | lst ds=>
   cases e with
   | lst es=>
    obtain ⟨a,xs,rfl,hx,hd⟩:=bV.mp nx
    obtain ⟨b,ys,rfl,hy,hee⟩:=bV.mp ny
    cases rx
    cases ry
    by_cases hab:a=b
    ·subst hab
     have q:=xO I ch _ _ nx ny
     rw [← q,tP] at he
     cases he
     exact SeqAt.EqAt.same _
    ·refine SeqAt.EqAt.of_refs hab ?_
     rw [j7] at he
     obtain ⟨its,r1,p1,_⟩:=I.list (ch.seq hx)
     obtain ⟨its2,r2,p2,_⟩:=I.list (ch.seq hy)
     have l1:its.toArray.size=ds.length:=by rw [List.size_toArray,← r1.length,hd.length]
     have l2:its2.toArray.size=es.length:=by rw [List.size_toArray,← r2.length,hee.length]
     by_cases hlen:ds.length=es.length
     ·rw [if_pos hlen] at he
      obtain ⟨f,hf,hr⟩:=u9 he
      have q:=SeqAt.RcAt.lists (A:=A) (e:=f) p1.isList p2.isList (by rw [l1,l2];exact hlen) (by omega) fun j h1 h2=>by
       obtain ⟨x',ex,rx'⟩:=nS r1 h1
       obtain ⟨y',ey,ry'⟩:=nS r2 h2
       have hj1:j<ds.length:=by omega
       have hj2:j<es.length:=by omega
       have ed:ds[j]? = some ds[j]:=by simp [hj1]
       have ee:es[j]? = some es[j]:=by simp [hj2]
       obtain ⟨x2,ex2,nx2⟩:=hd.get ed
       obtain ⟨y2,ey2,ny2⟩:=hee.get ee
       rw [ex] at ex2
       cases ex2
       rw [ey] at ey2
       cases ey2
       refine ih ds[j] es[j] (f j) A.in1 x' y' _ _ ?_ (by show A.units+1+n<cLine;omega) (hf j _ _ ed ee) rx' ry' nx2 ny2
       have:=rH ed
       rw [l5] at hn
       omega
      rw [l1] at q
      rw [hr,← hlen,Nat.min_self]
      exact q
     ·rw [if_neg hlen] at he
      cases he
      exact SeqAt.RcAt.lists_lengths p1.isList p2.isList (by rw [l1,l2];simpa using hlen) (by omega)
   | _=>cases he
  | int i=>exact ih (.int i) e r A x y u v (by simp [l5]) (by omega) he rx ry nx ny
  | bl i=>exact ih (.bl i) e r A x y u v (by simp [l5]) (by omega) he rx ry nx ny
  | non=>exact ih .non e r A x y u v (by simp [l5]) (by omega) he rx ry nx ny
  | str i=>exact ih (.str i) e r A x y u v (by simp [l5]) (by omega) he rx ry nx ny
theorem aHp (I:bG X pins σ H s) (ch:bY C H) (n:Nat) (d e:D) (r:Bool) (A:Around) (x y:V) (u v:Value) (hn:l5 d≤n) (hu:A.units+n<cLine) (he:j7 d e=some r) (rx:cG x u) (ry:cG y v) (nx:i5 X.K C x d) (ny:i5 X.K C y e) :
  SeqAt.RcAt A s u v r∧SeqAt.RcNeAt A s u v (!r):=by
 cases d with
 | int i=>
  cases e with
  | int j=>
   rw [j7] at he
   cases he
   have z:=aT.mp nx
   have z2:=aT.mp ny
   subst z z2
   obtain ⟨t,rfl⟩:=rx
   obtain ⟨t',rfl⟩:=ry
   exact ⟨SeqAt.RcAt.int_int i t j t',SeqAt.RcNeAt.int_int i t j t'⟩
  | _=>cases he
 | bl i=>
  cases e with
  | bl j=>
   rw [j7] at he
   cases he
   have z:=c6.mp nx
   have z2:=c6.mp ny
   subst z z2
   cases rx
   cases ry
   exact ⟨SeqAt.RcAt.bool_bool i j,SeqAt.RcNeAt.bool_bool i j⟩
  | _=>cases he
 | str i=>
  cases e with
  | str j=>
   rw [j7] at he
   cases he
   have z:=fZ.mp nx
   have z2:=fZ.mp ny
   subst z z2
   obtain ⟨t,rfl⟩:=rx
   obtain ⟨t',rfl⟩:=ry
   exact ⟨SeqAt.RcAt.str_str i t j t',SeqAt.RcNeAt.str_str i t j t'⟩
  | _=>cases he
 | non=>
  cases e with
  | non=>
   rw [j7] at he
   cases he
   have z:=eD.mp nx
   have z2:=eD.mp ny
   subst z z2
   cases rx
   cases ry
   exact ⟨SeqAt.RcAt.none_none,SeqAt.RcNeAt.none_none⟩
  | _=>cases he
 | tup ds=>
  cases e with
  | tup es=>
   obtain ⟨a,xs,rfl,hx,hd⟩:=bM.mp nx
   obtain ⟨b,ys,rfl,hy,hee⟩:=bM.mp ny
   cases rx
   cases ry
   rw [j7] at he
   cases e1:mD ds es with
   | none=>rw [e1] at he;cases he
   | some r0=>
    rw [e1] at he
    obtain ⟨f,hf,hr⟩:=u9 e1
    obtain ⟨its,r1,t1,_⟩:=I.tuple (ch.seqT hx)
    obtain ⟨its2,r2,t2,_⟩:=I.tuple (ch.seqT hy)
    have l1:its.toArray.size=ds.length:=by rw [List.size_toArray,← r1.length,hd.length]
    have l2:its2.toArray.size=es.length:=by rw [List.size_toArray,← r2.length,hee.length]
    rw [l5] at hn
    have hin:∀ j (h1:j<its.toArray.size) (h2:j<its2.toArray.size),SeqAt.EqAt A.in1 s its.toArray[j] its2.toArray[j] (f j):=fun j h1 h2=>by
     obtain ⟨x',ex,rx'⟩:=nS r1 h1
     obtain ⟨y',ey,ry'⟩:=nS r2 h2
     have hj1:j<ds.length:=by omega
     have hj2:j<es.length:=by omega
     have ed:ds[j]? = some ds[j]:=by simp [hj1]
     have ee:es[j]? = some es[j]:=by simp [hj2]
     obtain ⟨x2,ex2,nx2⟩:=hd.get ed
     obtain ⟨y2,ey2,ny2⟩:=hee.get ee
     rw [ex] at ex2
     cases ex2
     rw [ey] at ey2
     cases ey2
     have:=rH ed
     exact aEh I ch (n-1) ds[j] es[j] (f j) A.in1 x' y' _ _ (by omega) (by show A.units+1+(n-1)<cLine;omega) (hf j _ _ ed ee) rx' ry' nx2 ny2
    have q:=SeqAt.RcAt.tuples (A:=A) (e:=f) t1 t2 (by omega) hin
    have q':=SeqAt.RcNeAt.tuples (A:=A) (e:=f) t1 t2 (by omega) hin
    rw [l1,l2] at q q'
    have er:r=((List.range (min ds.length es.length)).all f && ds.length == es.length):=by
     rw [← hr]
     exact (Option.some.inj he).symm
    rw [er]
    exact ⟨q,q'⟩
  | _=>cases he
 | lst ds=>
  cases e with
  | lst es=>
   obtain ⟨a,xs,rfl,hx,hd⟩:=bV.mp nx
   obtain ⟨b,ys,rfl,hy,hee⟩:=bV.mp ny
   cases rx
   cases ry
   rw [j7] at he
   obtain ⟨its,r1,p1,_⟩:=I.list (ch.seq hx)
   obtain ⟨its2,r2,p2,_⟩:=I.list (ch.seq hy)
   have l1:its.toArray.size=ds.length:=by rw [List.size_toArray,← r1.length,hd.length]
   have l2:its2.toArray.size=es.length:=by rw [List.size_toArray,← r2.length,hee.length]
   rw [l5] at hn
   by_cases hlen:ds.length=es.length
   ·rw [if_pos hlen] at he
    obtain ⟨f,hf,hr⟩:=u9 he
    have hin:∀ j (h1:j<its.toArray.size) (h2:j<its2.toArray.size),SeqAt.EqAt A.in1 s its.toArray[j] its2.toArray[j] (f j):=fun j h1 h2=>by
     obtain ⟨x',ex,rx'⟩:=nS r1 h1
     obtain ⟨y',ey,ry'⟩:=nS r2 h2
     have hj1:j<ds.length:=by omega
     have hj2:j<es.length:=by omega
     have ed:ds[j]? = some ds[j]:=by simp [hj1]
     have ee:es[j]? = some es[j]:=by simp [hj2]
     obtain ⟨x2,ex2,nx2⟩:=hd.get ed
     obtain ⟨y2,ey2,ny2⟩:=hee.get ee
     rw [ex] at ex2
     cases ex2
     rw [ey] at ey2
     cases ey2
     have:=rH ed
     exact aEh I ch (n-1) ds[j] es[j] (f j) A.in1 x' y' _ _ (by omega) (by show A.units+1+(n-1)<cLine;omega) (hf j _ _ ed ee) rx' ry' nx2 ny2
    have q:=SeqAt.RcAt.lists (A:=A) (e:=f) p1.isList p2.isList (by rw [l1,l2];exact hlen) (by omega) hin
    have q':=SeqAt.RcNeAt.lists (A:=A) (e:=f) p1.isList p2.isList (by rw [l1,l2];exact hlen) (by omega) hin
    rw [l1] at q q'
    rw [hr,← hlen,Nat.min_self]
    exact ⟨q,q'⟩
   ·rw [if_neg hlen] at he
    cases he
    exact ⟨SeqAt.RcAt.lists_lengths p1.isList p2.isList (by rw [l1,l2];simpa using hlen) (by omega),SeqAt.RcNeAt.lists_lengths p1.isList p2.isList (by rw [l1,l2];simpa using hlen) (by omega)⟩
  | _=>cases he
end
section
variable {X:Cx}
def wN:GO:=fun x y Q=>l5 x≤32∧match j7 x y with
 | some b=>Q (.bl b)
 | none=>False
def tO:GO:=fun x y Q=>l5 x≤32∧match j7 x y with
 | some b=>Q (.bl (!b))
 | none=>False
def aLY (K:PySem.W.Frag) (neg:Bool):R2:=fun x y H R=>∃ C d e b,bY C H∧i5 K C x d∧i5 K C y e∧j7 d e=some b∧l5 d≤32∧R (.bl (if neg then !b else b)) H
theorem zA (hu:X.A.units+64<cLine):DOp X (compareOp .Eq) wN:=by
 refine ⟨aLY X.K false,fun pins s σ H x y v u Q I rx ry h=>?_,fun x y dx dy C H Q R ch n1 n2 q k=>?_⟩
 ·obtain ⟨C,d,e,b,ch,nx,ny,he,hd,q⟩:=h
  exact (aHp I ch 32 d e b X.A x y v u hd (by omega) he rx ry nx ny).1 _ _ _ _ ⟨.bl b,H,I,rfl,q⟩
 ·obtain ⟨hd,q⟩:=q
  cases z:j7 dx dy with
  | none=>rw [z] at q;exact q.elim
  | some b=>rw [z] at q;exact ⟨C,dx,dy,b,ch,n1,n2,z,hd,k _ _ C H q (eM.refl ch) (c6.mpr rfl)⟩
theorem uL (hu:X.A.units+64<cLine):DOp X (compareOp .NotEq) tO:=by
 refine ⟨aLY X.K true,fun pins s σ H x y v u Q I rx ry h=>?_,fun x y dx dy C H Q R ch n1 n2 q k=>?_⟩
 ·obtain ⟨C,d,e,b,ch,nx,ny,he,hd,q⟩:=h
  exact (aHp I ch 32 d e b X.A x y v u hd (by omega) he rx ry nx ny).2 _ _ _ _ ⟨.bl (!b),H,I,rfl,q⟩
 ·obtain ⟨hd,q⟩:=q
  cases z:j7 dx dy with
  | none=>rw [z] at q;exact q.elim
  | some b=>rw [z] at q;exact ⟨C,dx,dy,b,ch,n1,n2,z,hd,k _ _ C H q (eM.refl ch) (c6.mpr rfl)⟩
theorem aBl:∀ {us:List Value}{ns:List Int},IntsAre us ns→cE (ns.map V.int) us
 | _,_,.nil=>.nil
 | _,_,.cons _ t h=>.cons ⟨_,rfl⟩ (aBl h)
theorem aDu:nO X (.builtin "sorted") (fun xs H Q=>∃ (p:Addr) (ns:List Int),xs=[.ref p]∧jS X.K H p (ns.map V.int)∧ns.length<64∧∀ ms:List Int,ms.Perm ns→ms.Pairwise (· ≤ ·)→∀ l,H l=none→Q (.ref l) (upd H l (.lst (ms.map V.int)))):=by
 intro pins s σ H xs us Q I r h
 obtain ⟨p,ns,rfl,hq,h64,q⟩:=h
 obtain ⟨u,rfl,rx⟩:=tN r
 cases rx
 obtain ⟨its,r',pl,hz⟩:=I.list hq
 have hlen:=r'.length
 rw [List.length_map] at hlen
 refine sorted_ints pl.isList (aD1 r') (by omega) fun out ms a1 a2 a3=>?_
 obtain ⟨e,he⟩:=sortedAll_at s.heap its out
 have fr:H (s.heap.objs.size+1)=none:=I.hok.fresh (Nat.le_succ _)
 have hl2:(ms.map V.int).length≤sizeLine:=by
  rw [List.length_map,a2.length_eq]
  have:(64:Nat)≤sizeLine:=by decide
  omega
 refine ⟨.ref (s.heap.objs.size+1),_,I.laid (t':=s.toks) (o:=.lst (ms.map V.int)) (fun b ob z=>sortedAll_old z) (Nat.le_succ _) ⟨hl2,out.toList,e,aBl a1,?_⟩,rfl,q ms a2 a3 _ fr⟩
 rw [he]
def cX:List D→Option (List Int)
 | []=>some []
 | .int b::r=>(cX r).map (b :: ·)
 | _::_=>none
theorem fF:∀ {ds:List D}{bs:List Int},cX ds=some bs→ds=bs.map D.int
 | [],bs,h=>by cases h;rfl
 | .int b::r,bs,h=>by
  unfold cX at h
  cases e:cX r with
  | none=>rw [e] at h;cases h
  | some cs=>rw [e] at h;cases h;rw [List.map_cons,← fF e]
 | .bl _::_,_,h=>by cases h
 | .non::_,_,h=>by cases h
 | .str _::_,_,h=>by cases h
 | .tup _::_,_,h=>by cases h
 | .lst _::_,_,h=>by cases h
theorem cP (bs:List Int):cX (bs.map D.int)=some bs:=by
 induction bs with
 | nil=>rfl
 | cons b bs ih=>rw [List.map_cons,cX,ih];rfl
theorem aBo {K:PySem.W.Frag}{C:Hp} (ns:List Int):bO K C (ns.map V.int) (ns.map D.int):=by
 induction ns with
 | nil=>exact .nil
 | cons n ns ih=>exact .cons (aT.mpr rfl) ih
def xK:List D→(List D→Prop)→Prop:=fun ds Q=>match ds with
 | [.lst xs]=>match cX xs with
  | some ns=>ns.length<64∧∀ ms:List Int,ms.Perm ns→ms.Pairwise (· ≤ ·)→Q (ms.map D.int)
  | none=>False
 | _=>False
theorem aF9:aHs X (.builtin "sorted") xK:=by
 refine ⟨_,aDu,fun xs ds C H Q R ch n q k=>?_⟩
 unfold xK at q
 split at q
 ·split at q
  ·rename_i ns e
   obtain ⟨v,rfl,n1⟩:=lC n
   obtain ⟨p,ys,rfl,hy,hd⟩:=bV.mp n1
   rw [fF e] at hd
   rw [hd.ints] at hy
   exact ⟨p,ns,rfl,ch.seq hy,q.1,fun ms a b l hl=>k _ l _ C _ (q.2 ms a b) (eM.newO ch hl) (ch.free hl) hl bH (aBo ms)⟩
  ·exact q.elim
 ·exact q.elim
end
def At (h:Heap) (it src:Addr) (k:Nat) (xs:Array Value):Prop:=(h.IsListIter it src k∧h.IsList src xs)∨(h.IsTupleIter it src k∧h.IsTuple src xs)
theorem At.kept {h h':Heap}{it src:Addr}{k:Nat}{xs:Array Value} (a:At h it src k xs) (h1:∀ o,h.get? it=some o→h'.get? it=some o) (h2:∀ o,h.get? src=some o→h'.get? src=some o):At h' it src k xs:=by
 rcases a with ⟨⟨o,a,b⟩,⟨o',c,d⟩⟩ | ⟨⟨o,a,b⟩,⟨o',c,d⟩⟩
 ·exact .inl ⟨⟨o,h1 o a,b⟩,⟨o',h2 o' c,d⟩⟩
 ·exact .inr ⟨⟨o,h1 o a,b⟩,⟨o',h2 o' c,d⟩⟩
theorem At.but {h h':Heap}{it src b:Addr}{k:Nat}{xs:Array Value} (a:At h it src k xs) (hs:Heap.ExtBut b h h') (n1:it≠b) (n2:src≠b):At h' it src k xs:=
 a.kept (fun o e=>hs it o n1 e) fun o e=>hs src o n2 e
section
variable {prog:Program}{w:World}{A:Around}{E:Value→Shared→Prop}{s:Shared}
theorem o4 {it src:Addr}{k:Nat}{xs:Array Value}{x:Value}{Q:Value→Shared→Prop} (a:At s.heap it src k xs) (ns:src≠it) (hx:xs[k]? = some x) (hQ:∀ h',At h' it src (k+1) xs→Heap.SameBut it s.heap h'→Q x { s with heap:=h' }) :
  wpAny (model prog w) A (Builtin.SmallTypes.nextOf (.ref it)) Q E s:=by
 rcases a with ⟨a,l⟩ | ⟨a,l⟩
 ·exact wpAny_nextOf_list_item a l hx fun h' a' sb=>hQ h' (.inl ⟨a',l.extBut sb.extBut ns⟩) sb
 ·obtain ⟨o,ho,hc,hd⟩:=id a
  obtain ⟨ol,hol,_,nl,hdl⟩:=id l
  unfold Builtin.SmallTypes.nextOf
  have sl:=F.slot_tuple_iterator_next
  refine wpAny_bind (wpAny_callSpecial?_slot (name:=Str.ofString "__next__") a.typeIs sl (wpAny_call_entry sl a.typeIs F.entry_tuple_iterator_next ?_ (F.args_tuple_iterator_next_1 _)))
  refine wpAny_bind (m:=field (.ref it) 0) (wpAny_field ho hd (x:=.ref src) rfl ?_)
  refine wpAny_ite_false (show (Value.ref src == Value.none)=false from rfl) ?_
  refine wpAny_bind (m:=field (.ref it) 1) (wpAny_field ho hd (x:=.int k 0) rfl ?_)
  refine wpAny_bind (m:=seqItems? (.ref src)) (wpAny_seqItems hol hdl ?_)
  simp only [Int.toNat_natCast,hx]
  refine wpAny_bind (wpAny_setField ho hd (by simp) (wpAny_pure ⟨x,rfl,wpAny_pure (hQ _ ?_ (Heap.SameBut.update ..))⟩))
  refine .inr ⟨⟨_,Heap.get?_update_self _ ho (Obj.isFreed_of_fields (Obj.data_mapFields hd _)),(Obj.cls_mapFields ..).trans hc,?_⟩,l.extBut (Heap.SameBut.update ..).extBut ns⟩
  rw [Obj.data_mapFields hd]
  simp [rawInt]
theorem qV {it src:Addr}{k:Nat}{xs:Array Value}{Q:Value→Shared→Prop} (hh:A.handled=none) (a:At s.heap it src k xs) (hx:xs[k]? = none)
  (hE:∀ h' e,Heap.ExtBut it s.heap h'→(∃ o,h'.get? e=some o∧o.cls = .type "StopIteration")→E (.ref e) { s with heap:=h' }):wpAny (model prog w) A (Builtin.SmallTypes.nextOf (.ref it)) Q E s:=by
 rcases a with ⟨a,l⟩ | ⟨a,l⟩
 ·exact wpAny_nextOf_list_end hh a l hx hE
 ·obtain ⟨o,ho,hc,hd⟩:=id a
  obtain ⟨ol,hol,_,nl,hdl⟩:=id l
  unfold Builtin.SmallTypes.nextOf
  have sl:=F.slot_tuple_iterator_next
  refine wpAny_bind (wpAny_callSpecial?_slot (name:=Str.ofString "__next__") a.typeIs sl (wpAny_call_entry sl a.typeIs F.entry_tuple_iterator_next ?_ (F.args_tuple_iterator_next_1 _)))
  refine wpAny_bind (m:=field (.ref it) 0) (wpAny_field ho hd (x:=.ref src) rfl ?_)
  refine wpAny_ite_false (show (Value.ref src == Value.none)=false from rfl) ?_
  refine wpAny_bind (m:=field (.ref it) 1) (wpAny_field ho hd (x:=.int k 0) rfl ?_)
  refine wpAny_bind (m:=seqItems? (.ref src)) (wpAny_seqItems hol hdl ?_)
  simp only [Int.toNat_natCast,hx]
  refine wpAny_bind (wpAny_rule (wpAny_bind (wpAny_setField ho hd (by simp) ?_)))
  refine wpAny_bind (m:=newExc (.type "StopIteration") []) ?_
  simp only [newExc,newTuple]
  refine wpAny_bind (wpAny_newObj_type ?_ (by size_fits))
  refine wpAny_bind (m:=firstArgMember _ _) (wpAny_of_eq (a:=Value.none) (by first | rfl | (simp only [firstArgMember];rfl)) ?_)
  refine wpAny_newObj_type ?_ (by size_fits)
  simp only [raiseNew]
  refine wpAny_bind (wpAny_handled ?_)
  have hh':A.in1.handled=none:=hh
  rw [hh']
  refine wpAny_bind (wpAny_pure (wpAny_throw ?_))
  exact hE _ _ (((Heap.SameBut.update ..).extBut.push _).push _) ⟨_,Heap.get?_push_size _ rfl,rfl⟩
theorem aBd {z TI TO i1 i2 l1 l2:Addr}{k1 k2:Nat}{xs ys:Array Value}{x y a b:Value}{Q:Value→Shared→Prop} (D:ZipApart z TI TO i1 i2 l1 l2)
  (hz:IsZip s.heap z TI TO .none) (hTI:IsPair s.heap TI (.ref i1) (.ref i2)) (hTO:IsPair s.heap TO a b) (h1:At s.heap i1 l1 k1 xs) (h2:At s.heap i2 l2 k2 ys) (hx:xs[k1]? = some x) (hy:ys[k2]? = some y)
  (hQ:∀ h',IsZip h' z TI TO (rawInt s.heap.objs.size)→IsPair h' TO x y→At h' i1 l1 (k1+1) xs→At h' i2 l2 (k2+1) ys→IsPair h' s.heap.objs.size x y→h'.objs.size=s.heap.objs.size+1 →
   (∀ c o,c≠z→c≠TO→c≠i1→c≠i2→s.heap.get? c=some o→h'.get? c=some o)→Q (.ref s.heap.objs.size) { s with heap:=h' }) :
  wpAny (model prog w) A (Builtin.«zip.__next__» ⟨[.ref z],[]⟩) (fun fin s'=>∃ v,fin = .done (.ret v)∧Q v s') E s:=by
 refine wpAny_bind (m:=field (.ref z) 2) (wpAny_field hz rfl (x:=.bool false) rfl ?_)
 refine wpAny_bind (m:=field (.ref z) 3) (wpAny_field hz rfl (x:=.ref TI) rfl ?_)
 refine wpAny_bind (wpAny_seqItems hTI rfl ?_)
 refine wpAny_bind (m:=Builtin.SmallTypes.ownedTupleIsFree (.ref z)) ?_
 unfold Builtin.SmallTypes.ownedTupleIsFree
 refine wpAny_bind (wpAny_field hz rfl (x:=.none) rfl (wpAny_pure ?_))
 simp only [if_true]
 refine wpAny_bind (wpAny_rule ?_)
 refine wpAny_bind (wpAny_field hz rfl (x:=.ref TO) rfl ?_)
 refine wpAny_bind (wpAny_setField_rec hz (by simp) fun g1 hz1 sb1=>?_)
 replace hz1:IsZip g1 z TI TO .ellipsis:=hz1
 refine wpAny_bind ?_
 simp only [List.zipIdx_cons,List.zipIdx_nil,List.forIn_cons,List.forIn_nil]
 refine wpAny_bind (wpAny_bind (wpAny_onRaise ?_))
 refine wpAny_bind (m:=Builtin.SmallTypes.nextOf (.ref i1)) (o4 (h1.but sb1.extBut D.i1z D.l1z) D.l1i1 hx fun g2 a2 sb2=>wpAny_pure ?_)
 have to2:IsPair g2 TO a b:=sb2.extBut _ _ D.TOi1 (sb1.extBut _ _ D.TOz hTO)
 refine wpAny_bind (wpAny_seqItems to2 rfl ?_)
 refine wpAny_bind (wpAny_updateSeq_pair to2 fun g3 to3 sb3=>?_)
 replace to3:IsPair g3 TO x b:=to3
 refine wpAny_bind (wpAny_letGo (wpAny_pure ?_))
 refine wpAny_bind (wpAny_bind (wpAny_onRaise ?_))
 have a2':At g3 i2 l2 k2 ys:=((h2.but sb1.extBut D.i2z D.l2z).but sb2.extBut D.i12.symm D.l2i1).but sb3.extBut D.TOi2.symm D.l2TO
 refine wpAny_bind (m:=Builtin.SmallTypes.nextOf (.ref i2)) (o4 a2' D.l2i2 hy fun g4 a4 sb4=>wpAny_pure ?_)
 have to4:IsPair g4 TO x b:=sb4.extBut _ _ D.TOi2 to3
 refine wpAny_bind (wpAny_seqItems to4 rfl ?_)
 refine wpAny_bind (wpAny_updateSeq_pair to4 fun g5 to5 sb5=>?_)
 replace to5:IsPair g5 TO x y:=to5
 refine wpAny_bind (wpAny_letGo (wpAny_pure (wpAny_pure ?_)))
 refine wpAny_bind (wpAny_seqItems to5 rfl ?_)
 refine wpAny_bind (wpAny_newTuple ?_)
 have esz:g5.objs.size=s.heap.objs.size:=by rw [sb5.1,sb4.1,sb3.1,sb2.1,sb1.1]
 have z5:IsZip g5 z TI TO .ellipsis:=sb5.extBut _ _ D.TOz.symm (sb4.extBut _ _ D.i2z.symm (sb3.extBut _ _ D.TOz.symm (sb2.extBut _ _ D.i1z.symm hz1)))
 have k5:∀ c o,c≠z→c≠TO→c≠i1→c≠i2→s.heap.get? c=some o→g5.get? c=some o:=fun c o c1 c2 c3 c4 e=>
  sb5.extBut _ _ c2 (sb4.extBut _ _ c4 (sb3.extBut _ _ c2 (sb2.extBut _ _ c3 (sb1.extBut _ _ c1 e))))
 have a15:At g5 i1 l1 (k1+1) xs:=((a2.but sb3.extBut D.TOi1.symm D.l1TO).but sb4.extBut D.i12 D.l1i2).but sb5.extBut D.TOi1.symm D.l1TO
 have a25:At g5 i2 l2 (k2+1) ys:=a4.but sb5.extBut D.TOi2.symm D.l2TO
 have zlt:z<g5.objs.size:=Heap.lt_size z5
 refine wpAny_bind (m:=Builtin.SmallTypes.ownedTupleHandOut (.ref z) (.ref g5.objs.size)) ?_
 unfold Builtin.SmallTypes.ownedTupleHandOut
 have z6:IsZip (g5.push { cls:=.type "tuple",data:=.seq #[x,y] }) z TI TO .ellipsis:=Heap.get?_push_of_some _ z5
 refine wpAny_bind (wpAny_setField_rec z6 (by simp) fun g7 z7 sb7=>?_)
 replace z7:IsZip g7 z TI TO (rawInt g5.objs.size):=z7
 refine wpAny_setField_rec z7 (by simp) fun g8 z8 sb8=>?_
 replace z8:IsZip g8 z TI TO (rawInt g5.objs.size):=z8
 have up:∀ c o,c≠z→g5.get? c=some o→g8.get? c=some o:=fun c o c1 e=>sb8.extBut _ _ c1 (sb7.extBut _ _ c1 (Heap.get?_push_of_some _ e))
 have t8:IsPair g8 g5.objs.size x y:=sb8.extBut _ _ (Nat.ne_of_gt zlt) (sb7.extBut _ _ (Nat.ne_of_gt zlt) (Heap.get?_push_size _ rfl))
 have sz8:g8.objs.size=g5.objs.size+1:=by rw [sb8.1,sb7.1,Heap.size_push]
 rw [esz] at z8 t8 sz8
 refine wpAny_pure ⟨_,rfl,?_⟩
 show Q (.ref g5.objs.size) _
 rw [esz]
 exact hQ g8 z8 (up _ _ D.TOz to5) (a15.kept (fun o e=>up _ o D.i1z e) fun o e=>up _ o D.l1z e) (a25.kept (fun o e=>up _ o D.i2z e) fun o e=>up _ o D.l2z e) t8 sz8 fun c o c1 c2 c3 c4 e=>up c o c1 (k5 c o c1 c2 c3 c4 e)
theorem aHu {z TI TO i1 i2 l1 l2:Addr}{k1 k2:Nat}{xs ys:Array Value}{a b:Value}{Q:PySem.Fin→Shared→Prop} (hh:A.handled=none) (D:ZipApart z TI TO i1 i2 l1 l2)
  (hz:IsZip s.heap z TI TO .none) (hTI:IsPair s.heap TI (.ref i1) (.ref i2)) (hTO:IsPair s.heap TO a b) (h1:At s.heap i1 l1 k1 xs) (h2:At s.heap i2 l2 k2 ys) (hend:xs[k1]? = none∨ys[k2]? = none)
  (hE:∀ h' e,(∀ c o,c≠z→c≠TO→c≠i1→c≠i2→s.heap.get? c=some o→h'.get? c=some o)→(∃ o,h'.get? e=some o∧o.cls = .type "StopIteration")→E (.ref e) { s with heap:=h' }) :
  wpAny (model prog w) A (Builtin.«zip.__next__» ⟨[.ref z],[]⟩) Q E s:=by
 refine wpAny_bind (m:=field (.ref z) 2) (wpAny_field hz rfl (x:=.bool false) rfl ?_)
 refine wpAny_bind (m:=field (.ref z) 3) (wpAny_field hz rfl (x:=.ref TI) rfl ?_)
 refine wpAny_bind (wpAny_seqItems hTI rfl ?_)
 refine wpAny_bind (m:=Builtin.SmallTypes.ownedTupleIsFree (.ref z)) ?_
 unfold Builtin.SmallTypes.ownedTupleIsFree
 refine wpAny_bind (wpAny_field hz rfl (x:=.none) rfl (wpAny_pure ?_))
 simp only [if_true]
 refine wpAny_bind (wpAny_rule ?_)
 refine wpAny_bind (wpAny_field hz rfl (x:=.ref TO) rfl ?_)
 refine wpAny_bind (wpAny_setField_rec hz (by simp) fun g1 hz1 sb1=>?_)
 replace hz1:IsZip g1 z TI TO .ellipsis:=hz1
 refine wpAny_bind ?_
 simp only [List.zipIdx_cons,List.zipIdx_nil,List.forIn_cons,List.forIn_nil]
 refine wpAny_bind (wpAny_bind (wpAny_onRaise ?_))
 have a1:=h1.but sb1.extBut D.i1z D.l1z
 cases hx:xs[k1]? with
 | none=>
  refine wpAny_bind (m:=Builtin.SmallTypes.nextOf (.ref i1)) (qV hh a1 hx fun g2 e sb2 he=>?_)
  obtain ⟨oe,hoe,hce⟩:=he
  have z2:IsZip g2 z TI TO .ellipsis:=sb2 _ _ D.i1z.symm hz1
  have hez:e≠z:=fun q=>by
   subst q
   rw [z2] at hoe
   cases hoe
   simp at hce
  exact wpAny_setField_rec z2 (by simp) fun g3 _ sb3=>hE g3 e (fun c o c1 _ c3 _ q=>sb3.extBut _ _ c1 (sb2 _ _ c3 (sb1.extBut _ _ c1 q))) ⟨oe,sb3.extBut _ _ hez hoe,hce⟩
 | some x=>
  have hy:ys[k2]? = none:=by
   rcases hend with h | h
   ·rw [hx] at h;cases h
   ·exact h
  refine wpAny_bind (m:=Builtin.SmallTypes.nextOf (.ref i1)) (o4 a1 D.l1i1 hx fun g2 a2 sb2=>wpAny_pure ?_)
  have to2:IsPair g2 TO a b:=sb2.extBut _ _ D.TOi1 (sb1.extBut _ _ D.TOz hTO)
  refine wpAny_bind (wpAny_seqItems to2 rfl ?_)
  refine wpAny_bind (wpAny_updateSeq_pair to2 fun g3 to3 sb3=>?_)
  refine wpAny_bind (wpAny_letGo (wpAny_pure ?_))
  refine wpAny_bind (wpAny_bind (wpAny_onRaise ?_))
  have a2':At g3 i2 l2 k2 ys:=((h2.but sb1.extBut D.i2z D.l2z).but sb2.extBut D.i12.symm D.l2i1).but sb3.extBut D.TOi2.symm D.l2TO
  refine wpAny_bind (m:=Builtin.SmallTypes.nextOf (.ref i2)) (qV hh a2' hy fun g4 e sb4 he=>?_)
  obtain ⟨oe,hoe,hce⟩:=he
  have z4:IsZip g4 z TI TO .ellipsis:=sb4 _ _ D.i2z.symm (sb3.extBut _ _ D.TOz.symm (sb2.extBut _ _ D.i1z.symm hz1))
  have hez:e≠z:=fun q=>by
   subst q
   rw [z4] at hoe
   cases hoe
   simp at hce
  exact wpAny_setField_rec z4 (by simp) fun g5 _ sb5=>hE g5 e (fun c o c1 c2 c3 c4 q=>sb5.extBut _ _ c1 (sb4 _ _ c4 (sb3.extBut _ _ c2 (sb2.extBut _ _ c3 (sb1.extBut _ _ c1 q))))) ⟨oe,sb5.extBut _ _ hez hoe,hce⟩
end
def Itz (K:PySem.W.Frag) (k1 k2:Bool) (a b:Addr):It:=
 ⟨fun i H=>∃ xs ys x y,(if k1 then jS K H a xs else fY K H a xs)∧(if k2 then jS K H b ys else fY K H b ys)∧xs[i]? = some x∧ys[i]? = some y,
 fun i H x H'=>∃ p,H p=none∧x = .ref p∧∀ xs ys,(if k1 then jS K H a xs else fY K H a xs)→(if k2 then jS K H b ys else fY K H b ys)→∃ u v,xs[i]? = some u∧ys[i]? = some v∧H'=upd H p (.tup [u,v]),
 fun i H=>∃ xs ys,(if k1 then jS K H a xs else fY K H a xs)∧(if k2 then jS K H b ys else fY K H b ys)∧(xs.length≤i∨ys.length≤i)⟩
def vD (kind:Bool) (h:Heap) (it src:Addr) (k:Nat):Prop:=if kind then h.IsListIter it src k else h.IsTupleIter it src k
def sqk (kind:Bool) (h:Heap) (src:Addr) (xs:Array Value):Prop:=if kind then h.IsList src xs else h.IsTuple src xs
theorem vD.kept {kind:Bool}{h h':Heap}{it src:Addr}{k:Nat} (a:vD kind h it src k) (e:∀ o,h.get? it=some o→h'.get? it=some o):vD kind h' it src k:=by
 cases kind with
 | true=>obtain ⟨o,h1,h2⟩:=a;exact ⟨o,e o h1,h2⟩
 | false=>obtain ⟨o,h1,h2⟩:=a;exact ⟨o,e o h1,h2⟩
theorem vD.at {kind:Bool}{h:Heap}{it src:Addr}{k:Nat}{xs:Array Value} (a:vD kind h it src k) (s:sqk kind h src xs):At h it src k xs:=by
 cases kind with
 | true=>exact .inl ⟨a,s⟩
 | false=>exact .inr ⟨a,s⟩
theorem vD.of {kind:Bool}{h:Heap}{it src:Addr}{k:Nat}{xs:Array Value} (a:At h it src k xs) (s:sqk kind h src xs):vD kind h it src k:=by
 rcases a with ⟨a,b⟩ | ⟨a,b⟩
 ·cases kind with
  | true=>exact a
  | false=>
   obtain ⟨o,h1,h2,_⟩:=b
   obtain ⟨o',h3,h4,_⟩:=(show h.IsTuple src xs from s)
   rw [h1] at h3
   cases h3
   rw [h2] at h4
   exact absurd h4 (by decide)
 ·cases kind with
  | false=>exact a
  | true=>
   obtain ⟨o,h1,h2,_⟩:=b
   obtain ⟨o',h3,h4,_⟩:=(show h.IsList src xs from s)
   rw [h1] at h3
   cases h3
   rw [h2] at h4
   exact absurd h4 (by decide)
theorem vD.obj {kind:Bool}{h:Heap}{it src:Addr}{k:Nat} (a:vD kind h it src k):∃ o,h.get? it=some o∧∀ v,o.data≠.cell v:=by
 cases kind with
 | true=>
  obtain ⟨o,h1,_,h2⟩:=a
  exact ⟨o,h1,fun v z=>by rw [h2] at z;cases z⟩
 | false=>
  obtain ⟨o,h1,_,h2⟩:=a
  exact ⟨o,h1,fun v z=>by rw [h2] at z;cases z⟩
theorem bG.sqk {X:Cx}{pins:List (Addr×Obj)}{σ:St}{H:Hp}{s:Shared}{a:Addr}{xs:List V}{kind:Bool} (I:bG X pins σ H s) (h:if kind then jS X.K H a xs else fY X.K H a xs):∃ its:List Value,cE xs its∧L2.sqk kind s.heap a its.toArray:=by
 cases kind with
 | true=>
  obtain ⟨its,r,pl,_⟩:=I.list h
  exact ⟨its,r,pl.isList⟩
 | false=>
  obtain ⟨its,r,pl,_⟩:=I.tuple h
  exact ⟨its,r,pl⟩
theorem bG.sq_inj {X:Cx}{pins:List (Addr×Obj)}{σ:St}{H:Hp}{s:Shared}{a:Addr}{xs ys:List V}{kind:Bool} (I:bG X pins σ H s) (h:if kind then jS X.K H a xs else fY X.K H a xs) (h':if kind then jS X.K H a ys else fY X.K H a ys):xs=ys:=by
 cases kind with
 | true=>exact I.list_inj h h'
 | false=>exact I.tuple_inj h h'
theorem bG.turnedT {X:Cx}{pins:List (Addr×Obj)}{σ:St}{H:Hp}{s:Shared}{h':Heap}{ch:List Addr}{p:Addr}{xs:List V}{us:List Value}{t':Nat} (I:bG X pins σ H s) (hf:∀ b∈ch,pW X pins H b) (hp:s.heap.objs.size≤p)
  (k:∀ b o,b∉ch→s.heap.get? b=some o→h'.get? b=some o) (there:∀ b∈ch,∃ o,h'.get? b=some o) (r:cE xs us) (hx:xs.length≤sizeLine) (ht:IsTup h' p us.toArray):bG X pins σ (upd H p (.tup xs)) { s with heap:=h',toks:=t' }:=by
 have nit:∀ b u,H b=some u→b∉ch:=fun b u e z=>by rw [(hf b z).1] at e;cases e
 have fr:H p=none:=I.hok.fresh hp
 have np:∀ b o,s.heap.get? b=some o→b≠p:=fun b o e z=>absurd (Nat.lt_of_lt_of_le (Heap.lt_size e) (by rw [z];exact hp)) (Nat.lt_irrefl _)
 refine I.step (g':=s.gens) (d':=s.drawn) (ch:=ch) (fun b hb=>?_) (fun b o _ _ hc e _=>k b o hc e) (fun b o _ _ hc e _=>⟨o.slots,k b o hc e⟩) (fun b o _ e n=>by rw [aS (np b o e)];exact n)
  (fun b o hc e=>⟨o,k b o hc e⟩) (fun b ys e=>by rw [aS (b8 e fr)];exact e) (fun b o u e=>by rw [aS (b8 e fr)];exact e) (fun b ps e=>⟨#[],by rw [aS (b8 e fr),e];simp⟩) (fun m hm=>?_) (fun b u e=>?_) I.bare
 ·have q:=hf b hb
  exact ⟨q.2.2.2.1,q.2.1,q.2.2.2.2.1,q.2.2.2.2.2⟩
 ·obtain ⟨o,es,ep,ho,r⟩:=hm
  exact ⟨o,es,ep,k _ o (fun z=>(hf _ z).2.1 rfl) ho,r⟩
 ·by_cases hb:b=p
  ·subst hb
   rw [bH] at e
   cases e
   exact ⟨hx,us,r,ht⟩
  ·rw [aS hb] at e
   refine (I.hok b u e).stay (fun c v hc q=>k c v ?_ q) (fun c q=>?_) (fun c ys q=>?_) fun c ob u q=>?_
   ·rcases hc with z | z
    ·rw [z];exact nit b u e
    ·exact nit c _ z
   ·rw [aS (b8 q fr)];exact q
   ·rw [aS (b8 q fr)];exact q
   ·rw [aS (b8 q fr)];exact q
theorem bG.turnedM {X:Cx}{pins:List (Addr×Obj)}{σ:St}{H:Hp}{s:Shared}{h':Heap}{ch:List Addr}{t':Nat} (I:bG X pins σ H s) (hf:∀ b∈ch,pW X pins H b) (k:∀ b o,b∉ch→s.heap.get? b=some o→h'.get? b=some o):bG X pins σ H { s with heap:=h',toks:=t' }:=by
 have nit:∀ b u,H b=some u→b∉ch:=fun b u e z=>by rw [(hf b z).1] at e;cases e
 refine I.step (g':=s.gens) (d':=s.drawn) (ch:=ch) (fun b hb=>?_) (fun b o _ _ hc e _=>k b o hc e) (fun b o _ _ hc e _=>⟨o.slots,k b o hc e⟩) (fun b o _ e n=>n)
  (fun b o hc e=>⟨o,k b o hc e⟩) (fun b ys e=>e) (fun b o u e=>e) (fun b ps e=>⟨#[],by rw [e];simp⟩) (fun m hm=>?_) (fun b u e=>?_) I.bare
 ·have q:=hf b hb
  exact ⟨q.2.2.2.1,q.2.1,q.2.2.2.2.1,q.2.2.2.2.2⟩
 ·obtain ⟨o,es,ep,ho,r⟩:=hm
  exact ⟨o,es,ep,k _ o (fun z=>(hf _ z).2.1 rfl) ho,r⟩
 ·refine (I.hok b u e).stay (fun c v hc q=>k c v ?_ q) (fun c q=>q) (fun c ys q=>q) fun c ob u q=>q
  rcases hc with z | z
  ·rw [z];exact nit b u e
  ·exact nit c _ z
def aCP (k1 k2:Bool) (z TI TO i1 i2 l1 l2:Addr) (i:Nat) (h:Heap):Prop:=IsZip h z TI TO .none∧IsPair h TI (.ref i1) (.ref i2)∧(∃ a b,IsPair h TO a b)∧vD k1 h i1 l1 i∧vD k2 h i2 l2 i
theorem aGT {P:Program}{w:World}{K:PySem.W.Frag}{elts:List Expr}{x1:Nat}{pos:Pos} (k1 k2:Bool) (z TI TO i1 i2 l1 l2:Addr) (A:ZipApart z TI TO i1 i2 l1 l2) :
  aCe P w K (.Tuple elts x1 pos) (Itz K k1 k2 l1 l2) [z,TI,TO,i1,i2] z (aCP k1 k2 z TI TO i1 i2 l1 l2) where
 mem:=by simp
 obj:=fun i h st b hb=>by
  obtain ⟨hz,hTI,⟨a,c,hTO⟩,h1,h2⟩:=st
  simp only [List.mem_cons,List.not_mem_nil,or_false] at hb
  rcases hb with rfl | rfl | rfl | rfl | rfl
  ·exact ⟨_,hz,fun v q=>by cases (show Data.fields _=Data.cell v from q)⟩
  ·exact ⟨_,hTI,fun v q=>by cases (show Data.seq _ _=Data.cell v from q)⟩
  ·exact ⟨_,hTO,fun v q=>by cases (show Data.seq _ _=Data.cell v from q)⟩
  ·exact h1.obj
  ·exact h2.obj
 keep:=fun i h h' st k=>by
  obtain ⟨hz,hTI,⟨a,c,hTO⟩,h1,h2⟩:=st
  exact ⟨k z (by simp) _ hz,k TI (by simp) _ hTI,⟨a,c,k TO (by simp) _ hTO⟩,h1.kept fun o e=>k i1 (by simp) o e,h2.kept fun o e=>k i2 (by simp) o e⟩
 item:=by
  intro X hP hw hK hc i pins s σ H E I hf st hg
  subst hP hw hK
  obtain ⟨xs,ys,x,y,hx,hy,ex,ey⟩:=hg
  obtain ⟨hz,hTI,⟨a,c,hTO⟩,h1,h2⟩:=st
  obtain ⟨its,r1,q1⟩:=I.sqk hx
  obtain ⟨its2,r2,q2⟩:=I.sqk hy
  obtain ⟨u,eu,ru⟩:=r1.get ex
  obtain ⟨v,ev,rv⟩:=r2.get ey
  have hT:s.TypeIs (.ref z) "zip":=⟨_,hz,rfl⟩
  unfold pyNext
  have nx:=F.slot_zip_next
  refine wpAny_bind (wpAny_attempt (wpAny_callSpecial?_slot (name:=Str.ofString "__next__") hT nx (wpAny_call_entry nx hT F.entry_zip_next
   (aBd A hz hTI hTO (h1.at q1) (h2.at q2) (x:=u) (y:=v) (by simpa using eu) (by simpa using ev) fun h' z' to' a1 a2 t' sz kp=>wpAny_pure ?_) (F.args_zip_next_1 _))))
  refine ⟨.ref s.heap.objs.size,rfl,wpAny_letOwnedTupleGo_zip z' fun h2' z2 sb=>?_⟩
  have ltT:∀ b o,s.heap.get? b=some o→b≠s.heap.objs.size:=fun b o e=>Nat.ne_of_lt (Heap.lt_size e)
  have kp2:∀ b o,b∉[z,TI,TO,i1,i2]→s.heap.get? b=some o→h2'.get? b=some o:=fun b o hb e=>by
   simp only [List.mem_cons,List.not_mem_nil,or_false,not_or] at hb
   exact sb.extBut b o hb.1 (kp b o hb.1 hb.2.2.1 hb.2.2.2.1 hb.2.2.2.2 e)
  have zT:s.heap.objs.size≠z:=fun q=>ltT z _ hz q.symm
  have tT:IsPair h2' s.heap.objs.size u v:=sb.extBut _ _ zT t'
  have upz:∀ b o,b≠z→h'.get? b=some o→h2'.get? b=some o:=fun b o hb e=>sb.extBut b o hb e
  have q1':sqk k1 h' l1 its.toArray:=by
   cases k1 with
   | true=>obtain ⟨o,e,r⟩:=q1;exact ⟨o,kp l1 o A.l1z A.l1TO A.l1i1 A.l1i2 e,r⟩
   | false=>obtain ⟨o,e,r⟩:=q1;exact ⟨o,kp l1 o A.l1z A.l1TO A.l1i1 A.l1i2 e,r⟩
  have q2':sqk k2 h' l2 its2.toArray:=by
   cases k2 with
   | true=>obtain ⟨o,e,r⟩:=q2;exact ⟨o,kp l2 o A.l2z A.l2TO A.l2i1 A.l2i2 e,r⟩
   | false=>obtain ⟨o,e,r⟩:=q2;exact ⟨o,kp l2 o A.l2z A.l2TO A.l2i1 A.l2i2 e,r⟩
  have st':aCP k1 k2 z TI TO i1 i2 l1 l2 (i+1) h2':=
   ⟨z2,upz _ _ A.TIz (kp _ _ A.TIz A.TITO A.TIi1 A.TIi2 hTI),⟨u,v,upz _ _ A.TOz to'⟩,(vD.of a1 q1').kept fun o e=>upz _ o A.i1z e,(vD.of a2 q2').kept fun o e=>upz _ o A.i2z e⟩
  have fT:H s.heap.objs.size=none:=I.fresh
  refine ⟨.ref s.heap.objs.size,upd H s.heap.objs.size (.tup [x,y]),I.turnedT (t':=s.toks) (us:=[u,v]) hf (Nat.le_refl _) kp2 (fun b hb=>?_) (.cons ru (.cons rv .nil)) (by show 2≤sizeLine;decide) ⟨_,tT,rfl,_,rfl⟩,rfl,⟨_,fT,rfl,fun xs' ys' hx' hy'=>?_⟩,st',fun b hb=>?_⟩
  ·obtain ⟨z3,ti3,⟨a3,b3,to3⟩,i13,i23⟩:=st'
   simp only [List.mem_cons,List.not_mem_nil,or_false] at hb
   rcases hb with rfl | rfl | rfl | rfl | rfl
   ·exact ⟨_,z3⟩
   ·exact ⟨_,ti3⟩
   ·exact ⟨_,to3⟩
   ·obtain ⟨o,e,_⟩:=i13.obj;exact ⟨o,e⟩
   ·obtain ⟨o,e,_⟩:=i23.obj;exact ⟨o,e⟩
  ·have e1:=I.sq_inj hx' hx
   have e2:=I.sq_inj hy' hy
   subst e1 e2
   exact ⟨x,y,ex,ey,rfl⟩
  ·obtain ⟨o,e,_⟩:∃ o,s.heap.get? b=some o∧True:=by
    simp only [List.mem_cons,List.not_mem_nil,or_false] at hb
    rcases hb with rfl | rfl | rfl | rfl | rfl
    ·exact ⟨_,hz,trivial⟩
    ·exact ⟨_,hTI,trivial⟩
    ·exact ⟨_,hTO,trivial⟩
    ·obtain ⟨o,e,_⟩:=h1.obj;exact ⟨o,e,trivial⟩
    ·obtain ⟨o,e,_⟩:=h2.obj;exact ⟨o,e,trivial⟩
   rw [aS (ltT b o e)]
   exact (hf b hb).1
 done:=by
  intro X hP hw hK hc i pins s σ H E I hf st hg
  subst hP hw hK
  obtain ⟨xs,ys,hx,hy,hend⟩:=hg
  obtain ⟨hz,hTI,⟨a,c,hTO⟩,h1,h2⟩:=st
  obtain ⟨its,r1,q1⟩:=I.sqk hx
  obtain ⟨its2,r2,q2⟩:=I.sqk hy
  have hT:s.TypeIs (.ref z) "zip":=⟨_,hz,rfl⟩
  have l1:=r1.length
  have l2:=r2.length
  unfold pyNext
  have nx:=F.slot_zip_next
  refine wpAny_bind (wpAny_attempt (wpAny_callSpecial?_slot (name:=Str.ofString "__next__") hT nx (wpAny_call_entry nx hT F.entry_zip_next
   (aHu (I.ok.hd hc) A hz hTI hTO (h1.at q1) (h2.at q2) ?_ fun h' e kp he=>?_) (F.args_zip_next_1 _))))
  ·rcases hend with z | z
   ·exact .inl (by simp;omega)
   ·exact .inr (by simp;omega)
  ·obtain ⟨o,ho,hcl⟩:=he
   refine wpAny_bind (wpAny_isInstance (T:="StopIteration") (b:=true) ⟨o,ho,hcl⟩ isSubtype_stop ?_)
   refine wpAny_pure ⟨rfl,I.turnedM (t':=s.toks) hf fun b o hb e=>?_⟩
   simp only [List.mem_cons,List.not_mem_nil,or_false,not_or] at hb
   exact kp b o hb.1 hb.2.2.1 hb.2.2.2.1 hb.2.2.2.2 e
 self:=fun _ _ _ _ _ st h=>wpAny_pyIter_zip st.1 h
def dF (kind:Bool) (l:Addr):Obj:={ cls:=.type (if kind then "list_iterator" else "tuple_iterator"),data:=.fields #[.ref l,.int 0 0] }
theorem oM {prog:Program}{w:World}{A:Around}{E:Value→Shared→Prop}{s:Shared}{kind:Bool}{l:Addr}{xs:Array Value}{Q:Value→Shared→Prop} (h:sqk kind s.heap l xs) (hQ:Q (.ref s.heap.objs.size) { s with heap:=s.heap.push (dF kind l) }):wpAny (model prog w) A (pyIter (.ref l)) Q E s:=by
 cases kind with
 | true=>exact wpAny_pyIter_list h hQ
 | false=>exact wpAny_pyIter_tuple h hQ
theorem sqk.push {kind:Bool}{h:Heap}{l:Addr}{xs:Array Value} (a:sqk kind h l xs) (o:Obj):sqk kind (h.push o) l xs:=by
 cases kind with
 | true=>exact Heap.IsList.push a o
 | false=>exact Heap.IsTuple.push a o
theorem vD.new {kind:Bool}{h:Heap}{l it:Addr} (e:h.get? it=some (dF kind l)):vD kind h it l 0:=by
 cases kind with
 | true=>exact ⟨_,e,rfl,rfl⟩
 | false=>exact ⟨_,e,rfl,rfl⟩
theorem aJ9 (k1 k2:Bool) (l1 l2:Addr) (xs ys:Array Value) :
  Meets (Builtin.«zip.__new__» ⟨[.type "zip",.ref l1,.ref l2],[]⟩) (fun _ R s=>sqk k1 s.heap l1 xs∧sqk k2 s.heap l2 ys ∧
   R (.ok (.ret (.ref ((((s.heap.push (dF k1 l1)).push (dF k2 l2)).push { cls:=.type "tuple",data:=.seq #[.ref s.heap.objs.size,.ref (s.heap.push (dF k1 l1)).objs.size] }).push { cls:=.type "tuple",data:=.seq #[.none,.none] }).objs.size)))
    { s with heap:=((((s.heap.push (dF k1 l1)).push (dF k2 l2)).push { cls:=.type "tuple",data:=.seq #[.ref s.heap.objs.size,.ref (s.heap.push (dF k1 l1)).objs.size] }).push { cls:=.type "tuple",data:=.seq #[.none,.none] }).push { cls:=.type "zip",data:=.fields #[.none,.bool false,.bool false,.ref ((s.heap.push (dF k1 l1)).push (dF k2 l2)).objs.size,.ref (((s.heap.push (dF k1 l1)).push (dF k2 l2)).push { cls:=.type "tuple",data:=.seq #[.ref s.heap.objs.size,.ref (s.heap.push (dF k1 l1)).objs.size] }).objs.size] } }):=
 .of_wp fun prog w A R s h=>by
  obtain ⟨hp,g,d,tk,os⟩:=s
  obtain ⟨hl1,hl2,h⟩:=h
  have hsub:=sub_zip
  have hL1:sqk k1 (Shared.heap ⟨hp,g,d,tk,os⟩) l1 xs:=hl1
  have hL2:sqk k2 (Shared.heap ⟨hp.push (dF k1 l1),g,d,tk,os⟩) l2 ys:=hl2.push _
  wp_walk using oM hL1,oM hL2
  exact ⟨_,rfl,h⟩
theorem aAW {prog:Program}{w:World}{A:Around}{E:Value→Shared→Prop}{s:Shared}{k1 k2:Bool}{l1 l2:Addr}{xs ys:Array Value}{Q:Value→Shared→Prop} (hl1:sqk k1 s.heap l1 xs) (hl2:sqk k2 s.heap l2 ys)
  (h:∀ h',aCP k1 k2 (s.heap.objs.size+4) (s.heap.objs.size+2) (s.heap.objs.size+3) s.heap.objs.size (s.heap.objs.size+1) l1 l2 0 h'→(∀ c o,s.heap.get? c=some o→h'.get? c=some o)→Q (.ref (s.heap.objs.size+4)) { s with heap:=h' }) :
  wpAny (model prog w) A (call (.type "zip") [.ref l1,.ref l2]) Q E s:=by
 refine callType_new F.called_zip (by decide) (F.typeCall_zip_2 _ _) (F.newCall_zip_2 _ _) (fun obj=>F.args_object_init_3 obj _ _) F.entry_zip_new (aJ9 k1 k2 l1 l2 xs ys) ⟨hl1,hl2,?_⟩
 generalize hh1:s.heap.push (dF k1 l1)=h1
 have s1:h1.objs.size=s.heap.objs.size+1:=by rw [← hh1,Heap.size_push]
 generalize hh2:h1.push (dF k2 l2)=h2
 have s2:h2.objs.size=s.heap.objs.size+2:=by rw [← hh2,Heap.size_push,s1]
 generalize hh3:h2.push { cls:=.type "tuple",data:=.seq #[.ref s.heap.objs.size,.ref h1.objs.size] }=h3
 have s3:h3.objs.size=s.heap.objs.size+3:=by rw [← hh3,Heap.size_push,s2]
 generalize hh4:h3.push { cls:=.type "tuple",data:=.seq #[.none,.none] }=h4
 have s4:h4.objs.size=s.heap.objs.size+4:=by rw [← hh4,Heap.size_push,s3]
 have g1:h1.get? s.heap.objs.size=some (dF k1 l1):=by rw [← hh1];exact Heap.get?_push_size _ (by rfl)
 have g2:h2.get? h1.objs.size=some (dF k2 l2):=by rw [← hh2];exact Heap.get?_push_size _ (by rfl)
 have g3:IsPair h3 h2.objs.size (.ref s.heap.objs.size) (.ref h1.objs.size):=by rw [← hh3];exact Heap.get?_push_size _ rfl
 have g4:IsPair h4 h3.objs.size .none .none:=by rw [← hh4];exact Heap.get?_push_size _ rfl
 have g5:=Heap.get?_push_size h4 (o:={ cls:=.type "zip",data:=.fields #[.none,.bool false,.bool false,.ref h2.objs.size,.ref h3.objs.size] }) rfl
 have u12:∀ c o,h1.get? c=some o→h2.get? c=some o:=fun c o e=>by rw [← hh2];exact Heap.get?_push_of_some _ e
 have u23:∀ c o,h2.get? c=some o→h3.get? c=some o:=fun c o e=>by rw [← hh3];exact Heap.get?_push_of_some _ e
 have u34:∀ c o,h3.get? c=some o→h4.get? c=some o:=fun c o e=>by rw [← hh4];exact Heap.get?_push_of_some _ e
 have u01:∀ c o,s.heap.get? c=some o→h1.get? c=some o:=fun c o e=>by rw [← hh1];exact Heap.get?_push_of_some _ e
 rw [s1] at g2 g3
 rw [s2] at g3 g5
 rw [s3] at g4 g5
 rw [s4] at g5
 rw [s2,s3,s4]
 refine ⟨⟨_,g5,rfl⟩,h _ ⟨g5,Heap.get?_push_of_some _ (u34 _ _ g3),⟨_,_,Heap.get?_push_of_some _ g4⟩,vD.new (Heap.get?_push_of_some _ (u34 _ _ (u23 _ _ (u12 _ _ g1)))),vD.new (Heap.get?_push_of_some _ (u34 _ _ (u23 _ _ g2)))⟩ fun c o e=>Heap.get?_push_of_some _ (u34 _ _ (u23 _ _ (u12 _ _ (u01 _ _ e))))⟩
section
variable {X:Cx}
def aM6 (K:PySem.W.Frag) (k1 k2:Bool) (ta:TA):TI:=fun σ H R=>ta σ H fun vs H1=>∃ p q xs ys,vs=[.ref p,.ref q]∧(if k1 then jS K H1 p xs else fY K H1 p xs)∧(if k2 then jS K H1 q ys else fY K H1 q ys)∧R (Itz K k1 k2 p q) H1
theorem aKS {a b:Expr}{ta:TA}{p pos pos':Pos}{elts:List Expr}{x1:Nat} (k1 k2:Bool) (hg:Gl X "zip") (hm:X.mg "zip"=none) (hbt:bootBuiltins "zip"=some (.type "zip")) (ha:PA X [a,b] ta) (hs:starEach [a,b] X.env=[(false,eval a X.env),(false,eval b X.env)]:=by rfl) (hs2:starEach [b] X.env=[(false,eval b X.env)]:=by rfl) :
  PI X (.Tuple elts x1 pos') (.Call (.Name "zip" p) [a,b] [] pos) (aM6 X.K k1 k2 ta):=by
 intro pins s σ H R I h
 refine Call_ (oC I hg hm hbt (PyProof.Rows.callWith_type1 (fG (ha pos pins s σ H _ I h) fun us s1 ⟨vs,H1,I1,r1,q1⟩=>?_) (by rw [hs,hs2]) (by rw [hs2];rfl)))
 obtain ⟨l1,l2,xs,ys,e,hx,hy,q⟩:=q1
 subst e
 cases r1 with
 | cons r rr=>
  cases rr with
  | cons r' rr=>
   cases rr
   cases r
   cases r'
   obtain ⟨its,v1,w1⟩:=I1.sqk hx
   obtain ⟨its2,v2,w2⟩:=I1.sqk hy
   have lt1:l1<s1.heap.objs.size:=by
    cases k1 with
    | true=>obtain ⟨o,e,_⟩:=w1;exact Heap.lt_size e
    | false=>obtain ⟨o,e,_⟩:=w1;exact Heap.lt_size e
   have lt2:l2<s1.heap.objs.size:=by
    cases k2 with
    | true=>obtain ⟨o,e,_⟩:=w2;exact Heap.lt_size e
    | false=>obtain ⟨o,e,_⟩:=w2;exact Heap.lt_size e
   refine aAW w1 w2 fun h' st kp=>?_
   refine wpAny_pyIter_zip st.1 ?_
   have I2:bG X pins σ H1 { s1 with heap:=h' }:=I1.kept (t':=s1.toks) kp
   generalize hn:s1.heap.objs.size=n at *
   have lt1':@LT.lt Nat _ l1 n:=lt1
   have lt2':@LT.lt Nat _ l2 n:=lt2
   have ap:ZipApart (n+4) (n+2) (n+3) n (n+1) l1 l2:=by constructor <;> (intro z;have z':@Eq Nat _ _:=z;omega)
   refine ⟨n+4,_,_,_,H1,rfl,I2,aGT k1 k2 (n+4) (n+2) (n+3) n (n+1) l1 l2 ap,st,fun b hb=>?_,q⟩
   have hb':n≤b:=by
    simp only [List.mem_cons,List.not_mem_nil,or_false] at hb
    rcases hb with rfl | rfl | rfl | rfl | rfl <;> first | exact Nat.le_refl _ | exact Nat.le_add_right _ _
   exact I1.fpOk (by rw [hn];exact hb') (I1.hok.fresh (by rw [hn];exact hb'))
variable {a b c e:Expr}{es:List Expr}{pos:Pos}{ga gb:GE}
def qD (ga gb:GE):GF:=fun δ Q=>ga δ fun d=>gb δ fun d2=>match d,d2 with
 | .tup xs,.tup ys=>Q (List.zipWith (fun x y=>D.tup [x,y]) xs ys)
 | _,_=>False
theorem aIq {K:PySem.W.Frag}{C1:Hp}{p q:Addr}{xs ys:List V}{ds es:List D} (hx:fY K C1 p xs) (hy:fY K C1 q ys) (hd:bO K C1 xs ds) (he:bO K C1 ys es):aC6 K (Itz K false false p q) (List.zipWith (fun x y=>D.tup [x,y]) ds es) C1:=by
 intro C2 H2 c1 c2 i
 have hx2:=c2.seqT (c1.seqT hx)
 have hy2:=c2.seqT (c1.seqT hy)
 refine ⟨fun d e=>?_,fun hl=>⟨xs,ys,hx2,hy2,?_⟩⟩
 ·rw [List.getElem?_zipWith] at e
  cases e1:ds[i]? with
  | none=>rw [e1] at e;cases e
  | some d1=>
   cases e2:es[i]? with
   | none=>rw [e1,e2] at e;cases e
   | some d2=>
    rw [e1,e2] at e
    cases e
    obtain ⟨v1,ev1,n1⟩:=hd.get e1
    obtain ⟨v2,ev2,n2⟩:=he.get e2
    refine ⟨⟨xs,ys,v1,v2,hx2,hy2,ev1,ev2⟩,fun x H3 y=>?_⟩
    obtain ⟨t,ht,rfl,k⟩:=y
    obtain ⟨u,v,eu,ev,rfl⟩:=k xs ys hx2 hy2
    rw [ev1] at eu
    cases eu
    rw [ev2] at ev
    cases ev
    refine ⟨upd C2 t (.tup [v1,v2]),eM.new c2 ht,bM.mpr ⟨t,_,rfl,fY.of bH,?_⟩⟩
    have up:=bY.upd (o:=.tup [v1,v2]) (c2.free ht)
    exact .cons ((n1.mono c1).mono up) (.cons ((n2.mono c1).mono up) .nil)
 ·rw [List.length_zipWith] at hl
  rw [hd.length,he.length]
  omega
theorem aHS {p pos':Pos}{elts:List Expr}{x1:Nat} (hg:Gl X "zip") (hm:X.mg "zip"=none) (hbt:bootBuiltins "zip"=some (.type "zip")) (ha:DE X a ga) (hb:DE X b gb) (hs:starEach [a,b] X.env=[(false,eval a X.env),(false,eval b X.env)]:=by rfl) (hs2:starEach [b] X.env=[(false,eval b X.env)]:=by rfl) :
  DI X (.Tuple elts x1 pos') (.Call (.Name "zip" p) [a,b] [] pos) (qD ga gb):=by
 obtain ⟨t1,p1,h1⟩:=ha
 obtain ⟨t2,p2,h2⟩:=hb
 refine ⟨_,aKS false false hg hm hbt (bX p1 (bX p2 dS hs2) (by rw [hs,hs2])) hs hs2,fun C0 H0 δ σ C H Q R rp g k=>h1 C0 H0 δ σ C H _ _ rp g fun d v C1 H1 q e1 n1=>h2 C0 H0 δ σ C1 H1 _ _ (rp.grow e1) q fun d2 v2 C2 H2 q2 e2 n2=>?_⟩
 have n1':=n1.mono e2.cc
 cases d with
 | tup ds=>
  cases d2 with
  | tup es=>
   obtain ⟨p,xs,rfl,hx,hd⟩:=bM.mp n1'
   obtain ⟨p',ys,rfl,hy,he⟩:=bM.mp n2
   exact ⟨p,p',xs,ys,rfl,e2.ch.seqT hx,e2.ch.seqT hy,k _ _ C2 H2 q2 (e1.trans e2) (aIq hx hy hd he)⟩
  | _=>exact q2.elim
 | _=>exact q2.elim
end
def mO (o:Option (D→Prop)) (Q:D→Prop):Prop:=match o with
 | some p=>∀ d,p d→Q d
 | none=>False
def spR (K:PySem.W.Frag) (F:List D→Option (D→Prop)):Sp:=fun vs H Q _=>∃ C ds p,bY C H∧bO K C vs ds∧F ds=some p∧∀ d v C' H',p d→eM C H C' H'→i5 K C' v d→Q v H'
def aGp (P:Program) (w:World) (K:PySem.W.Frag) (mg:Str→Option Value) (base:Heap) (k:Nat) (x:Str) (F:List D→Option (D→Prop)):Prop:=
 ∃ f fd ps,uT P w K mg base kK k f fd ps (spR K F)∧mg x=some (.ref f)∧PySem.W.keepIn K (.ref f)=true∧pT K fd ps []
section
variable {X:Cx}{a b c e:Expr}{es:List Expr}{pos:Pos}{ga gb gc gd:GE}{gf:GF}{ta tb:GT}
def fW (F:List D→Option (D→Prop)) (gf:GF):GE:=fun δ Q=>gf δ fun ds=>mO (F ds) Q
theorem yZ {F:List D→Option (D→Prop)}{k:Nat}{x:Str}{p:Pos} (h:aGp X.prog X.w X.K X.mg X.base k x F) (hr:cL k X.A) (hg:Gl X x) (ha:DA X (e::es) gf) (hdb:(x == ("__debug__":Str))=false:=by decide)
  (he:starEach (e::es) X.env=(false,eval e X.env)::starEach es X.env:=by rfl) (hpl:(backTo pos (starEach es X.env)).any (·.1)=false:=by rfl):DE X (.Call (.Name x p) (e::es) [] pos) (fW F gf):=by
 obtain ⟨f,fd,ps,Fk,hm,hk,hb⟩:=h
 obtain ⟨t,pa,h⟩:=ha
 refine ⟨_,aCd Fk hr hg hm hk hb .nil aIh pa hdb he hpl,fun C0 H0 δ σ C H Q R rp g k=>h C0 H0 δ σ C H _ _ rp g fun ds vs C1 H1 q e1 n1=>?_⟩
 cases e2:F ds with
 | none=>rw [e2] at q;exact q.elim
 | some p=>
  rw [e2] at q
  exact ⟨C1,ds,p,e1.ch,by rw [List.append_nil];exact n1,e2,fun d v C' H' hp ex nv=>k d v C' H' (q d hp) (e1.trans ex) nv⟩
theorem aV {x:Str}{f:Value}{g:List D→(D→Prop)→Prop}{pos':Pos} (hc:aDJ X f g) (ha:DA X (e::es) gf)
  (hp:∀ {t:TA}{r:List V→Hp→VK→Prop},nO X f r→PA X (e::es) t→PE X (.Call (.Name x pos') (e::es) [] pos) (tCB r t)):DE X (.Call (.Name x pos') (e::es) [] pos) (aZ g gf):=by
 obtain ⟨r,pr,hr⟩:=hc
 obtain ⟨t,p,h⟩:=ha
 refine ⟨_,hp pr p,fun C0 H0 δ σ C H Q R rp g k=>h C0 H0 δ σ C H _ _ rp g fun ds vs C1 H1 q e1 n1=>?_⟩
 exact hr vs ds C1 H1 Q R e1.ch n1 q fun d v C2 H2 q2 e2 n2=>k d v C2 H2 q2 (e1.trans e2) n2
theorem aGW {x:Str}{i:Int} (hg:Gl X x) (h:∃ t,X.mg x=some (.int i t)) (hd:(x == ("__debug__":Str))=false:=by decide):DE X (.Name x pos) (gC (.int i)):=by
 obtain ⟨t,h⟩:=h
 exact aGX hg h hd
theorem bT {scope sc:Scope}{N Nc:List Str}{fr:List (Option Nat)} (h1:X.env.scope=sc) (h2:X.N=N) (h:oE sc scope N Nc fr=true):oE X.env.scope scope X.N Nc fr=true:=by rw [h1,h2];exact h
end
theorem fnR {P:Program}{w:World}{K:PySem.W.Frag}{mg:Str→Option Value}{base:Heap}{x qual:Str}{st:Stmt}{f:Addr}{fd:FuncData}{N ps:List Str}{k:Nat}{F:List D→Option (D→Prop)}{g:GS} (Fn:Fun K x qual st f fd) (S:bD N ps (aD st))
  (hl:∀ ds p,F ds=some p→ds.length=ps.length)
  (hb:∀ (cdv:Value) (A:Around) (outer:List Env) (s:Shared) (H:Hp) (E:XK),cL k (A.deeper (envOfC qual (aD st) s.heap.objs.size f cdv))→kJ (d6 kK P w K mg base N qual (aD st) f cdv A outer s H E).nox (aW st) g)
  (hv:∀ ds p,F ds=some p→g { nx:=fun _=>p .non,rt:=p } (bK N ds)) (hm:mg x=some (.ref f)) (bi:pT K fd ps []):aGp P w K mg base (k+1) x F:=by
 refine ⟨f,fd,ps,Fn.ok S (fun vs H Q E h=>?_) (fun cdv A outer s H vs Q E hr h=>?_),hm,Fn.kp,bi⟩
 ·obtain ⟨C,ds,p,_,n,e,_⟩:=h
  rw [n.length]
  exact hl ds p e
 ·obtain ⟨C,ds,pd,ch,n,e,q⟩:=h
  obtain ⟨t,p,h⟩:=hb cdv A outer s H E hr
  refine ⟨t,p,h C H (bK N ds) (start N vs) C H _ _ (rA ch n) (hv ds pd e) ⟨fun δ σ C' H' rp z=>?_,fun r v C' H' ex nv z=>?_,fun _ _ _ _ _ z=>z.elim,fun _ _ _ _ _ z=>z.elim⟩⟩
  ·exact q .non _ C' H' z rp.ext (eD.mpr rfl)
  ·exact q r v C' H' z ex nv
theorem eE:bootBuiltins "len"=some (.builtin "len"):=by decide +kernel
theorem aEn:bootBuiltins "abs"=some (.builtin "abs"):=by decide +kernel
theorem aD2:bootBuiltins "all"=some (.builtin "all"):=by decide +kernel
theorem aGq:bootBuiltins "sorted"=some (.builtin "sorted"):=by decide +kernel
theorem k7:bootBuiltins "isinstance"=some (.builtin "isinstance"):=by decide +kernel
theorem cO:bootBuiltins "tuple"=some (.type "tuple"):=by decide +kernel
theorem aJU:bootBuiltins "list"=some (.type "list"):=by decide +kernel
theorem aKE:bootBuiltins "int"=some (.type "int"):=by decide +kernel
theorem aFq:bootBuiltins "bool"=some (.type "bool"):=by decide +kernel
theorem aEz:bootBuiltins "zip"=some (.type "zip"):=by decide +kernel
def xE:D→Bool
 | .int _=>true
 | _=>false
def eZ (d:D) (a b:Int):Bool:=match d with
 | .int i=>decide (a≤i) && decide (i≤b)
 | _=>false
def bP (d:D) (a b:Int):Bool:=match d with
 | .tup ds=>decide (a≤(ds.length:Int)) && decide ((ds.length:Int)≤b)
 | _=>false
@[reducible] def aF (ns:List Int):D:=.tup (ns.map D.int)
def cS (rows:List (List Int)) (m:Int):List (List Int):=rows.flatMap fun r=>(List.range m.toNat).map fun (k:Nat)=>r++[(k:Int)]
def aL (ns:List Int):List (List Int):=ns.foldl cS [[]]
def dO (ns:List Int):Bool:=decide (ns.length≤3) && ns.all fun n=>decide (1≤n) && decide (n≤3)
def tZ (d:D) (ns:List Int):Bool:=match d with
 | .tup ds=>decide (ds.length=ns.length) && (List.zipWith (fun x n=>eZ x 0 (n-1)) ds ns).all id
 | _=>false
def nT (d:D) (ns:List Int) (st:Int):Bool:=match d with
 | .tup ds=>decide (ds.length=(aL ns).length) && ds.all fun x=>eZ x 0 (st-1)
 | _=>false
def kZ (d:D) (ns:List Int) (st:Int):Bool:=match d with
 | .tup [a,b]=>tZ a ns && nT b ns st
 | _=>false
def p6 (d:D) (ns:List Int):Bool:=match d with
 | .tup ds=>decide (1≤ds.length) && decide (ds.length≤8) && ds.all fun s=>kZ s ns ds.length
 | _=>false
def fE (ds:List D) (f:List Int→D):Option D:=match cX ds with
 | some ns=>if dO ns=true then some (f ns) else none
 | none=>none
def iJ:List D→Option D
 | [d]=>some (.bl (xE d))
 | _=>none
def dM:List D→Option D
 | [.int a,.int b]=>some (.int (Int.gcd a b))
 | _=>none
def aU:List D→Option D
 | [d,.int a,.int b]=>some (.bl (bP d a b))
 | _=>none
def dP:List D→Option D
 | [d,.int a,.int b]=>some (.bl (eZ d a b))
 | _=>none
def fV:List D→Option D
 | [.tup ds,.int a,.int b]=>if ds.length≤1000 then some (.bl (ds.all fun d=>eZ d a b)) else none
 | _=>none
def iS:List D→Option D
 | [.tup ds]=>fE ds fun ns=>.tup ((aL ns).map aF)
 | _=>none
def dD:List D→Option D
 | [.tup ds]=>fE ds fun ns=>.lst ((aL ns).map aF)
 | _=>none
def mL:List D→Option D
 | [d,.tup es]=>fE es fun ns=>.bl (tZ d ns)
 | _=>none
def jT:List D→Option D
 | [d,.tup es,.int st]=>fE es fun ns=>.bl (nT d ns st)
 | _=>none
def jF:List D→Option D
 | [d,.tup es,.int st]=>fE es fun ns=>.bl (kZ d ns st)
 | _=>none
def j3:List D→Option D
 | [d,.tup [.tup es,_]]=>fE es fun ns=>.bl (p6 d ns)
 | _=>none
def cK:List D→Option D
 | [.lst ds,.int k]=>match cX ds with
  | some ns=>if 0≤k then some (.int (ns.getD k.toNat 0)) else none
  | none=>none
 | _=>none
def c9:List D→Option D
 | [.lst ds,.int k]=>match cX ds with
  | some ns=>if 0≤k then some (.lst ((List.range 4).map fun (n:Nat)=>.int (ns.getD (k.toNat+n) 0))) else none
  | none=>none
 | _=>none
def kH (c p m:Int):Int:=c * 48271 % p % m
def bU:List D→Option D
 | [.int c,.int p,.int m]=>if 0<p∧0<m then some (.int (kH c p m)) else none
 | _=>none
structure gN (ns:List Int) (pay:List (List Int)):Prop where
 two:2≤ns.length
 ok:dO ns=true
 many:pay.length=(aL ns).length
 rows:∀ r∈pay,r.length=ns.length∧∀ x∈r, -9≤x∧x≤9
@[reducible] def fD (ns:List Int) (pay:List (List Int)):D:=.tup [aF ns,.tup (pay.map aF)]
def dU:List D→Option (D→Prop)
 | [.int c]=>some fun d=>∃ ns pay,d=fD ns pay∧gN ns pay∧(c % 3=0→ns=[2,2])
 | _=>none
def zW (c:Int):Int:=2+kH c 9929 29
def aIb (c:Int):Int:=if c % 4=0 then zW c-1 else 1+kH c 9923 (zW c-1)
def aBX (c:Int):Rat:=Rat.divInt (aIb c) (zW c)
def dC:List D→Option D
 | [.int c]=>some (.tup [.int (aBX c).num,.int ((aBX c).den:Int)])
 | _=>none
def jJ:List D→Option D
 | [.tup [.tup es,_],.int c]=>fE es fun ns=>aF ((aL ns).getD (kH c 9907 (aL ns).length).toNat [])
 | _=>none
structure pE (ns:List Int) (pl:List (List Int×List Int)):Prop where
 few:1≤pl.length∧pl.length≤8
 row:∀ s∈pl,s.1∈aL ns
 nexts:∀ s∈pl,s.2.length=(aL ns).length∧∀ x∈s.2,0≤x∧x<pl.length
@[reducible] def bA (pl:List (List Int×List Int)):D:=.tup (pl.map fun s=>.tup [aF s.1,aF s.2])
def dR:List D→Option (D→Prop)
 | [.tup [.tup es,_],.lst cs,.int m]=>match cX es,cX cs with
  | some ns,some xs=>if dO ns=true∧xs.length=4∧0<m∧m≤8 then some fun d=>∃ pl,d=bA pl∧pE ns pl else none
  | _,_=>none
 | _=>none
def wF:List D→Option (D→Prop)
 | [.lst ds]=>match cX ds with
  | some _=>some fun d=>d = .bl true
  | none=>none
 | _=>none
theorem mJ (rows:List (List Int)) (m:Int):(cS rows m).length=rows.length * m.toNat:=by
 unfold cS
 induction rows with
 | nil=>simp
 | cons r rows ih=>rw [List.flatMap_cons,List.length_append,ih,List.length_map,List.length_range,List.length_cons,Nat.succ_mul,Nat.add_comm]
theorem zD (a b:List (List Int)) (m:Int):cS (a++b) m=cS a m++cS b m:=by
 unfold cS
 rw [List.flatMap_append]
theorem aDx (r:List Int) (m:Int):cS [r] m=(List.range m.toNat).map fun (k:Nat)=>r++[(k:Int)]:=by
 unfold cS
 simp
theorem mR (ns:List Int) (m:Int):aL (ns++[m])=cS (aL ns) m:=by
 unfold aL
 rw [List.foldl_append]
 rfl
def yX (ns r:List Int):Prop:=r.length=ns.length∧∀ (i:Nat) (x n:Int),r[i]? = some x→ns[i]? = some n→0≤x∧x<n
theorem aEJ {ns r:List Int}{m k:Int} (h:yX ns r) (h0:0≤k) (h1:k<m):yX (ns++[m]) (r++[k]):=by
 refine ⟨by simp [h.1],fun i x n e1 e2=>?_⟩
 by_cases hi:i<r.length
 ·rw [List.getElem?_append_left hi] at e1
  rw [List.getElem?_append_left (by rw [← h.1];exact hi)] at e2
  exact h.2 i x n e1 e2
 ·rw [List.getElem?_append_right (by omega)] at e1
  rw [List.getElem?_append_right (by rw [← h.1];omega)] at e2
  rw [h.1] at e1
  cases hj:i-ns.length with
  | zero=>
   rw [hj] at e1 e2
   cases e1
   cases e2
   exact ⟨h0,h1⟩
  | succ j=>
   rw [hj] at e1
   simp at e1
theorem aDM:∀ (ms:List Int),∀ r∈aL ms.reverse,yX ms.reverse r
 | [],r,h=>by
  have:r=[]:=by simpa [aL] using h
  subst this
  exact ⟨rfl,fun i x n e=>by simp at e⟩
 | m::ms,r,h=>by
  rw [List.reverse_cons,mR] at h
  rw [List.reverse_cons]
  unfold cS at h
  obtain ⟨r0,h0,h1⟩:=List.mem_flatMap.mp h
  obtain ⟨k,hk,rfl⟩:=List.mem_map.mp h1
  have hk':=List.mem_range.mp hk
  exact aEJ (aDM ms r0 h0) (by omega) (by omega)
theorem qE {ns r:List Int} (h:r∈aL ns):yX ns r:=by
 have:=aDM ns.reverse r (by rw [List.reverse_reverse];exact h)
 rwa [List.reverse_reverse] at this
theorem vC {ns:List Int} (h:dO ns=true) (i:Nat):dO (ns.take i)=true:=by
 unfold dO at h ⊢
 rw [Bool.and_eq_true,decide_eq_true_eq,List.all_eq_true] at h ⊢
 exact ⟨by rw [List.length_take];omega,fun x hx=>h.2 x (List.mem_of_mem_take hx)⟩
theorem lD {ns:List Int} (h:dO ns=true):ns.length≤3∧∀ n∈ns,1≤n∧n≤3:=by
 unfold dO at h
 rw [Bool.and_eq_true,decide_eq_true_eq,List.all_eq_true] at h
 refine ⟨h.1,fun n hn=>?_⟩
 have:=h.2 n hn
 simpa using this
theorem u4:∀ (ms:List Int),(∀ n∈ms,1≤n∧n≤3)→1≤(aL ms.reverse).length∧(aL ms.reverse).length≤3 ^ ms.length
 | [],_=>by simp [aL]
 | m::ms,h=>by
  rw [List.reverse_cons,mR,mJ,List.length_cons,Nat.pow_succ]
  obtain ⟨h1,h2⟩:=u4 ms fun n hn=>h n (List.mem_cons_of_mem _ hn)
  obtain ⟨h3,h4⟩:=h m List.mem_cons_self
  have h5:1≤m.toNat:=by omega
  have h6:m.toNat≤3:=by omega
  exact ⟨Nat.mul_le_mul h1 h5,Nat.mul_le_mul h2 h6⟩
theorem lO {ns:List Int} (h:dO ns=true):1≤(aL ns).length∧(aL ns).length≤27:=by
 obtain ⟨h1,h2⟩:=lD h
 have q:=u4 ns.reverse fun n hn=>h2 n (List.mem_reverse.mp hn)
 rw [List.reverse_reverse,List.length_reverse] at q
 refine ⟨q.1,Nat.le_trans q.2 ?_⟩
 exact Nat.le_trans (Nat.pow_le_pow_right (n:=3) (by decide) h1) (by decide)
theorem jN {ds:List D}{f:List Int→D}{d:D} (h:fE ds f=some d):∃ ns,ds=ns.map D.int∧dO ns=true∧d=f ns:=by
 unfold fE at h
 split at h
 ·rename_i ns e
  split at h
  ·rename_i ho
   cases h
   exact ⟨ns,fF e,ho,rfl⟩
  ·cases h
 ·cases h
theorem gO {ns:List Int} (f:List Int→D) (h:dO ns=true):fE (ns.map D.int) f=some (f ns):=by
 unfold fE
 rw [cP]
 simp [h]
def aP (K:PySem.W.Frag) (mg:Str→Option Value) (x:Str) (st:Stmt) (ps:List Str):Prop:=∃ f fd,Fun K x x st f fd∧mg x=some (.ref f)∧pT K fd ps []
theorem aHq {K:PySem.W.Frag}{h:Heap}{mg:Str→Option Value}{x:Str}{st:Stmt}{ps:List Str}{f:Addr}{od an:Option Addr}{sl:Array (Option Value)}{oc kV dc pm cd ct:Value} (X:K.In h) (G:h.Ns mainGlobals mg)
  (a:PySem.W.nsIn K mainGlobals x=some (some (.ref f))) (l:K.lookup f=some ⟨oc,od,.func (PySem.W.fnOf x x (nJ st) (aW st) (aD st) .none kV dc pm an cd ct),sl⟩) (c:PySem.W.codeIn K cd x=true) (k:PySem.W.keepIn K (.ref f)=true)
  (hb:∀ (kV doc pm:Value) (an:Option Addr) (cdv ct:Value) (us:List Value),us.length=ps.length→bindArgs (PySem.W.fnOf x x (nJ st) (aW st) (aD st) .none kV doc pm an cdv ct) ⟨us,[]⟩=pure (ps.zip us)):aP K mg x st ps:=
 ⟨f,_,aD3 (st:=st) l c k,PySem.W.mg_of X G a,(aD3 (st:=st) l c k).binds hb⟩
theorem aNn {P:Program}{w:World}{K:PySem.W.Frag}{mg:Str→Option Value}{base:Heap}{x qual:Str}{st:Stmt}{f:Addr}{fd:FuncData}{N ps:List Str}{k:Nat}{F:List D→Option (D→Prop)}{g:GS} (Fn:Fun K x qual st f fd) (S:bD N ps (aD st))
  (hl:∀ ds p,F ds=some p→ds.length=ps.length)
  (hb:∀ (cdv:Value) (A:Around) (outer:List Env) (s:Shared) (H:Hp) (E:XK),cL k (A.deeper (envOfC qual (aD st) s.heap.objs.size f cdv))→kJ (d6 kK P w K mg base N qual (aD st) f cdv A outer s H E).nox (aW st) g)
  (hv:∀ ds p,F ds=some p→g { nx:=fun _=>p .non,rt:=p } (bK N ds)):uT P w K mg base kK (k+1) f fd ps (spR K F):=by
 refine Fn.ok S (fun vs H Q E h=>?_) (fun cdv A outer s H vs Q E hr h=>?_)
 ·obtain ⟨C,ds,p,_,n,e,_⟩:=h
  rw [n.length]
  exact hl ds p e
 ·obtain ⟨C,ds,pd,ch,n,e,q⟩:=h
  obtain ⟨t,p,h⟩:=hb cdv A outer s H E hr
  refine ⟨t,p,h C H (bK N ds) (start N vs) C H _ _ (rA ch n) (hv ds pd e) ⟨fun δ σ C' H' rp z=>?_,fun r v C' H' ex nv z=>?_,fun _ _ _ _ _ z=>z.elim,fun _ _ _ _ _ z=>z.elim⟩⟩
  ·exact q .non _ C' H' z rp.ext (eD.mpr rfl)
  ·exact q r v C' H' z ex nv
theorem us1 {P:List Value→Prop} (h:∀ a,P [a]):∀ us:List Value,us.length=1→P us
 | [a],_=>h a
theorem us2 {P:List Value→Prop} (h:∀ a b,P [a,b]):∀ us:List Value,us.length=2→P us
 | [a,b],_=>h a b
theorem us3 {P:List Value→Prop} (h:∀ a b c,P [a,b,c]):∀ us:List Value,us.length=3→P us
 | [a,b,c],_=>h a b c
theorem us4 {P:List Value→Prop} (h:∀ a b c d,P [a,b,c,d]):∀ us:List Value,us.length=4→P us
 | [a,b,c,d],_=>h a b c d
def vT (x:D):List D→Option (List Bool)
 | []=>some []
 | y::ys=>match j7 y x,vT x ys with
  | some a,some b=>some (a::b)
  | _,_=>none
theorem aFg {x:D}:∀ {ds:List D}{bs:List Bool},vT x ds=some bs→bs.length=ds.length∧∀ (j:Nat) d,ds[j]? = some d→∃ b,bs[j]? = some b∧j7 d x=some b
 | [],bs,h=>by
  cases h
  exact ⟨rfl,fun j d e=>by simp at e⟩
 | y::ys,bs,h=>by
  unfold vT at h
  cases e1:j7 y x with
  | none=>rw [e1] at h;cases h
  | some a=>
   cases e2:vT x ys with
   | none=>rw [e1,e2] at h;cases h
   | some b=>
    rw [e1,e2] at h
    cases h
    obtain ⟨h1,h2⟩:=aFg e2
    refine ⟨by simp [h1],fun j d e=>?_⟩
    cases j with
    | zero=>cases e;exact ⟨a,rfl,e1⟩
    | succ j=>exact h2 j d e
section
variable {X:Cx}{pins:List (Addr×Obj)}{σ:St}{H C:Hp}{s:Shared}
open Classical in
noncomputable def aCm (K:PySem.W.Frag) (C:Hp) (x:D) (u:Value):Bool:=decide (∃ z d,cG z u∧i5 K C z d∧j7 d x=some true)
open Classical in
theorem vB (I:bG X pins σ H s) (ch:bY C H) {A:Around}{dx:D}{x:V}{v:Value}{xs:List V}{its:List Value}{ds:List D}{bs:List Bool} (hu:A.units+32<cLine) (hd:iV ds≤32) (rx:cG x v) (nx:i5 X.K C x dx)
  (r:cE xs its) (n:bO X.K C xs ds) (h:vT dx ds=some bs):(∀ y∈its,SeqAt.EqAt A s y v (aCm X.K C dx y))∧its.map (aCm X.K C dx)=bs:=by
 obtain ⟨h1,h2⟩:=aFg h
 have key:∀ (j:Nat) y,its[j]? = some y→∃ b,bs[j]? = some b∧aCm X.K C dx y=b∧SeqAt.EqAt A s y v b:=by
  intro j y e
  have hj:j<its.length:=(List.getElem?_eq_some_iff.mp e).1
  have hl:=r.length
  have hl2:=n.length
  have ed:ds[j]? = some (ds[j]'(by omega)):=List.getElem?_eq_getElem _
  obtain ⟨z,ez,nz⟩:=n.get ed
  obtain ⟨y',ey,ry⟩:=r.get ez
  rw [e] at ey
  cases ey
  obtain ⟨b,eb,q⟩:=h2 j _ ed
  refine ⟨b,eb,?_,aEh I ch 32 _ dx b A z x y v (Nat.le_trans (rH ed) hd) hu q ry rx nz nx⟩
  cases b with
  | true=>
   unfold aCm
   exact decide_eq_true ⟨z,_,ry,nz,q⟩
  | false=>
   unfold aCm
   refine decide_eq_false fun ⟨z',d',r',n',q'⟩=>?_
   have e1:=r'.inj ry
   subst e1
   have e2:=xO I ch _ _ n' nz
   subst e2
   rw [q] at q'
   cases q'
 refine ⟨fun y hy=>?_,?_⟩
 ·obtain ⟨j,hj,rfl⟩:=List.mem_iff_getElem.mp hy
  obtain ⟨b,_,e,q⟩:=key j _ (List.getElem?_eq_getElem hj)
  rw [e];exact q
 ·refine List.ext_getElem? fun j=>?_
  rw [List.getElem?_map]
  cases e:its[j]? with
  | none=>
   have:its.length≤j:=List.getElem?_eq_none_iff.mp e
   have hl:=r.length
   have hl2:=n.length
   exact (List.getElem?_eq_none_iff.mpr (by omega)).symm
  | some y=>
   obtain ⟨b,eb,e2,_⟩:=key j y e
   rw [eb,Option.map_some,e2]
end
section
variable {X:Cx}{a b c e o:Expr}{es:List Expr}{pos:Pos}{ga gb gc gd:GE}{gf:GF}
def sB:D→Option (List D)
 | .tup ds=>some ds
 | .lst ds=>some ds
 | _=>none
def aB0:GO:=fun x y Q=>match sB y with
 | some ds=>iV ds≤32∧match vT x ds with
  | some bs=>Q (.bl (!bs.any id))
  | none=>False
 | none=>False
def aNf (K:PySem.W.Frag) (neg:Bool):R2:=fun x y H R=>∃ C dx p xs ds bs,bY C H∧i5 K C x dx∧y = .ref p∧(jS K H p xs∨fY K H p xs)∧bO K C xs ds∧iV ds≤32∧vT dx ds=some bs∧R (.bl (if neg then !bs.any id else bs.any id)) H
theorem aFe (its:List Value) (f:Value→Bool):its.toArray.any f=(its.map f).any id:=by
 simp [List.any_map,Function.comp_def]
theorem aJv {K:PySem.W.Frag}{C H:Hp}{v:V}{y:D}{ds:List D} (ch:bY C H) (n:i5 K C v y) (e:sB y=some ds):∃ p xs,v = .ref p∧(jS K H p xs∨fY K H p xs)∧bO K C xs ds:=by
 cases y with
 | tup ys=>cases e;obtain ⟨p,xs,rfl,hx,hd⟩:=bM.mp n;exact ⟨p,xs,rfl,.inr (ch.seqT hx),hd⟩
 | lst ys=>cases e;obtain ⟨p,xs,rfl,hx,hd⟩:=bV.mp n;exact ⟨p,xs,rfl,.inl (ch.seq hx),hd⟩
 | _=>cases e
theorem aG9 (hu:X.A.units+64<cLine):DOp X (compareOp .NotIn) aB0:=by
 refine ⟨aNf X.K true,fun pins s σ H x y v u Q I rx ry h=>?_,fun x y dx dy C H Q R ch n1 n2 q k=>?_⟩
 ·obtain ⟨C,dx,p,xs,ds,bs,ch,nx,rfl,hq,nd,hd,ha,q⟩:=h
  cases ry
  rcases hq with hq | hq
  ·obtain ⟨its,r,pl,hz⟩:=I.list hq
   obtain ⟨h1,h2⟩:=vB I ch (A:=X.A.in1) (by show X.A.units+1+32<cLine;omega) hd rx nx r nd ha
   refine SeqAt.notIn_listAt (aCm X.K C dx) pl.isList (fun w hw=>h1 w (by simpa using hw)) ⟨.bl _,H,I,rfl,?_⟩
   rw [aFe,h2]
   exact q
  ·obtain ⟨its,r,pl,hz⟩:=I.tuple hq
   obtain ⟨h1,h2⟩:=vB I ch (A:=X.A.in1) (by show X.A.units+1+32<cLine;omega) hd rx nx r nd ha
   refine SeqAt.notIn_tupleAt (aCm X.K C dx) pl (fun w hw=>h1 w (by simpa using hw)) ⟨.bl _,H,I,rfl,?_⟩
   rw [aFe,h2]
   exact q
 ·unfold aB0 at q
  split at q
  ·rename_i ds e
   obtain ⟨hd,q⟩:=q
   split at q
   ·rename_i bs e2
    obtain ⟨p,xs,rfl,hx,nd⟩:=aJv ch n2 e
    exact ⟨C,dx,p,xs,ds,bs,ch,n1,rfl,hx,nd,hd,e2,k _ _ C H q (eM.refl ch) (c6.mpr rfl)⟩
   ·exact q.elim
  ·exact q.elim
def aFx (K:PySem.W.Frag):V→List V→Hp→VK→Prop:=fun l vs H R=>∃ C dx x p xs ds bs,∃ j:Nat,bY C H∧vs=[x]∧i5 K C x dx∧l = .ref p∧jS K H p xs∧bO K C xs ds∧iV ds≤32∧vT dx ds=some bs∧bs[j]? = some true∧(∀ i:Nat,i<j→bs[i]? = some false)∧R (.int (j:Int)) H
theorem aHj (hu:X.A.units+64<cLine):MtR X "list.index" (aFx X.K):=by
 intro pins s σ H l vs v us Q I rl rv h
 obtain ⟨C,dx,x,p,xs,ds,bs,j,ch,rfl,nx,rfl,hq,nd,hd,ha,hj,hno,q⟩:=h
 cases rl
 obtain ⟨u,rfl,rx⟩:=tN rv
 obtain ⟨its,r,pl,hz⟩:=I.list hq
 have hlen:=r.length
 obtain ⟨⟨cls,dd,data,sl⟩,ho,hc,n,hdt⟩:=id pl.isList
 simp only at hc hdt
 subst hc hdt
 obtain ⟨h1,h2⟩:=vB I ch (A:=X.A.in1.in1) (by show X.A.units+1+1+32<cLine;omega) hd rx nx r nd ha
 obtain ⟨h1',_⟩:=vB I ch (A:=X.A.in1) (by show X.A.units+1+32<cLine;omega) hd rx nx r nd ha
 have hjl:j<its.length:=by
  have:=(List.getElem?_eq_some_iff.mp hj).1
  rw [← h2,List.length_map] at this
  exact this
 have at_:∀ (i:Nat) (hi:i<its.toArray.size) (b:Bool),bs[i]? = some b→aCm X.K C dx its.toArray[i]=b:=by
  intro i hi b e
  have hi':i<its.length:=by simpa using hi
  rw [← h2,List.getElem?_map,List.getElem?_eq_getElem hi'] at e
  simpa using e
 have hz2:(sizeLine:Int)<2 ^ 63-1:=by decide
 refine call_meets F.slot_list_index ⟨_,ho,rfl⟩ F.entry_list_index (F.args_list_index_2 _ _) (SeqAt.list_indexAt p its.toArray n dd sl u (aCm X.K C dx) j (by simpa using hjl) (by omega) (at_ j _ true hj) (fun m hm hmj=>at_ m hm false (hno m hmj))) ⟨ho,?_,?_⟩
 ·intro y hy
  first | exact h1 y (by simpa using hy) | exact h1' y (by simpa using hy)
 ·exact ⟨.int j,H,I.tok _,⟨_,rfl⟩,q⟩
def oZ:List Bool→Option Nat
 | []=>none
 | true::_=>some 0
 | false::r=>(oZ r).map (· + 1)
theorem aBb:∀ {bs:List Bool}{j:Nat},oZ bs=some j→bs[j]? = some true∧∀ i:Nat,i<j→bs[i]? = some false
 | true::r,j,h=>by cases h;exact ⟨rfl,fun i hi=>by omega⟩
 | false::r,j,h=>by
  unfold oZ at h
  cases e:oZ r with
  | none=>rw [e] at h;cases h
  | some k=>
   rw [e] at h
   cases h
   obtain ⟨h1,h2⟩:=aBb e
   refine ⟨h1,fun i hi=>?_⟩
   cases i with
   | zero=>rfl
   | succ i=>exact h2 i (by simp at hi;omega)
def aEw (ga gb:GE):GE:=fun δ Q=>ga δ fun d=>match d with
 | .lst ds=>gb δ fun x=>iV ds≤32∧match vT x ds with
  | some bs=>match oZ bs with
   | some j=>Q (.int j)
   | none=>False
  | none=>False
 | _=>False
theorem aHn {p2:Pos} (hu:X.A.units+64<cLine) (ha:DE X a ga) (hb:DE X b gb)
  (hp:∀ {to:TE}{t:TA},PE X a to→PA X [b] t→PE X (.Call (.Attribute a "index" p2) [b] [] pos) (tBM X.K "list" (aFx X.K) to t)) (hs:starEach [b] X.env=[(false,eval b X.env)]:=by rfl):DE X (.Call (.Attribute a "index" p2) [b] [] pos) (aEw ga gb):=by
 obtain ⟨t1,p1,h1⟩:=ha
 obtain ⟨t2,p2,h2⟩:=hb
 refine ⟨_,hp p1 (bX p2 dS hs),fun C0 H0 δ σ C H Q R rp g k=>?_⟩
 refine h1 C0 H0 δ σ C H _ _ rp g fun d v C1 H1 q e1 n1=>?_
 cases d with
 | lst ds=>
  obtain ⟨p,xs,rfl,hx,hd⟩:=bV.mp n1
  refine ⟨.inl ⟨rfl,xs,e1.ch.seq hx⟩,h2 C0 H0 δ σ C1 H1 _ _ (rp.grow e1) q fun d2 v2 C2 H2 q2 e2 n2=>?_⟩
  obtain ⟨hdp,q2⟩:=q2
  split at q2
  ·rename_i bs ea
   split at q2
   ·rename_i j ej
    obtain ⟨f1,f2⟩:=aBb ej
    exact ⟨C2,d2,v2,p,xs,ds,bs,j,e2.ch,rfl,n2,rfl,e2.ch.seq (e2.cc.seq hx),hd.mono e2.cc,hdp,ea,f1,f2,k _ _ C2 H2 q2 (e1.trans e2) (aT.mpr rfl)⟩
   ·exact q2.elim
  ·exact q2.elim
 | _=>exact q.elim
end
open AutoSeq1 (wpAny_loadPart')
section
variable {prog:Program}{w:World}{A:Around}{E:Value→Shared→Prop}{s:Shared}
theorem aEP {e it src:Addr}{k:Nat}{xs:Array Value}{x old:Value}{Q:Value→Shared→Prop} (he:IsEnum s.heap e it k old) (a:At s.heap it src k xs) (hx:xs[k]? = some x) (ne:e≠it) (ns:src≠it) (nse:src≠e)
  (hQ:∀ h',IsEnumOut h' e it ((k:Int)+1) x s.heap.objs.size→At h' it src (k+1) xs→IsPair h' s.heap.objs.size (.int k s.toks) x→(∀ b o,b≠e→b≠it→s.heap.get? b=some o→h'.get? b=some o)→Q (.ref s.heap.objs.size) { s with heap:=h',toks:=s.toks+1 }) :
  wpAny (model prog w) A (Builtin.«enumerate.__next__» ⟨[.ref e],[]⟩) (fun fin s'=>∃ v,fin = .done (.ret v)∧Q v s') E s:=by
 obtain ⟨hp,g,d,tk,os⟩:=s
 refine wpAny_bind (m:=field (.ref e) 2) (wpAny_field he rfl (x:=.ref it) rfl ?_)
 refine wpAny_bind (o4 a ns hx fun h1 a1 sb1=>?_)
 replace sb1:Heap.SameBut it hp h1:=sb1
 have en1:IsEnum h1 e it k old:=(sb1.2 e ne).trans he
 refine wpAny_bind (m:=field (.ref e) 3) (wpAny_field en1 rfl (x:=rawInt k) rfl ?_)
 refine wpAny_bind (m:=field (.ref e) 4) (wpAny_field en1 rfl (x:=.none) rfl ?_)
 refine wpAny_bind (m:=mkInt k) (wpAny_mkInt ?_)
 refine wpAny_bind (m:=setField (.ref e) 3 (rawInt ((k:Int)+1))) (wpAny_setField_rec en1 (by simp) fun h2 en2 sb2=>?_)
 replace sb2:Heap.SameBut e h1 h2:=sb2
 replace en2:IsEnum h2 e it ((k:Int)+1) old:=en2
 refine wpAny_bind (m:=setField (.ref e) 4 .none) (wpAny_setField_rec en2 (by simp) fun h3 en3 sb3=>?_)
 replace sb3:Heap.SameBut e h2 h3:=sb3
 replace en3:IsEnum h3 e it ((k:Int)+1) old:=en3
 refine wpAny_bind (m:=newTuple [.int k tk,x]) (wpAny_newTuple ?_)
 have en4:IsEnum (h3.push { cls:=.type "tuple",data:=.seq #[.int k tk,x] }) e it ((k:Int)+1) old:=Heap.get?_push_of_some _ en3
 generalize hh4:h3.push { cls:=.type "tuple",data:=.seq #[.int k tk,x] }=h4 at en4
 show wpAny _ A _ _ E ⟨h4,g,d,tk+1,os⟩
 have z3:h3.objs.size=hp.objs.size:=by rw [sb3.1,sb2.1,sb1.1]
 have lte:e<hp.objs.size:=Heap.lt_size he
 have t4:IsPair h4 hp.objs.size (.int k tk) x:=by rw [← hh4,← z3];exact Heap.get?_push_size _ rfl
 have k4:∀ b o,b≠e→b≠it→hp.get? b=some o→h4.get? b=some o:=fun b o n1 n2 q=>by
  rw [← hh4]
  exact Heap.get?_push_of_some _ (sb3.extBut b o n1 (sb2.extBut b o n1 (sb1.extBut b o n2 q)))
 have a4:At h4 it src (k+1) xs:=by
  rw [← hh4]
  exact ((a1.but sb2.extBut (Ne.symm ne) nse).but sb3.extBut (Ne.symm ne) nse).kept (fun o q=>Heap.get?_push_of_some _ q) fun o q=>Heap.get?_push_of_some _ q
 refine wpAny_bind (m:=Builtin.SmallTypes.ownedTupleIsFree (.ref e)) ?_
 rw [z3]
 clear hh4 en3 sb3 en2 sb2 en1 sb1 a1 z3 h3 h2 h1
 unfold Builtin.SmallTypes.ownedTupleIsFree
 refine wpAny_bind (wpAny_field en4 rfl (x:=.none) rfl (wpAny_pure ?_))
 simp only [if_true]
 refine wpAny_bind (wpAny_rule ?_)
 refine wpAny_bind (m:=field (.ref e) 5) (wpAny_field en4 rfl (x:=old) rfl ?_)
 refine wpAny_bind (wpAny_setField_rec en4 (by simp) fun h5 en5 sb5=>?_)
 replace sb5:Heap.SameBut e h4 h5:=sb5
 replace en5:IsEnum h5 e it ((k:Int)+1) x:=en5
 refine wpAny_bind (m:=Builtin.SmallTypes.ownedTupleHandOut (.ref e) (.ref hp.objs.size)) ?_
 unfold Builtin.SmallTypes.ownedTupleHandOut
 refine wpAny_bind (wpAny_setField_rec en5 (by simp) fun h6 en6 sb6=>?_)
 replace sb6:Heap.SameBut e h5 h6:=sb6
 replace en6:IsEnumOut h6 e it ((k:Int)+1) x hp.objs.size:=en6
 refine wpAny_setField_rec en6 (by simp) fun h7 en7 sb7=>?_
 replace sb7:Heap.SameBut e h6 h7:=sb7
 replace en7:IsEnumOut h7 e it ((k:Int)+1) x hp.objs.size:=en7
 have up:∀ b o,b≠e→h4.get? b=some o→h7.get? b=some o:=fun b o n1 q=>sb7.extBut b o n1 (sb6.extBut b o n1 (sb5.extBut b o n1 q))
 refine wpAny_bind (wpAny_letGo (wpAny_pure ⟨_,rfl,hQ h7 en7 (a4.kept (fun o q=>up _ o (Ne.symm ne) q) fun o q=>up _ o nse q) (up _ _ (Nat.ne_of_gt lte) t4) fun b o n1 n2 q=>up b o n1 (k4 b o n1 n2 q)⟩))
theorem aFS {e it src:Addr}{k:Nat}{xs:Array Value}{old:Value}{Q:Option Value→Shared→Prop} (hh:A.handled=none) (he:IsEnum s.heap e it k old) (a:At s.heap it src k xs) (hx:xs[k]? = none)
  (hQ:∀ h',Heap.ExtBut it s.heap h'→Q none { s with heap:=h' }):wpAny (model prog w) A (pyNext (.ref e)) Q E s:=by
 have hT:s.TypeIs (.ref e) "enumerate":=⟨_,he,rfl⟩
 have nx:=F.slot_enumerate_next
 unfold pyNext
 refine wpAny_bind (wpAny_attempt (wpAny_callSpecial?_slot (name:=Str.ofString "__next__") hT nx (wpAny_call_entry nx hT F.entry_enumerate_next ?_ (F.args_enumerate_next_1 _))))
 refine wpAny_bind (m:=field (.ref e) 2) (wpAny_field he rfl (x:=.ref it) rfl ?_)
 refine wpAny_bind (qV hh a hx fun h' x he' hx'=>?_)
 obtain ⟨o,ho,hc⟩:=hx'
 exact wpAny_bind (wpAny_isInstance (T:="StopIteration") (b:=true) ⟨o,ho,hc⟩ isSubtype_stop (wpAny_pure (hQ _ he')))
end
def Ite (K:PySem.W.Frag) (kd:Bool) (l:Addr):It:=
 ⟨fun i H=>∃ xs x,(if kd then jS K H l xs else fY K H l xs)∧xs[i]? = some x,
 fun i H v H'=>∃ t,H t=none∧v = .ref t∧∀ xs,(if kd then jS K H l xs else fY K H l xs)→∃ x,xs[i]? = some x∧H'=upd H t (.tup [.int i,x]),
 fun i H=>∃ xs,(if kd then jS K H l xs else fY K H l xs)∧xs.length≤i⟩
def aEe (kd:Bool) (e it l:Addr) (i:Nat) (h:Heap):Prop:=(∃ old,IsEnum h e it i old)∧vD kd h it l i
theorem aGE {P:Program}{w:World}{K:PySem.W.Frag}{elts:List Expr}{x1:Nat}{pos:Pos} (kd:Bool) (e it l:Addr) (ne:e≠it) (nle:l≠e) (nli:l≠it) :
  aCe P w K (.Tuple elts x1 pos) (Ite K kd l) [e,it] e (aEe kd e it l) where
 mem:=by simp
 obj:=fun i h st b hb=>by
  obtain ⟨⟨old,he⟩,h1⟩:=st
  simp only [List.mem_cons,List.not_mem_nil,or_false] at hb
  rcases hb with rfl | rfl
  ·exact ⟨_,he,fun v q=>by cases (show Data.fields _=Data.cell v from q)⟩
  ·exact h1.obj
 keep:=fun i h h' st k=>by
  obtain ⟨⟨old,he⟩,h1⟩:=st
  exact ⟨⟨old,k e (by simp) _ he⟩,h1.kept fun o q=>k it (by simp) o q⟩
 item:=by
  intro X hP hw hK hc i pins s σ H E I hf st hg
  subst hP hw hK
  obtain ⟨xs,x,hx,ex⟩:=hg
  obtain ⟨⟨old,he⟩,h1⟩:=st
  obtain ⟨its,r1,q1⟩:=I.sqk hx
  obtain ⟨u,eu,ru⟩:=r1.get ex
  have hT:s.TypeIs (.ref e) "enumerate":=⟨_,he,rfl⟩
  have ltT:∀ b o,s.heap.get? b=some o→b≠s.heap.objs.size:=fun b o q=>Nat.ne_of_lt (Heap.lt_size q)
  unfold pyNext
  have nx:=F.slot_enumerate_next
  refine wpAny_bind (wpAny_attempt (wpAny_callSpecial?_slot (name:=Str.ofString "__next__") hT nx (wpAny_call_entry nx hT F.entry_enumerate_next
   (aEP he (h1.at q1) (x:=u) (by simpa using eu) ne nli nle fun h' e' a' t' kp=>wpAny_pure ?_) (F.args_enumerate_next_1 _))))
  refine ⟨.ref s.heap.objs.size,rfl,wpAny_letOwnedTupleGo_enum e' fun h2 e2 sb=>?_⟩
  have up:∀ b o,b≠e→h'.get? b=some o→h2.get? b=some o:=fun b o hb q=>sb.extBut b o hb q
  have kp2:∀ b o,b∉[e,it]→s.heap.get? b=some o→h2.get? b=some o:=fun b o hb q=>by
   simp only [List.mem_cons,List.not_mem_nil,or_false,not_or] at hb
   exact up b o hb.1 (kp b o hb.1 hb.2 q)
  have eT:s.heap.objs.size≠e:=fun q=>ltT e _ he q.symm
  have tT:IsPair h2 s.heap.objs.size (.int i s.toks) u:=up _ _ eT t'
  have q1':sqk kd h' l its.toArray:=by
   cases kd with
   | true=>obtain ⟨o,q,r⟩:=q1;exact ⟨o,kp l o nle nli q,r⟩
   | false=>obtain ⟨o,q,r⟩:=q1;exact ⟨o,kp l o nle nli q,r⟩
  have st':aEe kd e it l (i+1) h2:=⟨⟨u,by simpa using e2⟩,(vD.of a' q1').kept fun o q=>up _ o (Ne.symm ne) q⟩
  have fT:H s.heap.objs.size=none:=I.fresh
  refine ⟨.ref s.heap.objs.size,upd H s.heap.objs.size (.tup [.int i,x]),I.turnedT (t':=s.toks+1) (us:=[.int i s.toks,u]) hf (Nat.le_refl _) kp2 (fun b hb=>?_) (.cons ⟨_,rfl⟩ (.cons ru .nil)) (by show 2≤sizeLine;decide) ⟨_,tT,rfl,_,rfl⟩,rfl,⟨_,fT,rfl,fun xs' hx'=>?_⟩,st',fun b hb=>?_⟩
  ·obtain ⟨⟨o3,e3⟩,i3⟩:=st'
   simp only [List.mem_cons,List.not_mem_nil,or_false] at hb
   rcases hb with rfl | rfl
   ·exact ⟨_,e3⟩
   ·obtain ⟨o,q,_⟩:=i3.obj;exact ⟨o,q⟩
  ·have e1:=I.sq_inj hx' hx
   subst e1
   exact ⟨x,ex,rfl⟩
  ·obtain ⟨o,q⟩:∃ o,s.heap.get? b=some o:=by
    simp only [List.mem_cons,List.not_mem_nil,or_false] at hb
    rcases hb with rfl | rfl
    ·exact ⟨_,he⟩
    ·obtain ⟨o,q,_⟩:=h1.obj;exact ⟨o,q⟩
   rw [aS (ltT b o q)]
   exact (hf b hb).1
 done:=by
  intro X hP hw hK hc i pins s σ H E I hf st hg
  subst hP hw hK
  obtain ⟨xs,hx,hend⟩:=hg
  obtain ⟨⟨old,he⟩,h1⟩:=st
  obtain ⟨its,r1,q1⟩:=I.sqk hx
  have l1:=r1.length
  refine aFS (I.ok.hd hc) he (h1.at q1) (by simp;omega) fun h' kp=>⟨rfl,I.turnedM (t':=s.toks) hf fun b o hb q=>?_⟩
  simp only [List.mem_cons,List.not_mem_nil,or_false,not_or] at hb
  exact kp b o hb.2 q
 self:=fun _ _ _ _ _ st h=>by
  obtain ⟨⟨old,he⟩,_⟩:=st
  exact wpAny_pyIter_enum he h
theorem aH6 (kd:Bool) (l:Addr) (xs:Array Value) :
  Meets (Builtin.«enumerate.__new__» ⟨[.type "enumerate",.ref l],[]⟩) (fun _ R s=>sqk kd s.heap l xs ∧
   R (.ok (.ret (.ref (s.heap.push (dF kd l)).objs.size))) { s with heap:=(s.heap.push (dF kd l)).push { cls:=.type "enumerate",data:=.fields #[.none,.bool false,.ref s.heap.objs.size,rawInt 0,.none,.none] } }):=
 .of_wp fun prog w A R s h=>by
  obtain ⟨hp,g,d,tk,os⟩:=s
  obtain ⟨hl,h⟩:=h
  have hsub:=sub_enumerate
  have hL:sqk kd (Shared.heap ⟨hp,g,d,tk,os⟩) l xs:=hl
  wp_walk using oM hL
  refine wpAny_stack_any fun st=>wpAny_pure ?_
  split
  ·rename_i c _ _ _ _ _
   cases (c == Value.type "enumerate")
   ·wp_walk using oM hL
    exact ⟨_,rfl,h⟩
   ·wp_walk using oM hL
    exact ⟨_,rfl,h⟩
  ·wp_walk using oM hL
   exact ⟨_,rfl,h⟩
theorem aEO {prog:Program}{w:World}{A:Around}{E:Value→Shared→Prop}{s:Shared}{kd:Bool}{l:Addr}{xs:Array Value}{Q:Value→Shared→Prop} (hl:sqk kd s.heap l xs)
  (h:∀ h',aEe kd (s.heap.objs.size+1) s.heap.objs.size l 0 h'→(∀ c o,s.heap.get? c=some o→h'.get? c=some o)→Q (.ref (s.heap.objs.size+1)) { s with heap:=h' }) :
  wpAny (model prog w) A (call (.type "enumerate") [.ref l]) Q E s:=by
 refine callType_new F.called_enumerate (by decide) (F.typeCall_enumerate_1 _) (F.newCall_enumerate_1 _) (fun obj=>F.args_object_init_2 obj _) F.entry_enumerate_new (aH6 kd l xs) ⟨hl,?_⟩
 generalize hh1:s.heap.push (dF kd l)=h1
 have s1:h1.objs.size=s.heap.objs.size+1:=by rw [← hh1,Heap.size_push]
 have g1:h1.get? s.heap.objs.size=some (dF kd l):=by rw [← hh1];exact Heap.get?_push_size _ (by rfl)
 have g5:=Heap.get?_push_size h1 (o:={ cls:=.type "enumerate",data:=.fields #[.none,.bool false,.ref s.heap.objs.size,rawInt 0,.none,.none] }) rfl
 have u01:∀ c o,s.heap.get? c=some o→h1.get? c=some o:=fun c o e=>by rw [← hh1];exact Heap.get?_push_of_some _ e
 rw [s1] at g5
 rw [s1]
 exact ⟨⟨_,g5,rfl⟩,h _ ⟨⟨_,g5⟩,vD.new (Heap.get?_push_of_some _ g1)⟩ fun c o e=>Heap.get?_push_of_some _ (u01 _ _ e)⟩
section
variable {X:Cx}
def aLR (K:PySem.W.Frag) (kd:Bool) (ta:TA):TI:=fun σ H R=>ta σ H fun vs H1=>∃ p xs,vs=[.ref p]∧(if kd then jS K H1 p xs else fY K H1 p xs)∧R (Ite K kd p) H1
theorem aFb {a:Expr}{ta:TA}{p pos pos':Pos}{elts:List Expr}{x1:Nat} (kd:Bool) (hg:Gl X "enumerate") (hm:X.mg "enumerate"=none) (hbt:bootBuiltins "enumerate"=some (.type "enumerate")) (ha:PA X [a] ta) (hs:starEach [a] X.env=[(false,eval a X.env)]:=by rfl) :
  PI X (.Tuple elts x1 pos') (.Call (.Name "enumerate" p) [a] [] pos) (aLR X.K kd ta):=by
 intro pins s σ H R I h
 refine Call_ (oC I hg hm hbt (PyProof.Rows.callWith_type1 (fG (ha pos pins s σ H _ I h) fun us s1 ⟨vs,H1,I1,r1,q1⟩=>?_) (by rw [hs];rfl) (by rfl)))
 obtain ⟨l,xs,e,hx,q⟩:=q1
 subst e
 obtain ⟨u,rfl,r⟩:=tN r1
 cases r
 obtain ⟨its,v1,w1⟩:=I1.sqk hx
 have lt1:l<s1.heap.objs.size:=by
  cases kd with
  | true=>obtain ⟨o,e,_⟩:=w1;exact Heap.lt_size e
  | false=>obtain ⟨o,e,_⟩:=w1;exact Heap.lt_size e
 refine aEO w1 fun h' st kp=>?_
 obtain ⟨⟨old,he⟩,hit⟩:=id st
 refine wpAny_pyIter_enum he ?_
 have I2:bG X pins σ H1 { s1 with heap:=h' }:=I1.kept (t':=s1.toks) kp
 generalize hn:s1.heap.objs.size=n at *
 have lt1':@LT.lt Nat _ l n:=lt1
 refine ⟨n+1,_,_,_,H1,rfl,I2,aGE kd (n+1) n l (fun z=>by have z':@Eq Nat _ _:=z;omega) (fun z=>by have z':@Eq Nat _ _:=z;omega) (fun z=>by have z':@Eq Nat _ _:=z;omega),st,fun b hb=>?_,q⟩
 have hb':n≤b:=by
  simp only [List.mem_cons,List.not_mem_nil,or_false] at hb
  rcases hb with rfl | rfl <;> first | exact Nat.le_refl _ | exact Nat.le_add_right _ _
 exact I1.fpOk (by rw [hn];exact hb') (I1.hok.fresh (by rw [hn];exact hb'))
variable {a b c e:Expr}{es:List Expr}{pos:Pos}{ga gb:GE}
def qQ (ds:List D):List D:=(List.range ds.length).zipWith (fun (k:Nat) d=>D.tup [.int k,d]) ds
theorem qJ (ds:List D) (i:Nat):(qQ ds)[i]? = (ds[i]?).map fun d=>D.tup [.int i,d]:=by
 unfold qQ
 rw [List.getElem?_zipWith]
 by_cases h:i<ds.length
 ·rw [List.getElem?_range h,List.getElem?_eq_getElem h]
  rfl
 ·have h1:ds[i]? = none:=List.getElem?_eq_none_iff.mpr (by omega)
  rw [h1]
  cases (List.range ds.length)[i]? <;> rfl
theorem aBK (ds:List D):(qQ ds).length=ds.length:=by simp [qQ]
def hG (ga:GE):GF:=fun δ Q=>ga δ fun d=>match d with
 | .tup xs=>Q (qQ xs)
 | _=>False
def iZ (ga:GE):GF:=fun δ Q=>ga δ fun d=>match d with
 | .lst xs=>Q (qQ xs)
 | _=>False
theorem aAG {K:PySem.W.Frag}{C1:Hp}{p:Addr}{xs:List V}{ds:List D} (kd:Bool) (hx:if kd then jS K C1 p xs else fY K C1 p xs) (hd:bO K C1 xs ds):aC6 K (Ite K kd p) (qQ ds) C1:=by
 intro C2 H2 c1 c2 i
 have hx2:if kd then jS K H2 p xs else fY K H2 p xs:=by
  cases kd with
  | true=>exact c2.seq (c1.seq hx)
  | false=>exact c2.seqT (c1.seqT hx)
 refine ⟨fun d e=>?_,fun hl=>⟨xs,hx2,by rw [aBK] at hl;rw [hd.length];exact hl⟩⟩
 rw [qJ] at e
 cases e1:ds[i]? with
 | none=>rw [e1] at e;cases e
 | some d1=>
  rw [e1] at e
  cases e
  obtain ⟨v1,ev1,n1⟩:=hd.get e1
  refine ⟨⟨xs,v1,hx2,ev1⟩,fun x H3 y=>?_⟩
  obtain ⟨t,ht,rfl,k⟩:=y
  obtain ⟨u,eu,rfl⟩:=k xs hx2
  rw [ev1] at eu
  cases eu
  refine ⟨upd C2 t (.tup [.int i,v1]),eM.new c2 ht,bM.mpr ⟨t,_,rfl,fY.of bH,?_⟩⟩
  have up:=bY.upd (o:=.tup [.int i,v1]) (c2.free ht)
  exact .cons (aT.mpr rfl) (.cons ((n1.mono c1).mono up) .nil)
theorem yJ {p pos':Pos}{elts:List Expr}{x1:Nat} (hg:Gl X "enumerate") (hm:X.mg "enumerate"=none) (hbt:bootBuiltins "enumerate"=some (.type "enumerate")) (ha:DE X a ga) (hs:starEach [a] X.env=[(false,eval a X.env)]:=by rfl) :
  DI X (.Tuple elts x1 pos') (.Call (.Name "enumerate" p) [a] [] pos) (hG ga):=by
 obtain ⟨t1,p1,h1⟩:=ha
 refine ⟨_,aFb false hg hm hbt (bX p1 dS hs) hs,fun C0 H0 δ σ C H Q R rp g k=>h1 C0 H0 δ σ C H _ _ rp g fun d v C1 H1 q e1 n1=>?_⟩
 cases d with
 | tup ds=>
  obtain ⟨p,xs,rfl,hx,hd⟩:=bM.mp n1
  exact ⟨p,xs,rfl,e1.ch.seqT hx,k _ _ C1 H1 q e1 (aAG false hx hd)⟩
 | _=>exact q.elim
theorem aIL {p pos':Pos}{elts:List Expr}{x1:Nat} (hg:Gl X "enumerate") (hm:X.mg "enumerate"=none) (hbt:bootBuiltins "enumerate"=some (.type "enumerate")) (ha:DE X a ga) (hs:starEach [a] X.env=[(false,eval a X.env)]:=by rfl) :
  DI X (.Tuple elts x1 pos') (.Call (.Name "enumerate" p) [a] [] pos) (iZ ga):=by
 obtain ⟨t1,p1,h1⟩:=ha
 refine ⟨_,aFb true hg hm hbt (bX p1 dS hs) hs,fun C0 H0 δ σ C H Q R rp g k=>h1 C0 H0 δ σ C H _ _ rp g fun d v C1 H1 q e1 n1=>?_⟩
 cases d with
 | lst ds=>
  obtain ⟨p,xs,rfl,hx,hd⟩:=bV.mp n1
  exact ⟨p,xs,rfl,e1.ch.seq hx,k _ _ C1 H1 q e1 (aAG true hx hd)⟩
 | _=>exact q.elim
end
theorem l9:bootBuiltins "enumerate"=some (.type "enumerate"):=by decide +kernel
end L2
namespace L2
open PySem PySem.Spec PyProof.Rows
section
variable {prog:Program}{w:World}{A:Around}
end
section
variable {X:Cx}
def tR:List D→(D→Prop)→Prop:=fun ds Q=>match ds with
 | [.bl b]=>Q (.int (if b then 1 else 0))
 | [.int i]=>Q (.int i)
 | _=>False
variable {a b c e:Expr}{es:List Expr}{pos:Pos}{ga gb gc:GE}{gf:GF}
def aHY (gf:GF) (gb:GE):GF:=fun δ Q=>gf δ fun ds=>gb δ fun k=>match k with
 | .int k=>(-(2 ^ 63)≤k∧k<2 ^ 63∧ds.length * k.toNat≤sizeLine)∧Q (List.replicate k.toNat ds).flatten
 | _=>False
theorem aLw (ha:DF X a gf) (hb:DE X b gb):DF X (.BinOp a .Mult b pos) (aHY gf gb):=by
 obtain ⟨t1,p1,h1⟩:=ha
 obtain ⟨t2,p2,h2⟩:=hb
 refine ⟨_,aIo aKs p1 p2,fun C0 H0 δ σ C H Q R rp g k=>?_⟩
 refine h1 C0 H0 δ σ C H _ _ rp g fun ds p xs C1 H1 q e1 hc hn hl hd=>h2 C0 H0 δ σ C1 H1 _ _ (rp.grow e1) q fun d2 v2 C2 H2 q2 e2 n2=>?_
 cases d2 with
 | int j=>
  obtain ⟨⟨c1,c2,c3⟩,q2⟩:=q2
  rw [aT.mp n2]
  have e12:=e1.trans e2
  exact ⟨p,j,xs,rfl,rfl,e2.hh _ _ hl,c1,c2,by rw [hd.length];exact c3,fun l hl2=>k _ l _ C2 _ q2 (e12.trans (eM.newO e2.ch hl2)) (e2.ch.free hl2) (e12.hh.free hl2) bH ((hd.mono e2.cc).rep _)⟩
 | _=>exact q2.elim
def aKc (ga:GE) (gl gh:GP):GF:=fun δ Q=>ga δ fun d=>gl δ fun lo=>gh δ fun hi=>match d with
 | .lst ds=>Q (aAs ds lo hi)
 | _=>False
theorem aHa {lo hi:Option Expr}{gl gh:GP}{p2:Pos} (ha:DE X a ga) (hl:DO X lo gl) (hh:DO X hi gh):DF X (.Subscript a (.Slice lo hi none p2) pos) (aKc ga gl gh):=by
 obtain ⟨t1,p1,h1⟩:=ha
 obtain ⟨t2,p2',h2⟩:=hl
 obtain ⟨t3,p3,h3⟩:=hh
 refine ⟨_,aH1 aI3 p1 p2' p3,fun C0 H0 δ σ C H Q R rp g k=>?_⟩
 refine h1 C0 H0 δ σ C H _ _ rp g fun d v C1 H1 q e1 n1=>h2 C0 H0 δ σ C1 H1 _ _ (rp.grow e1) q fun o C2 H2 q2 e2=>h3 C0 H0 δ σ C2 H2 _ _ ((rp.grow e1).grow e2) q2 fun o2 C3 H3 q3 e3=>?_
 have n1':=(n1.mono e2.cc).mono e3.cc
 have e123:=e1.trans (e2.trans e3)
 cases d with
 | lst ds=>
  obtain ⟨p,xs,rfl,hx,hd⟩:=bV.mp n1'
  exact ⟨p,xs,rfl,e3.ch.seq hx,fun p' hp=>k _ p' _ C3 _ q3 (e123.trans (eM.newO e3.ch hp)) (e3.ch.free hp) (e123.hh.free hp) bH (aHW hd)⟩
 | _=>exact q3.elim
def uO (i j:Nat) (ga gb:GE):GS:=fun De δ=>ga δ fun x=>gb δ fun y=>De.nx ((δ.set i (.im x)).set j (.im y))
theorem bO.dropLast {K:PySem.W.Frag}{C:Hp}:∀ {vs:List V}{ds:List D},bO K C vs ds→bO K C vs.dropLast ds.dropLast:=fun {vs ds} h=>by
 rw [List.dropLast_eq_take,List.dropLast_eq_take,h.length]
 exact h.take _
def aJi (j i:Nat):GS:=fun De δ=>match δ[i]? with
 | some (.ow ds)=>match ds[ds.length-1]? with
  | some d=>De.nx ((δ.set i (.ow ds.dropLast)).set j (.im d))
  | none=>False
 | _=>False
theorem aKK {i j:Nat}{o tg:Expr}{nm:Str}{p2 p3:Pos} (hp:PS X (.Assign [tg] (.Call (.Attribute o nm p2) [] [] p3) pos) (aAq (aLZ X.K "list" aMb (wP i)) (pS j))):DSt X (.Assign [tg] (.Call (.Attribute o nm p2) [] [] p3) pos) (aJi j i):=by
 refine ⟨_,hp,fun C0 H0 δ σ C H De E rp g k=>?_⟩
 unfold aJi at g
 split at g
 ·rename_i ds eo
  split at g
  ·rename_i d ed
   obtain ⟨l,xs,a,b,c,dl,f⟩:=rp.ow i ds eo
   obtain ⟨v,ev,nv⟩:=f.get ed
   have hlen:=f.length
   refine ⟨.ref l,a,.inl ⟨rfl,xs,jS.of dl⟩,l,xs,v,rfl,rfl,dl,by rw [hlen];exact ev,?_⟩
   exact k.nx _ _ C _ ((rp.change eo a f.dropLast).setI nv) g
  ·exact g.elim
 ·exact g.elim
end
section
variable {X:Cx}{a b c e:Expr}{es:List Expr}{pos:Pos}{ga gb gc:GE}{gf:GF}{ta:TE}
theorem aJu (ha:PE X a ta):PE X (.UnaryOp .Not a pos) (fun σ H Q=>ta σ H fun x H'=>∃ k,aKu X.K x H' k∧Q (.bl (!k)) H'):=by
 intro pins s σ H Q I h
 refine UnaryOp_ (fG (ha pins s σ H _ I h) fun v s1 ⟨x,H1,I1,r1,q1⟩=>?_)
 exact not_of (fG (aIv pins s1 σ H1 x v (fun k H'=>Q (.bl (!k)) H') I1 r1 q1) fun k s2 ⟨H2,I2,q2⟩=>⟨.bl (!k),H2,I2,rfl,q2⟩)
def sQ (d:D) (Q:Bool→Prop):Prop:=match d with
 | .bl b=>Q b
 | .int i=>Q (i != 0)
 | .non=>Q false
 | .str x=>x.length≤sizeLine∧Q ((x.length:Int) != 0)
 | .tup ds=>Q (!ds.isEmpty)
 | .lst ds=>Q (!ds.isEmpty)
def l6 (ga:GE):GE:=fun δ Q=>ga δ fun d=>sQ d fun k=>Q (.bl (!k))
theorem aJd (ha:DE X a ga):DE X (.UnaryOp .Not a pos) (l6 ga):=by
 obtain ⟨t1,p1,h1⟩:=ha
 refine ⟨_,aJu p1,fun C0 H0 δ σ C H Q R rp g k=>h1 C0 H0 δ σ C H _ _ rp g fun d v C1 H1 q e1 n1=>?_⟩
 have fin:∀ b:Bool,Q (.bl (!b))→R (.bl (!b)) H1:=fun b q=>k _ _ C1 H1 q e1 (c6.mpr rfl)
 cases d with
 | bl b=>rw [c6.mp n1];exact ⟨b,rfl,fin _ q⟩
 | int i=>rw [aT.mp n1];exact ⟨_,rfl,fin _ q⟩
 | non=>rw [eD.mp n1];exact ⟨_,rfl,fin _ q⟩
 | str i=>rw [fZ.mp n1];exact ⟨_,⟨q.1,rfl⟩,fin _ q.2⟩
 | tup ds=>
  obtain ⟨p,xs,rfl,hx,hd⟩:=bM.mp n1
  refine ⟨_,.inr (.inl ⟨xs,e1.ch.seqT hx,rfl⟩),fin _ ?_⟩
  rw [pD hd];exact q
 | lst ds=>
  obtain ⟨p,xs,rfl,hx,hd⟩:=bV.mp n1
  refine ⟨_,.inl ⟨xs,e1.ch.seq hx,rfl⟩,fin _ ?_⟩
  rw [pD hd];exact q
end
section
variable {prog:Program}{w:World}{A:Around}{R:Result→Shared→Prop}
end
namespace HG
section
open PySem.SeqAt
open PySem.AutoSeq1 (wpAny_loadPart')
open PySem.MeetsSeq PySem.MeetsSeq2 PySem.MeetsSeq3
end
end HG
section
variable {X:Cx}
end
end L2
namespace L2
open PySem PySem.Spec PyProof.Rows
section
variable {P:Program}{w:World}{outer:List Env}{H H':Hp}{s:Shared}{B h' h'':Heap}{a:Addr}{cls a0:Value}
end
section
variable {P:Program}{w:World}{K:PySem.W.Frag}{mg:Str→Option Value}{base:Heap}{N:List Str}{qual:Str}{scope:Scope}{f:Addr}{cd:Value}{A:Around}{outer:List Env}{s:Shared}{H:Hp}{E E':XK}
end
section
variable {X:Cx}{EE:XK}{a b c e tg iter:Expr}{st:Stmt}{sts s2:List Stmt}{es:List Expr}{pos:Pos}{ge:GE}{gi gf:GF}{gt:GT}{gg:GG}{g1 g2:GX}{gx:GEX}{ss:List Nat}
end
section
variable {X:Cx}{pins pins' pn:List (Addr×Obj)}{xe:Value→Shared→Prop}{σ:St}{H:Hp}{s:Shared}{e:Value}
end
section
variable {X:Cx}{EE:XK}{body suite:List Stmt}{b₀:Stmt}{x:Str}{cl:Value}{np hpos pos:Pos}{tb ts:TS}
end
end L2
namespace L2
open PySem PySem.Spec PyProof.Rows PySem.W
open Builtin Builtin.ObjectAttr Builtin.Getset_descriptor
section
variable {prog:Program}{w:World}{A:Around}{E:Value→Shared→Prop}{K:Frag}{x C:Addr}{R:Result→Shared→Prop}{hh:Heap}{g:Array GenState}{dr:Drawn}{t:Nat}{os:OsState}{o:Obj}
end
end L2
namespace L2
open PySem PySem.Spec PyProof.Rows
section
variable {X:Cx}{pins:List (Addr×Obj)}{σ:St}{H:Hp}{s:Shared}
end
section
variable {X:Cx}{a:Addr}{oe:Obj}{C:Addr}{i:Nat}{n y:Str}{vy:V}{b:Bool}{p p1 p2 pos:Pos}
end
section
variable {X:Cx}{EE:XK}{body suite:List Stmt}{b₀:Stmt}{x n:Str}{i:Nat}{cl:Value}{np hpos pos:Pos}{tb:TS}{ts:Addr→Value→TS}
end
mutual
def noL:D→Bool
 | .lst _=>false
 | .tup ds=>aAC ds
 | _=>true
def aAC:List D→Bool
 | []=>true
 | d::ds=>noL d && aAC ds
end
def aDA (C:Hp) (l:Addr):Hp:=fun b=>if b=l then none else C b
theorem pO {C:Hp}{l b:Addr} (h:b≠l):aDA C l b=C b:=by unfold aDA;rw [if_neg h]
theorem rN {C:Hp}{l:Addr}:aDA C l l=none:=by unfold aDA;rw [if_pos rfl]
theorem aJe {K:PySem.W.Frag}{C:Hp}{l a:Addr}{ys:List V}{xs:List V} (hl:C l=some (.lst ys)) (h:fY K C a xs):fY K (aDA C l) a xs:=by
 rcases h with (h | ⟨o,h⟩) | h
 ·refine .inl (.inl ?_)
  rw [pO (fun z=>by rw [z,hl] at h;cases h)]
  exact h
 ·refine .inl (.inr ⟨o,?_⟩)
  rw [pO (fun z=>by rw [z,hl] at h;cases h)]
  exact h
 ·exact .inr h
mutual
theorem i5.cut {K:PySem.W.Frag}{C:Hp}{l:Addr}{ys:List V} (hl:C l=some (.lst ys)):∀ {v:V} (d:D),noL d=true→i5 K C v d→i5 K (aDA C l) v d
 | v,.int i,_,h=>aT.mpr (aT.mp h)
 | v,.bl i,_,h=>c6.mpr (c6.mp h)
 | v,.non,_,h=>eD.mpr (eD.mp h)
 | v,.str i,_,h=>fZ.mpr (fZ.mp h)
 | v,.tup ds,hn,h=>by
  obtain ⟨a,xs,r,q,t⟩:=bM.mp h
  exact bM.mpr ⟨a,xs,r,aJe hl q,bO.cut hl ds (by simpa [noL] using hn) t⟩
 | v,.lst ds,hn,h=>by cases hn
theorem bO.cut {K:PySem.W.Frag}{C:Hp}{l:Addr}{ys:List V} (hl:C l=some (.lst ys)):∀ {vs:List V} (ds:List D),aAC ds=true→bO K C vs ds→bO K (aDA C l) vs ds
 | vs,[],_,h=>gD.mpr (gD.mp h)
 | vs,d::ds,hn,h=>by
  obtain ⟨x,xs,r,q,t⟩:=dA.mp h
  rw [aAC,Bool.and_eq_true] at hn
  exact dA.mpr ⟨x,xs,r,i5.cut hl d hn.1 q,bO.cut hl ds hn.2 t⟩
end
theorem qY (ns:List Int):aAC (ns.map D.int)=true:=by
 induction ns with
 | nil=>rfl
 | cons n ns ih=>rw [List.map_cons,aAC,ih];rfl
theorem eM.cut {C H C1 H1:Hp}{l:Addr}{xs:List V} (hc:C l=none) (e:eM (upd C l (.lst xs)) H C1 H1):eM C H (aDA C1 l) H1∧C1 l=some (.lst xs):=by
 have hl:C1 l=some (.lst xs):=e.cc l _ bH
 refine ⟨⟨e.hh,fun b u q=>?_,fun b u q=>?_,fun b q n=>?_⟩,hl⟩
 ·have hb:b≠l:=fun z=>by rw [z,hc] at q;cases q
  rw [pO hb]
  exact e.cc b u (by rw [aS hb];exact q)
 ·by_cases hb:b=l
  ·rw [hb,rN] at q;cases q
  ·rw [pO hb] at q;exact e.ch b u q
 ·by_cases hb:b=l
  ·rw [hb];exact rN
  ·rw [pO hb]
   exact e.ow b (by rw [aS hb];exact q) n
theorem gI.view {K:PySem.W.Frag}{C0 H0 C H:Hp}{δ:DS}{σ:St} (R:gI K C0 H0 δ σ C H) {i:Nat}{ds:List D} (h:δ[i]? = some (.ow ds)):∃ l xs,C l=none∧gI K C0 H0 (δ.set i (.im (.lst ds))) σ (upd C l (.lst xs)) H:=by
 obtain ⟨l,xs,a,b,c,d,f⟩:=R.ow i ds h
 have hl:i<δ.length:=(List.getElem?_eq_some_iff.mp h).1
 have up:bY C (upd C l (.lst xs)):=bY.upd b
 have ch:bY (upd C l (.lst xs)) H:=fun z u e=>by
  by_cases hz:z=l
  ·subst hz;rw [bH] at e;cases e;exact d
  ·rw [aS hz] at e;exact R.ch z u e
 refine ⟨l,xs,b,by simp [R.len],⟨R.ext.hh,R.ext.cc.trans up,ch,fun z e n=>?_⟩,fun j e h'=>?_,fun j es h'=>?_,fun j k es fs m hjk h1 h2 h3=>?_,(R.dc.frzL b d).set1 rfl⟩
 ·rw [aS (fun q=>n (by rw [q];exact c))]
  exact R.ext.ow z e n
 ·rcases aR h' with ⟨rfl,e1,hl'⟩ | ⟨hj,h'⟩
  ·cases e1
   exact ⟨.ref l,a,bV.mpr ⟨l,xs,rfl,jS.of bH,f.mono up⟩⟩
  ·obtain ⟨u,a',b'⟩:=R.im j e h'
   exact ⟨u,a',b'.mono up⟩
 ·rcases aR h' with ⟨_,e1,_⟩ | ⟨hj,h'⟩
  ·cases e1
  ·obtain ⟨m,ys,a',b',c',d',f'⟩:=R.ow j es h'
   refine ⟨m,ys,a',?_,c',d',f'.mono up⟩
   rw [aS]
   ·exact b'
   ·intro z
    subst z
    exact R.ap i j ds es m (Ne.symm hj) h h' a a'
 ·rcases aR h1 with ⟨_,e1,_⟩ | ⟨hj,h1⟩
  ·cases e1
  ·rcases aR h2 with ⟨_,e1,_⟩ | ⟨hk,h2⟩
   ·cases e1
   ·exact R.ap j k es fs m hjk h1 h2 h3
section
variable {X:Cx}{e:Expr}{ge:GE}{gt:GT}{gf:GF}
def jZ (i:Nat) (ge:GE):GE:=fun δ Q=>match δ[i]? with
 | some (.ow ds)=>ge (δ.set i (.im (.lst ds))) fun d=>noL d=true∧Q d
 | _=>False
theorem xN (i:Nat) (h:DE X e ge):DE X e (jZ i ge):=by
 obtain ⟨t,p,h⟩:=h
 refine ⟨t,p,fun C0 H0 δ σ C H Q R rp g k=>?_⟩
 unfold jZ at g
 split at g
 ·rename_i ds eo
  obtain ⟨l,xs,hc,rp'⟩:=rp.view eo
  refine h C0 H0 _ σ _ H _ R rp' g fun d v C1 H1 q e1 n1=>?_
  obtain ⟨e2,hl⟩:=e1.cut hc
  exact k d v _ H1 q.2 e2 (n1.cut hl d q.1)
 ·exact g.elim
def fS (i:Nat) (gt:GT):GT:=fun δ Q=>match δ[i]? with
 | some (.ow ds)=>gt (δ.set i (.im (.lst ds))) Q
 | _=>False
theorem tY (i:Nat) (h:DT X e gt):DT X e (fS i gt):=by
 obtain ⟨t,p,h⟩:=h
 refine ⟨t,p,fun C0 H0 δ σ C H Q R rp g k=>?_⟩
 unfold fS at g
 split at g
 ·rename_i ds eo
  obtain ⟨l,xs,hc,rp'⟩:=rp.view eo
  refine h C0 H0 _ σ _ H _ R rp' g fun b C1 H1 q e1=>?_
  obtain ⟨e2,hl⟩:=e1.cut hc
  exact k b _ H1 q e2
 ·exact g.elim
def fU (i:Nat) (gf:GF):GF:=fun δ Q=>match δ[i]? with
 | some (.ow ds)=>gf (δ.set i (.im (.lst ds))) fun es=>aAC es=true∧Q es
 | _=>False
theorem aE9 (i:Nat) (h:DF X e gf):DF X e (fU i gf):=by
 obtain ⟨t,p,h⟩:=h
 refine ⟨t,p,fun C0 H0 δ σ C H Q R rp g k=>?_⟩
 unfold fU at g
 split at g
 ·rename_i ds eo
  obtain ⟨l,xs,hc,rp'⟩:=rp.view eo
  refine h C0 H0 _ σ _ H _ R rp' g fun es p ys C1 H1 q e1 hp hn hl hd=>?_
  obtain ⟨e2,hl2⟩:=e1.cut hc
  refine k es p ys _ H1 q.2 e2 ?_ hn hl (hd.cut hl2 es q.1)
  by_cases hz:p=l
  ·rw [hz];exact rN
  ·rw [pO hz];exact hp
 ·exact g.elim
end
def DAF (X:Cx) (st:Stmt) (i:Nat) (gf:GF):Prop:=∃ t,PS X st (aAq t (pS i))∧∀ C0 H0 δ σ C H (Q:List D→Prop) (R:VK),gI X.K C0 H0 δ σ C H→gf δ Q →
 (∀ ds p xs C1 H1,Q ds→eM C H C1 H1→C1 p=none→H p=none→H1 p=some (.lst xs)→bO X.K C1 xs ds→R (.ref p) H1)→t σ H R
section
variable {X:Cx}{st:Stmt}{i:Nat}{gf:GF}{tg iter elt:Expr}{pos:Pos}{ge:GE}{gi:GF}{gt:GT}{gg:GG}{scope:Scope}{Nc:List Str}{fr:List (Option Nat)}{ss:List Nat}
theorem aKz (h:DAF X st i gf):DSt X st (dN i gf):=by
 obtain ⟨t,p,h⟩:=h
 refine ⟨_,p,fun C0 H0 δ σ C H De E rp g k=>h C0 H0 δ σ C H _ _ rp g fun ds p xs C1 H1 q e1 hc hn hl hd=>?_⟩
 have rp1:=rp.grow e1
 refine k.nx _ _ C1 H1 (rp1.setO (rp.ext.hh.free hn) hc (fun j es hj ho z=>?_) hl hd) q
 obtain ⟨l,ys,a,_,_,d,_⟩:=rp.ow j es ho
 rw [z] at a
 cases a
 rw [hn] at d
 cases d
theorem aHO (k:Nat) (h:DAF X st i gf):DAF X st i (fU k gf):=by
 obtain ⟨t,p,h⟩:=h
 refine ⟨t,p,fun C0 H0 δ σ C H Q R rp g k=>?_⟩
 unfold fU at g
 split at g
 ·rename_i ds eo
  obtain ⟨l,xs,hc,rp'⟩:=rp.view eo
  refine h C0 H0 _ σ _ H _ R rp' g fun es p ys C1 H1 q e1 hp hn hl hd=>?_
  obtain ⟨e2,hl2⟩:=e1.cut hc
  refine k es p ys _ H1 q.2 e2 ?_ hn hl (hd.cut hl2 es q.1)
  by_cases hz:p=l
  ·rw [hz];exact rN
  ·rw [pO hz];exact hp
 ·exact g.elim
theorem aEM {x:Str}{ifs:List Expr}{pos' pos'':Pos} (ok:oE X.env.scope scope X.N Nc fr=true) (fo:aBP fr ss=true) (hc:X.calm=true) (hN:X.N.Nodup) (hi:X.N[i]? = some x) (hx:Loc X.env.scope x) (hit:DI X tg iter gi) (hg:∀ Cc pins fp s3 H3,DG (w6 X scope Nc Cc pins fp s3 H3) tg ss gg)
  (ht:∀ Cc pins fp s3 H3,aGf (w6 X scope Nc Cc pins fp s3 H3) ifs gt) (he:∀ Cc pins fp s3 H3,DE (w6 X scope Nc Cc pins fp s3 H3) elt ge) (hsw:swapsWith (.ListComp elt [⟨tg,iter,ifs,0⟩] scope pos) (some (.Name x pos')) pos''.line X.env=pure true)
  (hs:∀ x,foldedSetIterable iter X.env x=pure x:=by intro _;rfl) (hf:X.fn x=true∨X.env.scope.names.lookup x=some .local:=by first | exact .inl rfl | exact .inr rfl | assumption) :
  DAF X (.Assign [.Name x pos'] (.ListComp elt [⟨tg,iter,ifs,0⟩] scope pos) pos'') i (pG fr gi gg gt ge):=by
 obtain ⟨wi,pi,h⟩:=aBi (ifs:=ifs) (gg:=gg) (gt:=gt) (ge:=ge) hit fo
 exact ⟨_,aFF ok hc hN hi hx pi (fun a b c d e=>(hg a b c d e).can) (fun a b c d e=>(ht a b c d e).can) (fun a b c d e=>(he a b c d e).can) hsw hs hf,h⟩
end
def tU:D→Option (List Int)
 | .tup ds=>cX ds
 | _=>none
def y3:List D→Option (List (List Int))
 | []=>some []
 | d::ds=>match tU d,y3 ds with
  | some r,some rs=>some (r::rs)
  | _,_=>none
def zK:D→Option (List Int×List (List Int))
 | .tup [a,.tup ps]=>match tU a,y3 ps with
  | some ns,some pay=>some (ns,pay)
  | _,_=>none
 | _=>none
theorem l7 (r:List Int):tU (aF r)=some r:=cP r
theorem o5 {d:D}{r:List Int} (h:tU d=some r):d=aF r:=by
 unfold tU at h
 split at h
 ·rw [fF h]
 ·cases h
theorem yR:∀ rs:List (List Int),y3 (rs.map aF)=some rs
 | []=>rfl
 | r::rs=>by rw [List.map_cons,y3,l7,yR rs]
theorem yI:∀ {ds:List D}{rs:List (List Int)},y3 ds=some rs→ds=rs.map aF
 | [],rs,h=>by cases h;rfl
 | d::ds,rs,h=>by
  unfold y3 at h
  split at h
  ·rename_i r rs' e1 e2
   cases h
   rw [o5 e1,yI e2]
   rfl
  ·cases h
theorem aFW (ns:List Int) (pay:List (List Int)):zK (fD ns pay)=some (ns,pay):=by
 unfold fD zK
 simp only [l7,yR]
theorem aFN {d:D}{ns:List Int}{pay:List (List Int)} (h:zK d=some (ns,pay)):d=fD ns pay:=by
 unfold zK at h
 split at h
 ·split at h
  ·rename_i e1 e2
   cases h
   rw [o5 e1,yI e2]
  ·cases h
 ·cases h
open Classical in
noncomputable def hC (m:D) (f:List Int→List (List Int)→Option D):Option D:=match zK m with
 | some (ns,pay)=>if gN ns pay then f ns pay else none
 | none=>none
def aA2 (ns:List Int) (d:D) (f:List Int→Option D):Option D:=match tU d with
 | some r=>if r∈aL ns then f r else none
 | none=>none
def sK (n:Nat) (d:D) (f:Nat→Option D):Option D:=match d with
 | .int h=>if 0≤h∧h<n then f h.toNat else none
 | _=>none
theorem kO {ns:List Int}{pay:List (List Int)}{f:List Int→List (List Int)→Option D} (h:gN ns pay):hC (fD ns pay) f=f ns pay:=by
 unfold hC
 rw [aFW]
 exact if_pos h
theorem kN {m d:D}{f:List Int→List (List Int)→Option D} (h:hC m f=some d):∃ ns pay,m=fD ns pay∧gN ns pay∧f ns pay=some d:=by
 unfold hC at h
 split at h
 ·rename_i ns pay e
  split at h
  ·rename_i ho
   exact ⟨ns,pay,aFN e,ho,h⟩
  ·cases h
 ·cases h
theorem aCV {ns r:List Int}{f:List Int→Option D} (h:r∈aL ns):aA2 ns (aF r) f=f r:=by
 unfold aA2
 rw [l7]
 exact if_pos h
theorem aDQ {ns:List Int}{m d:D}{f:List Int→Option D} (h:aA2 ns m f=some d):∃ r,m=aF r∧r∈aL ns∧f r=some d:=by
 unfold aA2 at h
 split at h
 ·rename_i r e
  split at h
  ·rename_i ho
   exact ⟨r,o5 e,ho,h⟩
  ·cases h
 ·cases h
theorem rJ {n h:Nat}{f:Nat→Option D} (hh:h<n):sK n (.int h) f=f h:=by
 show (if (0:Int)≤(h:Int)∧(h:Int)<n then f (h:Int).toNat else none)=f h
 rw [if_pos ⟨by omega,by omega⟩]
 rfl
theorem rC {n:Nat}{m d:D}{f:Nat→Option D} (h:sK n m f=some d):∃ k:Nat,m = .int k∧k<n∧f k=some d:=by
 unfold sK at h
 split at h
 ·rename_i i
  split at h
  ·rename_i ho
   exact ⟨i.toNat,by rw [Int.toNat_of_nonneg ho.1],by omega,h⟩
  ·cases h
 ·cases h
def rZ (ns:List Int) (pay:List (List Int)) (r:List Int):List Int:=pay.getD ((aL ns).idxOf r) []
def m8 (ns:List Int) (pay:List (List Int)) (r:List Int) (h:Nat):Int:=(rZ ns pay r).getD h 0
noncomputable def p5:List D→Option D
 | [m,r]=>hC m fun ns pay=>aA2 ns r fun r=>some (aF (rZ ns pay r))
 | _=>none
theorem zX:∀ (ms:List Int) (r:List Int),yX ms.reverse r→r∈aL ms.reverse
 | [],r,h=>by
  have:r=[]:=List.eq_nil_of_length_eq_zero h.1
  subst this
  simp [aL]
 | m::ms,r,h=>by
  rw [List.reverse_cons] at h ⊢
  rw [mR]
  have hl:r.length=ms.reverse.length+1:=by rw [h.1,List.length_append];rfl
  have hne:r≠[]:=fun z=>by rw [z] at hl;simp at hl
  have er:=(List.dropLast_concat_getLast hne).symm
  generalize hx:r.getLast hne=x at er
  generalize hd:r.dropLast=r0 at er
  have hl0:r0.length=ms.reverse.length:=by rw [er,List.length_append] at hl;simpa using hl
  subst er
  have h0:yX ms.reverse r0:=⟨hl0,fun i y n e1 e2=>h.2 i y n (by rw [List.getElem?_append_left ((List.getElem?_eq_some_iff.mp e1).1)];exact e1) (by rw [List.getElem?_append_left ((List.getElem?_eq_some_iff.mp e2).1)];exact e2)⟩
  have hk:=h.2 r0.length x m (by simp) (by rw [hl0];simp)
  unfold cS
  refine List.mem_flatMap.mpr ⟨r0,zX ms r0 h0,List.mem_map.mpr ⟨x.toNat,List.mem_range.mpr (by omega),?_⟩⟩
  rw [Int.toNat_of_nonneg hk.1]
theorem aIl {ns r:List Int} (h:yX ns r):r∈aL ns:=by
 have:=zX ns.reverse r (by rw [List.reverse_reverse];exact h)
 rwa [List.reverse_reverse] at this
theorem pK {ns r:List Int} (h:r∈aL ns):r.length=ns.length:=(qE h).1
theorem aFt {ns r:List Int} (h:r∈aL ns) {i:Nat}{k:Int} (h0:0≤k) (h1:k<ns.getD i 0):r.set i k∈aL ns:=by
 have q:=qE h
 refine aIl ⟨by rw [List.length_set];exact q.1,fun j x n e1 e2=>?_⟩
 rcases aR e1 with ⟨rfl,e3,hl⟩ | ⟨hj,e3⟩
 ·subst e3
  rw [List.getD_eq_getElem?_getD,e2] at h1
  exact ⟨h0,h1⟩
 ·exact q.2 j x n e3 e2
theorem aBZ (i j:Int):j7 (.int i) (.int j)=some (i == j):=by unfold j7;rfl
theorem aAK:∀ (a b:List Int),mD (a.map D.int) (b.map D.int)=some ((a.zip b).all fun p=>p.1 == p.2)
 | [],_=>by unfold mD;rfl
 | _::_,[]=>by unfold mD;rfl
 | x::a,y::b=>by
  rw [List.map_cons,List.map_cons,mD,aBZ,aAK a b]
  rfl
theorem aA7:∀ (a b:List Int),(((a.zip b).all fun p=>p.1 == p.2) && a.length == b.length)=(a == b)
 | [],[]=>rfl
 | [],_::_=>rfl
 | _::_,[]=>rfl
 | x::a,y::b=>by
  have:=aA7 a b
  rw [List.zip_cons_cons,List.all_cons,List.length_cons,List.length_cons,List.cons_beq_cons,← this,Bool.and_assoc]
  congr 2
  simp
theorem rQ (a b:List Int):j7 (aF a) (aF b)=some (a == b):=by
 unfold aF j7
 rw [aAK,List.length_map,List.length_map,Option.map_some,aA7]
theorem aAP (k:Int):∀ rs:List Int,vT (.int k) (rs.map D.int)=some (rs.map fun x=>x == k)
 | []=>rfl
 | x::rs=>by
  rw [List.map_cons,vT,aBZ,aAP k rs]
  rfl
theorem rB:∀ ns:List Int,iV (ns.map D.int)=0
 | []=>by unfold iV;rfl
 | n::ns=>by
  rw [List.map_cons,iV,rB ns]
  unfold l5
  rfl
theorem kM (r:List Int):l5 (aF r)=1:=by
 unfold aF l5
 rw [rB]
theorem aAV:∀ rs:List (List Int),iV (rs.map aF)≤1
 | []=>by rw [List.map_nil,iV];omega
 | r::rs=>by
  rw [List.map_cons,iV,kM]
  have:=aAV rs
  omega
theorem b6 {α:Type}{l:List α}{i:Nat} (h:i<l.length) (d:α):l.getD i d=l[i]:=by
 rw [List.getD_eq_getElem?_getD,List.getElem?_eq_getElem h,Option.getD_some]
theorem aB2 {l:List D}{i:Nat} (h:i<l.length):gT l (i:Int)=some l[i]:=by
 simp [gT,ixN,h]
theorem oV {l:List Int}{i:Nat} (h:i<l.length):gT (l.map D.int) (i:Int)=some (.int (l.getD i 0)):=by
 rw [aB2 (by rw [List.length_map];exact h),List.getElem_map,b6 h]
theorem aIu {l:List (List Int)}{i:Nat} (h:i<l.length):gT (l.map aF) (i:Int)=some (aF (l.getD i [])):=by
 rw [aB2 (by rw [List.length_map];exact h),List.getElem_map,b6 h]
section
variable {ns:List Int}{pay:List (List Int)}{r:List Int}{h:Nat}
theorem aDv (ho:gN ns pay) (hr:r∈aL ns):(aL ns).idxOf r<pay.length:=by
 rw [ho.many]
 exact List.idxOf_lt_length_of_mem hr
theorem aC4 (ho:gN ns pay) (hr:r∈aL ns):(rZ ns pay r).length=ns.length∧∀ x∈rZ ns pay r, -9≤x∧x≤9:=by
 unfold rZ
 rw [b6 (aDv ho hr)]
 exact ho.rows _ (List.getElem_mem _)
end
def Bd (k:Nat) (i:Int):Prop:=i.natAbs<2 ^ k
theorem Bd.mono {a b:Nat}{i:Int} (h:Bd a i) (hab:a≤b):Bd b i:=Nat.lt_of_lt_of_le h (Nat.pow_le_pow_right (by decide) hab)
theorem Bd.mul {a b:Nat}{i j:Int} (h1:Bd a i) (h2:Bd b j):Bd (a+b) (i * j):=by
 unfold Bd at *
 rw [Int.natAbs_mul,Nat.pow_add]
 exact Nat.mul_lt_mul_of_lt_of_le h1 (Nat.le_of_lt h2) (Nat.two_pow_pos b)
theorem Bd.neg {a:Nat}{i:Int} (h:Bd a i):Bd a (-i):=by
 unfold Bd at *
 rw [Int.natAbs_neg]
 exact h
theorem Bd.add {a:Nat}{i j:Int} (h1:Bd a i) (h2:Bd a j):Bd (a+1) (i+j):=by
 unfold Bd at *
 have:=Int.natAbs_add_le i j
 rw [Nat.pow_succ]
 omega
theorem Bd.sub {a:Nat}{i j:Int} (h1:Bd a i) (h2:Bd a j):Bd (a+1) (i-j):=by
 rw [Int.sub_eq_add_neg]
 exact h1.add h2.neg
theorem Bd.of_le {a:Nat}{i j:Int} (h:Bd a j) (h0:0≤i) (h1:i≤j):Bd a i:=by
 unfold Bd at *
 omega
theorem Bd.bits {a:Nat}{i:Int} (h:Bd a i):Builtin.Int.intBits i≤a:=by
 unfold Builtin.Int.intBits
 split
 ·exact Nat.zero_le _
 ·rename_i hz
  have h0:i.natAbs≠0:=by
   intro z
   exact hz (by rw [Int.natAbs_eq_zero.mp z];rfl)
  exact (Nat.log2_lt h0).mpr h
theorem Bd.log {a:Nat}{i:Int} (h:Bd a i) (ha:0<a):i.natAbs.log2<a:=by
 by_cases h0:i.natAbs=0
 ·rw [h0]
  exact ha
 ·exact (Nat.log2_lt h0).mpr h
theorem Bd.pow {a:Nat}{i:Int} (h:Bd a i):∀ n:Nat,Bd (a * n+1) (i ^ n)
 | 0=>by rw [Int.pow_zero];show (1:Nat)<2 ^ (a * 0+1);rw [Nat.mul_zero];decide
 | n+1=>by
  have:=(Bd.pow h n).mul h
  rw [Int.pow_succ]
  exact this.mono (by rw [Nat.mul_succ];omega)
def aFj (i j:Int):Prop:=aGn i j∨(Bd 8000 i∧Bd 8000 j)
def aKk (i j:Int):Prop:=0<j∧Bd 8000 j
theorem aFj.ok {i j:Int} (h:aFj i j):IntMulOk i j:=by
 rcases h with h | ⟨h1,h2⟩
 ·exact h.ok
 ·exact PySem.IntMulOk.of_bits (Nat.le_trans h1.bits (by decide)) (Nat.le_trans h2.bits (by decide))
section
variable {X:Cx}
theorem aI8:tK X (binaryOp .Mult) (rI aFj fun i j=>.int (i * j)):=opI fun _ _ _ _ _ _ _ hc q=>mul_int q hc.ok
theorem aIJ:tK X (binaryOp .FloorDiv) (rI aKk fun i j=>.int (i / j)):=opI fun i j _ _ _ _ _ hc q=>by
 have h1:(0:Int)<j:=hc.1
 exact floordiv_int (by omega) (by rw [Int.fdiv_eq_ediv_of_nonneg i (by omega)];exact q) (.inl (PyProof.noPylong_of_log2 (Nat.lt_of_lt_of_le (hc.2.log (by decide)) (by decide))))
abbrev uF:GO:=jA aFj fun i j=>.int (i * j)
abbrev aET:GO:=jA aKk fun i j=>.int (i / j)
theorem nB:DOp X (binaryOp .Mult) uF:=u6 aI8
theorem aB9:DOp X (binaryOp .FloorDiv) aET:=u6 aIJ
end
end L2
namespace L2
def gU (f:Nat→Nat):Nat→Nat→Nat
 | 0,s=>s
 | t+1,s=>gU f t (f s)
theorem k9 (f:Nat→Nat):∀ (a b s:Nat),gU f (a+b) s=gU f b (gU f a s)
 | 0,b,s=>by rw [Nat.zero_add];rfl
 | a+1,b,s=>by
  rw [Nat.add_right_comm]
  exact k9 f a b (f s)
theorem p7 {f:Nat→Nat}{N:Nat} (hf:∀ s,s<N→f s<N):∀ (t s:Nat),s<N→gU f t s<N
 | 0,s,h=>h
 | t+1,s,h=>p7 hf t (f s) (hf s h)
def fst (d:Rat) (g:Nat→Rat) (f:Nat→Nat):Nat→Nat→Rat
 | 0,_=>0
 | n+1,s=>(1-d) * g s+d * fst d g f n (f s)
def Sol (N:Nat) (d:Rat) (g:Nat→Rat) (f:Nat→Nat) (W:Nat→Rat):Prop:=∀ s,s<N→W s=(1-d) * g s+d * W (f s)
section
variable {N:Nat}{d:Rat}{g:Nat→Rat}{f:Nat→Nat}{W V:Nat→Rat}
theorem Sol.unroll (h:Sol N d g f W) (hf:∀ s,s<N→f s<N):∀ (n s:Nat),s<N→W s=fst d g f n s+d ^ n * W (gU f n s)
 | 0,s,hs=>by
  show W s=0+d ^ 0 * W s
  grind
 | n+1,s,hs=>by
  have e:=h.unroll hf n (f s) (hf s hs)
  have e0:=h s hs
  show W s=((1-d) * g s+d * fst d g f n (f s))+d ^ (n+1) * W (gU f n (f s))
  rw [e0,Rat.pow_succ]
  grind
theorem mM (h0:0<d) (h1:d<1):∀ n:Nat,0<n→d ^ n<1∧0<d ^ n
 | 0,h=>absurd h (Nat.lt_irrefl 0)
 | 1,_=>by rw [Rat.pow_succ,Rat.pow_zero];grind
 | n+2,_=>by
  obtain ⟨a,b⟩:=mM h0 h1 (n+1) (Nat.succ_pos n)
  rw [Rat.pow_succ]
  have c:d ^ (n+1) * d<1 * d:=by
   have:=Rat.mul_lt_mul_of_pos_right a h0
   exact this
  have e:0<d ^ (n+1) * d:=Rat.mul_pos b h0
  grind
theorem vL:∀ (N:Nat) (q:Nat→Nat),(∀ i,i≤N→q i<N)→∃ i j,i<j∧j≤N∧q i=q j
 | 0,q,h=>absurd (h 0 (Nat.le_refl 0)) (Nat.not_lt_zero _)
 | N+1,q,h=>by
  by_cases hd:∃ i,i≤N∧q i=q (N+1)
  ·obtain ⟨i,hi,e⟩:=hd
   exact ⟨i,N+1,by omega,Nat.le_refl _,e⟩
  ·-- move the last value away
   have hd':∀ i,i≤N→q i≠q (N+1):=fun i hi e=>hd ⟨i,hi,e⟩
   have hl:=h (N+1) (Nat.le_refl _)
   obtain ⟨i,j,hij,hj,e⟩:=vL N (fun i=>if q i=N then q (N+1) else q i) fun i hi=>by
    have h1:=h i (by omega)
    have h2:=hd' i hi
    show (if q i=N then q (N+1) else q i)<N
    split <;> omega
   refine ⟨i,j,hij,by omega,?_⟩
   have h1:=hd' i (by omega)
   have h2:=hd' j hj
   have e:(if q i=N then q (N+1) else q i)=(if q j=N then q (N+1) else q j):=e
   split at e <;> split at e <;> omega
theorem aAU (hf:∀ s,s<N→f s<N) {s:Nat} (hs:s<N):∃ i P,0<P∧i+P≤N∧gU f P (gU f i s)=gU f i s:=by
 obtain ⟨i,j,hij,hj,e⟩:=vL N (fun t=>gU f t s) fun t _=>p7 hf t s hs
 refine ⟨i,j-i,by omega,by omega,?_⟩
 rw [← k9,show i+(j-i)=j by omega]
 exact e.symm
theorem Sol.uniq (h0:0<d) (h1:d<1) (hf:∀ s,s<N→f s<N) (hW:Sol N d g f W) (hV:Sol N d g f V) {s:Nat} (hs:s<N):W s=V s:=by
 obtain ⟨i,P,hP,_,e⟩:=aAU hf hs
 have hc:=p7 hf i s hs
 have a1:=hW.unroll hf P (gU f i s) hc
 have a2:=hV.unroll hf P (gU f i s) hc
 have b1:=hW.unroll hf i s hs
 have b2:=hV.unroll hf i s hs
 rw [e] at a1 a2
 obtain ⟨p1,p2⟩:=mM h0 h1 P hP
 have:(1-d ^ P) * (W (gU f i s)-V (gU f i s))=0:=by grind
 have hne:(1-d ^ P)≠0:=by grind
 have:W (gU f i s)=V (gU f i s):=by grind
 rw [b1,b2,this]
end
end L2
namespace L2
section
variable {N:Nat}{d:Rat}{g:Nat→Rat}{f:Nat→Nat}{W V:Nat→Rat}
theorem aFr {P c:Nat} (h:gU f P c=c):∀ k,gU f (P * k) c=c
 | 0=>rfl
 | k+1=>by rw [Nat.mul_succ,k9,aFr h k,h]
theorem aLA {P c:Nat} (h:gU f P c=c) (t:Nat):gU f P (gU f t c)=gU f t c:=by
 rw [← k9,Nat.add_comm,k9,h]
def fac:Nat→Nat
 | 0=>1
 | n+1=>(n+1) * fac n
theorem aE8:∀ n,0<fac n
 | 0=>Nat.one_pos
 | n+1=>Nat.mul_pos (Nat.succ_pos n) (aE8 n)
theorem aEW {k:Nat} (hk:0<k):∀ n,k≤n→k ∣ fac n
 | 0,h=>by omega
 | n+1,h=>by
  by_cases e:k=n+1
  ·rw [e];exact Nat.dvd_mul_right _ _
  ·exact Nat.dvd_trans (aEW hk n (by omega)) (Nat.dvd_mul_left _ _)
theorem far (hf:∀ s,s<N→f s<N) {s:Nat} (hs:s<N):gU f (fac N) (gU f N s)=gU f N s:=by
 obtain ⟨i,P,hP,hN,e⟩:=aAU hf hs
 have:gU f N s=gU f (N-i) (gU f i s):=by rw [← k9];congr 1;omega
 rw [this]
 refine aLA ?_ _
 obtain ⟨k,hk⟩:=aEW hP N (by omega)
 rw [hk]
 exact aFr e k
theorem xW:∀ (n s:Nat),fst d g f (n+1) s=fst d g f n s+(1-d) * d ^ n * g (gU f n s)
 | 0,s=>by
  show (1-d) * g s+d * 0=0+(1-d) * d ^ 0 * g s
  rw [Rat.pow_zero]
  grind
 | n+1,s=>by
  have:=xW n (f s)
  show (1-d) * g s+d * fst d g f (n+1) (f s)=((1-d) * g s+d * fst d g f n (f s))+(1-d) * d ^ (n+1) * g (gU f n (f s))
  rw [this,Rat.pow_succ]
  grind
def aLF (N:Nat) (d:Rat) (g:Nat→Rat) (f:Nat→Nat) (s:Nat):Rat:=fst d g f N s+d ^ N * (fst d g f (fac N) (gU f N s) / (1-d ^ fac N))
theorem aIV (h0:0<d) (h1:d<1) (hf:∀ s,s<N→f s<N):Sol N d g f (aLF N d g f):=by
 intro s hs
 have hp:=far hf hs
 obtain ⟨p1,p2⟩:=mM h0 h1 (fac N) (aE8 N)
 have hne:(1-d ^ fac N)≠0:=by grind
 have e1:gU f N (f s)=f (gU f N s):=by
  show gU f (N+1) s=_
  rw [k9]
  rfl
 have a1:=xW (d:=d) (g:=g) (f:=f) N s
 have a2:fst d g f (N+1) s=(1-d) * g s+d * fst d g f N (f s):=rfl
 have b1:=xW (d:=d) (g:=g) (f:=f) (fac N) (gU f N s)
 have b2:fst d g f (fac N+1) (gU f N s)=(1-d) * g (gU f N s)+d * fst d g f (fac N) (f (gU f N s)):=rfl
 rw [hp] at b1
 unfold aLF
 rw [e1]
 generalize fst d g f (fac N) (f (gU f N s))=T at *
 generalize fst d g f (fac N) (gU f N s)=S at *
 generalize d ^ fac N=p at *
 have e2:S / (1-p)=(1-d) * g (gU f N s)+d * (T / (1-p)):=by grind
 rw [e2]
 grind
theorem aCi (x:Rat):x * (x.den:Int)=x.num:=by
 have h:=Rat.num_divInt_den x
 rw [Rat.divInt_eq_div] at h
 have hd:((x.den:Int):Rat)≠0:=by
  have:=x.den_nz
  intro z
  have z2:((x.den:Int):Rat)=((0:Int):Rat):=z
  rw [Rat.intCast_inj] at z2
  omega
 grind
theorem zL {q:Int} (h:0<q):∀ n:Nat,0<q ^ n
 | 0=>by rw [Int.pow_zero];decide
 | n+1=>by rw [Int.pow_succ];exact Int.mul_pos (zL h n) h
theorem aFD {p q:Int} (h0:0<p) (h:p<q):∀ n:Nat,0<n→p ^ n<q ^ n
 | 0,z=>absurd z (Nat.lt_irrefl 0)
 | 1,_=>by rw [Int.pow_succ,Int.pow_zero,Int.pow_succ,Int.pow_zero];omega
 | n+2,_=>by
  have a:=aFD h0 h (n+1) (Nat.succ_pos n)
  rw [Int.pow_succ,Int.pow_succ q]
  have b:p ^ (n+1) * p<q ^ (n+1) * p:=Int.mul_lt_mul_of_pos_right a h0
  have c:q ^ (n+1) * p<q ^ (n+1) * q:=Int.mul_lt_mul_of_pos_left h (zL (by omega) _)
  omega
end
open PySem PySem.Spec PyProof.Rows
@[reducible] def cH (q:Rat):D:=.tup [.int q.num,.int q.den]
def aJk:D→Option Rat
 | .tup [.int a,.int b]=>if 0<b∧Int.gcd a b=1 then some (Rat.divInt a b) else none
 | _=>none
theorem aJ7 (q:Rat):aJk (cH q)=some q:=by
 have h1:(0:Int)<(q.den:Int):=by have:=q.den_nz;omega
 have h2:Int.gcd q.num q.den=1:=q.reduced
 show (if (0:Int)<(q.den:Int)∧Int.gcd q.num q.den=1 then some (Rat.divInt q.num q.den) else none)=some q
 rw [if_pos ⟨h1,h2⟩,Rat.num_divInt_den]
theorem aKe {d:D}{q:Rat} (h:aJk d=some q):d=cH q:=by
 unfold aJk at h
 split at h
 ·rename_i a b
  split at h
  ·rename_i hh
   cases h
   have h1:b.sign=1:=Int.sign_eq_one_of_pos hh.1
   have h2:b.gcd a=1:=by rw [Int.gcd_comm];exact hh.2
   unfold cH
   rw [Rat.num_divInt,Rat.den_divInt,if_neg (by omega),h1,h2]
   simp
   omega
  ·cases h
 ·cases h
def BdR (k:Nat) (q:Rat):Prop:=Bd k q.num∧Bd k (q.den:Int)
def yH (d:D):Option (List Int×List Int):=match d with
 | .tup [a,b]=>match tU a,tU b with
  | some r,some n=>some (r,n)
  | _,_=>none
 | _=>none
def rE:List D→Option (List (List Int×List Int))
 | []=>some []
 | d::ds=>match yH d,rE ds with
  | some s,some ss=>some (s::ss)
  | _,_=>none
def kF:D→Option (List (List Int×List Int))
 | .tup ds=>rE ds
 | _=>none
theorem aCE {d:D}{s:List Int×List Int} (h:yH d=some s):d = .tup [aF s.1,aF s.2]:=by
 unfold yH at h
 split at h
 ·split at h
  ·rename_i e1 e2
   cases h
   rw [o5 e1,o5 e2]
  ·cases h
 ·cases h
theorem yD:∀ pl:List (List Int×List Int),rE (pl.map fun s=>.tup [aF s.1,aF s.2])=some pl
 | []=>rfl
 | s::pl=>by
  rw [List.map_cons,rE,yD pl]
  simp only [yH,l7]
theorem yW:∀ {ds:List D}{pl:List (List Int×List Int)},rE ds=some pl→ds=pl.map fun s=>.tup [aF s.1,aF s.2]
 | [],pl,h=>by cases h;rfl
 | d::ds,pl,h=>by
  unfold rE at h
  split at h
  ·rename_i s ss e1 e2
   cases h
   rw [aCE e1,yW e2]
   rfl
  ·cases h
theorem iQ (pl:List (List Int×List Int)):kF (bA pl)=some pl:=yD pl
theorem gH {d:D}{pl:List (List Int×List Int)} (h:kF d=some pl):d=bA pl:=by
 unfold kF at h
 split at h
 ·rw [yW h]
 ·cases h
structure iB (ns:List Int) (pl:List (List Int×List Int)):Prop where
 few:1≤pl.length∧pl.length≤20
 row:∀ s∈pl,s.1∈aL ns
 nexts:∀ s∈pl,s.2.length=(aL ns).length∧∀ x∈s.2,0≤x∧x<pl.length
theorem pE.w {ns:List Int}{pl:List (List Int×List Int)} (h:pE ns pl):iB ns pl:=⟨⟨h.few.1,by have:=h.few.2;omega⟩,h.row,h.nexts⟩
open Classical in
noncomputable def qC (ns:List Int) (d:D) (f:List (List Int×List Int)→Option D):Option D:=match kF d with
 | some pl=>if iB ns pl then f pl else none
 | none=>none
theorem rO {ns:List Int}{pl:List (List Int×List Int)}{f:List (List Int×List Int)→Option D} (h:iB ns pl):qC ns (bA pl) f=f pl:=by
 unfold qC
 rw [iQ]
 exact if_pos h
theorem rM {ns:List Int}{m d:D}{f:List (List Int×List Int)→Option D} (h:qC ns m f=some d):∃ pl,m=bA pl∧iB ns pl∧f pl=some d:=by
 unfold qC at h
 split at h
 ·rename_i pl e
  split at h
  ·rename_i ho
   exact ⟨pl,gH e,ho,h⟩
  ·cases h
 ·cases h
def aY (pl:List (List Int×List Int)) (s:Nat):List Int:=(pl.getD s ([],[])).1
def jG (ns:List Int) (pl:List (List Int×List Int)) (s:Nat) (r:List Int):Nat:=((pl.getD s ([],[])).2.getD ((aL ns).idxOf r) 0).toNat
def dX (ns:List Int) (pl:List (List Int×List Int)) (s:Nat):Nat:=jG ns pl s (aY pl s)
noncomputable def dL (ns:List Int) (pay:List (List Int)) (pl:List (List Int×List Int)) (d:Rat) (h s:Nat):Rat:=aLF pl.length d (fun s=>(m8 ns pay (aY pl s) h:Rat)) (dX ns pl) s
def aKq:D→Option (Int×Int×Int)
 | .tup [.int t,.int h,.int k]=>some (t,h,k)
 | _=>none
def vY:List D→Option (List (Int×Int×Int))
 | []=>some []
 | d::ds=>match aKq d,vY ds with
  | some x,some xs=>some (x::xs)
  | _,_=>none
@[reducible] def aCZ (x:Int×Int×Int):D:=.tup [.int x.1,.int x.2.1,.int x.2.2]
theorem aAR:∀ xs:List (Int×Int×Int),vY (xs.map aCZ)=some xs
 | []=>rfl
 | x::xs=>by
  rw [List.map_cons,vY,aAR xs]
  rfl
theorem aAE:∀ {ds:List D}{xs:List (Int×Int×Int)},vY ds=some xs→ds=xs.map aCZ
 | [],xs,h=>by cases h;rfl
 | d::ds,xs,h=>by
  unfold vY at h
  split at h
  ·rename_i x ys e1 e2
   cases h
   rw [aAE e2]
   unfold aKq at e1
   split at e1
   ·cases e1;rfl
   ·cases e1
  ·cases h
structure lP (ns:List Int) (st:List (Int×Int×Int)):Prop where
 few:st.length≤100
 ok:∀ x∈st,0≤x.1∧0≤x.2.1∧x.2.1<ns.length∧0≤x.2.2∧x.2.2<ns.getD x.2.1.toNat 0
 nd:(st.map fun x=>(x.1,x.2.1)).Nodup
def fB (st:List (Int×Int×Int)) (t:Nat) (r:List Int):List Int:=st.foldl (fun r x=>if x.1=(t:Int) then r.set x.2.1.toNat x.2.2 else r) r
def f7 (ns:List Int) (pl:List (List Int×List Int)) (st:List (Int×Int×Int)):Nat→Nat
 | 0=>0
 | t+1=>jG ns pl (f7 ns pl st t) (fB st t (aY pl (f7 ns pl st t)))
def aGk (ns:List Int) (pl:List (List Int×List Int)) (st:List (Int×Int×Int)) (t:Nat):List Int:=fB st t (aY pl (f7 ns pl st t))
def oN (ns:List Int) (pl:List (List Int×List Int)) (st:List (Int×Int×Int)) (many:Nat):List (List Int):=(List.range many).map (aGk ns pl st)
open Classical in
noncomputable def qB (ns:List Int) (d:D) (f:List (Int×Int×Int)→Option D):Option D:=match d with
 | .tup ds=>match vY ds with
  | some st=>if lP ns st then f st else none
  | none=>none
 | _=>none
theorem aDF {ns:List Int}{st:List (Int×Int×Int)}{f:List (Int×Int×Int)→Option D} (h:lP ns st):qB ns (.tup (st.map aCZ)) f=f st:=by
 unfold qB
 simp only [aAR]
 exact if_pos h
theorem aCu {ns:List Int}{m d:D}{f:List (Int×Int×Int)→Option D} (h:qB ns m f=some d):∃ st,m = .tup (st.map aCZ)∧lP ns st∧f st=some d:=by
 unfold qB at h
 split at h
 ·split at h
  ·rename_i st e
   split at h
   ·rename_i ho
    exact ⟨st,by rw [aAE e],ho,h⟩
   ·cases h
  ·cases h
 ·cases h
noncomputable def iN:List D→Option D
 | [m,p,n,st]=>hC m fun ns _=>qC ns p fun pl=>sK 1000 n fun n=>qB ns st fun st=>some (.tup ((oN ns pl st n).map aF))
 | _=>none
structure kL (d:Rat):Prop where
 pos:0<d
 lt:d<1
 bits:BdR 40 d
open Classical in
noncomputable def qZ (d:D) (f:Rat→Option D):Option D:=match aJk d with
 | some q=>if kL q then f q else none
 | none=>none
theorem oQ {q:Rat}{f:Rat→Option D} (h:kL q):qZ (cH q) f=f q:=by
 unfold qZ
 rw [aJ7]
 exact if_pos h
theorem oS {m d:D}{f:Rat→Option D} (h:qZ m f=some d):∃ q,m=cH q∧kL q∧f q=some d:=by
 unfold qZ at h
 split at h
 ·rename_i q e
  split at h
  ·rename_i ho
   exact ⟨q,aKe e,ho,h⟩
  ·cases h
 ·cases h
noncomputable def aBB (ns:List Int) (pay:List (List Int)) (pl:List (List Int×List Int)) (d:Rat):D:=.tup ((List.range pl.length).map fun s=>.tup ((List.range ns.length).map fun h=>cH (dL ns pay pl d h s)))
noncomputable def iK:List D→Option D
 | [m,p,d]=>hC m fun ns pay=>qC ns p fun pl=>qZ d fun d=>some (aBB ns pay pl d)
 | _=>none
def rY (d:Rat):List Rat→Rat
 | []=>0
 | x::xs=>(1-d) * x+d * rY d xs
def woR (ns:List Int) (pay:List (List Int)) (rows over:List (List Int)) (d:Rat) (h:Nat):Rat:=rY d (rows.map fun r=>(m8 ns pay r h:Rat))+d ^ rows.length * (rY d (over.map fun r=>(m8 ns pay r h:Rat)) / (1-d ^ over.length))
def tH (ns:List Int) (d:D) (f:List (List Int)→Option D):Option D:=match sB d with
 | some ds=>match y3 ds with
  | some rs=>if rs.length≤20∧∀ r∈rs,r∈aL ns then f rs else none
  | none=>none
 | none=>none
theorem sX {ns:List Int}{d:D}{rs:List (List Int)}{f:List (List Int)→Option D} (hd:sB d=some (rs.map aF)) (h1:rs.length≤20) (h2:∀ r∈rs,r∈aL ns):tH ns d f=f rs:=by
 unfold tH
 simp only [hd,yR]
 exact if_pos ⟨h1,h2⟩
theorem vI {ns:List Int}{m d:D}{f:List (List Int)→Option D} (h:tH ns m f=some d):∃ rs,sB m=some (rs.map aF)∧rs.length≤20∧(∀ r∈rs,r∈aL ns)∧f rs=some d:=by
 unfold tH at h
 split at h
 ·rename_i ds e0
  split at h
  ·rename_i rs e
   split at h
   ·rename_i ho
    exact ⟨rs,by rw [e0,yI e],ho.1,ho.2,h⟩
   ·cases h
  ·cases h
 ·cases h
noncomputable def iP:List D→Option D
 | [m,rows,over,d]=>hC m fun ns pay=>tH ns rows fun rows=>tH ns over fun over=>qZ d fun d=>if over=[] then none else some (.tup ((List.range ns.length).map fun h=>cH (woR ns pay rows over d h)))
 | _=>none
theorem aF4 (l:List D) (n:Nat) (h:n≤l.length):aAs l none (some (n:Int))=l.take n:=by
 unfold aAs
 rw [HT.sIx_none,HT.sIx_nat,Nat.min_eq_left h,List.drop_zero]
 rfl
theorem aGC (l:List D) (n:Nat) (h:n≤l.length):aAs l (some (n:Int)) none=l.drop n:=by
 unfold aAs
 rw [HT.sIx_none,HT.sIx_nat,Nat.min_eq_left h]
 refine List.take_of_length_le ?_
 rw [List.length_drop]
 omega
section
variable {ns:List Int}{pay:List (List Int)}{pl:List (List Int×List Int)}{d:Rat}{h s:Nat}
theorem aDd (hp:iB ns pl) (hs:s<pl.length) {r:List Int} (hr:r∈aL ns):jG ns pl s r<pl.length:=by
 have hm:pl.getD s ([],[])∈pl:=by rw [b6 hs];exact List.getElem_mem hs
 obtain ⟨h1,h2⟩:=hp.nexts _ hm
 have hi:(aL ns).idxOf r<(pl.getD s ([],[])).2.length:=by
  rw [h1]
  exact List.idxOf_lt_length_of_mem hr
 have:=h2 _ (List.getElem_mem hi)
 unfold jG
 rw [b6 hi]
 omega
theorem uE (hp:iB ns pl) (hs:s<pl.length):aY pl s∈aL ns:=by
 unfold aY
 rw [b6 hs]
 exact hp.row _ (List.getElem_mem hs)
theorem vO (hp:iB ns pl):∀ s,s<pl.length→dX ns pl s<pl.length:=fun s hs=>aDd hp hs (uE hp hs)
theorem aFc (ho:gN ns pay) {r:List Int} (hr:r∈aL ns) : -9≤m8 ns pay r h∧m8 ns pay r h≤9:=by
 unfold m8
 rw [List.getD_eq_getElem?_getD]
 cases e:(rZ ns pay r)[h]? with
 | none=>exact ⟨by decide,by decide⟩
 | some x=>exact (aC4 ho hr).2 x (List.mem_of_getElem? e)
theorem aBg (hp:iB ns pl) (hd:kL d):Sol pl.length d (fun s=>(m8 ns pay (aY pl s) h:Rat)) (dX ns pl) (dL ns pay pl d h):=aIV hd.pos hd.lt (vO hp)
theorem xP (hp:iB ns pl) (hd:kL d) (hs:s<pl.length):dL ns pay pl d h s=(1-d) * m8 ns pay (aY pl s) h+d * dL ns pay pl d h (dX ns pl s):=aBg hp hd s hs
theorem yF {g:Nat→Rat}{f:Nat→Nat}:∀ (n s:Nat),fst d g f n s=rY d ((List.range n).map fun t=>g (gU f t s))
 | 0,s=>rfl
 | n+1,s=>by
  rw [List.range_succ_eq_map,List.map_cons,List.map_map]
  show (1-d) * g s+d * fst d g f n (f s)=(1-d) * g s+d * rY d _
  rw [yF n (f s)]
  rfl
theorem aJy {U L:Int} (u1:0<U∧U<L) (l2:L≤30):kL (Rat.divInt U L):=by
 have g0:0<Int.gcd L U:=Int.gcd_pos_of_ne_zero_left _ (by omega)
 obtain ⟨a,ha⟩:=Int.gcd_dvd_right L U
 obtain ⟨b,hb⟩:=Int.gcd_dvd_left L U
 have h1:L.sign=1:=Int.sign_eq_one_of_pos (by omega)
 have en:(Rat.divInt U L).num=a:=by
  rw [Rat.num_divInt,h1,Int.one_mul]
  conv=>lhs;lhs;rw [ha]
  exact Int.mul_ediv_cancel_left _ (by omega)
 have ed:((Rat.divInt U L).den:Int)=b:=by
  rw [Rat.den_divInt,if_neg (by omega),Int.natCast_ediv,show ((L.natAbs:Nat):Int)=L by omega]
  conv=>lhs;lhs;rw [hb]
  exact Int.mul_ediv_cancel_left _ (by omega)
 have g0:(0:Int)<(Int.gcd L U:Int):=by omega
 generalize (Int.gcd L U:Int)=g at *
 have a0:0<a:=by
  apply Int.lt_of_not_ge
  intro z
  have:=Int.mul_nonpos_of_nonneg_of_nonpos (show 0≤g by omega) z
  omega
 have ab:a<b:=by
  apply Int.lt_of_not_ge
  intro z
  have:=Int.mul_le_mul_of_nonneg_left z (show 0≤g by omega)
  omega
 have bl:b≤30:=by
  have:1 * b≤g * b:=Int.mul_le_mul_of_nonneg_right (by omega) (by omega)
  omega
 have e40:(2:Nat) ^ 40=1099511627776:=by decide
 refine ⟨?_,?_,?_,?_⟩
 ·rw [Rat.lt_iff,en,ed]
  show 0 * b<a * 1
  omega
 ·rw [Rat.lt_iff,en,ed]
  show a * 1<1 * b
  omega
 ·rw [en]
  unfold Bd
  omega
 ·rw [ed]
  unfold Bd
  omega
theorem aJL (c:Int):kL (aBX c):=by
 have a1:0≤kH c 9929 29:=Int.emod_nonneg _ (by decide)
 have a2:kH c 9929 29<29:=Int.emod_lt_of_pos _ (by decide)
 have l1:2≤zW c:=by unfold zW;omega
 have l2:zW c≤30:=by unfold zW;omega
 have b1:0≤kH c 9923 (zW c-1):=Int.emod_nonneg _ (by omega)
 have b2:kH c 9923 (zW c-1)<zW c-1:=Int.emod_lt_of_pos _ (by omega)
 refine aJy ?_ l2
 unfold aIb
 split <;> omega
end
section
variable {ns:List Int}{pay:List (List Int)}{pl:List (List Int×List Int)}{d:Rat}{h s:Nat}{B C:Nat→Rat}
end
section
variable {ns:List Int}{pay:List (List Int)}{pl:List (List Int×List Int)}{d:Rat}{h s:Nat}
end
section
variable {ns:List Int}{pay:List (List Int)}{row:List Int}{th:List (List Int)}{d:Rat}{h k:Nat}
end
section
variable {ns:List Int}{pay:List (List Int)}{row:List Int}{th:List (List Int)}{d:Rat}
end
def mW (r ns:List Int):Int:=(r.zip ns).foldl (fun p x=>p * x.2+x.1) 0
theorem uU (r:List Int):∀ (n s j:Nat),j<n→((List.range' s n).map fun (k:Nat)=>r++[(k:Int)]).idxOf (r++[((s+j:Nat):Int)])=j
 | n+1,s,0,_=>by
  rw [List.range'_succ,List.map_cons,List.idxOf_cons,Nat.add_zero]
  simp
 | n+1,s,j+1,h=>by
  rw [List.range'_succ,List.map_cons,List.idxOf_cons]
  have ne:((r++[(s:Int)]) == (r++[((s+(j+1):Nat):Int)]))=false:=by
   rw [beq_eq_false_iff_ne]
   intro e
   have:=List.append_cancel_left e
   simp at this
   omega
  rw [ne]
  have:=uU r n (s+1) j (by omega)
  rw [show s+(j+1)=s+1+j by omega,this]
  rfl
theorem aDa (r:List Int) {m:Int}{k:Int} (h0:0≤k) (h1:k<m):((List.range m.toNat).map fun (k:Nat)=>r++[(k:Int)]).idxOf (r++[k])=k.toNat:=by
 rw [List.range_eq_range']
 have:=uU r m.toNat 0 k.toNat (by omega)
 rw [Nat.zero_add,Int.toNat_of_nonneg h0] at this
 exact this
theorem xV {m k:Int} (h0:0≤k) (h1:k<m) {r:List Int}:∀ {R:List (List Int)},r∈R→(cS R m).idxOf (r++[k])=R.idxOf r * m.toNat+k.toNat
 | x::R,h=>by
  have e1:cS (x::R) m=((List.range m.toNat).map fun (k:Nat)=>x++[(k:Int)])++cS R m:=by
   unfold cS
   rw [List.flatMap_cons]
  rw [e1,List.idxOf_append,List.idxOf_cons]
  by_cases e:x=r
  ·subst e
   have hm:x++[k]∈(List.range m.toNat).map fun (k:Nat)=>x++[(k:Int)]:=List.mem_map.mpr ⟨k.toNat,List.mem_range.mpr (by omega),by rw [Int.toNat_of_nonneg h0]⟩
   rw [if_pos hm,aDa x h0 h1]
   simp
  ·have hm:¬ r++[k]∈(List.range m.toNat).map fun (k:Nat)=>x++[(k:Int)]:=by
    intro z
    obtain ⟨j,_,ej⟩:=List.mem_map.mp z
    exact e (List.append_inj_left' ej rfl)
   have hr:r∈R:=by
    rcases List.mem_cons.mp h with z | z
    ·exact absurd z.symm e
    ·exact z
   rw [if_neg hm,xV h0 h1 hr,List.length_map,List.length_range]
   have eb:(x == r)=false:=beq_eq_false_iff_ne.mpr e
   rw [eb]
   simp only [cond_false]
   rw [Nat.succ_mul]
   omega
theorem wG {r ns:List Int} (h:r.length=ns.length) (k m:Int):mW (r++[k]) (ns++[m])=mW r ns * m+k:=by
 unfold mW
 rw [List.zip_append h,List.foldl_append]
 rfl
theorem aBa:∀ (ms:List Int) (r:List Int),r∈aL ms.reverse→mW r ms.reverse=((aL ms.reverse).idxOf r:Nat)
 | [],r,h=>by
  have:r=[]:=by simpa [aL] using h
  subst this
  simp [mW,aL]
 | m::ms,r,h=>by
  rw [List.reverse_cons] at h ⊢
  rw [mR] at h ⊢
  have h':=h
  unfold cS at h'
  obtain ⟨r0,hr0,h1⟩:=List.mem_flatMap.mp h'
  obtain ⟨k,hk,rfl⟩:=List.mem_map.mp h1
  have hk':=List.mem_range.mp hk
  rw [wG (pK hr0),aBa ms r0 hr0,xV (by omega) (by omega) hr0,Int.natCast_add,Int.natCast_mul,Int.toNat_of_nonneg (by omega:0≤m)]
  simp
theorem aBk {ns r:List Int} (h:r∈aL ns):mW r ns=((aL ns).idxOf r:Nat):=by
 have:=aBa ns.reverse r (by rw [List.reverse_reverse];exact h)
 rwa [List.reverse_reverse] at this
theorem aDN {ns r:List Int} (h:r∈aL ns) (i:Nat):r.take i∈aL (ns.take i):=by
 have q:=qE h
 refine aIl ⟨by rw [List.length_take,List.length_take,q.1],fun j x n e1 e2=>?_⟩
 rw [List.getElem?_take] at e1 e2
 split at e1
 ·rename_i hj
  rw [if_pos hj] at e2
  exact q.2 j x n e1 e2
 ·cases e1
theorem aG8 {ns r:List Int} (ho:dO ns=true) (h:r∈aL ns) (i:Nat):0≤mW (r.take i) (ns.take i)∧mW (r.take i) (ns.take i)≤27:=by
 rw [aBk (aDN h i)]
 have:=List.idxOf_lt_length_of_mem (aDN h i)
 have:=(lO (vC ho i)).2
 omega
theorem aDp {ns r:List Int}{i:Nat} (h1:i<r.length) (h2:i<ns.length) (hl:r.length=ns.length):mW (r.take (i+1)) (ns.take (i+1))=mW (r.take i) (ns.take i) * ns[i]+r[i]:=by
 rw [List.take_succ,List.take_succ,List.getElem?_eq_getElem h1,List.getElem?_eq_getElem h2,Option.toList_some,Option.toList_some,wG (by rw [List.length_take,List.length_take,hl])]
theorem aHU (r ns:List Int):List.zipWith (fun x y=>D.tup [x,y]) (r.map D.int) (ns.map D.int)=(r.zip ns).map fun p=>D.tup [.int p.1,.int p.2]:=by
 rw [List.zipWith_map_left,List.zipWith_map_right,List.zip,List.map_zipWith]
theorem aEa (r:List Int):qQ (r.map D.int)=(List.range r.length).map fun (k:Nat)=>D.tup [.int k,.int (r.getD k 0)]:=by
 refine List.ext_getElem? fun i=>?_
 rw [qJ,List.getElem?_map,List.getElem?_map]
 by_cases h:i<r.length
 ·rw [List.getElem?_range h,List.getElem?_eq_getElem h,Option.map_some,Option.map_some,Option.map_some,b6 h]
 ·rw [List.getElem?_eq_none (by simpa using h),List.getElem?_eq_none (by simpa using h)]
  rfl
def dJ:List D→Option D
 | [r,.tup ds]=>match tU r,cX ds with
  | some r,some ns=>if dO ns=true∧r∈aL ns then some (.int ((aL ns).idxOf r:Nat)) else none
  | _,_=>none
 | _=>none
section
variable {κ:Type} [DecidableEq κ]
def oF (kvs:List (κ×V)) (k:κ):Option V:=(kvs.find? fun kv=>decide (kv.1=k)).map (·.2)
def pX (kvs:List (κ×V)) (k:κ) (v:V):List (κ×V):=
 if (kvs.any fun kv=>decide (kv.1=k))=true then kvs.map (fun kv=>if kv.1=k then (kv.1,v) else kv) else kvs++[(k,v)]
theorem aMz {k:κ}:oF ([]:List (κ×V)) k=none:=rfl
theorem gZ {p:κ×V}{r:List (κ×V)}{k:κ} (e:p.1=k):oF (p::r) k=some p.2:=by simp [oF,List.find?_cons,e]
theorem gY {p:κ×V}{r:List (κ×V)}{k:κ} (e:¬ p.1=k):oF (p::r) k=oF r k:=by simp [oF,List.find?_cons,e]
theorem u5 (k:κ):∀ kvs:List (κ×V),(kvs.any fun kv=>decide (kv.1=k))=(oF kvs k).isSome
 | []=>rfl
 | p::r=>by
  rw [List.any_cons]
  by_cases e:p.1=k
  ·simp only [gZ e,decide_eq_true e,Bool.true_or,Option.isSome_some]
  ·rw [gY e,decide_eq_false e,Bool.false_or];exact u5 k r
theorem aCJ (k j:κ) (y:V):∀ kvs:List (κ×V),oF (kvs.map fun kv=>if kv.1=k then (kv.1,y) else kv) j=(oF kvs j).map fun x=>if j=k then y else x
 | []=>rfl
 | p::r=>by
  have ih:=aCJ k j y r
  rw [List.map_cons]
  by_cases h:p.1=k
  ·rw [if_pos h]
   by_cases e:p.1=j
   ·rw [gZ (p:=(p.1,y)) e,gZ e,Option.map_some,if_pos (e.symm.trans h)]
   ·rw [gY (p:=(p.1,y)) e,gY e,ih]
  ·rw [if_neg h]
   by_cases e:p.1=j
   ·rw [gZ (p:=p) e,gZ e,Option.map_some,if_neg (fun z=>h (e.trans z))]
   ·rw [gY (p:=p) e,gY e,ih]
theorem aAM (k j:κ) (y:V):∀ kvs:List (κ×V),oF kvs k=none→oF (kvs++[(k,y)]) j=if j=k then some y else oF kvs j
 | [],_=>by
  by_cases e:k=j
  ·rw [if_pos e.symm];exact gZ (p:=(k,y)) e
  ·rw [if_neg (fun z=>e z.symm)];exact gY (p:=(k,y)) e
 | p::r,hn=>by
  rw [List.cons_append]
  have hk:¬ p.1=k:=fun z=>by rw [gZ z] at hn;cases hn
  rw [gY hk] at hn
  have ih:=aAM k j y r hn
  by_cases e:p.1=j
  ·rw [gZ e,gZ e,if_neg (fun z=>hk (e.trans z))]
  ·rw [gY e,gY e,ih]
theorem aIm (kvs:List (κ×V)) (k j:κ) (y:V):oF (pX kvs k y) j=if j=k then some y else oF kvs j:=by
 unfold pX
 by_cases a:(kvs.any fun kv=>decide (kv.1=k))=true
 ·rw [if_pos a,aCJ]
  rw [u5] at a
  by_cases e:j=k
  ·obtain ⟨x,hx⟩:=Option.isSome_iff_exists.mp a
   rw [if_pos e,e,hx,Option.map_some,if_pos rfl]
  ·rw [if_neg e]
   cases oF kvs j with
   | none=>rfl
   | some x=>rw [Option.map_some,if_neg e]
 ·rw [if_neg a]
  refine aAM k j y kvs ?_
  rw [u5] at a
  cases q:oF kvs k with
  | none=>rfl
  | some x=>rw [q] at a;exact (a rfl).elim
theorem qO (kvs:List (κ×V)) (k:κ) (v:V):(pX kvs k v).length≤kvs.length+1:=by
 unfold pX
 split
 ·rw [List.length_map];omega
 ·rw [List.length_append,List.length_cons,List.length_nil];omega
theorem vQ.isSome_eq {o:Option V}{u:Option Value} (r:vQ o u):o.isSome=u.isSome:=by
 cases o with
 | none=>cases u with
  | none=>rfl
  | some _=>exact (show False from r).elim
 | some _=>cases u with
  | none=>exact (show False from r).elim
  | some _=>rfl
theorem vQ.getD {o:Option V}{u:Option Value}{d:V}{d':Value} (r:vQ o u) (rd:cG d d'):cG (o.getD d) (u.getD d'):=by
 cases o with
 | none=>cases u with
  | none=>exact rd
  | some _=>exact (show False from r).elim
 | some _=>cases u with
  | none=>exact (show False from r).elim
  | some _=>exact r
theorem KV.val {kvs:List (κ×V)}{vs:List (κ×Value)} (r:KV kvs vs) (k:κ):vQ (oF kvs k) (valueAt vs k):=by
 unfold KV at r
 induction r with
 | nil=>exact True.intro
 | @cons p q ps qs h t ih=>
  obtain ⟨h1,h2⟩:=h
  by_cases e:p.1=k
  ·have e':q.1=k:=h1.symm.trans e
   have b:valueAt (q::qs) k=some q.2:=by simp [valueAt,List.find?_cons,e']
   rw [gZ e,b];exact h2
  ·have e':¬ q.1=k:=fun z=>e (h1.trans z)
   have b:valueAt (q::qs) k=valueAt qs k:=by simp [valueAt,List.find?_cons,e']
   rw [gY e,b];exact ih
theorem KV.any {kvs:List (κ×V)}{vs:List (κ×Value)} (r:KV kvs vs) (k:κ):(kvs.any fun kv=>decide (kv.1=k))=vs.any fun kv=>decide (kv.1=k):=by
 unfold KV at r
 induction r with
 | nil=>rfl
 | cons h t ih=>rw [List.any_cons,List.any_cons,ih,h.1]
theorem KV.repl {kvs:List (κ×V)}{vs:List (κ×Value)} (r:KV kvs vs) (k:κ) {y:V}{u:Value} (ry:cG y u) :
  KV (kvs.map fun kv=>if kv.1=k then (kv.1,y) else kv) (vs.map fun kv=>if kv.1=k then (kv.1,u) else kv):=by
 unfold KV at r ⊢
 induction r with
 | nil=>exact .nil
 | @cons p q ps qs h t ih=>
  rw [List.map_cons,List.map_cons]
  refine .cons ?_ ih
  obtain ⟨h1,h2⟩:=h
  by_cases e:p.1=k
  ·rw [if_pos e,if_pos (h1.symm.trans e)];exact ⟨h1,ry⟩
  ·rw [if_neg e,if_neg (fun z=>e (h1.trans z))];exact ⟨h1,h2⟩
theorem KV.put {kvs:List (κ×V)}{vs:List (κ×Value)} (r:KV kvs vs) (k:κ) {y:V}{u:Value} (ry:cG y u):KV (pX kvs k y) (stored vs k u):=by
 unfold pX stored
 rw [r.any k]
 by_cases e:(vs.any fun kv=>decide (kv.1=k))=true
 ·rw [if_pos e,if_pos e];exact r.repl k ry
 ·rw [if_neg e,if_neg e];exact Paired.snoc r ⟨rfl,ry⟩
theorem KV.keys {kvs:List (κ×V)}{vs:List (κ×Value)} (r:KV kvs vs):kvs.map (·.1)=vs.map (·.1):=by
 unfold KV at r
 induction r with
 | nil=>rfl
 | cons h t ih=>rw [List.map_cons,List.map_cons,ih,h.1]
theorem KV.length {kvs:List (κ×V)}{vs:List (κ×Value)} (r:KV kvs vs):kvs.length=vs.length:=Paired.length r
end
theorem xT {P:Program}{w:World}{k:mI}{u:Value} (r:cG (kV k) u):(dE P w).is k u=true:=by
 cases k with
 | inl i=>obtain ⟨t,e⟩:=(show ∃ t,u=Value.int i t from r);subst e;exact aCz P w i t
 | inr x=>obtain ⟨t,e⟩:=(show ∃ t,u=Value.str x t from r);subst e;exact aDz P w x t
theorem aA1 {P:Program}{w:World}:∀ {ks:List mI}{us:List Value},cE (ks.map kV) us→ItemsAre (dE P w) ks us
 | [],_,r=>by rw [List.map_nil] at r;cases r;exact .nil
 | k::ks,_,r=>by
  rw [List.map_cons] at r
  cases r with
  | cons h t=>exact .cons (xT h) (aA1 t)
abbrev KT (K:PySem.W.Frag) (f:Nat→Bool) (H:Hp):List (NK×V)→List (NK×Addr×Value)→Prop:=Paired fun p q=>p.1=q.1∧sN f p.1∧vF K H p.1 q.2.1∧cG p.2 q.2.2
section
variable {K:PySem.W.Frag}{f:Nat→Bool}{H:Hp}{kvs:List (NK×V)}{xs:List (NK×Addr×Value)}
theorem KT.val (r:KT K f H kvs xs) (k:NK):vQ (oF kvs k) ((atKey xs k).map (·.2)):=by
 induction r with
 | nil=>exact True.intro
 | @cons p q ps qs h t ih=>
  obtain ⟨h1,_,_,h2⟩:=h
  by_cases e:p.1=k
  ·have e':q.1=k:=h1.symm.trans e
   have b:atKey (q::qs) k=some q.2:=by simp [atKey,List.find?_cons,e']
   rw [gZ e,b];exact h2
  ·have e':¬ q.1=k:=fun z=>e (h1.trans z)
   have b:atKey (q::qs) k=atKey qs k:=by simp [atKey,List.find?_cons,e']
   rw [gY e,b];exact ih
theorem KT.repl (r:KT K f H kvs xs) (k:NK) {y:V}{u:Value} (ry:cG y u) :
  KT K f H (kvs.map fun kv=>if kv.1=k then (kv.1,y) else kv) (xs.map (putAt k u)):=by
 induction r with
 | nil=>exact .nil
 | @cons p q ps qs h t ih=>
  rw [List.map_cons,List.map_cons]
  refine .cons ?_ ih
  obtain ⟨h1,h2,h3,h4⟩:=h
  unfold putAt
  by_cases e:p.1=k
  ·rw [if_pos e,if_pos (h1.symm.trans e)];exact ⟨h1,h2,h3,ry⟩
  ·rw [if_neg e,if_neg (fun z=>e (h1.trans z))];exact ⟨h1,h2,h3,h4⟩
theorem KT.put (r:KT K f H kvs xs) (k:NK) {b:Addr}{y:V}{u:Value} (cf:sN f k) (hb:vF K H k b) (ry:cG y u) :
  KT K f H (pX kvs k y) (storedH xs k b u):=by
 have e:(kvs.any fun kv=>decide (kv.1=k))=(atKey xs k).isSome:=by
  rw [u5,(r.val k).isSome_eq,Option.isSome_map]
 unfold pX storedH
 rw [e]
 by_cases q:(atKey xs k).isSome=true
 ·rw [if_pos q,if_pos q];exact r.repl k ry
 ·rw [if_neg q,if_neg q];exact Paired.snoc r ⟨rfl,cf,hb,ry⟩
theorem KT.keeps {H':Hp} (r:KT K f H kvs xs) (ht:∀ b ys,H b=some (.tup ys)→H' b=some (.tup ys)) (hz:∀ b o u,H b=some (.frz o u)→H' b=some (.frz o u)):KT K f H' kvs xs:=
 Paired.mapP r fun _ _ z=>⟨z.1,z.2.1,z.2.2.1.mono ht hz,z.2.2.2⟩
end
section
variable {P:Program}{w:World}{H:Hp}{h:Heap}{a:Addr}
theorem aKn {u:HO} (ok:uH P w H h) (e:Rd H a u):gE P w H h a u:=e.ok ok
theorem x5 {kvs:List (mI×V)} (ok:uH P w H h) (e:Rd H a (.dK kvs)):kvs.length≤sizeLine∧(a == sysModules)=false∧∃ vs,KV kvs vs∧h.DictOf (dE P w) a vs:=
 show gE P w H h a (.dK kvs) from aKn ok e
theorem aKm {kvs:List (mI×V)} (ok:uH P w H h) (e:H a=some (.dK kvs)):kvs.length≤sizeLine∧(a == sysModules)=false∧∃ vs,KV kvs vs∧h.DictOf (dE P w) a vs:=x5 ok (.inl e)
end
section
variable {X:Cx}{pins:List (Addr×Obj)}{σ:St}{H:Hp}{s:Shared}{a:Addr}
theorem aFs {A:Around}{prog:Program}{w:World}{f:Nat→Bool}{knd:KeyKind prog w mI} (hu:A.units+64<cLine):(yO f knd).room A.in1:=
 show A.units+1+40<cLine by omega
theorem aJI {ks:List mI} (I:bG X pins σ H s) (e:aAY X.K H a (ks.map kV)):IsTupleKey (dE X.prog X.w) s.heap ks a:=by
 obtain ⟨its,r,⟨o,h1,h2,n,h3⟩,_⟩:=I.tuple (show fY X.K H a (ks.map kV) from e)
 exact ⟨o,its.toArray,n,h1,h2,h3,by simpa using aA1 r⟩
theorem aGA {ks:NK}{vs:List V} (I:bG X pins σ H s) (e:NV X.K H ks vs):∀ {us:List Value},cE vs us→fX (dE X.prog X.w) s.heap ks us:=by
 induction e with
 | nil=>intro us r;cases r;exact .nil
 | one _ ih=>
  intro us r
  cases r with
  | cons h t=>exact .one (xT h) (ih t)
 | tup k _ ih=>
  intro us r
  cases r with
  | cons h t=>
   cases h
   exact .tup (aJI I k) (ih t)
theorem tV {f:Nat→Bool}{ks:NK} (I:bG X pins σ H s) (e:vF X.K H ks a) (cf:sN f ks):(yO f (dE X.prog X.w)).is s.heap ks a:=by
 obtain ⟨xs,h1,h2⟩:=e
 obtain ⟨its,r,⟨o,g1,g2,n,g3⟩,_⟩:=I.tuple (show fY X.K H a xs from h1)
 exact ⟨⟨o,its.toArray,n,g1,g2,g3,by simpa using aGA I h2 r⟩,cf⟩
theorem zF {f:Nat→Bool}{kvs:List (NK×V)} (I:bG X pins σ H s) (e:Rd H a (.dT X.K f kvs)):kvs.length≤sizeLine∧(a == sysModules)=false ∧
  ∃ xs,KT X.K f H kvs xs∧s.heap.DictOfH (yO f (dE X.prog X.w)) a xs:=by
 obtain ⟨z,y,xs,r,o,es,ep,h1,h2,h3,h4,h5⟩:=(show gE X.prog X.w H s.heap a (.dT X.K f kvs) from aKn I.hok e)
 refine ⟨z,y,xs,r,o,es,ep,h1,h2,h3,h4,fun x hx=>?_,h5⟩
 have all:∀ {l:List (NK×V)}{m:List (NK×Addr×Value)},KT X.K f H l m→∀ x∈m,(yO f (dE X.prog X.w)).is s.heap x.1 x.2.1:=by
  intro l m q
  induction q with
  | nil=>intro x hx;exact nomatch hx
  | @cons p q ps qs hq t ih=>
   intro x hx
   rcases List.mem_cons.mp hx with e | hx
   ·subst e
    exact tV I (by rw [← hq.1];exact hq.2.2.1) (by rw [← hq.1];exact hq.2.1)
   ·exact ih x hx
 exact all r x hx
theorem aMe {f:Nat→Bool}{kvs:List (NK×V)} (I:bG X pins σ H s) (e:H a=some (.dT X.K f kvs)):kvs.length≤sizeLine∧(a == sysModules)=false ∧
  ∃ xs,KT X.K f H kvs xs∧s.heap.DictOfH (yO f (dE X.prog X.w)) a xs:=zF I (.inl e)
end
def aDr (K:PySem.W.Frag) (H:Hp) (a:Addr) (y:V) (r:Option V):Prop:=
 (∃ kvs k,Rd H a (.dK kvs)∧y=kV k∧r=oF kvs k)∨∃ f kvs k b,Rd H a (.dT K f kvs)∧y = .ref b∧sN f k∧vF K H k b∧r=oF kvs k
def aLn (K:PySem.W.Frag) (H:Hp) (a:Addr) (y v:V) (H':Hp):Prop:=
 (∃ kvs k,H a=some (.dK kvs)∧y=kV k∧kvs.length<sizeLine∧H'=upd H a (.dK (pX kvs k v))) ∨
 ∃ f kvs k b,H a=some (.dT K f kvs)∧y = .ref b∧sN f k∧vF K H k b∧kvs.length<sizeLine∧H'=upd H a (.dT K f (pX kvs k v))
section
variable {X:Cx}{pins:List (Addr×Obj)}{σ:St}{H:Hp}{s:Shared}{a:Addr}{y v:V}{u r:Value}{o:Option V}{A:Around}{E:Value→Shared→Prop}
theorem bG.big (I:bG X pins σ H s):sysModules<s.heap.objs.size:=by
 have h:mainGlobals<s.heap.objs.size:=(I.mod.glob.keeps I.bk).lt
 exact Nat.lt_trans (by decide) h
theorem aF5 {Q:Value→Shared→Prop} (hu:A.units+64<cLine) (I:bG X pins σ H s) (g:aDr X.K H a y (some v)) (ry:cG y u) (h:∀ w' s',bG X pins σ H s'→cG v w'→Q w' s') :
  wpAny (model X.prog X.w) A (getItem (.ref a) u) Q E s:=by
 rcases g with ⟨kvs,k,e,ey,l⟩ | ⟨f,kvs,k,b,e,ey,cf,eb,l⟩
 ·subst ey
  obtain ⟨z,hd,vs,rel,dd⟩:=x5 I.hok e
  obtain ⟨w',hw,rw'⟩:=vQ.some_of (v:=v) (o:=valueAt vs k) (by rw [l];exact rel.val k)
  exact wpAny_getItem_of (xT ry) dd.mapOf hw (h w' _ (I.tok _) rw')
 ·subst ey
  cases (show u=Value.ref b from ry)
  obtain ⟨z,hd,xs,rel,dd⟩:=zF I e
  obtain ⟨w',hw,rw'⟩:=vQ.some_of (v:=v) (o:=(atKey xs k).map (·.2)) (by rw [l];exact rel.val k)
  obtain ⟨p,hp,hp2⟩:=Option.map_eq_some_iff.mp hw
  refine wpAny_getItem_heap (aFs hu) (tV I eb cf) dd hp ?_
  rw [hp2]
  exact h w' _ (I.tok _) rw'
theorem aJq {Q:Value→Shared→Prop} (hu:A.units+64<cLine) (I:bG X pins σ H s) (g:aDr X.K H a y o) (ry:cG y u) (h:∀ s',bG X pins σ H s'→Q (.bool (!o.isSome)) s') :
  wpAny (model X.prog X.w) A (compareOp .NotIn u (.ref a)) Q E s:=by
 rcases g with ⟨kvs,k,e,ey,l⟩ | ⟨f,kvs,k,b,e,ey,cf,eb,l⟩
 ·subst ey
  obtain ⟨z,hd,vs,rel,dd⟩:=x5 I.hok e
  refine wpAny_notIn_of (xT ry) hd dd.mapOf ?_
  rw [← (rel.val k).isSome_eq,← l]
  exact h _ (I.tok _)
 ·subst ey
  cases (show u=Value.ref b from ry)
  obtain ⟨z,hd,xs,rel,dd⟩:=zF I e
  refine wpAny_notIn_heap (aFs hu) (tV I eb cf) hd dd ?_
  have q:=(rel.val k).isSome_eq
  rw [Option.isSome_map] at q
  rw [← q,← l]
  exact h _ (I.tok _)
theorem aBD {h':Heap}{t':Nat}{ob:HO} (I:bG X pins σ H s) (mu:Mut (H a)) (hs:Heap.SameBut a s.heap h') (he:∃ q,h'.get? a=some q) (new:gE X.prog X.w (upd H a ob) h' a ob) :
  bG X pins σ (upd H a ob) { s with heap:=h',toks:=t' }:=
 I.write (x:=a) (e:=a) mu (.inl rfl) (fun b q hb z=>(hs.2 b hb).trans z) he new
theorem aIF {P:Program}{w:World}{H':Hp}{h':Heap}{kvs:List (mI×V)}{vs:List (mI×Value)} (z:kvs.length≤sizeLine) (hd:(a == sysModules)=false) (rel:KV kvs vs) (dd:h'.DictOf (dE P w) a vs) :
  gE P w H' h' a (.dK kvs):=⟨z,hd,vs,rel,dd⟩
theorem aGv {H':Hp}{Q:Unit→Shared→Prop} (hu:A.units+64<cLine) (I:bG X pins σ H s) (g:aLn X.K H a y v H') (ry:cG y u) (rv:cG v r) (h:∀ s',bG X pins σ H' s'→Q () s') :
  wpAny (model X.prog X.w) A (setItem (.ref a) u r) Q E s:=by
 rcases g with ⟨kvs,k,e,ey,l,eH⟩ | ⟨f,kvs,k,b,e,ey,cf,eb,l,eH⟩
 ·subst ey eH
  obtain ⟨z,hd,vs,rel,dd⟩:=aKm I.hok e
  have hz:vs.length≤sizeLine:=by rw [← rel.length];exact z
  have hl:(pX kvs k v).length≤sizeLine:=by have:=qO kvs k v;omega
  refine wpAny_setItem_pairs (hsz:=hz) (xT ry) dd fun h' dd' hs=>h _ ?_
  have he:∃ q,h'.get? a=some q:=let ⟨q,_,_,hq,_⟩:=dd'; ⟨q,hq⟩
  exact aBD I (by rw [e];exact True.intro) hs he (aIF hl hd (rel.put k rv) dd')
 ·subst ey eH
  cases (show u=Value.ref b from ry)
  obtain ⟨z,hd,xs,rel,dd⟩:=aMe I e
  have hz:xs.length≤sizeLine:=by rw [← Paired.length rel];exact z
  have hl:(pX kvs k v).length≤sizeLine:=by have:=qO kvs k v;omega
  refine wpAny_setItem_heap (hsz:=hz) (aFs hu) (tV I eb cf) dd fun h' dd' hs=>h _ ?_
  obtain ⟨q,es,ep,hq,h2,h3,h4,_,h5⟩:=dd'
  refine aBD I (by rw [e];exact True.intro) hs ⟨q,hq⟩ ⟨hl,hd,_,(rel.put k cf eb rv).keeps (fun c ys ec=>by rw [aS (aAH ec e (fun z=>nomatch z))];exact ec) (fun c ob uu ec=>by rw [aS (aAH ec e (fun z=>nomatch z))];exact ec),q,es,ep,hq,h2,h3,h4,h5⟩
end
section
variable {X:Cx}{pins:List (Addr×Obj)}{σ:St}{H:Hp}{s:Shared}{a:Addr}{kvs:List (mI×V)}{k:mI}{u:Value}{A:Around}{E:Value→Shared→Prop}
theorem aMj {Q:Value→Shared→Prop} (I:bG X pins σ H s) (e:Rd H a (.dK kvs)) (h:∀ t s',bG X pins σ H s'→Q (.int kvs.length t) s'):wpAny (model X.prog X.w) A (call (.builtin "len") [.ref a]) Q E s:=by
 obtain ⟨z,hd,vs,rel,dd⟩:=x5 I.hok e
 refine call_len_dict hd dd (by rw [← rel.length];rw [sizeLine_eq] at z;omega) ?_
 rw [← rel.length]
 exact h _ _ (I.tok _)
theorem aNo {P:Program}{w:World} (d:Addr) (hd:(d == sysModules)=false) :
  MeetsIn P w (Builtin.«dict.__len__» ⟨[.ref d],[]⟩) (fun _ R s=>∃ o es ep,s.heap.get? d=some o∧o.data = .dict es ep∧R (.ok (.ret (.int es.size s.toks))) { s with toks:=s.toks+1 }):=by
 refine .of_wp fun A R s hh=>?_
 obtain ⟨o,es,ep,ho,hdt,hq⟩:=hh
 show wpAny _ _ (dictSize d >>= _) _ _ s
 unfold dictSize
 refine wpAny_bind (wpAny_bind (wpAny_dictEntries ho hdt (wpAny_pure ?_)))
 show wpAny _ _ (Builtin.Dict.pendingCount d >>= _) _ _ s
 refine wpAny_bind (wpAny_pendingCount_other hd (wpAny_ret_mkInt ?_))
 rw [Nat.add_zero]
 exact hq
theorem aLt {f:Nat→Bool}{kvs:List (NK×V)}{Q:Value→Shared→Prop} (I:bG X pins σ H s) (e:Rd H a (.dT X.K f kvs)) (h:∀ t s',bG X pins σ H s'→Q (.int kvs.length t) s'):wpAny (model X.prog X.w) A (call (.builtin "len") [.ref a]) Q E s:=by
 obtain ⟨z,hd,xs,rel,o,es,ep,ho,hx,hdt,he,_,_⟩:=zF I e
 have n:es.size=kvs.length:=by rw [size_of_entries he,← Paired.length rel]
 have ty:s.TypeIs (.ref a) "dict":=⟨o,ho,hx.1⟩
 have zl:(kvs.length:Int)<2 ^ 63:=by rw [sizeLine_eq] at z;omega
 refine Calls.call_function_entry kind_len plain_len entry_len (args_len1 _) ?_
 unfold Builtin.«len»
 refine wpAny_bind (m:=oneArg "len" _) (wpAny_pure ?_)
 refine wpAny_bind (m:=callSpecial? (.ref a) (Str.ofString "__len__")) (wpAny_callSpecial?_slot (name:=Str.ofString "__len__") ty PySem.F.slot_dict_len
  (call_meetsIn PySem.F.slot_dict_len ty PySem.F.entry_dict_len (PySem.F.args_dict_len_1 _) (aNo a hd) ⟨o,es,ep,ho,hdt,?_⟩))
 rw [n]
 show wpAny _ _ _ _ _ { s with toks:=s.toks+1 }
 refine wpAny_bind (wpAny_holding (wpAny_pure ?_))
 refine wpAny_bind (wpAny_letGo ?_)
 show wpAny _ _ (if ((kvs.length:Nat):Int)<0 then _ else _) _ _ _
 rw [if_neg (by omega)]
 show wpAny _ _ (if ((kvs.length:Nat):Int) ≥ 2 ^ 63 then _ else _) _ _ _
 rw [if_neg (by omega)]
 exact wpAny_bind (wpAny_mkInt (wpAny_pure ⟨_,rfl,h _ _ (I.tok _)⟩))
end
def aLr (i:Expr):Prop:=∀ ov iv,subscripted i false ov iv=operate [ov,iv] (getItem ov iv)
theorem aJB {prog:Program}{w:World}{A:Around}{E:Value→Shared→Prop}{s:Shared}{env:Env}{value slice:Expr}{pos:Pos}{T id:String}{Q:Value→Shared→Prop}
  (hl:typeLookup (.type T) "__getitem__"=pure (some (.builtin id))) (hs:aLr slice)
  (h:wpAny (model prog w) A (eval value env) (fun o s₁=>wpAny (model prog w) A (eval slice env) (fun i s₂=>s₂.TypeIs o T∧wpAny (model prog w) A (getItem o i) Q E s₂) E s₁) E s) :
  wpAny (model prog w) A (eval (.Subscript value slice pos) env) Q E s:=by
 refine Subscript_ (wpAny_mono h (fun o s₁ h₁=>wpAny_mono h₁ (fun i s₂ h₂=>?_) fun _ _ x=>x) fun _ _ x=>x)
 obtain ⟨hT,h₂⟩:=h₂
 unfold subscriptTail
 refine wpAny_bind ?_
 rw [getitemInPython_of_ne hT.not_modules]
 refine wpAny_bind (wpAny_specialOf hT hl ?_)
 have fin:wpAny (model prog w) A (subscripted slice false o i) (fun r s₃=>wpAny (model prog w) A (letTemporaryGo value o r >>= fun _=>pure r) Q E s₃) E s₂:=by
  rw [hs o i]
  exact wpAny_operating (wpAny_mono h₂ (fun r s₃ h₃=>wpAny_bind (wpAny_letTemporaryGo (wpAny_pure h₃))) fun _ _ x=>x)
 first
  | exact wpAny_pure (wpAny_bind fin)
  | exact wpAny_bind (wpAny_pure (wpAny_bind fin))
  | exact wpAny_bind fin
theorem aDt {X:Cx}{pins:List (Addr×Obj)}{σ:St}{H:Hp}{s:Shared}{a:Addr}{y:V}{o:Option V} (I:bG X pins σ H s) (g:aDr X.K H a y o):s.TypeIs (.ref a) "dict":=by
 rcases g with ⟨kvs,k,e,_,_⟩ | ⟨f,kvs,k,b,e,_,_,_,_⟩
 ·obtain ⟨_,_,vs,_,dd⟩:=x5 I.hok e
  exact dd.typeIs
 ·obtain ⟨_,_,xs,_,dd⟩:=zF I e
  exact dd.typeIs
def aL5 (K:PySem.W.Frag) (td ty:TE):TE:=fun σ H Q=>td σ H fun x H1=>ty σ H1 fun y H2=>∃ a v,x = .ref a∧aDr K H2 a y (some v)∧Q v H2
def aIT (K:PySem.W.Frag) (ty td:TE):TE:=fun σ H Q=>ty σ H fun y H1=>td σ H1 fun x H2=>∃ a o,x = .ref a∧aDr K H2 a y o∧Q (.bl (!o.isSome)) H2
def aLM (K:PySem.W.Frag) (td ty tv:TE):TS:=fun D σ H=>tv σ H fun v H1=>td σ H1 fun x H2=>ty σ H2 fun y H3=>∃ a H4,x = .ref a∧aLn K H3 a y v H4∧D.nx σ H4
section
variable {X:Cx}{o i e value:Expr}{pos pos' tpos:Pos}{td ty tv:TE}
theorem aJM (hu:X.A.units+64<cLine) (ho:PE X o td) (hi:PE X i ty) (hs:aLr i):PE X (.Subscript o i pos) (aL5 X.K td ty):=by
 intro pins s σ H Q I h
 refine aJB PySem.F.slot_dict_getitem.lookup hs (fG (ho pins s σ H _ I h) fun u s1 ⟨x,H1,I1,rx,q1⟩=>fG (hi pins s1 σ H1 _ I1 q1) fun iv s2 ⟨y,H2,I2,ry,a,v,ex,g,q2⟩=>?_)
 subst ex
 obtain rfl:u=Value.ref a:=rx
 exact ⟨aDt I2 g,aF5 hu I2 g ry fun w' s3 I3 rw'=>⟨v,H2,I3,rw',q2⟩⟩
theorem aGt (hu:X.A.units+64<cLine) (hi:PE X i ty) (ho:PE X o td):PC X .NotIn i o (aIT X.K ty td):=by
 intro pins s σ H Q I h
 refine fG (hi pins s σ H _ I h) fun iv s1 ⟨y,H1,I1,ry,q1⟩=>fG (ho pins s1 σ H1 _ I1 q1) fun u s2 ⟨x,H2,I2,rx,a,ov,ex,g,q2⟩=>?_
 subst ex
 obtain rfl:u=Value.ref a:=rx
 exact aJq hu I2 g ry fun s3 I3=>⟨.bl (!ov.isSome),H2,I3,rfl,q2⟩
theorem aJs (hu:X.A.units+64<cLine) (ho:PE X o td) (hi:PE X i ty) (hv:PE X value tv) (hs:swapsWith value (some (.Subscript o i pos')) pos.line X.env=pure false) :
  PS X (.Assign [.Subscript o i pos'] value pos) (aLM X.K td ty tv):=by
 intro pins s σ H D I h
 refine wpAny_Assign_Subscript (fG (hv pins s σ H _ I h) fun r s1 ⟨v,H1,I1,rv,q1⟩=>fG (ho pins s1 σ H1 _ I1 q1) fun u s2 ⟨x,H2,I2,rx,q2⟩=>fG (hi pins s2 σ H2 _ I2 q2) fun iv s3 ⟨y,H3,I3,ry,a,H4,ex,g,q3⟩=>?_) hs
 subst ex
 obtain rfl:u=Value.ref a:=rx
 exact aGv hu I3 g ry rv fun s4 I4=>⟨σ,H4,I4,q3⟩
end
theorem aCv {P:Program}{w:World}{H:Hp} (h:Heap) (hb:sysModules<h.objs.size):gE P w H (h.push { cls:=.type "dict",data:=.dict #[] }) h.objs.size (.dK []):=
 ⟨Nat.zero_le _,beq_eq_false_iff_ne.mpr (Ne.symm (Nat.ne_of_lt hb)),[],.nil,Heap.DictOf.new h⟩
theorem aHo {P:Program}{w:World}{K:PySem.W.Frag}{f:Nat→Bool}{H:Hp} (h:Heap) (hb:sysModules<h.objs.size):gE P w H (h.push { cls:=.type "dict",data:=.dict #[] }) h.objs.size (.dT K f []):=
 ⟨Nat.zero_le _,beq_eq_false_iff_ne.mpr (Ne.symm (Nat.ne_of_lt hb)),[],.nil,_, #[],0,Heap.get?_push_size _ rfl,⟨rfl,rfl,rfl⟩,rfl,rfl,List.nodup_nil⟩
def aKA:TE:=fun _ H Q=>∀ p,H p=none→Q (.ref p) (upd H p (.dK []))
def aD5 (K:PySem.W.Frag) (f:Nat→Bool):TE:=fun _ H Q=>∀ p,H p=none→Q (.ref p) (upd H p (.dT K f []))
section
variable {X:Cx}{pos:Pos}
theorem aIc:PE X (.Dict [] [] pos) aKA:=fun pins s σ H Q I h=>
 wpAny_Dict_empty ⟨.ref s.heap.objs.size,_,I.laid (a:=s.heap.objs.size) (o:=.dK []) (t':=s.toks) (fun _ _ q=>Heap.get?_push_of_some _ q) (Nat.le_refl _) (aCv s.heap I.big),rfl,h _ (I.hok.fresh (Nat.le_refl _))⟩
theorem zB {f:Nat→Bool}:PE X (.Dict [] [] pos) (aD5 X.K f):=fun pins s σ H Q I h=>
 wpAny_Dict_empty ⟨.ref s.heap.objs.size,_,I.laid (a:=s.heap.objs.size) (o:=.dT X.K f []) (t':=s.toks) (fun _ _ q=>Heap.get?_push_of_some _ q) (Nat.le_refl _) (aHo s.heap I.big),rfl,h _ (I.hok.fresh (Nat.le_refl _))⟩
end
def aD8:List (TE×TE)→St→Hp→(List (V×V)→Hp→Prop)→Prop
 | [],_,H,Q=>Q [] H
 | (tk,tv)::r,σ,H,Q=>tk σ H fun x H1=>tv σ H1 fun y H2=>aD8 r σ H2 fun ps H3=>Q ((x,y)::ps) H3
abbrev VV:List (V×V)→List (Value×Value)→Prop:=Paired fun p q=>cG p.1 q.1∧cG p.2 q.2
def PPs (X:Cx) (pos:Pos) (keys:List (Option Expr)) (values:List Expr) (trs:List (TE×TE)):Prop:=
 ∀ (pins:List (Addr×Obj)) (s:Shared) (σ:St) (H:Hp) (Q:List (V×V)→Hp→Prop),bG X pins σ H s→aD8 trs σ H Q →
  wpAny (model X.prog X.w) X.A (evalPairs (pairTrees keys values X.env pos)) (fun vs s'=>∃ ps H',bG X pins σ H' s'∧VV ps vs∧Q ps H') X.xe s
theorem aIS {X:Cx}{pos:Pos}:PPs X pos [] [] []:=fun pins s σ H Q I h=>pairTrees_nil_walk ⟨[],H,I,.nil,h⟩
theorem aHG {X:Cx}{pos:Pos}{k v:Expr}{ks:List (Option Expr)}{vs:List Expr}{tk tv:TE}{trs:List (TE×TE)} (hk:PE X k tk) (hv:PE X v tv) (hr:PPs X pos ks vs trs) :
  PPs X pos (some k::ks) (v::vs) ((tk,tv)::trs):=fun pins s σ H Q I h=>
 pairTrees_cons_walk (fG (hk pins s σ H _ I h) fun u s1 ⟨x,H1,I1,rx,q1⟩=>fG (hv pins s1 σ H1 _ I1 q1) fun w2 s2 ⟨y,H2,I2,ry,q2⟩=>
  fG (hr pins s2 σ H2 _ I2 q2) fun ws s3 ⟨ps,H3,I3,rel,q3⟩=>⟨(x,y)::ps,H3,I3,.cons ⟨rx,ry⟩ rel,q3⟩)
def zP (kvs more:List (mI×V)):List (mI×V):=more.foldl (fun acc kv=>pX acc kv.1 kv.2) kvs
theorem KV.merge:∀ {more:List (mI×V)}{rs:List (mI×Value)}{kvs:List (mI×V)}{vs:List (mI×Value)},KV more rs→KV kvs vs→KV (zP kvs more) (merged vs rs):=by
 intro more rs kvs vs r
 unfold KV at r
 induction r generalizing kvs vs with
 | nil=>intro q;exact q
 | @cons p q ps qs h t ih=>
  intro r0
  have e:KV (pX kvs p.1 p.2) (stored vs q.1 q.2):=by
   have:=r0.put p.1 h.2
   rw [← h.1];exact this
  exact ih e
theorem sD:∀ (more kvs:List (mI×V)),(zP kvs more).length≤kvs.length+more.length
 | [],kvs=>by show kvs.length≤kvs.length+0;omega
 | p::r,kvs=>by
  have h1:=sD r (pX kvs p.1 p.2)
  have h2:=qO kvs p.1 p.2
  show (zP (pX kvs p.1 p.2) r).length≤_
  rw [List.length_cons];omega
theorem x4 {P:Program}{w:World}:∀ {kvs:List (mI×V)}{ws:List (Value×Value)},VV (kvs.map fun kv=>(kV kv.1,kv.2)) ws→∃ rs,Carries (dE P w) ws rs∧KV kvs rs
 | [],_,r=>by rw [List.map_nil] at r;cases r;exact ⟨[],True.intro,.nil⟩
 | p::kvs,_,r=>by
  rw [List.map_cons] at r
  cases r with
  | @cons a b as bs h t=>
   obtain ⟨rs,c,q⟩:=x4 (P:=P) (w:=w) t
   obtain ⟨b1,b2⟩:=b
   exact ⟨(p.1,b2)::rs,⟨xT h.1,rfl,c⟩,.cons ⟨rfl,h.2⟩ q⟩
def aMm (trs:List (TE×TE)):TE:=fun σ H Q=>∀ p,H p=none→aD8 trs σ (upd H p (.dK [])) fun ps H2=>H2 p=some (.dK [])∧∃ kvs:List (mI×V),ps=kvs.map (fun kv=>(kV kv.1,kv.2))∧kvs.length≤15∧Q (.ref p) (upd H2 p (.dK (zP [] kvs)))
theorem aJT {X:Cx}{pos:Pos}{keys:List (Option Expr)}{values:List Expr}{trs:List (TE×TE)} (h:PPs X pos keys values trs) (hall:keys.all (·.isSome)=true) (hl:keys.length=values.length) (h0:keys≠[])
  (h15:keys.length≤15):PE X (.Dict keys values pos) (aMm trs):=by
 intro pins s σ H Q I q
 have hn:=I.hok.fresh (Nat.le_refl s.heap.objs.size)
 have I1:=I.laid (a:=s.heap.objs.size) (o:=.dK []) (h':=s.heap.push { cls:=.type "dict",data:=.dict #[] }) (t':=s.toks) (fun _ _ q=>Heap.get?_push_of_some _ q) (Nat.le_refl _) (aCv s.heap I.big)
 refine wpAny_Dict_walk (knd:=dE X.prog X.w) hall hl h0 h15 (fG (h pins _ σ _ _ I1 (q _ hn)) fun ws s2 ⟨ps,H2,I2,rel,e,kvs,ep,lk,q2⟩=>?_)
 subst ep
 obtain ⟨rs,c,rk⟩:=x4 (P:=X.prog) (w:=X.w) rel
 obtain ⟨z,hd,vs0,r0,dd⟩:=aKm I2.hok e
 cases r0
 refine ⟨rs,c,dd,fun h' dd' hs=>⟨.ref s.heap.objs.size,_,?_,rfl,q2⟩⟩
 have hz:(zP [] kvs).length≤sizeLine:=by
  have h1:=sD kvs []
  rw [List.length_nil] at h1
  rw [sizeLine_eq];omega
 have he:∃ q,h'.get? s.heap.objs.size=some q:=let ⟨q,_,_,hq,_⟩:=dd'; ⟨q,hq⟩
 exact aBD I2 (by rw [e];exact True.intro) hs he (aIF hz hd (rk.merge .nil) dd')
structure M2 (X:Cx) (o:Expr) (m:Str) (apos:Pos) (e f:Expr) (cpos:Pos):Prop where
 base:attributeBase o m X.env (eval o X.env)=eval o X.env
 few:((backTo cpos (starEach [e,f] X.env)).all (fun x=>!x.1) && (backToKw cpos (keywordEach [] X.env)).all (fun x=>x.1.isSome)
  && decide (([e,f]:List Expr).length+([]:List Keyword).length+(if ([]:List Keyword).isEmpty then 0 else 1)<30))=true
 line:(apos.endLine == cpos.line)=true
 trees:backTo cpos (starEach [e,f] X.env)=[(false,eval e X.env),(false,eval f X.env)]
def IsD (K:PySem.W.Frag) (H:Hp) (a:Addr):Prop:=(∃ kvs,Rd H a (.dK kvs))∨∃ f kvs,Rd H a (.dT K f kvs)
theorem aLv {X:Cx}{pins:List (Addr×Obj)}{σ:St}{H:Hp}{s:Shared}{a:Addr} (I:bG X pins σ H s) (d:IsD X.K H a) :
  s.TypeIs (.ref a) "dict"∧(∀ b,Value.ref a = .ref b→∃ ob,s.heap.get? b=some ob∧ob.dict=none)∧(a == sysModules)=false:=by
 rcases d with ⟨kvs,e⟩ | ⟨f,kvs,e⟩
 ·obtain ⟨_,hd,vs,_,dd⟩:=x5 I.hok e
  refine ⟨dd.typeIs,fun b q=>?_,hd⟩
  cases q
  obtain ⟨ob,_,_,h1,h2,_⟩:=dd
  exact ⟨ob,h1,h2.2.1⟩
 ·obtain ⟨_,hd,xs,_,dd⟩:=zF I e
  refine ⟨dd.typeIs,fun b q=>?_,hd⟩
  cases q
  obtain ⟨ob,_,_,h1,h2,_⟩:=dd
  exact ⟨ob,h1,h2.2.1⟩
section
variable {X:Cx}{pins:List (Addr×Obj)}{σ:St}{H:Hp}{s:Shared}{a:Addr}{y d:V}{u r:Value}{o:Option V}{A:Around}{E:Value→Shared→Prop}
theorem aLp {Q:Value→Shared→Prop} (hu:A.units+64<cLine) (I:bG X pins σ H s) (g:aDr X.K H a y o) (ry:cG y u) (rd:cG d r) (h:∀ w' s',bG X pins σ H s'→cG (o.getD d) w'→Q w' s') :
  wpAny (model X.prog X.w) A (call (.builtin "dict.get") [.ref a,u,r]) Q E s:=by
 rcases g with ⟨kvs,k,e,ey,l⟩ | ⟨f,kvs,k,b,e,ey,cf,eb,l⟩
 ·subst ey
  obtain ⟨z,hd,vs,rel,dd⟩:=x5 I.hok e
  refine call_meetsIn PySem.F.slot_dict_get dd.typeIs PySem.F.entry_dict_get (PySem.F.args_dict_get_3 _ _ _) (meets_dict_get_default (dE X.prog X.w) a (xT ry) hd r) ⟨_,dd.mapOf,h _ _ (I.tok _) ?_⟩
  rw [l]
  exact (rel.val k).getD rd
 ·subst ey
  cases (show u=Value.ref b from ry)
  obtain ⟨z,hd,xs,rel,dd⟩:=zF I e
  refine call_meetsIn PySem.F.slot_dict_get dd.typeIs PySem.F.entry_dict_get (PySem.F.args_dict_get_3 _ _ _) (meetsH_dict_get_default (yO f (dE X.prog X.w)) a b hd r) ⟨aFs hu,k,xs,tV I eb cf,dd,h _ _ (I.tok _) ?_⟩
  rw [l]
  exact (rel.val k).getD rd
end
def aLm (K:PySem.W.Frag) (td ty tx:TE):TE:=fun σ H Q=>td σ H fun x H1=>∃ a,x = .ref a∧IsD K H1 a∧ty σ H1 fun y H2=>tx σ H2 fun z H3=>∃ o,aDr K H3 a y o∧Q (o.getD z) H3
section
variable {X:Cx}{o e f:Expr}{apos cpos:Pos}{td ty tx:TE}
theorem aIe (hu:X.A.units+64<cLine) (ho:PE X o td) (he:PE X e ty) (hf:PE X f tx) (m:M2 X o "get" apos e f cpos):PE X (.Call (.Attribute o "get" apos) [e,f] [] cpos) (aLm X.K td ty tx):=by
 intro pins s σ H Q I h
 refine wpAny_Call_method m.base m.few m.line PySem.F.plainAttrs_dict PySem.F.slot_dict_get PySem.F.type_dict_get (fG (ho pins s σ H _ I h) fun u s1 ⟨x,H1,I1,rx,a,ex,d,q1⟩=>?_)
 subst ex
 obtain rfl:u=Value.ref a:=rx
 obtain ⟨t1,t2,_⟩:=aLv I1 d
 refine ⟨t1,t2,?_⟩
 rw [m.trees]
 refine Calls.callWith_builtin rfl (Calls.evalArgs_plain (Calls.spliced_cons (fG (he pins s1 σ H1 _ I1 q1) fun iv s2 ⟨y,H2,I2,ry,q2⟩=>
  Calls.spliced_cons (fG (hf pins s2 σ H2 _ I2 q2) fun fv s3 ⟨z,H3,I3,rz,ov,g,q3⟩=>Calls.spliced_nil ?_))))
 exact aLp hu I3 g ry rz fun w' s4 I4 rw'=>⟨_,H3,I4,rw',q3⟩
end
section
variable {X:Cx}{pins:List (Addr×Obj)}{σ:St}{H:Hp}{s:Shared}{a:Addr}{kvs:List (mI×V)}{A:Around}{E:Value→Shared→Prop}
end
section
variable {X:Cx}{pins:List (Addr×Obj)}{σ:St}{H:Hp}{s:Shared}{a:Addr}{y:V}{u:Value}{A:Around}{E:Value→Shared→Prop}
end
def Itv (K:PySem.W.Frag) (p:Addr) (n:Nat):It:=
 ⟨fun i H=>i<n∧∃ xs x,jS K H p xs∧xs[n-1-i]? = some x,fun i H x H'=>H'=H∧∀ xs,jS K H p xs→xs[n-1-i]? = some x,fun i _=>n≤i⟩
theorem aIg {P:Program}{w:World}{K:PySem.W.Frag}{tg:Expr} (a it:Addr) (n:Nat):aCe P w K tg (Itv K a n) [it] it (fun i h=>i≤n∧h.IsRevIter it a ((n:Int)-1-(i:Int))) where
 mem:=by simp
 obj:=fun i h st b hb=>by
  have e:b=it:=by simpa using hb
  subst e
  obtain ⟨_,o,e,c,d⟩:=st
  exact ⟨o,e,fun v z=>by rw [d] at z;cases z⟩
 keep:=fun i h h' st k=>⟨st.1,st.2.at fun o e=>k it (by simp) o e⟩
 item:=by
  intro X hP hw hK hc i pins s σ H E I hf st hg
  subst hP hw hK
  obtain ⟨hi,xs,x,hq,hx⟩:=hg
  obtain ⟨its,rv,p,hz⟩:=I.list hq
  obtain ⟨u,hu,ru⟩:=rv.get hx
  obtain ⟨f0,f1,f2,f3,f4,f5⟩:=hf it (by simp)
  have hit:=st.2
  rw [show (n:Int)-1-(i:Int)=((n-1-i:Nat):Int) by omega] at hit
  refine wpAny_pyNext_rev_item hit p.isList (x:=u) (by simpa using hu) fun h' st' sb=>?_
  rw [show ((n-1-i:Nat):Int)-1=(n:Int)-1-((i+1:Nat):Int) by omega] at st'
  have I1:bG X pins σ H { s with heap:=h' }:=I.turned (t':=s.toks) (fun b o hb e=>(sb.2 b hb).trans e) f0 f1 f3 f4 f5
  obtain ⟨o,e,c,d⟩:=id st'
  exact ⟨u,rfl,aDo (s:={ s with heap:=h' }) e c d (by decide) ⟨x,H,I1,ru,⟨rfl,fun ys hy=>by rw [I.list_inj hy hq];exact hx⟩,⟨hi,st'⟩,fun b hb=>(hf b hb).1⟩⟩
 done:=by
  intro X hP hw hK hc i pins s σ H E I hf st hg
  subst hP hw hK
  obtain ⟨f0,f1,f2,f3,f4,f5⟩:=hf it (by simp)
  have h1:n≤i:=hg
  have h2:=st.1
  have hit:=st.2
  rw [show (n:Int)-1-(i:Int) = -1 by omega] at hit
  exact wpAny_pyNext_rev_end (I.ok.hd hc) hit fun h' eb=>⟨rfl,I.turned (t':=s.toks) (fun b o hb e=>eb b o hb e) f0 f1 f3 f4 f5⟩
 self:=fun _ _ _ _ _ st h=>wpAny_pyIter_revIter st.2 h
section
variable {X:Cx}{tg a:Expr}{ga:GE}{pos:Pos}
def aM5 (K:PySem.W.Frag) (ta:TA):TI:=fun σ H R=>ta σ H fun vs H1=>∃ p xs,vs=[.ref p]∧jS K H1 p xs∧R (Itv K p xs.length) H1
theorem aLC {ta:TA}{p:Pos} (hg:Gl X "reversed") (hm:X.mg "reversed"=none) (hbt:bootBuiltins "reversed"=some (.type "reversed")) (ha:PA X [a] ta) (hs:starEach [a] X.env=[(false,eval a X.env)]:=by rfl) :
  PI X tg (.Call (.Name "reversed" p) [a] [] pos) (aM5 X.K ta):=by
 intro pins s σ H R I h
 refine Call_ (oC I hg hm hbt (PyProof.Rows.callWith_type1 (fG (ha pos pins s σ H _ I h) fun us s1 ⟨vs,H1,I1,r1,q1⟩=>?_) (by rw [hs];rfl) (by rfl)))
 obtain ⟨l,xs,e,hx,q⟩:=q1
 subst e
 obtain ⟨u,rfl,r⟩:=tN r1
 cases r
 obtain ⟨its,rv,pl,hz⟩:=I1.list hx
 have hl:=rv.length
 refine call_reversed_list pl.isList ?_
 have st:(s1.heap.push (revObj l ((its.toArray.size:Int)-1))).IsRevIter s1.heap.objs.size l ((xs.length:Int)-1-((0:Nat):Int)):=⟨_,Heap.get?_push_size _ rfl,rfl,by simp [revObj,hl]⟩
 refine wpAny_pyIter_revIter st ?_
 refine ⟨s1.heap.objs.size,[s1.heap.objs.size],_,_,H1,rfl,I1.kept (t':=s1.toks) fun b o e=>Heap.get?_push_of_some _ e,aIg l _ xs.length,⟨Nat.zero_le _,st⟩,fun b hb=>?_,q⟩
 have e:b=s1.heap.objs.size:=by simpa using hb
 subst e
 exact I1.fpOk (Nat.le_refl _) (I1.hok.fresh (Nat.le_refl _))
def aKy (ga:GE):GF:=fun δ Q=>ga δ fun d=>match d with
 | .lst ds=>Q ds.reverse
 | _=>False
theorem aHJ {K:PySem.W.Frag}{C1:Hp}{p:Addr}{xs:List V}{ds:List D} (hx:jS K C1 p xs) (hd:bO K C1 xs ds):aC6 K (Itv K p xs.length) ds.reverse C1:=by
 intro C2 H2 c1 c2 i
 have hx2:=c2.seq (c1.seq hx)
 refine ⟨fun d e=>?_,fun hl=>?_⟩
 ·have hi:i<ds.length:=by
   have:=(List.getElem?_eq_some_iff.mp e).1
   simpa using this
  rw [List.getElem?_reverse hi,← hd.length] at e
  obtain ⟨v,ev,nv⟩:=hd.get e
  refine ⟨⟨by rw [hd.length];exact hi,xs,v,hx2,ev⟩,fun x H3 y=>?_⟩
  obtain ⟨rfl,y⟩:=y
  have:=y xs hx2
  rw [ev] at this
  cases this
  exact ⟨C2,eM.refl c2,nv.mono c1⟩
 ·show xs.length≤i
  rw [List.length_reverse] at hl
  rw [hd.length]
  exact hl
theorem aKN {p:Pos} (hg:Gl X "reversed") (hm:X.mg "reversed"=none) (hbt:bootBuiltins "reversed"=some (.type "reversed")) (ha:DE X a ga) (hs:starEach [a] X.env=[(false,eval a X.env)]:=by rfl):DI X tg (.Call (.Name "reversed" p) [a] [] pos) (aKy ga):=by
 obtain ⟨t1,p1,h1⟩:=ha
 refine ⟨_,aLC hg hm hbt (bX p1 dS hs) hs,fun C0 H0 δ σ C H Q R rp g k=>h1 C0 H0 δ σ C H _ _ rp g fun d v C1 H1 q e1 n1=>?_⟩
 cases d with
 | lst ds=>
  obtain ⟨p,xs,rfl,hx,hd⟩:=bV.mp n1
  exact ⟨p,xs,rfl,e1.ch.seq hx,k _ _ C1 H1 q e1 (aHJ hx hd)⟩
 | _=>exact q.elim
end
section
variable {X:Cx}{tg a:Expr}{ga:GE}{pos:Pos}
def aM2 (K:PySem.W.Frag) (tl:TE):TI:=fun σ H R=>tl σ H fun x H1=>∃ a,x = .ref a∧(((∃ xs,jS K H1 a xs)∧R (Itl K a) H1)∨((∃ xs,fY K H1 a xs)∧R (Itt K a) H1))
theorem aK9 {l:Expr}{tl:TE} (hl:PE X l tl):PI X tg l (aM2 X.K tl):=by
 intro pins s σ H R I h
 refine fG (hl pins s σ H _ I h) fun v s1 ⟨x,H1,I1,r1,q1⟩=>?_
 obtain ⟨a,e,q1⟩:=q1
 subst e
 cases r1
 rcases q1 with ⟨⟨xs,hq⟩,q⟩ | ⟨⟨xs,hq⟩,q⟩
 ·obtain ⟨its,rv,p,hz⟩:=I1.list hq
  refine wpAny_pyIter_list p.isList ?_
  refine ⟨s1.heap.objs.size,[s1.heap.objs.size],_,_,H1,rfl,I1.kept (t':=s1.toks) fun b o e=>Heap.get?_push_of_some _ e,aAN a _,⟨_,Heap.get?_push_size _ rfl,rfl,rfl⟩,fun b hb=>?_,q⟩
  have e:b=s1.heap.objs.size:=by simpa using hb
  subst e
  exact I1.fpOk (Nat.le_refl _) (I1.hok.fresh (Nat.le_refl _))
 ·obtain ⟨its,rv,p,hz⟩:=I1.tuple hq
  refine wpAny_pyIter_tuple (show s1.heap.IsTuple a its.toArray from p) ?_
  refine ⟨s1.heap.objs.size,[s1.heap.objs.size],_,_,H1,rfl,I1.kept (t':=s1.toks) fun b o e=>Heap.get?_push_of_some _ e,zQ a _,⟨_,Heap.get?_push_size _ rfl,rfl,rfl⟩,fun b hb=>?_,q⟩
  have e:b=s1.heap.objs.size:=by simpa using hb
  subst e
  exact I1.fpOk (Nat.le_refl _) (I1.hok.fresh (Nat.le_refl _))
def gIs (ga:GE):GF:=fun δ Q=>ga δ fun d=>match sB d with
 | some ds=>Q ds
 | none=>False
theorem aKD (ha:DE X a ga):DI X tg a (gIs ga):=by
 obtain ⟨t,p,h⟩:=ha
 refine ⟨_,aK9 p,fun C0 H0 δ σ C H Q R rp g k=>h C0 H0 δ σ C H _ _ rp g fun d v C1 H1 q e1 n1=>?_⟩
 cases d with
 | tup ds=>
  obtain ⟨p,xs,rfl,hx,hd⟩:=bM.mp n1
  exact ⟨p,rfl,.inr ⟨⟨xs,e1.ch.seqT hx⟩,k ds _ C1 H1 q e1 (aCX hx hd fun _ _ _ _=>trivial)⟩⟩
 | lst ds=>
  obtain ⟨p,xs,rfl,hx,hd⟩:=bV.mp n1
  exact ⟨p,rfl,.inl ⟨⟨xs,e1.ch.seq hx⟩,k ds _ C1 H1 q e1 (aC2 hx hd)⟩⟩
 | _=>exact q.elim
end
theorem aCs:bootBuiltins "reversed"=some (.type "reversed"):=by decide +kernel
section
variable {κ κ':Type} [DecidableEq κ] [DecidableEq κ']
def eO (kvs:List (κ×Int)) (k:κ):Option Int:=(kvs.find? fun p=>decide (p.1=k)).map (·.2)
def qG (kvs:List (κ×Int)) (k:κ) (v:Int):List (κ×Int):=if (kvs.any fun p=>decide (p.1=k))=true then kvs.map (fun p=>if p.1=k then (p.1,v) else p) else kvs++[(k,v)]
theorem mH {f:κ→κ'} (hf:∀ a b,f a=f b→a=b) (k:κ):∀ kvs:List (κ×Int),oF (kvs.map fun p=>(f p.1,V.int p.2)) (f k)=(eO kvs k).map V.int
 | []=>rfl
 | p::r=>by
  rw [List.map_cons]
  by_cases e:p.1=k
  ·rw [gZ (by rw [e])]
   simp [eO,List.find?_cons,e]
  ·rw [gY (fun z=>e (hf _ _ z)),mH hf k r]
   simp [eO,List.find?_cons,e]
theorem aHB {f:κ→κ'} (hf:∀ a b,f a=f b→a=b) (k:κ) (kvs:List (κ×Int)):((kvs.map fun p=>(f p.1,V.int p.2)).any fun kv=>decide (kv.1=f k))=kvs.any fun p=>decide (p.1=k):=by
 rw [List.any_map]
 congr 1
 funext p
 show decide (f p.1=f k)=decide (p.1=k)
 by_cases e:p.1=k
 ·rw [e];simp
 ·rw [decide_eq_false e,decide_eq_false fun z=>e (hf _ _ z)]
theorem rT {f:κ→κ'} (hf:∀ a b,f a=f b→a=b) (k:κ) (v:Int) (kvs:List (κ×Int)):pX (kvs.map fun p=>(f p.1,V.int p.2)) (f k) (.int v)=(qG kvs k v).map fun p=>(f p.1,V.int p.2):=by
 unfold pX qG
 rw [aHB hf]
 split
 ·rw [List.map_map,List.map_map]
  refine List.map_congr_left fun p _=>?_
  show (if f p.1=f k then (f p.1,V.int v) else (f p.1,V.int p.2))=_
  by_cases e:p.1=k
  ·rw [if_pos (by rw [e])]
   simp [e]
  ·rw [if_neg (fun z=>e (hf _ _ z))]
   simp [e]
 ·simp
end
theorem aBz {a b:Int} (h:(Sum.inl a:mI)=Sum.inl b):a=b:=by injection h
theorem zG:∀ {a b:List Int},a.map (Sum.inl:Int→mI)=b.map Sum.inl→a=b
 | [],[],_=>rfl
 | [],_::_,e=>by simp at e
 | _::_,[],e=>by simp at e
 | x::xs,y::ys,e=>by
  rw [List.map_cons,List.map_cons] at e
  injection e with e1 e2
  rw [aBz e1,zG e2]
theorem aEV {a b:List Int} (h:nkT a=nkT b):a=b:=by
 unfold nkT at h
 refine zG ?_
 have e:∀ l:List Int,(l.map fun i=>(Sum.inl (Sum.inl i):mI ⊕ List mI))=(l.map (Sum.inl:Int→mI)).map Sum.inl:=fun l=>by rw [List.map_map];rfl
 rw [e,e] at h
 exact (List.map_inj_right (fun x y z=>by injection z)).mp h
theorem aFH {a b:Int×List Int} (h:nkP a=nkP b):a=b:=by
 unfold nkP at h
 simp only [List.cons.injEq,Sum.inl.injEq,Sum.inr.injEq,and_true] at h
 exact Prod.ext h.1 (zG h.2)
theorem aAQ {α β:Type}{f:Nat→Bool} (hf:∀ i,f i=true):∀ l:List α,sN f (l.map fun x=>(Sum.inl x:α ⊕ β))
 | []=>trivial
 | a::l=>⟨(hf 0).symm,aAQ (fun i=>hf (i+1)) l⟩
theorem aIH (r:List Int):sN shT (nkT r):=by
 have:=aAQ (α:=mI) (β:=List mI) (f:=shT) (fun _=>rfl) (r.map Sum.inl)
 rw [List.map_map] at this
 exact this
theorem aHx (p:Int×List Int):sN shP (nkP p):=⟨rfl,rfl,trivial⟩
def sC:List D→Option (Int×List Int)
 | [.int i,.tup ds]=>(cX ds).map fun r=>(i,r)
 | _=>none
def DM.get:DM→D→Option (Option Int)
 | .k kvs,.int i=>some (eO kvs i)
 | .t kvs,.tup ds=>match cX ds with
  | some r=>some (eO kvs r)
  | none=>none
 | .p kvs,.tup ds=>match sC ds with
  | some r=>some (eO kvs r)
  | none=>none
 | _,_=>none
def DM.put:DM→D→Int→Option DM
 | .k kvs,.int i,v=>if kvs.length<sizeLine then some (.k (qG kvs i v)) else none
 | .t kvs,.tup ds,v=>match cX ds with
  | some r=>if kvs.length<sizeLine then some (.t (qG kvs r v)) else none
  | none=>none
 | .p kvs,.tup ds,v=>match sC ds with
  | some r=>if kvs.length<sizeLine then some (.p (qG kvs r v)) else none
  | none=>none
 | _,_,_=>none
def aGd (K:PySem.W.Frag) (H:Hp) (v:V) (d:D):Prop:=(∃ i,d = .int i∧v = .int i)∨(∃ (r:List Int) (b:Addr),d = .tup (r.map D.int)∧v = .ref b∧vF K H (nkT r) b) ∨
 ∃ (i:Int) (r:List Int) (b:Addr),d = .tup [.int i,.tup (r.map D.int)]∧v = .ref b∧vF K H (nkP (i,r)) b
theorem aGd.mono {K:PySem.W.Frag}{H H':Hp}{v:V}{d:D} (h:aGd K H v d) (e:bY H H'):aGd K H' v d:=by
 rcases h with h | ⟨r,b,h1,h2,h3⟩ | ⟨i,r,b,h1,h2,h3⟩
 ·exact .inl h
 ·exact .inr (.inl ⟨r,b,h1,h2,h3.mono (fun _ _=>e _ _) fun _ _ _=>e _ _⟩)
 ·exact .inr (.inr ⟨i,r,b,h1,h2,h3.mono (fun _ _=>e _ _) fun _ _ _=>e _ _⟩)
theorem aIM {K:PySem.W.Frag}{H:Hp}{b:Addr}{r:List Int} (h:fY K H b (r.map V.int)):vF K H (nkT r) b:=by
 refine ⟨_,h,?_⟩
 have:∀ r:List Int,NV K H (nkT r) (r.map V.int):=fun r=>by
  induction r with
  | nil=>exact .nil
  | cons i r ih=>exact .one (k:=Sum.inl i) ih
 exact this r
theorem aKF {K:PySem.W.Frag}{H:Hp}{b c:Addr}{i:Int}{r:List Int} (h:fY K H b [.int i,.ref c]) (h2:fY K H c (r.map V.int)):vF K H (nkP (i,r)) b:=by
 refine ⟨_,h,.one (k:=Sum.inl i) (.tup ?_ .nil)⟩
 rw [List.map_map]
 exact h2
theorem aDL {i:Int}{r:List Int}:cX [.int i,.tup (r.map D.int)]=none:=rfl
theorem oP {i:Int}{r:List Int}:sC [.int i,.tup (r.map D.int)]=some (i,r):=by simp only [sC,cP];rfl
theorem aFo (r:List Int):sC (r.map D.int)=none:=by
 cases r with
 | nil=>rfl
 | cons a r=>
  cases r with
  | nil=>rfl
  | cons b r=>rfl
theorem aBt {K:PySem.W.Frag}{H:Hp}{l:Addr}{m:DM}{v:V}{d:D}{o:Option Int} (hr:Rd H l (tJ K m)) (hk:aGd K H v d) (hg:m.get d=some o):aDr K H l v (o.map V.int):=by
 rcases hk with ⟨i,rfl,rfl⟩ | ⟨r,b,rfl,rfl,hb⟩ | ⟨i,r,b,rfl,rfl,hb⟩
 ·cases m with
  | k kvs=>
   cases hg
   exact .inl ⟨_,Sum.inl i,hr,rfl,(mH (f:=(Sum.inl:Int→mI)) (fun _ _=>aBz) i kvs).symm⟩
  | t kvs=>cases hg
  | p kvs=>cases hg
 ·cases m with
  | k kvs=>cases hg
  | t kvs=>
   simp only [DM.get,cP] at hg
   cases hg
   exact .inr ⟨_,_,nkT r,b,hr,rfl,aIH r,hb,(mH (f:=nkT) (fun _ _=>aEV) r kvs).symm⟩
  | p kvs=>
   simp only [DM.get,aFo] at hg
   cases hg
 ·cases m with
  | k kvs=>cases hg
  | t kvs=>
   simp only [DM.get,aDL] at hg
   cases hg
  | p kvs=>
   simp only [DM.get,oP] at hg
   cases hg
   exact .inr ⟨_,_,nkP (i,r),b,hr,rfl,aHx _,hb,(mH (f:=nkP) (fun _ _=>aFH) (i,r) kvs).symm⟩
theorem aIW {K:PySem.W.Frag}{H:Hp}{l:Addr}{m m':DM}{v:V}{d:D}{w:Int} (hl:H l=some (tJ K m)) (hk:aGd K H v d) (hg:m.put d w=some m'):aLn K H l v (.int w) (upd H l (tJ K m')):=by
 rcases hk with ⟨i,rfl,rfl⟩ | ⟨r,b,rfl,rfl,hb⟩ | ⟨i,r,b,rfl,rfl,hb⟩
 ·cases m with
  | k kvs=>
   simp only [DM.put] at hg
   split at hg
   ·rename_i hz
    cases hg
    refine .inl ⟨_,Sum.inl i,hl,rfl,by simpa using hz,?_⟩
    rw [rT (f:=(Sum.inl:Int→mI)) (fun _ _=>aBz)]
    rfl
   ·cases hg
  | t kvs=>cases hg
  | p kvs=>cases hg
 ·cases m with
  | k kvs=>cases hg
  | t kvs=>
   simp only [DM.put,cP] at hg
   split at hg
   ·rename_i hz
    cases hg
    refine .inr ⟨_,_,nkT r,b,hl,rfl,aIH r,hb,by simpa using hz,?_⟩
    rw [rT (f:=nkT) (fun _ _=>aEV)]
    rfl
   ·cases hg
  | p kvs=>
   simp only [DM.put,aFo] at hg
   cases hg
 ·cases m with
  | k kvs=>cases hg
  | t kvs=>
   simp only [DM.put,aDL] at hg
   cases hg
  | p kvs=>
   simp only [DM.put,oP] at hg
   split at hg
   ·rename_i hz
    cases hg
    refine .inr ⟨_,_,nkP (i,r),b,hl,rfl,aHx _,hb,by simpa using hz,?_⟩
    rw [rT (f:=nkP) (fun _ _=>aFH)]
    rfl
   ·cases hg
section
variable {K:PySem.W.Frag}{C0 H0 C H C1 H1:Hp}{δ:DS}{σ:St}
def mY (δ:DS) (i:Nat):Option DM:=match δ[i]? with
 | some (.od m)=>some m
 | some (.fd m)=>some m
 | _=>none
theorem gI.dic (R:gI K C0 H0 δ σ C H) {i:Nat}{m:DM} (h:mY δ i=some m):∃ l,σ[i]? = some (some (.ref l))∧Rd H l (tJ K m):=by
 unfold mY at h
 split at h
 ·rename_i m' e
  cases h
  obtain ⟨l,a,_,_,d⟩:=R.dc.od i m e
  exact ⟨l,a,.inl d⟩
 ·rename_i m' e
  cases h
  obtain ⟨l,o,a,b⟩:=R.dc.fd i m e
  exact ⟨l,a,.inr ⟨o,R.ch _ _ b⟩⟩
 ·cases h
theorem Rd.same {l:Addr}{u:HO} (h:Rd H l u) (e:bY H H1):Rd H1 l u:=by
 rcases h with h | ⟨o,h⟩
 ·exact .inl (e _ _ h)
 ·exact .inr ⟨o,e _ _ h⟩
theorem Rd.isD {l:Addr}{m:DM} (h:Rd H l (tJ K m)):IsD K H l:=by
 cases m with
 | k kvs=>exact .inl ⟨_,h⟩
 | t kvs=>exact .inr ⟨_,_,h⟩
 | p kvs=>exact .inr ⟨_,_,h⟩
theorem gI.setD (R:gI K C0 H0 δ σ C H) {i:Nat}{l:Addr}{m:DM} (h0:H0 l=none) (hc:C l=none) (hn:∀ (j:Nat) n,j≠i→δ[j]? = some (.od n)→σ[j]? ≠ some (some (.ref l))) (hl:H l=some (tJ K m)) :
  gI K C0 H0 (δ.set i (.od m)) (σ.set i (some (.ref l))) C H:=by
 refine ⟨by simp [R.len],R.ext,fun j e h'=>?_,fun j ds h'=>?_,fun j k ds es l hjk h1 h2 h3=>?_,fun j n h'=>?_,fun j n h'=>?_,fun j k n n' q hjk h1 h2 h3=>?_⟩
 ·rcases aR h' with ⟨_,e1,_⟩ | ⟨hj,h'⟩
  ·cases e1
  ·rw [List.getElem?_set_ne (Ne.symm hj)]
   exact R.im j e h'
 ·rcases aR h' with ⟨_,e1,_⟩ | ⟨hj,h'⟩
  ·cases e1
  ·rw [List.getElem?_set_ne (Ne.symm hj)]
   exact R.ow j ds h'
 ·rcases aR h1 with ⟨_,e1,_⟩ | ⟨hj,h1⟩
  ·cases e1
  ·rcases aR h2 with ⟨_,e1,_⟩ | ⟨hk,h2⟩
   ·cases e1
   ·rw [List.getElem?_set_ne (Ne.symm hj)] at h3
    rw [List.getElem?_set_ne (Ne.symm hk)]
    exact R.ap j k ds es l hjk h1 h2 h3
 ·rcases aR h' with ⟨rfl,e1,hl'⟩ | ⟨hj,h'⟩
  ·cases e1
   exact ⟨l,by rw [List.getElem?_set_self (by rw [R.len];exact hl')],hc,h0,hl⟩
  ·rw [List.getElem?_set_ne (Ne.symm hj)]
   exact R.dc.od j n h'
 ·rcases aR h' with ⟨_,e1,_⟩ | ⟨hj,h'⟩
  ·cases e1
  ·rw [List.getElem?_set_ne (Ne.symm hj)]
   exact R.dc.fd j n h'
 ·rcases aR h1 with ⟨rfl,e1,hl1⟩ | ⟨hj,g1⟩
  ·cases e1
   rw [List.getElem?_set_self (by rw [R.len];exact hl1)] at h3
   cases h3
   rcases aR h2 with ⟨z,_⟩ | ⟨hk,h2⟩
   ·exact absurd z.symm hjk
   ·rw [List.getElem?_set_ne (Ne.symm hk)]
    exact hn k n' hk h2
  ·rw [List.getElem?_set_ne (Ne.symm hj)] at h3
   rcases aR h2 with ⟨rfl,e1,hl1⟩ | ⟨hk,h2⟩
   ·rw [List.getElem?_set_self (by rw [R.len];exact hl1)]
    intro z
    cases z
    exact hn j n hj g1 h3
   ·rw [List.getElem?_set_ne (Ne.symm hk)]
    exact R.dc.ap j k n n' q hjk g1 h2 h3
theorem gI.changeD (R:gI K C0 H0 δ σ C H) {i:Nat}{m m':DM}{l:Addr} (h:δ[i]? = some (.od m)) (hs:σ[i]? = some (some (.ref l))) :
  gI K C0 H0 (δ.set i (.od m')) σ C (upd H l (tJ K m')):=by
 obtain ⟨l',a,b,c,d⟩:=R.dc.od i m h
 rw [hs] at a
 cases a
 have ne:∀ z u,C z=some u→z≠l:=fun z u e q=>by rw [q,b] at e;cases e
 refine ⟨by simp [R.len],⟨fun z u e=>?_,R.ext.cc,fun z u e=>?_,R.ext.ow⟩,fun j e h'=>?_,fun j fs h'=>?_,fun j k fs gs q hjk h1 h2 h3=>?_,fun j n h'=>?_,fun j n h'=>?_,fun j k n n' q hjk h1 h2 h3=>?_⟩
 ·rw [aS (b8 e c)];exact R.ext.hh z u e
 ·rw [aS (ne z u e)];exact R.ch z u e
 ·rcases aR h' with ⟨_,e1,_⟩ | ⟨hj,h'⟩
  ·cases e1
  ·exact R.im j e h'
 ·rcases aR h' with ⟨_,e1,_⟩ | ⟨hj,h'⟩
  ·cases e1
  ·obtain ⟨q,zs,a',b',c',d',f'⟩:=R.ow j fs h'
   refine ⟨q,zs,a',b',c',?_,f'⟩
   rw [aS (aAH d' d fun z=>xB z.symm)]
   exact d'
 ·rcases aR h1 with ⟨_,e1,_⟩ | ⟨hj,h1⟩
  ·cases e1
  ·rcases aR h2 with ⟨_,e1,_⟩ | ⟨hk,h2⟩
   ·cases e1
   ·exact R.ap j k fs gs q hjk h1 h2 h3
 ·rcases aR h' with ⟨rfl,e1,_⟩ | ⟨hj,h'⟩
  ·cases e1
   exact ⟨l,hs,b,c,bH⟩
  ·obtain ⟨q,a',b',c',d'⟩:=R.dc.od j n h'
   refine ⟨q,a',b',c',?_⟩
   rw [aS fun z=>?_]
   ·exact d'
   ·rw [z] at a'
    exact R.dc.ap i j m n l (Ne.symm hj) h h' hs a'
 ·rcases aR h' with ⟨_,e1,_⟩ | ⟨hj,h'⟩
  ·cases e1
  ·exact R.dc.fd j n h'
 ·have g1:∃ n,δ[j]? = some (.od n):=by
   rcases aR h1 with ⟨rfl,_,_⟩ | ⟨_,h1⟩
   ·exact ⟨_,h⟩
   ·exact ⟨_,h1⟩
  have g2:∃ n,δ[k]? = some (.od n):=by
   rcases aR h2 with ⟨rfl,_,_⟩ | ⟨_,h2⟩
   ·exact ⟨_,h⟩
   ·exact ⟨_,h2⟩
  obtain ⟨_,g1⟩:=g1
  obtain ⟨_,g2⟩:=g2
  exact R.dc.ap j k _ _ q hjk g1 g2 h3
theorem gI.frzD (R:gI K C0 H0 δ σ C H) {i:Nat}{m:DM}{l:Addr} (h:δ[i]? = some (.od m)) (hs:σ[i]? = some (some (.ref l))) (o:Obj) :
  gI K C0 H0 (δ.set i (.fd m)) σ (upd C l (.frz o (tJ K m))) (upd H l (.frz o (tJ K m))):=by
 obtain ⟨l',a,b,c,d⟩:=R.dc.od i m h
 rw [hs] at a
 cases a
 have up:bY C (upd C l (.frz o (tJ K m))):=bY.upd b
 refine ⟨by simp [R.len],⟨fun z u e=>?_,R.ext.cc.trans up,fun z u e=>?_,fun z e n=>?_⟩,fun j e h'=>?_,fun j fs h'=>?_,fun j k fs gs q hjk h1 h2 h3=>?_,fun j n h'=>?_,fun j n h'=>?_,fun j k n n' q hjk h1 h2 h3=>?_⟩
 ·rw [aS (b8 e c)];exact R.ext.hh z u e
 ·by_cases hz:z=l
  ·subst hz;rw [bH] at e ⊢;exact e
  ·rw [aS hz] at e ⊢;exact R.ch z u e
 ·rw [aS (fun q=>n (by rw [q];exact c))]
  exact R.ext.ow z e n
 ·rcases aR h' with ⟨_,e1,_⟩ | ⟨hj,h'⟩
  ·cases e1
  ·obtain ⟨v,ev,nv⟩:=R.im j e h'
   exact ⟨v,ev,nv.mono up⟩
 ·rcases aR h' with ⟨_,e1,_⟩ | ⟨hj,h'⟩
  ·cases e1
  ·obtain ⟨q,zs,a',b',c',d',f'⟩:=R.ow j fs h'
   have hq:q≠l:=aAH d' d fun z=>xB z.symm
   refine ⟨q,zs,a',?_,c',?_,f'.mono up⟩
   ·rw [aS hq];exact b'
   ·rw [aS hq];exact d'
 ·rcases aR h1 with ⟨_,e1,_⟩ | ⟨hj,h1⟩
  ·cases e1
  ·rcases aR h2 with ⟨_,e1,_⟩ | ⟨hk,h2⟩
   ·cases e1
   ·exact R.ap j k fs gs q hjk h1 h2 h3
 ·rcases aR h' with ⟨_,e1,_⟩ | ⟨hj,h'⟩
  ·cases e1
  ·obtain ⟨q,a',b',c',d'⟩:=R.dc.od j n h'
   have hq:q≠l:=fun z=>by
    rw [z] at a'
    exact R.dc.ap i j m n l (Ne.symm hj) h h' hs a'
   refine ⟨q,a',?_,c',?_⟩
   ·rw [aS hq];exact b'
   ·rw [aS hq];exact d'
 ·rcases aR h' with ⟨rfl,e1,_⟩ | ⟨hj,h'⟩
  ·cases e1
   exact ⟨l,o,hs,bH⟩
  ·obtain ⟨q,o',a',b'⟩:=R.dc.fd j n h'
   exact ⟨q,o',a',up _ _ b'⟩
 ·rcases aR h1 with ⟨_,e1,_⟩ | ⟨hj,h1⟩
  ·cases e1
  ·rcases aR h2 with ⟨_,e1,_⟩ | ⟨hk,h2⟩
   ·cases e1
   ·exact R.dc.ap j k n n' q hjk h1 h2 h3
end
def aEu (X:Cx) (e:Expr) (g:GE):Prop:=∃ t,PE X e t∧∀ C0 H0 δ σ C H (Q:D→Prop) (R:VK),gI X.K C0 H0 δ σ C H→g δ Q→(∀ d v C1 H1,Q d→eM C H C1 H1→aGd X.K H1 v d→R v H1)→t σ H R
section
variable {X:Cx}{a b c e f o:Expr}{es:List Expr}{pos:Pos}{ga gk gd gv:GE}{gA:GF}
def gKI (ga:GE):GE:=fun δ Q=>ga δ fun d=>match d with
 | .int i=>Q (.int i)
 | _=>False
theorem tG (h:DE X e ga):aEu X e (gKI ga):=by
 obtain ⟨t,p,h⟩:=h
 refine ⟨t,p,fun C0 H0 δ σ C H Q R rp g k=>h C0 H0 δ σ C H _ R rp g fun d v C1 H1 q e1 n1=>?_⟩
 cases d with
 | int i=>exact k (.int i) v C1 H1 q e1 (.inl ⟨i,rfl,aT.mp n1⟩)
 | _=>exact q.elim
def gKT (gA:GF):GE:=fun δ Q=>gA δ fun ds=>match cX ds with
 | some r=>r.length≤sizeLine∧Q (.tup (r.map D.int))
 | none=>False
theorem aHC {x1:Nat} (h:DA X es gA):aEu X (.Tuple es x1 pos) (gKT gA):=by
 obtain ⟨t,p,h⟩:=h
 refine ⟨_,aHr p,fun C0 H0 δ σ C H Q R rp g k=>h C0 H0 δ σ C H _ _ rp g fun ds vs C1 H1 q e1 n1=>?_⟩
 cases ei:cX ds with
 | none=>rw [ei] at q;exact q.elim
 | some r=>
  rw [ei] at q
  rw [fF ei] at n1
  have ev:=n1.ints
  subst ev
  refine ⟨by rw [List.length_map];exact q.1,fun b hb=>?_⟩
  exact k _ _ (upd C1 b (.tup (r.map V.int))) _ q.2 (e1.trans (eM.new e1.ch hb)) (.inr (.inl ⟨r,b,rfl,rfl,aIM (fY.of bH)⟩))
def aMa:D→Prop
 | .tup ds=>cX ds≠none∨sC ds≠none
 | _=>False
def gKD (ga:GE):GE:=fun δ Q=>ga δ fun d=>aMa d∧Q d
theorem aDl:∀ {ds:List D}{p:Int×List Int},sC ds=some p→ds=[.int p.1,.tup (p.2.map D.int)]
 | [.int i,.tup es],p,h=>by
  simp only [sC] at h
  cases e:cX es with
  | none=>rw [e] at h;cases h
  | some r=>
   rw [e] at h
   cases h
   rw [fF e]
theorem aEL (h:DE X e ga):aEu X e (gKD ga):=by
 obtain ⟨t,p,h⟩:=h
 refine ⟨t,p,fun C0 H0 δ σ C H Q R rp g k=>h C0 H0 δ σ C H _ R rp g fun d v C1 H1 q e1 n1=>?_⟩
 cases d with
 | tup ds=>
  refine k _ v C1 H1 q.2 e1 ?_
  obtain ⟨a,xs,rfl,hx,hd⟩:=bM.mp n1
  cases ei:cX ds with
  | some r=>
   have z:=fF ei
   subst z
   have ev:=hd.ints
   subst ev
   exact .inr (.inl ⟨r,a,rfl,rfl,aIM (e1.ch.seqT hx)⟩)
  | none=>
   cases ep:sC ds with
   | none=>
    rcases q.1 with z | z
    ·exact absurd ei z
    ·exact absurd ep z
   | some p=>
    have z:=aDl ep
    subst z
    obtain ⟨v1,v2,rfl,n1,n2⟩:=aDK hd
    have z:=aT.mp n1
    subst z
    obtain ⟨c,ys,rfl,hy,hd2⟩:=bM.mp n2
    have ev:=hd2.ints
    subst ev
    exact .inr (.inr ⟨p.1,p.2,a,rfl,rfl,aKF (e1.ch.seqT hx) (e1.ch.seqT hy)⟩)
 | _=>exact q.1.elim
def tQ (i:Nat) (gk:GE):GE:=fun δ Q=>match mY δ i with
 | some m=>gk δ fun d=>match m.get d with
  | some (some v)=>Q (.int v)
  | _=>False
 | none=>False
theorem xH {i:Nat}{x:Str}{p2:Pos} (hu:X.A.units+64<cLine) (hx:PE X (.Name x p2) (wP i)) (hk:aEu X e gk) (hs:aLr e):DE X (.Subscript (.Name x p2) e pos) (tQ i gk):=by
 obtain ⟨t,p,h⟩:=hk
 refine ⟨_,aJM (by omega) hx p hs,fun C0 H0 δ σ C H Q R rp g k=>?_⟩
 unfold tQ at g
 split at g
 ·rename_i m em
  obtain ⟨l,hl,hr⟩:=rp.dic em
  refine ⟨.ref l,hl,h C0 H0 δ σ C H _ _ rp g fun d v C1 H1 q e1 kv=>?_⟩
  cases eg:m.get d with
  | none=>rw [eg] at q;exact q.elim
  | some r=>
   cases r with
   | none=>rw [eg] at q;exact q.elim
   | some w=>
    rw [eg] at q
    exact ⟨l,.int w,rfl,aBt (hr.same e1.hh) kv eg,k (.int w) _ C1 H1 q e1 (aT.mpr rfl)⟩
 ·exact g.elim
def aBO (i:Nat) (gk gd:GE):GE:=fun δ Q=>match mY δ i with
 | some m=>gk δ fun d=>gd δ fun d2=>match m.get d with
  | some (some v)=>Q (.int v)
  | some none=>Q d2
  | none=>False
 | none=>False
theorem aH4 {i:Nat}{x:Str}{p2 apos cpos:Pos} (hu:X.A.units+64<cLine) (hx:PE X (.Name x p2) (wP i)) (hk:aEu X e gk) (hd:DE X f gd) (m:M2 X (.Name x p2) "get" apos e f cpos):DE X (.Call (.Attribute (.Name x p2) "get" apos) [e,f] [] cpos) (aBO i gk gd):=by
 obtain ⟨t,p,h⟩:=hk
 obtain ⟨t2,p2,h2⟩:=hd
 refine ⟨_,aIe (by omega) hx p p2 m,fun C0 H0 δ σ C H Q R rp g k=>?_⟩
 unfold aBO at g
 split at g
 ·rename_i m em
  obtain ⟨l,hl,hr⟩:=rp.dic em
  refine ⟨.ref l,hl,l,rfl,hr.isD,h C0 H0 δ σ C H _ _ rp g fun d v C1 H1 q e1 kv=>h2 C0 H0 δ σ C1 H1 _ _ (rp.grow e1) q fun d2 v2 C2 H2 q2 e2 n2=>?_⟩
  cases eg:m.get d with
  | none=>rw [eg] at q2;exact q2.elim
  | some r=>
   rw [eg] at q2
   refine ⟨_,aBt ((hr.same e1.hh).same e2.hh) (kv.mono e2.hh) eg,?_⟩
   cases r with
   | none=>exact k d2 _ C2 H2 q2 (e1.trans e2) n2
   | some w=>exact k (.int w) _ C2 H2 q2 (e1.trans e2) (aT.mpr rfl)
 ·exact g.elim
def nN (i:Nat) (gk:GE):GT:=fun δ Q=>match mY δ i with
 | some m=>gk δ fun d=>match m.get d with
  | some r=>Q (!r.isSome)
  | none=>False
 | none=>False
theorem vE {i:Nat}{x:Str}{p2:Pos} (hu:X.A.units+64<cLine) (hx:PE X (.Name x p2) (wP i)) (hk:aEu X e gk):DT X (.Compare e [.NotIn] [.Name x p2] pos) (nN i gk):=by
 obtain ⟨t,p,h⟩:=hk
 refine ⟨_,aLi (aGt (by omega) p hx),fun C0 H0 δ σ C H Q R rp g k=>?_⟩
 unfold nN at g
 split at g
 ·rename_i m em
  refine h C0 H0 δ σ C H _ _ rp g fun d v C1 H1 q e1 kv=>?_
  obtain ⟨l,hl,hr⟩:=(rp.grow e1).dic em
  cases eg:m.get d with
  | none=>rw [eg] at q;exact q.elim
  | some r=>
   rw [eg] at q
   refine ⟨.ref l,hl,l,_,rfl,aBt hr kv eg, !r.isSome,by cases r <;> rfl,k _ C1 H1 q e1⟩
 ·exact g.elim
def wI (i:Nat):GE:=fun δ Q=>match mY δ i with
 | some (.k kvs)=>Q (.int kvs.length)
 | some (.t kvs)=>Q (.int kvs.length)
 | some (.p kvs)=>Q (.int kvs.length)
 | none=>False
def aMB (K:PySem.W.Frag) (H:Hp) (a:Addr) (n:Nat):Prop:=(∃ kvs,Rd H a (.dK kvs)∧n=kvs.length)∨∃ f kvs,Rd H a (.dT K f kvs)∧n=kvs.length
theorem aBr:nO X (.builtin "len") (fun xs H Q=>∃ a n,xs=[V.ref a]∧aMB X.K H a n∧Q (.int n) H):=by
 intro pins s σ H xs us Q I r h
 obtain ⟨a,n,rfl,ha,q⟩:=h
 obtain ⟨u,rfl,ru⟩:=tN r
 cases ru
 rcases ha with ⟨kvs,ha,rfl⟩ | ⟨f,kvs,ha,rfl⟩
 ·exact aMj I ha fun t s' I'=>⟨.int kvs.length,H,I',⟨t,rfl⟩,q⟩
 ·exact aLt I ha fun t s' I'=>⟨.int kvs.length,H,I',⟨t,rfl⟩,q⟩
theorem aFd {i:Nat}{t:TE} (h:PE X e t) (ht:t=fun σ H Q=>∃ v,σ[i]? = some (some v)∧∃ a n,[v]=[V.ref a]∧aMB X.K H a n∧Q (.int n) H):DE X e (wI i):=by
 subst ht
 refine ⟨_,h,fun C0 H0 δ σ C H Q R rp g k=>?_⟩
 unfold wI at g
 split at g
 ·rename_i kvs em
  obtain ⟨l,hl,hr⟩:=rp.dic em
  exact ⟨.ref l,hl,l,kvs.length,rfl,.inl ⟨_,hr,by rw [List.length_map]⟩,k _ _ C H g (eM.refl rp.ch) (aT.mpr rfl)⟩
 ·rename_i kvs em
  obtain ⟨l,hl,hr⟩:=rp.dic em
  exact ⟨.ref l,hl,l,kvs.length,rfl,.inr ⟨_,_,hr,by rw [List.length_map]⟩,k _ _ C H g (eM.refl rp.ch) (aT.mpr rfl)⟩
 ·rename_i kvs em
  obtain ⟨l,hl,hr⟩:=rp.dic em
  exact ⟨.ref l,hl,l,kvs.length,rfl,.inr ⟨_,_,hr,by rw [List.length_map]⟩,k _ _ C H g (eM.refl rp.ch) (aT.mpr rfl)⟩
 ·exact g.elim
def aCy (i:Nat) (m:DM):GS:=fun De δ=>De.nx (δ.set i (.od m))
theorem gI.newD {K:PySem.W.Frag}{C0 H0 C H:Hp}{δ:DS}{σ:St} (R:gI K C0 H0 δ σ C H) {i:Nat}{p:Addr}{m:DM} (hp:H p=none):gI K C0 H0 (δ.set i (.od m)) (σ.set i (some (.ref p))) C (upd H p (tJ K m)):=by
 refine (R.grow (eM.newO R.ch hp)).setD (R.ext.hh.free hp) (R.ch.free hp) (fun j n hj ho z=>?_) bH
 obtain ⟨l,a,_,_,d⟩:=R.dc.od j n ho
 rw [z] at a
 cases a
 rw [hp] at d
 cases d
theorem aFi {i:Nat}{st:Stmt}{te:TE} (m:DM) (hp:PS X st (aAq te (pS i))) (ht:te=fun _ H Q=>∀ p,H p=none→Q (.ref p) (upd H p (tJ X.K m))):DSt X st (aCy i m):=by
 subst ht
 exact ⟨_,hp,fun C0 H0 δ σ C H De E rp g k p hn=>k.nx _ _ C _ (rp.newD hn) g⟩
def aHh (i:Nat):GS:=fun De δ=>De.nx (δ.set i (.od (.t [])))∨De.nx (δ.set i (.od (.p [])))
def aIs (K:PySem.W.Frag):TE:=fun σ H Q=>aD5 K shT σ H Q∨aD5 K shP σ H Q
theorem aIn:PE X (.Dict [] [] pos) (aIs X.K):=fun pins s σ H Q I h=>h.elim (fun h=>zB pins s σ H Q I h) fun h=>zB pins s σ H Q I h
theorem aHP {i:Nat}{st:Stmt} (hp:PS X st (aAq (aIs X.K) (pS i))):DSt X st (aHh i):=
 ⟨_,hp,fun C0 H0 δ σ C H De E rp g k=>g.elim (fun g=>.inl fun p hn=>k.nx _ _ C _ (rp.newD (m:=.t []) hn) g) fun g=>.inr fun p hn=>k.nx _ _ C _ (rp.newD (m:=.p []) hn) g⟩
def aD6 (i:Nat) (gk gv:GE):GS:=fun De δ=>gk δ fun d=>gv δ fun w=>match δ[i]?,d,w with
 | some _,.int a,.int b=>De.nx (δ.set i (.od (.k [(a,b)])))
 | _,_,_=>False
theorem aHl {i:Nat}{st:Stmt}{k v:Expr}{dp:Pos} (hk:DE X k gk) (hv:DE X v gv) (hp:∀ {te:TE},PE X (.Dict [some k] [v] dp) te→PS X st (aAq te (pS i))):DSt X st (aD6 i gk gv):=by
 obtain ⟨t,p,h⟩:=hk
 obtain ⟨t2,p2,h2⟩:=hv
 refine ⟨_,hp (aJT (aHG p p2 aIS) rfl rfl (by simp) (by simp)),fun C0 H0 δ σ C H De E rp g k q hq=>?_⟩
 have rp0:=rp.grow (eM.newO (o:=.dK []) rp.ch hq)
 refine h C0 H0 δ σ C _ _ _ rp0 g fun d v C1 H1 g1 e1 n1=>h2 C0 H0 δ σ C1 H1 _ _ (rp0.grow e1) g1 fun d2 v2 C2 H2 g2 e2 n2=>?_
 split at g2
 ·rename_i sl a b hs
  have hi:i<δ.length:=(List.getElem?_eq_some_iff.mp hs).1
  have e:=e1.trans e2
  have hd:H2 q=some (.dK []):=e.hh _ _ bH
  refine ⟨hd,[(Sum.inl a,.int b)],?_,by simp,?_⟩
  ·rw [aT.mp n1,aT.mp n2]
   rfl
  ·have r2:=(rp0.grow e).setD (i:=i) (l:=q) (m:=.k []) (rp.ext.hh.free hq) (e.ow q (rp.ch.free hq) (by rw [bH];simp)) (fun j n hj ho z=>by
    obtain ⟨l,a',_,_,d'⟩:=rp.dc.od j n ho
    rw [z] at a'
    cases a'
    rw [hq] at d'
    cases d') hd
   have r3:=r2.changeD (i:=i) (l:=q) (m:=.k []) (m':=.k [(a,b)]) (by rw [List.getElem?_set_self hi]) (by rw [List.getElem?_set_self (by rw [rp.len];exact hi)])
   rw [List.set_set] at r3
   exact k.nx _ _ C2 _ r3 g2
 ·exact g2.elim
def sE (i:Nat) (gk gv:GE):GS:=fun De δ=>match δ[i]? with
 | some (.od m)=>gv δ fun v=>gk δ fun d=>match v with
  | .int w=>match m.put d w with
   | some m'=>De.nx (δ.set i (.od m'))
   | none=>False
  | _=>False
 | _=>False
theorem xF {i:Nat}{x:Str}{p2 p3:Pos} (hu:X.A.units+64<cLine) (hx:PE X (.Name x p2) (wP i)) (hk:aEu X e gk) (hv:DE X f gv) (hs:swapsWith f (some (.Subscript (.Name x p2) e p3)) pos.line X.env=pure false:=by rfl) :
  DSt X (.Assign [.Subscript (.Name x p2) e p3] f pos) (sE i gk gv):=by
 obtain ⟨t,p,h⟩:=hk
 obtain ⟨t2,p2,h2⟩:=hv
 refine ⟨_,aJs (by omega) hx p p2 hs,fun C0 H0 δ σ C H De E rp g k=>?_⟩
 unfold sE at g
 split at g
 ·rename_i m em
  refine h2 C0 H0 δ σ C H _ _ rp g fun dv v C1 H1 q e1 n1=>?_
  obtain ⟨l,hl,_,_,hd⟩:=(rp.grow e1).dc.od i m em
  refine ⟨.ref l,hl,h C0 H0 δ σ C1 H1 _ _ (rp.grow e1) q fun d y C2 H2 q2 e2 kv=>?_⟩
  cases dv with
  | int w=>
   rw [aT.mp n1]
   have q2':(match m.put d w with
    | some m'=>De.nx (δ.set i (.od m'))
    | none=>False):=q2
   cases ep:m.put d w with
   | none=>rw [ep] at q2';exact q2'.elim
   | some m'=>
    rw [ep] at q2'
    exact ⟨l,_,rfl,aIW (e2.hh _ _ hd) kv ep,k.nx _ _ C2 _ (((rp.grow e1).grow e2).changeD em hl) q2'⟩
  | _=>exact q2.elim
 ·exact g.elim
end
theorem bG.frzD {X:Cx}{pins:List (Addr×Obj)}{σ:St}{H:Hp}{s:Shared}{l:Addr}{m:DM} (I:bG X pins σ H s) (hl:H l=some (tJ X.K m)):∃ o,s.heap.get? l=some o∧bG X pins σ (upd H l (.frz o (tJ X.K m))) s:=by
 have ok:=I.hok l _ hl
 obtain ⟨o,ho⟩:∃ o,s.heap.get? l=some o:=by
  cases m with
  | k kvs=>obtain ⟨_,_,_,_,o,_,_,e,_⟩:=ok;exact ⟨o,e⟩
  | t kvs=>obtain ⟨_,_,_,_,o,_,_,e,_⟩:=ok;exact ⟨o,e⟩
  | p kvs=>obtain ⟨_,_,_,_,o,_,_,e,_⟩:=ok;exact ⟨o,e⟩
 have nt:∀ b xs,H b=some (.tup xs)→b≠l:=fun b xs e z=>by rw [z,hl] at e;cases m <;> cases e
 have nw:∀ b y,H b=some (.own y)→b≠l:=fun b y e z=>by rw [z,hl] at e;cases m <;> cases e
 have nf:∀ b o u,H b=some (.frz o u)→b≠l:=fun b o u e z=>by rw [z,hl] at e;cases m <;> cases e
 have nb:∀ b ps,H b=some (.tbl ps)→b≠l:=fun b ps e z=>by rw [z,hl] at e;cases m <;> cases e
 have nn:∀ b,H b=none→b≠l:=fun b e z=>by rw [z,hl] at e;cases e
 have un:Un X.fs [] H (upd H l (.frz o (tJ X.K m))) s.heap s.heap:=
  ⟨fun b u e _ _ _=>e,fun b u e _ _ _=>⟨u.slots,e⟩,fun b u e n _=>by rw [aS (nn b n)];exact n,fun b u e _=>⟨u,e⟩,fun b xs e=>by rw [aS (nt b xs e)];exact e,fun b o u e=>by rw [aS (nf b o u e)];exact e,fun b ps e=>⟨#[],by rw [aS (nb b ps e)];simpa using e⟩⟩
 have hok:uH X.prog X.w (upd H l (.frz o (tJ X.K m))) s.heap:=fun b u e=>by
  by_cases hb:b=l
  ·subst hb
   rw [bH] at e
   cases e
   exact ⟨ho,ok.stay (fun _ _ _ q=>q) (fun c q=>by rw [aS (nw c _ q)];exact q) (fun c xs q=>by rw [aS (nt c xs q)];exact q) fun c ob u q=>by rw [aS (nf c ob u q)];exact q⟩
  ·rw [aS hb] at e
   exact (I.hok b u e).stay (fun _ _ _ q=>q) (fun c q=>by rw [aS (nw c _ q)];exact q) (fun c xs q=>by rw [aS (nt c xs q)];exact q) fun c ob u q=>by rw [aS (nf c ob u q)];exact q
 exact ⟨o,ho,I.un (t':=s.toks) un hok⟩
section
variable {X:Cx}{sts:List Stmt}{g1:GS}{tg:Expr}{pos:Pos}
def sG (i:Nat) (g:GS):GS:=fun De δ=>match δ[i]? with
 | some (.od m)=>g De (δ.set i (.fd m))
 | _=>False
theorem uA (i:Nat) (h:kJ X sts g1):kJ X sts (sG i g1):=by
 obtain ⟨t,p,h⟩:=h
 refine ⟨fun E σ H=>∃ l m,H l=some (tJ X.K m)∧∀ o,t E σ (upd H l (.frz o (tJ X.K m))),fun pins s σ H E I q=>?_,fun C0 H0 δ σ C H De E rp g k=>?_⟩
 ·obtain ⟨l,m,hl,q⟩:=q
  obtain ⟨o,_,I1⟩:=I.frzD hl
  exact p pins s σ _ E I1 (q o)
 ·unfold sG at g
  split at g
  ·rename_i m em
   obtain ⟨l,hs,_,_,hd⟩:=rp.dc.od i m em
   exact ⟨l,m,hd,fun o=>h C0 H0 _ σ _ _ De E (rp.frzD em hs o) g k⟩
  ·exact g.elim
end
theorem aCn {P:Program}{w:World}{K:PySem.W.Frag}{H:Hp}{h:Heap}{l:Addr}{o:Obj}{kvs:List (Int×Int)} (ok:uH P w H h) (hl:H l=some (.frz o (tJ K (.k kvs)))) :
  (l == sysModules)=false∧∃ vs ep es,o.data = .dict es ep∧vs.map (·.1)=kvs.map (fun p=>(Sum.inl p.1:mI))∧h.DictAt (dE P w) l vs ep:=by
 obtain ⟨ho,z,hd,vs,rel,o',es,ep,e,r⟩:=(show gE P w H h l (.frz o (.dK (kvs.map fun p=>(Sum.inl p.1,.int p.2)))) from ok l _ hl)
 rw [ho] at e
 cases e
 refine ⟨hd,vs,ep,es,r.2.1,?_,o,es,ho,r⟩
 rw [← rel.keys,List.map_map]
 rfl
theorem aFI {P:Program}{w:World}{K:PySem.W.Frag}{tg:Expr} (d it:Addr) (o:Obj) (kvs:List (Int×Int)) (es:Array DictEntry) (ep:Nat) (hdt:o.data = .dict es ep) :
  aCe P w K tg ⟨fun i H=>i<kvs.length∧H d=some (.frz o (tJ K (.k kvs))),fun i H x H'=>H'=H∧∃ k,(kvs.map (·.1))[i]? = some k∧x = .int k,fun i H=>kvs.length≤i∧H d=some (.frz o (tJ K (.k kvs)))⟩ [it] it (fun i h=>h.IsKeyIter it d i kvs.length ep) where
 mem:=by simp
 obj:=fun i h st b hb=>by
  have e:b=it:=by simpa using hb
  subst e
  obtain ⟨o,e,c,d⟩:=st
  exact ⟨o,e,fun v z=>by rw [d] at z;cases z⟩
 keep:=fun i h h' st k=>st.at fun o e=>k it (by simp) o e
 item:=by
  intro X hP hw hK hc i pins s σ H E I hf st hg
  subst hP hw hK
  obtain ⟨hi,hH⟩:=hg
  obtain ⟨hd,vs,ep',es',hd2,hv,da⟩:=aCn I.hok hH
  rw [hdt] at hd2
  cases hd2
  obtain ⟨f0,f1,f2,f3,f4,f5⟩:=hf it (by simp)
  have hvl:vs.length=kvs.length:=by
   have:=congrArg List.length hv
   simpa using this
  have hiv:i<vs.length:=by omega
  have hx:vs[i]? = some (vs[i].1,vs[i].2):=by rw [List.getElem?_eq_getElem hiv]
  have hk1:vs[i].1=Sum.inl kvs[i].1:=by
   have e1:(vs.map (·.1))[i]? = some vs[i].1:=by rw [List.getElem?_map,List.getElem?_eq_getElem hiv];rfl
   rw [hv,List.getElem?_map,List.getElem?_eq_getElem hi] at e1
   exact (Option.some.inj e1).symm
  rw [← hvl] at st
  refine wpAny_pyNext_dict_item st da hx fun key h' hkey st' sb=>?_
  rw [hvl] at st'
  rw [hk1] at hkey
  have I1:bG X pins σ H { s with heap:=h' }:=I.turned (t':=s.toks) (fun b o hb e=>(sb.2 b hb).trans e) f0 f1 f3 f4 f5
  obtain ⟨o2,e2,c2,d2⟩:=id st'
  have hrel:cG (.int kvs[i].1) key:=by
   rcases eU (show wH (Sum.inl kvs[i].1) key=true from hkey) with ⟨j,t,ej,ev⟩ | ⟨x,t,ej,ev⟩
   ·cases ej
    exact ⟨t,ev⟩
   ·cases ej
  exact ⟨key,rfl,aDo (s:={ s with heap:=h' }) e2 c2 d2 (by decide) ⟨.int kvs[i].1,H,I1,hrel,⟨rfl,kvs[i].1,by rw [List.getElem?_map,List.getElem?_eq_getElem hi];rfl,rfl⟩,st',fun b hb=>(hf b hb).1⟩⟩
 done:=by
  intro X hP hw hK hc i pins s σ H E I hf st hg
  subst hP hw hK
  obtain ⟨hi,hH⟩:=hg
  obtain ⟨hd,vs,ep',es',hd2,hv,da⟩:=aCn I.hok hH
  rw [hdt] at hd2
  cases hd2
  obtain ⟨f0,f1,f2,f3,f4,f5⟩:=hf it (by simp)
  have hvl:vs.length=kvs.length:=by
   have:=congrArg List.length hv
   simpa using this
  rw [← hvl] at st
  exact wpAny_pyNext_dict_end (I.ok.hd hc) st da (List.getElem?_eq_none (by omega)) fun h' eb=>⟨rfl,I.turned (t':=s.toks) (fun b o hb e=>eb b o hb e) f0 f1 f3 f4 f5⟩
 self:=fun _ _ _ _ _ st h=>wpAny_pyIter_keyiter st h
section
variable {X:Cx}{tg:Expr}{pos:Pos}
def aB5 (i:Nat):GF:=fun δ Q=>match δ[i]? with
 | some (.fd (.k kvs))=>Q (kvs.map fun p=>.int p.1)
 | _=>False
theorem aJA {i:Nat}{x:Str} (hx:PE X (.Name x pos) (wP i)):DI X tg (.Name x pos) (aB5 i):=by
 refine ⟨fun σ H R=>∃ l o kvs,σ[i]? = some (some (.ref l))∧H l=some (.frz o (tJ X.K (.k kvs)))∧R ⟨fun i H=>i<kvs.length∧H l=some (.frz o (tJ X.K (.k kvs))),fun i H x H'=>H'=H∧∃ k,(kvs.map (·.1))[i]? = some k∧x = .int k,fun i H=>kvs.length≤i∧H l=some (.frz o (tJ X.K (.k kvs)))⟩ H,fun pins s σ H R I h=>?_,fun C0 H0 δ σ C H Q R rp g k=>?_⟩
 ·obtain ⟨l,o,kvs,hs,hl,q⟩:=h
  refine fG (hx pins s σ H (fun v H1=>v = .ref l∧H1=H) I ⟨.ref l,hs,rfl,rfl⟩) fun v s1 ⟨y,H1,I1,r1,e1,e2⟩=>?_
  subst e1 e2
  cases r1
  obtain ⟨hd,vs,ep,es,hdt,hv,da⟩:=aCn I1.hok hl
  have hvl:vs.length=kvs.length:=by
   have:=congrArg List.length hv
   simpa using this
  refine wpAny_pyIter_dict hd da ?_
  refine ⟨s1.heap.objs.size,[s1.heap.objs.size],_,_,H1,rfl,I1.kept (t':=s1.toks) fun b o e=>Heap.get?_push_of_some _ e,aFI l _ o kvs es ep hdt,⟨_,Heap.get?_push_size _ rfl,rfl,by rw [hvl];rfl⟩,fun b hb=>?_,q⟩
  have e:b=s1.heap.objs.size:=by simpa using hb
  subst e
  exact I1.fpOk (Nat.le_refl _) (I1.hok.fresh (Nat.le_refl _))
 ·unfold aB5 at g
  split at g
  ·rename_i kvs em
   obtain ⟨l,o,hs,hc⟩:=rp.dc.fd i _ em
   refine ⟨l,o,kvs,hs,rp.ch _ _ hc,k _ _ C H g (eM.refl rp.ch) ?_⟩
   intro C2 H2 c1 c2 j
   have h2:=c2 _ _ (c1 _ _ hc)
   refine ⟨fun d e=>?_,fun hl=>⟨by simpa using hl,h2⟩⟩
   rw [List.getElem?_map] at e
   cases ek:kvs[j]? with
   | none=>rw [ek] at e;cases e
   | some p=>
    rw [ek] at e
    cases e
    refine ⟨⟨(List.getElem?_eq_some_iff.mp ek).1,h2⟩,fun x H3 y=>?_⟩
    obtain ⟨rfl,q,eq,rfl⟩:=y
    rw [List.getElem?_map,ek] at eq
    cases eq
    exact ⟨C2,eM.refl c2,aT.mpr rfl⟩
  ·exact g.elim
end
open Classical in
noncomputable def lF:List D→Option D
 | [.int u,.int l]=>if 0<l∧Bd 7000 u∧Bd 7000 l then some (cH (Rat.divInt u l)) else none
 | _=>none
noncomputable def cN:List D→Option D
 | [m,p,s,r]=>hC m fun ns _=>qC ns p fun pl=>sK pl.length s fun s=>aA2 ns r fun r=>some (.int (jG ns pl s r))
 | _=>none
noncomputable def iR:List D→Option D
 | [m,rs,h]=>hC m fun ns pay=>tH ns rs fun rs=>sK ns.length h fun h=>some (.lst ((rs.map fun r=>m8 ns pay r h).map D.int))
 | _=>none
def u7 (p q:Int):List Int→Int
 | []=>0
 | y::ys=>y * q ^ ys.length+p * u7 p q ys
def jP (ys:List Int):Bool:=decide (ys.length≤20) && ys.all fun y=>decide (-9≤y) && decide (y≤9)
theorem vJ {ys:List Int} (h1:ys.length≤20) (h2:∀ y∈ys, -9≤y∧y≤9):jP ys=true:=by
 unfold jP
 rw [Bool.and_eq_true,decide_eq_true_eq,List.all_eq_true]
 exact ⟨h1,fun y hy=>by simpa using h2 y hy⟩
theorem sP {ys:List Int} (h:jP ys=true):ys.length≤20∧∀ y∈ys, -9≤y∧y≤9:=by
 unfold jP at h
 rw [Bool.and_eq_true,decide_eq_true_eq,List.all_eq_true] at h
 exact ⟨h.1,fun y hy=>by simpa using h.2 y hy⟩
noncomputable def gG:List D→Option D
 | [.lst es,d]=>match cX es with
  | some ys=>if jP ys=true then qZ d fun d=>some (.int (u7 d.num d.den ys)) else none
  | none=>none
 | _=>none
def woL (d:Rat) (xs ys:List Int):Rat:=rY d (xs.map fun (x:Int)=>(x:Rat))+d ^ xs.length * (rY d (ys.map fun (x:Int)=>(x:Rat)) / (1-d ^ ys.length))
noncomputable def bZ:List D→Option D
 | [.lst as,.lst bs,d]=>match cX as,cX bs with
  | some xs,some ys=>if jP xs=true∧jP ys=true∧ys≠[] then qZ d fun d=>some (cH (woL d xs ys)) else none
  | _,_=>none
 | _=>none
noncomputable def eY:List D→Option D
 | [m,p,s,d]=>hC m fun ns pay=>qC ns p fun pl=>sK pl.length s fun s=>qZ d fun d=>some (.tup ((List.range ns.length).map fun h=>cH (dL ns pay pl d h s)))
 | _=>none
section
variable {d:Rat}
theorem aDm (p q:Int):∀ (ys:List Int) (t w:Int),ys.foldl (fun (a:Int×Int) y=>(a.1 * q+a.2 * y,a.2 * p)) (t,w)=(t * q ^ ys.length+w * u7 p q ys,w * p ^ ys.length)
 | [],t,w=>by simp [u7]
 | y::ys,t,w=>by
  rw [List.foldl_cons,aDm p q ys,u7,List.length_cons,Int.pow_succ,Int.pow_succ]
  refine Prod.ext ?_ ?_ <;> simp only <;> grind
theorem aI9 (ys:List Int):rY d (ys.map fun (x:Int)=>(x:Rat)) * (((d.den:Int) ^ ys.length:Int):Rat)=(((d.den:Int)-d.num:Int):Rat) * (u7 d.num d.den ys:Rat):=by
 induction ys with
 | nil=>simp [rY,u7]
 | cons y ys ih=>
  have h1:=aCi d
  rw [List.map_cons,List.length_cons,u7,Int.pow_succ,Rat.intCast_mul,Rat.intCast_add,Rat.intCast_mul,Rat.intCast_mul,Rat.intCast_sub]
  show ((1-d) * (y:Rat)+d * rY d (ys.map fun (x:Int)=>(x:Rat))) * _=_
  rw [Rat.intCast_sub] at ih
  generalize rY d (ys.map fun (x:Int)=>(x:Rat))=F at *
  generalize (((d.den:Int) ^ ys.length:Int):Rat)=Q at *
  generalize ((d.den:Int):Rat)=q at *
  generalize ((d.num:Int):Rat)=p at *
  generalize ((u7 d.num d.den ys:Int):Rat)=W at *
  grind
theorem xZ (p q:Int):∀ n:Nat,(q-p) * u7 p q (List.replicate n 1)=q ^ n-p ^ n
 | 0=>by simp [u7]
 | n+1=>by
  have ih:=xZ p q n
  rw [List.replicate_succ,u7,List.length_replicate,Int.pow_succ,Int.pow_succ]
  grind
theorem aBI (hd:kL d):0<d.num∧d.num<(d.den:Int):=by
 have h1:=hd.pos
 have h2:=hd.lt
 rw [Rat.lt_iff] at h1 h2
 have e1:(0:Rat).num=0:=rfl
 have e2:(0:Rat).den=1:=rfl
 have e3:(1:Rat).num=1:=rfl
 have e4:(1:Rat).den=1:=rfl
 rw [e1,e2] at h1
 rw [e3,e4] at h2
 omega
theorem aE3 (hd:kL d) {n:Nat} (hn:0<n):0<u7 d.num d.den (List.replicate n 1):=by
 obtain ⟨h1,h2⟩:=aBI hd
 have e:=xZ d.num d.den n
 have h3:=aFD h1 h2 n hn
 apply Int.lt_of_not_ge
 intro z
 have:=Int.mul_nonpos_of_nonneg_of_nonpos (show 0≤(d.den:Int)-d.num by omega) z
 omega
theorem aKa (hd:kL d) {ys:List Int} (hy:ys≠[]):rY d (ys.map fun (x:Int)=>(x:Rat)) / (1-d ^ ys.length)=Rat.divInt (u7 d.num d.den ys) (u7 d.num d.den (List.replicate ys.length 1)):=by
 have hn:0<ys.length:=List.length_pos_iff.mpr hy
 obtain ⟨h1,h2⟩:=aBI hd
 have a:=aI9 (d:=d) ys
 have b:=congrArg (fun z:Int=>(z:Rat)) (xZ d.num d.den ys.length)
 simp only [Rat.intCast_mul,Rat.intCast_sub] at b
 have hp:=aE3 hd hn
 have hdp:∀ n:Nat,d ^ n * (((d.den:Int) ^ n:Int):Rat)=((d.num ^ n:Int):Rat):=by
  intro n
  induction n with
  | zero=>rw [Rat.pow_zero,Int.pow_zero,Int.pow_zero];grind
  | succ n ih=>
   have:=aCi d
   rw [Rat.pow_succ,Int.pow_succ,Int.pow_succ,Rat.intCast_mul,Rat.intCast_mul]
   grind
 have c:=hdp ys.length
 obtain ⟨p1,p2⟩:=mM hd.pos hd.lt ys.length hn
 have q0:(((d.den:Int) ^ ys.length:Int):Rat)≠0:=by
  have:=zL (show (0:Int)<(d.den:Int) by omega) ys.length
  intro z
  have z2:(((d.den:Int) ^ ys.length:Int):Rat)=((0:Int):Rat):=z
  rw [Rat.intCast_inj] at z2
  omega
 have w0:((u7 d.num d.den (List.replicate ys.length 1):Int):Rat)≠0:=by
  intro z
  have z2:((u7 d.num d.den (List.replicate ys.length 1):Int):Rat)=((0:Int):Rat):=z
  rw [Rat.intCast_inj] at z2
  omega
 have k0:(((d.den:Int):Rat)-((d.num:Int):Rat))≠0:=by
  intro z
  have z2:(((d.den:Int)-d.num:Int):Rat)=((0:Int):Rat):=by rw [Rat.intCast_sub];exact z
  rw [Rat.intCast_inj] at z2
  omega
 rw [Rat.intCast_sub] at a
 rw [Rat.divInt_eq_div]
 generalize rY d (ys.map fun (x:Int)=>(x:Rat))=F at *
 generalize (((d.den:Int) ^ ys.length:Int):Rat)=Q at *
 generalize ((d.num ^ ys.length:Int):Rat)=P at *
 generalize ((u7 d.num d.den ys:Int):Rat)=W at *
 generalize ((u7 d.num d.den (List.replicate ys.length 1):Int):Rat)=V at *
 generalize d ^ ys.length=D at *
 generalize (((d.den:Int):Rat)-((d.num:Int):Rat))=k at *
 have e1:1-D≠0:=by grind
 have e2:(1-D) * Q=k * V:=by grind
 have e3:F * V=W * (1-D):=by
  have:F * V * k * Q=W * (1-D) * k * Q:=by grind
  grind
 grind
theorem aBy {p q:Int} (hp:Bd 40 p) (hq:Bd 40 q):∀ {ys:List Int},(∀ y∈ys, -9≤y∧y≤9)→Bd (46 * ys.length+1) (u7 p q ys)
 | [],_=>show (0:Int).natAbs<2 ^ (46 * 0+1) by decide
 | y::ys,h=>by
  have ih:=aBy hp hq (ys:=ys) fun z hz=>h z (List.mem_cons_of_mem _ hz)
  have hy:=h y List.mem_cons_self
  have b1:Bd 4 y:=by unfold Bd;omega
  have b2:=b1.mul (hq.pow ys.length)
  have b3:=hp.mul ih
  rw [u7,List.length_cons]
  have b4:Bd (46 * ys.length+41) (y * q ^ ys.length):=b2.mono (by omega)
  have b5:Bd (46 * ys.length+41) (p * u7 p q ys):=b3.mono (by omega)
  exact (b4.add b5).mono (by omega)
end
section
variable {ns:List Int}{pay:List (List Int)}{d e:Rat}{S:List (List Int)}{r:List Int}{h:Nat}
end
section
variable {ns:List Int}{pay:List (List Int)}{d:Rat}{r:List Int}{h:Nat}
end
abbrev aDe (h:Heap) (z TI TO p0:Addr) (b:Bool):Prop:=
 h.get? z=some { cls:=.type "zip",dict:=none,data:=.fields #[rawInt p0,.bool b,.bool false,.ref TI,.ref TO],slots:=#[] }
section
variable {prog:Program}{w:World}{A:Around}{E:Value→Shared→Prop}{s:Shared}
theorem aHL {M:Model}{a:Addr}{Q:Option Obj→Shared→Prop} (h:Q (s.heap.get? a) s):wpAny M A (loadIfAlive a) Q E s:=fun _ _ _=>h
theorem aA6 {z TI TO p0:Addr}{b:Bool}{o:Obj}{Q:Bool→Shared→Prop} (hz:aDe s.heap z TI TO p0 b) (ho:s.heap.get? p0=some o)
  (hQ:∀ h',aDe h' z TI TO p0 true→Heap.SameBut z s.heap h'→Q false { s with heap:=h' }):wpAny (model prog w) A (Builtin.SmallTypes.ownedTupleIsFree (.ref z)) Q E s:=by
 unfold Builtin.SmallTypes.ownedTupleIsFree
 refine wpAny_bind (wpAny_field hz rfl (x:=rawInt p0) rfl ?_)
 dsimp only [rawInt]
 refine wpAny_bind (aHL ?_)
 rw [Int.toNat_natCast,ho]
 simp only [Option.isNone_some,Bool.false_eq_true,if_false]
 refine wpAny_bind (wpAny_field hz rfl (x:=.bool b) rfl ?_)
 cases b with
 | true=>exact wpAny_pure (hQ s.heap hz (Heap.SameBut.refl ..))
 | false=>
  rw [if_pos (by decide)]
  exact wpAny_bind (wpAny_setField_rec hz (by simp) fun h' hz' sb=>wpAny_pure (hQ h' hz' sb))
theorem aD9 {z TI TO i1 i2 l1 l2 p0:Addr}{b0:Bool}{o0:Obj}{k1 k2:Nat}{xs ys:Array Value}{x y:Value}{Q:Value→Shared→Prop} (D:ZipApart z TI TO i1 i2 l1 l2)
  (hz:aDe s.heap z TI TO p0 b0) (hp:s.heap.get? p0=some o0) (hTI:IsPair s.heap TI (.ref i1) (.ref i2)) (h1:At s.heap i1 l1 k1 xs) (h2:At s.heap i2 l2 k2 ys) (hx:xs[k1]? = some x) (hy:ys[k2]? = some y)
  (hQ:∀ h',aDe h' z TI TO p0 true→At h' i1 l1 (k1+1) xs→At h' i2 l2 (k2+1) ys→IsPair h' s.heap.objs.size x y→h'.objs.size=s.heap.objs.size+1 →
   (∀ c o,c≠z→c≠i1→c≠i2→s.heap.get? c=some o→h'.get? c=some o)→Q (.ref s.heap.objs.size) { s with heap:=h' }) :
  wpAny (model prog w) A (Builtin.«zip.__next__» ⟨[.ref z],[]⟩) (fun fin s'=>∃ v,fin = .done (.ret v)∧Q v s') E s:=by
 refine wpAny_bind (m:=field (.ref z) 2) (wpAny_field hz rfl (x:=.bool false) rfl ?_)
 refine wpAny_bind (m:=field (.ref z) 3) (wpAny_field hz rfl (x:=.ref TI) rfl ?_)
 refine wpAny_bind (wpAny_seqItems hTI rfl ?_)
 refine wpAny_bind (m:=Builtin.SmallTypes.ownedTupleIsFree (.ref z)) (aA6 hz hp fun g1 z1 sb1=>?_)
 simp only [Bool.false_eq_true,if_false]
 rw [← Array.forIn_toList]
 refine wpAny_bind ?_
 simp only [List.forIn_cons,List.forIn_nil]
 refine wpAny_bind (wpAny_bind (wpAny_holding ?_))
 refine wpAny_bind (m:=Builtin.SmallTypes.nextOf (.ref i1)) (o4 (h1.but sb1.extBut D.i1z D.l1z) D.l1i1 hx fun g2 a2 sb2=>wpAny_pure ?_)
 refine wpAny_pure ?_
 refine wpAny_bind (wpAny_bind (wpAny_holding ?_))
 have a2':At g2 i2 l2 k2 ys:=(h2.but sb1.extBut D.i2z D.l2z).but sb2.extBut D.i12.symm D.l2i1
 refine wpAny_bind (m:=Builtin.SmallTypes.nextOf (.ref i2)) (o4 a2' D.l2i2 hy fun g4 a4 sb4=>wpAny_pure ?_)
 refine wpAny_pure (wpAny_pure ?_)
 refine wpAny_bind (wpAny_newTuple ?_ (show 2≤sizeLine by decide))
 have esz:g4.objs.size=s.heap.objs.size:=by rw [sb4.1,sb2.1,sb1.1]
 have z4:aDe g4 z TI TO p0 true:=sb4.extBut _ _ D.i2z.symm (sb2.extBut _ _ D.i1z.symm z1)
 have k4:∀ c o,c≠z→c≠i1→c≠i2→s.heap.get? c=some o→g4.get? c=some o:=fun c o c1 c3 c4 e=>sb4.extBut _ _ c4 (sb2.extBut _ _ c3 (sb1.extBut _ _ c1 e))
 have a14:At g4 i1 l1 (k1+1) xs:=a2.but sb4.extBut D.i12 D.l1i2
 have up:∀ c o,g4.get? c=some o→(g4.push { cls:=.type "tuple",data:=.seq #[x,y] }).get? c=some o:=fun c o e=>Heap.get?_push_of_some _ e
 have t8:IsPair (g4.push { cls:=.type "tuple",data:=.seq #[x,y] }) g4.objs.size x y:=Heap.get?_push_size _ rfl
 refine wpAny_pure ⟨_,rfl,?_⟩
 show Q (.ref g4.objs.size) _
 rw [esz] at t8 ⊢
 exact hQ _ (up _ _ z4) (a14.kept (fun o e=>up _ o e) fun o e=>up _ o e) (a4.kept (fun o e=>up _ o e) fun o e=>up _ o e) t8 (by rw [Heap.size_push,esz]) fun c o c1 c3 c4 e=>up c o (k4 c o c1 c3 c4 e)
theorem aGJ {z TI TO i1 i2 l1 l2 p0:Addr}{b0:Bool}{o0:Obj}{k1 k2:Nat}{xs ys:Array Value}{Q:PySem.Fin→Shared→Prop} (hh:A.handled=none) (D:ZipApart z TI TO i1 i2 l1 l2)
  (hz:aDe s.heap z TI TO p0 b0) (hp:s.heap.get? p0=some o0) (hTI:IsPair s.heap TI (.ref i1) (.ref i2)) (h1:At s.heap i1 l1 k1 xs) (h2:At s.heap i2 l2 k2 ys) (hend:xs[k1]? = none∨ys[k2]? = none)
  (hE:∀ h' e,(∀ c o,c≠z→c≠i1→c≠i2→s.heap.get? c=some o→h'.get? c=some o)→(∃ o,h'.get? e=some o∧o.cls = .type "StopIteration")→E (.ref e) { s with heap:=h' }) :
  wpAny (model prog w) A (Builtin.«zip.__next__» ⟨[.ref z],[]⟩) Q E s:=by
 refine wpAny_bind (m:=field (.ref z) 2) (wpAny_field hz rfl (x:=.bool false) rfl ?_)
 refine wpAny_bind (m:=field (.ref z) 3) (wpAny_field hz rfl (x:=.ref TI) rfl ?_)
 refine wpAny_bind (wpAny_seqItems hTI rfl ?_)
 refine wpAny_bind (m:=Builtin.SmallTypes.ownedTupleIsFree (.ref z)) (aA6 hz hp fun g1 z1 sb1=>?_)
 simp only [Bool.false_eq_true,if_false]
 rw [← Array.forIn_toList]
 refine wpAny_bind ?_
 simp only [List.forIn_cons,List.forIn_nil]
 refine wpAny_bind (wpAny_bind (wpAny_holding ?_))
 have a1:=h1.but sb1.extBut D.i1z D.l1z
 cases hx:xs[k1]? with
 | none=>
  exact wpAny_bind (m:=Builtin.SmallTypes.nextOf (.ref i1)) (qV hh a1 hx fun g2 e sb2 he=>hE g2 e (fun c o c1 c3 _ q=>sb2 _ _ c3 (sb1.extBut _ _ c1 q)) he)
 | some x=>
  have hy:ys[k2]? = none:=by
   rcases hend with h | h
   ·rw [hx] at h;cases h
   ·exact h
  refine wpAny_bind (m:=Builtin.SmallTypes.nextOf (.ref i1)) (o4 a1 D.l1i1 hx fun g2 a2 sb2=>wpAny_pure ?_)
  refine wpAny_pure ?_
  refine wpAny_bind (wpAny_bind (wpAny_holding ?_))
  have a2':At g2 i2 l2 k2 ys:=(h2.but sb1.extBut D.i2z D.l2z).but sb2.extBut D.i12.symm D.l2i1
  exact wpAny_bind (m:=Builtin.SmallTypes.nextOf (.ref i2)) (qV hh a2' hy fun g4 e sb4 he=>hE g4 e (fun c o c1 c3 c4 q=>sb4 _ _ c4 (sb2.extBut _ _ c3 (sb1.extBut _ _ c1 q))) he)
end
theorem aEl:typeLookup (.type "zip") "__len__"=pure none:=by rw [typeLookup_type,builtinLookup_eq_fast];kernel_rfl
theorem aCW:typeLookup (.type "zip") "__length_hint__"=pure none:=by rw [typeLookup_type,builtinLookup_eq_fast];kernel_rfl
section
variable {X:Cx}{pins:List (Addr×Obj)}{σ:St}{H1:Hp}{xs ys:List V}{z TI TO i1 i2 l1 l2 S:Addr}
structure LZ (X:Cx) (pins:List (Addr×Obj)) (σ:St) (H1:Hp) (xs ys:List V) (z TI TO i1 i2 l1 l2 S:Addr) (i:Nat) (H':Hp) (ps:List Addr) (s:Shared):Prop where
 inv:bG X pins σ H' s
 len:ps.length=i
 new:∀ b∈ps,H1 b=none∧b≠S
 same:bY H1 H'
 tup:∀ (j:Nat) p,ps[j]? = some p→∃ x y,xs[j]? = some x∧ys[j]? = some y∧H' p=some (.tup [x,y])
 lst:H' S=some (.lst (ps.map V.ref))
 fps:∀ b∈[z,TI,TO,i1,i2],pW X pins H' b
 ti:IsPair s.heap TI (.ref i1) (.ref i2)
 it1:vD false s.heap i1 l1 i
 it2:vD false s.heap i2 l2 i
 z0:ps=[]→IsZip s.heap z TI TO .none∧∃ a b,IsPair s.heap TO a b
 z1:∀ p0,ps[0]? = some p0→∃ b,aDe s.heap z TI TO p0 b
 hS:H1 S=none
 to:∃ o,s.heap.get? TO=some o
theorem LZ.typ {i:Nat}{H':Hp}{ps:List Addr}{s:Shared} (L:LZ X pins σ H1 xs ys z TI TO i1 i2 l1 l2 S i H' ps s):s.TypeIs (.ref z) "zip":=by
 cases e:ps with
 | nil=>exact ⟨_,(L.z0 e).1,rfl⟩
 | cons p r=>
  obtain ⟨b,hb⟩:=L.z1 p (by rw [e];rfl)
  exact ⟨_,hb,rfl⟩
theorem LZ.more {i:Nat}{H':Hp}{ps:List Addr}{s:Shared}{h':Heap}{x y:V}{u v:Value}{t':Nat} (D:ZipApart z TI TO i1 i2 l1 l2) (L:LZ X pins σ H1 xs ys z TI TO i1 i2 l1 l2 S i H' ps s)
  (sx:fY X.K H1 l1 xs) (sy:fY X.K H1 l2 ys) (ex:xs[i]? = some x) (ey:ys[i]? = some y) (rx:cG x u) (ry:cG y v) (hi:i<sizeLine)
  (k:∀ c o,c≠z→c≠TO→c≠i1→c≠i2→s.heap.get? c=some o→h'.get? c=some o) (hp:IsPair h' s.heap.objs.size u v) (a1:vD false h' i1 l1 (i+1)) (a2:vD false h' i2 l2 (i+1))
  (zz:∀ p0,(ps++[s.heap.objs.size])[0]? = some p0→∃ b,aDe h' z TI TO p0 b) (there:∃ o,h'.get? TO=some o) :
  ∃ n its,h'.get? S=some { cls:=.type "list",data:=.seq its n }∧its.size=i ∧
   ∃ H2,LZ X pins σ H1 xs ys z TI TO i1 i2 l1 l2 S (i+1) H2 (ps++[s.heap.objs.size]) { s with heap:=h'.update S (Obj.mapSeq (·.push (.ref s.heap.objs.size))),toks:=t' }:=by
 have I:=L.inv
 have fT:H' s.heap.objs.size=none:=I.fresh
 obtain ⟨zS,its,n,rS,lS,eS⟩:=I.lstM L.lst
 have nfp:∀ b,b∈[z,TI,TO,i1,i2]→b≠S:=fun b hb q=>by
  have:=(L.fps b hb).1
  rw [q,L.lst] at this
  cases this
 have kp:∀ b o,b∉[z,TI,TO,i1,i2]→s.heap.get? b=some o→h'.get? b=some o:=fun b o hb e=>by
  simp only [List.mem_cons,List.not_mem_nil,or_false,not_or] at hb
  exact k b o hb.1 hb.2.2.1 hb.2.2.2.1 hb.2.2.2.2 e
 have SN:S≠s.heap.objs.size:=Nat.ne_of_lt (Heap.lt_size eS)
 have tiz:IsPair h' TI (.ref i1) (.ref i2):=k _ _ D.TIz D.TITO D.TIi1 D.TIi2 L.ti
 have zh:∃ o,h'.get? z=some o:=by
  cases e:ps with
  | nil=>
   obtain ⟨b,hb⟩:=zz s.heap.objs.size (by rw [e];rfl)
   exact ⟨_,hb⟩
  | cons p r=>
   obtain ⟨b,hb⟩:=zz p (by rw [e];rfl)
   exact ⟨_,hb⟩
 have I2:bG X pins σ (upd H' s.heap.objs.size (.tup [x,y])) { s with heap:=h',toks:=t' }:=I.turnedT (t':=t') (us:=[u,v]) L.fps (Nat.le_refl _) kp (fun b hb=>by
  simp only [List.mem_cons,List.not_mem_nil,or_false] at hb
  rcases hb with rfl | rfl | rfl | rfl | rfl
  ·exact zh
  ·exact ⟨_,tiz⟩
  ·exact there
  ·obtain ⟨o,e,_⟩:=a1.obj;exact ⟨o,e⟩
  ·obtain ⟨o,e,_⟩:=a2.obj;exact ⟨o,e⟩) (.cons rx (.cons ry .nil)) (show 2≤sizeLine by decide) ⟨_,hp,rfl,_,rfl⟩
 have hS2:(upd H' s.heap.objs.size (.tup [x,y])) S=some (.lst (ps.map V.ref)):=by rw [aS SN];exact L.lst
 have eS2:h'.get? S=some { cls:=.type "list",data:=.seq its.toArray n }:=kp S _ (fun hb=>nfp S hb rfl) eS
 have lp:(ps.map V.ref).length=i:=by rw [List.length_map];exact L.len
 refine ⟨n,its.toArray,eS2,by rw [List.size_toArray,← lS];exact lp,_,I2.lset (t':=t') (its':=its++[.ref s.heap.objs.size]) (ys:=(ps++[s.heap.objs.size]).map V.ref) hS2 eS2 (by simp) (by rw [List.map_append];exact rS.append (.cons rfl .nil)) (by rw [List.length_map,List.length_append,L.len,List.length_singleton];omega),?_,?_,?_,?_,?_,?_,?_,?_,?_,?_,?_,L.hS,?_⟩
 ·rw [List.length_append,L.len];rfl
 ·intro b hb
  rcases List.mem_append.mp hb with q | q
  ·exact L.new b q
  ·rw [List.mem_singleton.mp q]
   exact ⟨L.same.free fT,Ne.symm SN⟩
 ·intro b o e
  have e1:=L.same b o e
  have b1:b≠s.heap.objs.size:=fun q=>by rw [q,fT] at e1;cases e1
  have b2:b≠S:=fun q=>by rw [q,L.hS] at e;cases e
  rw [aS b2,aS b1]
  exact e1
 ·intro j p e
  by_cases hj:j<ps.length
  ·rw [List.getElem?_append_left hj] at e
   obtain ⟨x',y',q1,q2,q3⟩:=L.tup j p e
   have p1:p≠S:=(L.new p (List.mem_of_getElem? e)).2
   have p2:p≠s.heap.objs.size:=fun q=>by rw [q,fT] at q3;cases q3
   exact ⟨x',y',q1,q2,by rw [aS p1,aS p2];exact q3⟩
  ·rw [List.getElem?_append_right (by omega)] at e
   have hj':j=i:=by
    have:=(List.getElem?_eq_some_iff.mp e).1
    rw [List.length_singleton] at this
    have:=L.len
    omega
   subst hj'
   rw [L.len,Nat.sub_self] at e
   cases e
   exact ⟨x,y,ex,ey,by rw [aS (Ne.symm SN),bH]⟩
 ·rw [bH]
 ·intro b hb
  have q:=L.fps b hb
  have lt:b≠s.heap.objs.size:=by
   have:∃ o,s.heap.get? b=some o:=by
    simp only [List.mem_cons,List.not_mem_nil,or_false] at hb
    rcases hb with rfl | rfl | rfl | rfl | rfl
    ·obtain ⟨o,e,_⟩:=L.typ;exact ⟨o,e⟩
    ·exact ⟨_,L.ti⟩
    ·exact L.to
    ·obtain ⟨o,e,_⟩:=L.it1.obj;exact ⟨o,e⟩
    ·obtain ⟨o,e,_⟩:=L.it2.obj;exact ⟨o,e⟩
   obtain ⟨o,e⟩:=this
   exact Nat.ne_of_lt (Heap.lt_size e)
  exact ⟨by rw [aS (nfp b hb),aS lt];exact q.1,q.2⟩
 ·exact (Heap.get?_update_other _ _ (Ne.symm (nfp TI (by simp)))).trans tiz
 ·exact a1.kept fun o e=>(Heap.get?_update_other _ _ (Ne.symm (nfp i1 (by simp)))).trans e
 ·exact a2.kept fun o e=>(Heap.get?_update_other _ _ (Ne.symm (nfp i2 (by simp)))).trans e
 ·intro q
  simp at q
 ·intro p0 e
  obtain ⟨b,hb⟩:=zz p0 e
  exact ⟨b,(Heap.get?_update_other _ _ (Ne.symm (nfp z (by simp)))).trans hb⟩
 ·obtain ⟨o,e⟩:=there
  exact ⟨o,(Heap.get?_update_other _ _ (Ne.symm (nfp TO (by simp)))).trans e⟩
def aHi (X:Cx) (pins:List (Addr×Obj)) (σ:St) (H1:Hp) (xs ys:List V) (S:Addr) (s:Shared):Prop:=
 ∃ (H':Hp) (ps:List Addr),bG X pins σ H' s∧ps.length=min xs.length ys.length∧(∀ b∈ps,H1 b=none∧b≠S)∧bY H1 H'∧(∀ (j:Nat) p,ps[j]? = some p→∃ x y,xs[j]? = some x∧ys[j]? = some y∧H' p=some (.tup [x,y]))∧H' S=some (.lst (ps.map V.ref))∧H1 S=none
theorem aJR {A:Around}{E:Value→Shared→Prop}{i:Nat}{H':Hp}{ps:List Addr}{s:Shared}{Q:Option Value→Shared→Prop} (D:ZipApart z TI TO i1 i2 l1 l2) (L:LZ X pins σ H1 xs ys z TI TO i1 i2 l1 l2 S i H' ps s)
  (sx:fY X.K H1 l1 xs) (sy:fY X.K H1 l2 ys) (hi:i<min xs.length ys.length)
  (hQ:∀ h',(∃ n its,h'.get? S=some { cls:=.type "list",data:=.seq its n }∧its.size=i ∧
   ∃ H2 ps2,LZ X pins σ H1 xs ys z TI TO i1 i2 l1 l2 S (i+1) H2 ps2 { s with heap:=h'.update S (Obj.mapSeq (·.push (.ref s.heap.objs.size))) })→Q (some (.ref s.heap.objs.size)) { s with heap:=h' }) :
  wpAny (model X.prog X.w) A (pyNext (.ref z)) Q E s:=by
 have I:=L.inv
 have hx':fY X.K H' l1 xs:=L.same.seqT sx
 have hy':fY X.K H' l2 ys:=L.same.seqT sy
 obtain ⟨its,r1,q1⟩:=I.sqk (kind:=false) hx'
 obtain ⟨its2,r2,q2⟩:=I.sqk (kind:=false) hy'
 obtain ⟨x,ex⟩:∃ x,xs[i]? = some x:=⟨_,List.getElem?_eq_getElem (by omega)⟩
 obtain ⟨y,ey⟩:∃ y,ys[i]? = some y:=⟨_,List.getElem?_eq_getElem (by omega)⟩
 obtain ⟨u,eu,ru⟩:=r1.get ex
 obtain ⟨v,ev,rv⟩:=r2.get ey
 have hz:i<sizeLine:=by
  obtain ⟨_,_,_,hz⟩:=I.tuple hx'
  omega
 have hT:=L.typ
 unfold pyNext
 have nx:=F.slot_zip_next
 have keepS:∀ {h':Heap}{l:Addr}{ii:List Value},(∀ o,s.heap.get? l=some o→h'.get? l=some o)→sqk false s.heap l ii.toArray→sqk false h' l ii.toArray:=fun {h' l ii} k ⟨o,e,r⟩=>⟨o,k o e,r⟩
 cases hps:ps with
 | nil=>
  obtain ⟨hz0,a,b,hTO⟩:=L.z0 hps
  refine wpAny_bind (wpAny_attempt (wpAny_callSpecial?_slot (name:=Str.ofString "__next__") hT nx (wpAny_call_entry nx hT F.entry_zip_next
   (aBd D hz0 L.ti hTO (L.it1.at q1) (L.it2.at q2) (x:=u) (y:=v) (by simpa using eu) (by simpa using ev) fun h' z' to' a1 a2 t' sz kp=>wpAny_pure ?_) (F.args_zip_next_1 _))))
  have q1':sqk false h' l1 its.toArray:=keepS (fun o e=>kp l1 o D.l1z D.l1TO D.l1i1 D.l1i2 e) q1
  have q2':sqk false h' l2 its2.toArray:=keepS (fun o e=>kp l2 o D.l2z D.l2TO D.l2i1 D.l2i2 e) q2
  obtain ⟨n,its',g1,g2,H2,g3⟩:=L.more (h':=h') (t':=s.toks) D sx sy ex ey ru rv hz kp t' (vD.of a1 q1') (vD.of a2 q2') (fun p0 e=>by
   rw [hps] at e
   cases e
   exact ⟨false,z'⟩) ⟨_,to'⟩
  exact hQ h' ⟨n,its',g1,g2,H2,_,g3⟩
 | cons p0 r=>
  obtain ⟨b,hz1⟩:=L.z1 p0 (by rw [hps];rfl)
  obtain ⟨x0,y0,_,_,e0⟩:=L.tup 0 p0 (by rw [hps];rfl)
  obtain ⟨_,_,_,⟨o0,ho0,_⟩⟩:=I.hok p0 _ e0
  refine wpAny_bind (wpAny_attempt (wpAny_callSpecial?_slot (name:=Str.ofString "__next__") hT nx (wpAny_call_entry nx hT F.entry_zip_next
   (aD9 D hz1 ho0 L.ti (L.it1.at q1) (L.it2.at q2) (x:=u) (y:=v) (by simpa using eu) (by simpa using ev) fun h' z' a1 a2 t' sz kp=>wpAny_pure ?_) (F.args_zip_next_1 _))))
  have q1':sqk false h' l1 its.toArray:=keepS (fun o e=>kp l1 o D.l1z D.l1i1 D.l1i2 e) q1
  have q2':sqk false h' l2 its2.toArray:=keepS (fun o e=>kp l2 o D.l2z D.l2i1 D.l2i2 e) q2
  obtain ⟨oT,hoT⟩:=L.to
  obtain ⟨n,its',g1,g2,H2,g3⟩:=L.more (h':=h') (t':=s.toks) D sx sy ex ey ru rv hz (fun c o c1 _ c3 c4 e=>kp c o c1 c3 c4 e) t' (vD.of a1 q1') (vD.of a2 q2') (fun p e=>by
   rw [hps] at e
   cases e
   exact ⟨true,z'⟩) ⟨oT,kp _ _ D.TOz D.TOi1 D.TOi2 hoT⟩
  exact hQ h' ⟨n,its',g1,g2,H2,_,g3⟩
theorem aJY {A:Around}{E:Value→Shared→Prop}{i:Nat}{H':Hp}{ps:List Addr}{s:Shared}{Q:Option Value→Shared→Prop} (hh:A.handled=none) (D:ZipApart z TI TO i1 i2 l1 l2) (L:LZ X pins σ H1 xs ys z TI TO i1 i2 l1 l2 S i H' ps s)
  (sx:fY X.K H1 l1 xs) (sy:fY X.K H1 l2 ys) (hi:i=min xs.length ys.length) (h0:0<i) (hQ:∀ s',aHi X pins σ H1 xs ys S s'→Q none s') :
  wpAny (model X.prog X.w) A (pyNext (.ref z)) Q E s:=by
 have I:=L.inv
 have hx':fY X.K H' l1 xs:=L.same.seqT sx
 have hy':fY X.K H' l2 ys:=L.same.seqT sy
 obtain ⟨its,r1,q1⟩:=I.sqk (kind:=false) hx'
 obtain ⟨its2,r2,q2⟩:=I.sqk (kind:=false) hy'
 have n1:=r1.length
 have n2:=r2.length
 have hT:=L.typ
 unfold pyNext
 have nx:=F.slot_zip_next
 cases hps:ps with
 | nil=>
  have:=L.len
  rw [hps] at this
  exact absurd this.symm (Nat.ne_of_gt h0)
 | cons p0 r=>
  obtain ⟨b,hz1⟩:=L.z1 p0 (by rw [hps];rfl)
  obtain ⟨x0,y0,_,_,e0⟩:=L.tup 0 p0 (by rw [hps];rfl)
  obtain ⟨_,_,_,⟨o0,ho0,_⟩⟩:=I.hok p0 _ e0
  refine wpAny_bind (wpAny_attempt (wpAny_callSpecial?_slot (name:=Str.ofString "__next__") hT nx (wpAny_call_entry nx hT F.entry_zip_next
   (aGJ hh D hz1 ho0 L.ti (L.it1.at q1) (L.it2.at q2) ?_ fun h' e kp he=>?_) (F.args_zip_next_1 _))))
  ·rcases Nat.le_total xs.length ys.length with q | q
   ·exact .inl (by simp;omega)
   ·exact .inr (by simp;omega)
  ·obtain ⟨o,ho,hcl⟩:=he
   refine wpAny_bind (wpAny_isInstance (T:="StopIteration") (b:=true) ⟨o,ho,hcl⟩ isSubtype_stop ?_)
   refine wpAny_pure (hQ _ ⟨H',ps,I.turnedM (t':=s.toks) L.fps fun b o hb e=>?_,L.len.trans hi,L.new,L.same,L.tup,L.lst,L.hS⟩)
   simp only [List.mem_cons,List.not_mem_nil,or_false,not_or] at hb
   exact kp b o hb.1 hb.2.2.2.1 hb.2.2.2.2 e
theorem aIU {A:Around}{R:Result→Shared→Prop} (hh:A.handled=none) (D:ZipApart z TI TO i1 i2 l1 l2) (sx:fY X.K H1 l1 xs) (sy:fY X.K H1 l2 ys) (hn:min xs.length ys.length≤sizeLine) (h0:0<min xs.length ys.length) (res:Value)
  (hR:∀ s',aHi X pins σ H1 xs ys S s'→R (.ok (.ret res)) s') :
  ∀ (k i:Nat) (s:Shared) (H':Hp) (ps:List Addr),min xs.length ys.length-i=k→i≤min xs.length ys.length→LZ X pins σ H1 xs ys z TI TO i1 i2 l1 l2 S i H' ps s →
   codeAny (model X.prog X.w) A (.builtin "list.extend.loop" ⟨[.ref S,.ref z,res],[]⟩) R s:=by
 intro k
 induction k with
 | zero=>
  intro i s H' ps hk hi L
  refine codeAny_builtin F.entry_extend_loop ?_
  rw [Around.under_plainId F.plain_extend_loop _]
  show wpAny _ A.in1 (pyNext (.ref z) >>= _) _ _ s
  refine wpAny_bind (aJY hh D L sx sy (by omega) (by omega) fun s' hs=>?_)
  exact wpAny_pure (hR s' hs)
 | succ k ih=>
  intro i s H' ps hk hi L
  refine codeAny_builtin F.entry_extend_loop ?_
  rw [Around.under_plainId F.plain_extend_loop _]
  show wpAny _ A.in1 (pyNext (.ref z) >>= _) _ _ s
  refine wpAny_bind (aJR D L sx sy (by omega) fun h' ⟨n,its,e1,e2,H2,ps2,L2⟩=>?_)
  show wpAny _ A.in1 (updateSeq S (·.push (.ref s.heap.objs.size)) >>= _) _ _ _
  refine wpAny_bind ?_
  refine wpAny_updateSeq e1 rfl (wpAny_pure ⟨plainId_quiet F.plain_extend_loop _,ih (i+1) _ H2 ps2 (by omega) (by omega) L2⟩) (by omega) (by show (its.push _).size≤sizeLine+1;rw [Array.size_push];omega)
end
section
variable {X:Cx}{pins:List (Addr×Obj)}{σ:St}{H1:Hp}{xs ys:List V}{z TI TO i1 i2 l1 l2:Addr}
theorem aIz {s:Shared}{h3:Heap}{n:Nat} (I:bG X pins σ H1 s) (st:aCP false false z TI TO i1 i2 l1 l2 0 s.heap) (fps:∀ b∈[z,TI,TO,i1,i2],pW X pins H1 b)
  (up:∀ b o,s.heap.get? b=some o→h3.get? b=some o) (e:h3.get? s.heap.objs.size=some { cls:=.type "list",data:=.seq #[] n }) :
  LZ X pins σ H1 xs ys z TI TO i1 i2 l1 l2 s.heap.objs.size 0 (upd H1 s.heap.objs.size (.lst [])) [] { s with heap:=h3 }:=by
 obtain ⟨hz,hTI,⟨a,c,hTO⟩,h1,h2⟩:=st
 have fr:=I.fresh
 refine ⟨I.laid (t':=s.toks) up (Nat.le_refl _) ⟨Nat.zero_le _,[],n,.nil,e⟩,rfl,fun b hb=>absurd hb (by simp),bY.upd fr,fun j p q=>by simp at q,by rw [bH];rfl,fun b hb=>?_,up _ _ hTI,h1.kept fun o e=>up _ o e,h2.kept fun o e=>up _ o e,fun _=>⟨up _ _ hz,a,c,up _ _ hTO⟩,fun p0 q=>by simp at q,fr,⟨_,up _ _ hTO⟩⟩
 have q:=fps b hb
 have lt:b≠s.heap.objs.size:=by
  have:∃ o,s.heap.get? b=some o:=by
   simp only [List.mem_cons,List.not_mem_nil,or_false] at hb
   rcases hb with rfl | rfl | rfl | rfl | rfl
   ·exact ⟨_,hz⟩
   ·exact ⟨_,hTI⟩
   ·exact ⟨_,hTO⟩
   ·obtain ⟨o,e,_⟩:=h1.obj;exact ⟨o,e⟩
   ·obtain ⟨o,e,_⟩:=h2.obj;exact ⟨o,e⟩
  obtain ⟨o,e⟩:=this
  exact Nat.ne_of_lt (Heap.lt_size e)
 exact ⟨by rw [aS lt];exact q.1,q.2⟩
theorem aAy {A:Around}{E:Value→Shared→Prop}{s:Shared}{Q:Value→Shared→Prop} (hh:A.handled=none) (D:ZipApart z TI TO i1 i2 l1 l2) (I:bG X pins σ H1 s) (st:aCP false false z TI TO i1 i2 l1 l2 0 s.heap)
  (fps:∀ b∈[z,TI,TO,i1,i2],pW X pins H1 b) (sx:fY X.K H1 l1 xs) (sy:fY X.K H1 l2 ys) (hn:min xs.length ys.length≤sizeLine) (h0:0<min xs.length ys.length)
  (hQ:∀ s',aHi X pins σ H1 xs ys s.heap.objs.size s'→Q (.ref s.heap.objs.size) s') :
  wpAny (model X.prog X.w) A (call (.type "list") [.ref z]) Q E s:=by
 refine callType_codes (Q₁:=fun obj s₁=>obj = .ref s.heap.objs.size∧s₁={ s with heap:=s.heap.push { cls:=.type "list",data:=.seq #[] } }) F.called_list (F.typeCall_list_1 _) F.entry_list_init
  (code_list_new _ ⟨rfl,rfl⟩) fun obj s₁ h₁=>?_
 obtain ⟨rfl,rfl⟩:=h₁
 have zlt:z<s.heap.objs.size:=Heap.lt_size st.1
 have hS:(s.heap.push { cls:=.type "list",data:=.seq #[] }).get? s.heap.objs.size=some { cls:=.type "list",data:=.seq #[] }:=Heap.get?_push_size _ rfl
 refine ⟨⟨_,hS,rfl⟩,F.args_list_init_2 _ _,?_⟩
 generalize hS0:s.heap.objs.size=S at *
 show wpAny _ A.in1.in1 (do let old ← Builtin.List.listItems (.ref S);Builtin.List.listUpdate (.ref S) (fun _=>#[]);letGo old.toList.reverse;Builtin.List.listExtendWith (.ref S) (.ref z) .none) _ _ _
 refine wpAny_bind ?_
 unfold Builtin.List.listItems
 refine wpAny_bind (wpAny_seqItems hS rfl (wpAny_pure ?_))
 show wpAny _ _ (updateSeq S (fun _=>#[]) >>= fun _=>letGo (#[]:Array Value).toList.reverse >>= fun _=>Builtin.List.listExtendWith (.ref S) (.ref z) .none) _ _ _
 refine wpAny_bind (wpAny_updateSeq hS rfl ?_)
 have hS1:=Heap.get?_update_self (Obj.mapSeq (fun _=>(#[]:Array Value))) hS rfl
 refine wpAny_bind (wpAny_letGo ?_)
 have oth1:∀ b o,b≠S→s.heap.get? b=some o→((s.heap.push { cls:=.type "list",data:=.seq #[] }).update S (Obj.mapSeq (fun _=>(#[]:Array Value)))).get? b=some o:=
  fun b o hb e=>(Heap.get?_update_other _ _ (Ne.symm hb)).trans (Heap.get?_push_of_some _ e)
 have neS:∀ b o,s.heap.get? b=some o→b≠S:=fun b o e=>by rw [← hS0];exact Nat.ne_of_lt (Heap.lt_size e)
 have hz1:=oth1 z _ (neS _ _ st.1) st.1
 unfold Builtin.List.listExtendWith
 refine wpAny_bind (wpAny_typeOf (T:="zip") ⟨_,hz1,rfl⟩ ?_)
 have h1:Builtin.List.listSameRef (.ref S) (.ref z)=false:=by
  have:S≠z:=Nat.ne_of_gt zlt
  simp [Builtin.List.listSameRef,this]
 rw [if_neg (by rw [h1];decide)]
 refine wpAny_bind (wpAny_pyIter_zip hz1 ?_)
 refine wpAny_bind (wpAny_holding ?_)
 unfold Builtin.List.listLengthHint
 refine wpAny_bind (wpAny_specialOf (T:="zip") ⟨_,hz1,rfl⟩ aEl ?_)
 show wpAny _ _ (specialOf (Value.ref z) (Str.ofString "__length_hint__") >>= _) _ _ _
 refine wpAny_bind (wpAny_specialOf (T:="zip") ⟨_,hz1,rfl⟩ aCW ?_)
 refine wpAny_pure ?_
 show wpAny _ _ (rule "list.extend.makes-room" >>= fun _=>Builtin.List.listTouch (.ref S) >>= fun _=>
  again (.builtin "list.extend.loop" ⟨[.ref S,.ref z,.none],[]⟩)) _ _ _
 refine wpAny_bind (wpAny_rule ?_)
 refine wpAny_bind ?_
 show wpAny _ _ (updateSeq S (·.push .none) >>= fun _=>updateSeq S (·.pop)) _ _ _
 refine wpAny_bind (wpAny_updateSeq hS1 rfl ?_)
 have hS2:=Heap.get?_update_self (Obj.mapSeq (·.push Value.none)) hS1 rfl
 refine wpAny_updateSeq (hz:=by seq_fits) hS2 rfl ?_
 have hS3:=Heap.get?_update_self (Obj.mapSeq (·.pop)) hS2 rfl
 refine wpAny_pure ⟨plainId_quiet F.plain_extend_loop _,?_⟩
 subst hS0
 refine aIU (X:=X) (pins:=pins) (σ:=σ) (H1:=H1) (xs:=xs) (ys:=ys) (A:=A.in1) hh D sx sy hn h0 .none (fun s' hs=>⟨rfl,hQ s' hs⟩) _ 0 _ _ [] rfl (Nat.zero_le _) (aIz (n:=_) I st fps (fun b o e=>?_) hS3)
 exact (Heap.get?_update_other _ _ (Ne.symm (neS b o e))).trans ((Heap.get?_update_other _ _ (Ne.symm (neS b o e))).trans (oth1 b o (neS b o e) e))
def tLZ (K:PySem.W.Frag) (t:TA):TE:=fun σ H Q=>t σ H fun vs H1=>∃ p q xs ys,vs=[.ref p,.ref q]∧fY K H1 p xs∧fY K H1 q ys∧0<min xs.length ys.length ∧
 ∀ (S:Addr) (ps:List Addr) (H2:Hp),ps.length=min xs.length ys.length→(∀ b∈ps,H1 b=none∧b≠S)→bY H1 H2→(∀ (j:Nat) p,ps[j]? = some p→∃ x y,xs[j]? = some x∧ys[j]? = some y∧H2 p=some (.tup [x,y]))→H2 S=some (.lst (ps.map V.ref))→H1 S=none→Q (.ref S) H2
theorem aEF {a b:Expr}{ta:TA}{p p' pos pos':Pos} (hc:X.calm=true) (hg:Gl X "zip") (hm:X.mg "zip"=none) (hbt:bootBuiltins "zip"=some (.type "zip")) (hgl:Gl X "list") (hml:X.mg "list"=none) (hbl:bootBuiltins "list"=some (.type "list")) (ha:PA X [a,b] ta)
  (hs:starEach [a,b] X.env=[(false,eval a X.env),(false,eval b X.env)]:=by rfl) (hs2:starEach [b] X.env=[(false,eval b X.env)]:=by rfl)
  (he:starEach [.Call (.Name "zip" p) [a,b] [] pos] X.env=(false,eval (.Call (.Name "zip" p) [a,b] [] pos) X.env)::starEach [] X.env:=by rfl) :
  PE X (.Call (.Name "list" p') [.Call (.Name "zip" p) [a,b] [] pos] [] pos') (tLZ X.K ta):=by
 intro pins s σ H R I h
 refine Call_ (oC I hgl hml hbl (PyProof.Rows.callWith_type1 (Q:=EP X pins σ R) ?_ he (by rfl)))
 rw [he]
 refine Calls.spliced_cons ?_
 refine Call_ (oC I hg hm hbt (PyProof.Rows.callWith_type1 (fG (ha pos pins s σ H _ I h) fun us s1 ⟨vs,H1,I1,r1,q1⟩=>?_) (by rw [hs,hs2]) (by rw [hs2];rfl)))
 obtain ⟨l1,l2,xs,ys,e,hx,hy,h0,q⟩:=q1
 subst e
 cases r1 with
 | cons r rr=>
  cases rr with
  | cons r' rr=>
   cases rr
   cases r
   cases r'
   obtain ⟨its,v1,w1⟩:=I1.sqk (kind:=false) hx
   obtain ⟨its2,v2,w2⟩:=I1.sqk (kind:=false) hy
   have lt1:l1<s1.heap.objs.size:=by obtain ⟨o,e,_⟩:=w1;exact Heap.lt_size e
   have lt2:l2<s1.heap.objs.size:=by obtain ⟨o,e,_⟩:=w2;exact Heap.lt_size e
   refine aAW w1 w2 fun h' st kp=>?_
   have I2:bG X pins σ H1 { s1 with heap:=h' }:=I1.kept (t':=s1.toks) kp
   generalize hn:s1.heap.objs.size=n at *
   have lt1':@LT.lt Nat _ l1 n:=lt1
   have lt2':@LT.lt Nat _ l2 n:=lt2
   have ap:ZipApart (n+4) (n+2) (n+3) n (n+1) l1 l2:=by constructor <;> (intro z;have z':@Eq Nat _ _:=z;omega)
   have fps:∀ b∈[n+4,n+2,n+3,n,n+1],pW X pins H1 b:=fun b hb=>by
    have hb':n≤b:=by
     simp only [List.mem_cons,List.not_mem_nil,or_false] at hb
     rcases hb with rfl | rfl | rfl | rfl | rfl <;> first | exact Nat.le_refl _ | exact Nat.le_add_right _ _
    exact I1.fpOk (by rw [hn];exact hb') (I1.hok.fresh (by rw [hn];exact hb'))
   have hz:min xs.length ys.length≤sizeLine:=by
    obtain ⟨_,_,_,hz⟩:=I1.tuple hx
    omega
   refine fG (Q:=fun us s'=>us=[]∧s'={ s1 with heap:=h' }) ?_ ?_
   ·exact wpAny_pure ⟨rfl,rfl⟩
   ·rintro us s' ⟨rfl,rfl⟩
    refine aAy (I1.ok.hd hc) ap I2 st fps hx hy hz h0 fun s' ⟨H2,ps,J,g1,g2,g3,g4,g5,g6⟩=>⟨.ref _,H2,J,rfl,q _ ps H2 g1 g2 g3 g4 g5 g6⟩
end
section
variable {X:Cx}{a b:Expr}{pos:Pos}{ga gb:GE}
def yT (ga gb:GE):GF:=fun δ Q=>ga δ fun d=>gb δ fun d2=>match d,d2 with
 | .tup xs,.tup ys=>0<min xs.length ys.length∧Q (List.zipWith (fun x y=>D.tup [x,y]) xs ys)
 | _,_=>False
theorem aFm {K:PySem.W.Frag}{C:Hp}:∀ {ds:List D}{vs:List V},vs.length=ds.length→(∀ (j:Nat) v d,vs[j]? = some v→ds[j]? = some d→i5 K C v d)→bO K C vs ds
 | [],[],_,_=>.nil
 | d::ds,v::vs,hl,h=>.cons (h 0 v d rfl rfl) (aFm (by simpa using hl) fun j v' d' h1 h2=>h (j+1) v' d' h1 h2)
open Classical in
theorem aEI {p p' pos':Pos} (hc:X.calm=true) (hg:Gl X "zip") (hm:X.mg "zip"=none) (hbt:bootBuiltins "zip"=some (.type "zip")) (hgl:Gl X "list") (hml:X.mg "list"=none) (hbl:bootBuiltins "list"=some (.type "list")) (ha:DE X a ga) (hb:DE X b gb)
  (hs:starEach [a,b] X.env=[(false,eval a X.env),(false,eval b X.env)]:=by rfl) (hs2:starEach [b] X.env=[(false,eval b X.env)]:=by rfl)
  (he:starEach [.Call (.Name "zip" p) [a,b] [] pos] X.env=(false,eval (.Call (.Name "zip" p) [a,b] [] pos) X.env)::starEach [] X.env:=by rfl) :
  DF X (.Call (.Name "list" p') [.Call (.Name "zip" p) [a,b] [] pos] [] pos') (yT ga gb):=by
 obtain ⟨t1,p1,h1⟩:=ha
 obtain ⟨t2,p2,h2⟩:=hb
 refine ⟨_,aEF hc hg hm hbt hgl hml hbl (bX p1 (bX p2 dS hs2) (by rw [hs,hs2])) hs hs2 he,fun C0 H0 δ σ C H Q R rp g k=>h1 C0 H0 δ σ C H _ _ rp g fun d v C1 H1 q e1 n1=>h2 C0 H0 δ σ C1 H1 _ _ (rp.grow e1) q fun d2 v2 C2 H2 q2 e2 n2=>?_⟩
 have n1':=n1.mono e2.cc
 cases d with
 | tup ds=>
  cases d2 with
  | tup es=>
   obtain ⟨p,xs,rfl,hx,hd⟩:=bM.mp n1'
   obtain ⟨p',ys,rfl,hy,he'⟩:=bM.mp n2
   obtain ⟨q0,q2⟩:=q2
   have lx:=hd.length
   have ly:=he'.length
   refine ⟨p,p',xs,ys,rfl,e2.ch.seqT hx,e2.ch.seqT hy,by omega,fun S ps H3 g1 g2 g3 g4 g5 g6=>?_⟩
   have e12:=e1.trans e2
   have fr:∀ b∈ps,C2 b=none:=fun b hb=>e2.ch.free (g2 b hb).1
   have sm:bY C2 (fun b=>if b∈ps then H3 b else C2 b):=fun b u e=>by
    show (if b∈ps then H3 b else C2 b)=some u
    rw [if_neg (fun hb=>by rw [fr b hb] at e;cases e)]
    exact e
   refine k _ S _ (fun b=>if b∈ps then H3 b else C2 b) H3 q2 ⟨e12.hh.trans g3,e12.cc.trans sm,fun b u e=>?_,fun b n1 n2=>?_⟩ ?_ (e12.hh.free g6) g5 ?_
   ·have e':(if b∈ps then H3 b else C2 b)=some u:=e
    split at e'
    ·exact e'
    ·exact g3 b u (e2.ch b u e')
   ·show (if b∈ps then H3 b else C2 b)=none
    rw [if_neg (fun hb=>n2 (e12.hh.free (g2 b hb).1))]
    exact e12.ow b n1 n2
   ·show (if S∈ps then H3 S else C2 S)=none
    rw [if_neg (fun hb=>(g2 S hb).2 rfl)]
    exact e2.ch.free g6
   ·refine aFm (by rw [List.length_map,List.length_zipWith];omega) fun j v d ev ed=>?_
    rw [List.getElem?_map] at ev
    cases ep:ps[j]? with
    | none=>rw [ep] at ev;cases ev
    | some pj=>
     rw [ep] at ev
     cases ev
     obtain ⟨x,y,ex,ey,hp⟩:=g4 j pj ep
     obtain ⟨dx,edx⟩:∃ dx,ds[j]? = some dx:=⟨_,List.getElem?_eq_getElem (by have:=(List.getElem?_eq_some_iff.mp ex).1;omega)⟩
     obtain ⟨dy,edy⟩:∃ dy,es[j]? = some dy:=⟨_,List.getElem?_eq_getElem (by have:=(List.getElem?_eq_some_iff.mp ey).1;omega)⟩
     obtain ⟨x',ex',dnx⟩:=hd.get edx
     obtain ⟨y',ey',dny⟩:=he'.get edy
     rw [ex] at ex'
     cases ex'
     rw [ey] at ey'
     cases ey'
     have:d = .tup [dx,dy]:=by
      rw [List.getElem?_zipWith,edx,edy] at ed
      cases ed
      rfl
     subst this
     refine bM.mpr ⟨pj,[x,y],rfl,fY.of ?_,.cons (dnx.mono sm) (.cons (dny.mono sm) .nil)⟩
     show (if pj∈ps then H3 pj else C2 pj)=_
     rw [if_pos (List.mem_of_getElem? ep)]
     exact hp
  | _=>exact q2.elim
 | _=>exact q2.elim
end
theorem aLG {x:Str}{pos' p:Pos}{elts:List Expr}{k line:Nat}{env:Env}:swapsWithSole [.Name x pos'] (.Tuple elts k p) line env=pure false:=rfl
theorem aH5 {x:Str}{pos':Pos}{e:Expr}{env:Env}:swappedStores [.Name x pos'] e env=pure none:=by cases e <;> rfl
theorem aJx {X:Cx}{x:Str}{pos pos' p:Pos}{elts:List Expr}{k:Nat}{ge:GE}{gg:GG}{ss:List Nat} (he:DE X (.Tuple elts k p) ge) (hg:DG X (.Name x pos') ss gg):DSt X (.Assign [.Name x pos'] (.Tuple elts k p) pos) (bR ge gg):=
 bF he hg fun h1 h2=>bE h1 h2 aLG aH5
abbrev Pl:=List (List Int×List Int)
structure bQ (nn:Nat) (pl:Pl):Prop where
 few:1≤pl.length∧pl.length≤20
 cnt:1≤nn∧nn≤27
 nexts:∀ s∈pl,s.2.length=nn∧∀ x∈s.2,0≤x∧x<pl.length
def lU (pl:Pl):Nat:=(pl.getD 0 ([],[])).2.length
theorem bQ.of_nn {nn:Nat}{pl:Pl} (h:bQ nn pl):lU pl=nn:=by
 unfold lU
 rw [b6 (by have:=h.few.1;omega)]
 exact (h.nexts _ (List.getElem_mem _)).1
def pZ (pl:Pl) (s j:Nat):Nat:=((pl.getD s ([],[])).2.getD j 0).toNat
abbrev m7 (nn:Nat):=List (Fin nn)→List Int
def run {nn:Nat} (pl:Pl):Nat→List (Fin nn)→Nat
 | s,[]=>s
 | s,j::w=>run pl (pZ pl s j.val) w
def bB (nn:Nat) (pl:Pl) (s:Nat):m7 nn:=fun w=>aY pl (run pl s w)
def der {nn:Nat} (b:m7 nn) (j:Fin nn):m7 nn:=fun w=>b (j::w)
theorem xC {nn:Nat}{pl:Pl}{s:Nat} (j:Fin nn):der (bB nn pl s) j=bB nn pl (pZ pl s j.val):=rfl
theorem rD {nn:Nat}{p q:Pl}{s t:Nat} (h:bB nn p s=bB nn q t):aY p s=aY q t:=congrFun h []
theorem zH {nn:Nat}{p q:Pl}{s t:Nat} (h:bB nn p s=bB nn q t) (j:Fin nn):bB nn p (pZ p s j.val)=bB nn q (pZ q t j.val):=by
 rw [← xC,← xC,h]
theorem aCk {nn:Nat}{p q:Pl} (R:Nat→Nat→Prop) (h:∀ s t,R s t→aY p s=aY q t∧∀ j:Fin nn,R (pZ p s j.val) (pZ q t j.val)) {s t:Nat} (r:R s t):bB nn p s=bB nn q t:=by
 funext w
 show aY p (run p s w)=aY q (run q t w)
 induction w generalizing s t with
 | nil=>exact (h s t r).1
 | cons j w ih=>exact ih ((h s t r).2 j)
section
variable {nn:Nat}{pl:Pl}{s:Nat}
theorem mK (hp:bQ nn pl) (hs:s<pl.length) (j:Fin nn):pZ pl s j.val<pl.length:=by
 have hm:pl.getD s ([],[])∈pl:=by rw [b6 hs];exact List.getElem_mem hs
 obtain ⟨h1,h2⟩:=hp.nexts _ hm
 have hi:j.val<(pl.getD s ([],[])).2.length:=by rw [h1];exact j.isLt
 have:=h2 _ (List.getElem_mem hi)
 unfold pZ
 rw [b6 hi]
 omega
theorem aIt (hp:bQ nn pl) (hs:s<pl.length) (j:Fin nn):(pl.getD s ([],[])).2[j.val]? = some (pZ pl s j.val:Int):=by
 have hm:pl.getD s ([],[])∈pl:=by rw [b6 hs];exact List.getElem_mem hs
 obtain ⟨h1,h2⟩:=hp.nexts _ hm
 have hi:j.val<(pl.getD s ([],[])).2.length:=by rw [h1];exact j.isLt
 have:=h2 _ (List.getElem_mem hi)
 unfold pZ
 rw [b6 hi,List.getElem?_eq_getElem hi]
 congr 1
 omega
theorem gW (hp:bQ nn pl) (hs:s<pl.length):(pl.getD s ([],[])).2=(List.finRange nn).map fun j=>(pZ pl s j.val:Int):=by
 have hm:pl.getD s ([],[])∈pl:=by rw [b6 hs];exact List.getElem_mem hs
 obtain ⟨h1,h2⟩:=hp.nexts _ hm
 refine List.ext_getElem? fun i=>?_
 by_cases hi:i<nn
 ·rw [aIt hp hs ⟨i,hi⟩,List.getElem?_map,List.getElem?_eq_getElem (by simpa using hi)]
  simp
 ·rw [List.getElem?_eq_none (by omega),List.getElem?_eq_none (by simp;omega)]
end
theorem j4 {α:Type}:∀ {l m:List α},l.Nodup→(∀ x∈l,x∈m)→l.length≤m.length
 | [],m,_,_=>Nat.zero_le _
 | a::l,m,hn,hm=>by
  obtain ⟨h1,h2⟩:=List.nodup_cons.mp hn
  obtain ⟨u,v,rfl⟩:=List.append_of_mem (hm a List.mem_cons_self)
  have ih:l.length≤(u++v).length:=j4 h2 fun x hx=>by
   have:=hm x (List.mem_cons_of_mem _ hx)
   rcases List.mem_append.mp this with z | z
   ·exact List.mem_append_left _ z
   ·rcases List.mem_cons.mp z with z | z
    ·exact absurd (z ▸ hx) h1
    ·exact List.mem_append_right _ z
  simp only [List.length_append,List.length_cons] at ih ⊢
  omega
open Classical in
noncomputable def pY {nn:Nat} (l:List (m7 nn)) (b:m7 nn):List (m7 nn):=if b∈l then l else l++[b]
open Classical in
noncomputable def aCL {nn:Nat} (b:m7 nn) (o:List (m7 nn)×List Int) (j:Fin nn):List (m7 nn)×List Int:=
 (pY o.1 (der b j),o.2++[((pY o.1 (der b j)).idxOf (der b j):Int)])
noncomputable def sZ {nn:Nat} (b:m7 nn) (l:List (m7 nn)):List (m7 nn)×List Int:=(List.finRange nn).foldl (aCL b) (l,[])
noncomputable def l3 {nn:Nat} (o:List (m7 nn)×Pl):List (m7 nn)×Pl:=match o.1[o.2.length]? with
 | some b=>((sZ b o.1).1,o.2++[(b [],(sZ b o.1).2)])
 | none=>o
noncomputable def qH {nn:Nat} (b:m7 nn):Nat→List (m7 nn)×Pl
 | 0=>([b],[])
 | k+1=>l3 (qH b k)
noncomputable def eW {nn:Nat} (b:m7 nn):Pl:=(qH b 20).2
theorem aCN {nn:Nat}{l:List (m7 nn)}{b c:m7 nn}:c∈pY l b↔c∈l∨c=b:=by
 unfold pY
 split
 ·rename_i h
  constructor
  ·exact .inl
  ·rintro (h' | rfl)
   ·exact h'
   ·exact h
 ·simp
theorem aHy {nn:Nat}{l:List (m7 nn)}{b:m7 nn}:∃ m,pY l b=l++m:=by
 unfold pY
 split
 ·exact ⟨[],by simp⟩
 ·exact ⟨[b],rfl⟩
theorem tF {nn:Nat}{l:List (m7 nn)}{b:m7 nn} (h:l.Nodup):(pY l b).Nodup:=by
 unfold pY
 split
 ·exact h
 ·rename_i hb
  refine List.nodup_append.mpr ⟨h,by simp,fun x hx y hy=>?_⟩
  rw [List.mem_singleton.mp hy]
  intro z
  exact hb (z ▸ hx)
structure aGy {nn:Nat} (G:m7 nn→Prop) (b:m7 nn) (l:List (m7 nn)) (js:List (Fin nn)) (o:List (m7 nn)×List Int):Prop where
 pre:∃ m,o.1=l++m
 nd:o.1.Nodup
 all:∀ c∈o.1,G c
 len:o.2.length=js.length
 at_:∀ (i:Nat) j,js[i]? = some j→∃ k:Nat,o.2[i]? = some (k:Int)∧o.1[k]? = some (der b j)
open Classical in
theorem aGy.put {nn:Nat}{G:m7 nn→Prop}{b:m7 nn}{l:List (m7 nn)}{js:List (Fin nn)}{o:List (m7 nn)×List Int} (h:aGy G b l js o) (j:Fin nn) (hg:G (der b j)):aGy G b l (js++[j]) (aCL b o j):=by
 obtain ⟨m2,e2⟩:=aHy (l:=o.1) (b:=der b j)
 obtain ⟨m,e⟩:=h.pre
 have e1:(aCL b o j).1=o.1++m2:=e2
 have hm:der b j∈pY o.1 (der b j):=aCN.mpr (.inr rfl)
 refine ⟨⟨m++m2,by rw [e1,e,List.append_assoc]⟩,tF h.nd,fun c hc=>?_,?_,fun i j' hj=>?_⟩
 ·rcases aCN.mp hc with z | z
  ·exact h.all c z
  ·rw [z];exact hg
 ·show (o.2++[_]).length=_
  rw [List.length_append,List.length_append,h.len]
  rfl
 ·have hl:=h.len
  by_cases hi:i<js.length
  ·rw [List.getElem?_append_left hi] at hj
   obtain ⟨k,a,c⟩:=h.at_ i j' hj
   refine ⟨k,?_,?_⟩
   ·show (o.2++[_])[i]? = _
    rw [List.getElem?_append_left (by omega)]
    exact a
   ·rw [e1,List.getElem?_append_left (List.getElem?_eq_some_iff.mp c).1]
    exact c
  ·rw [List.getElem?_append_right (by omega)] at hj
   have hi':i=js.length:=by
    have:=(List.getElem?_eq_some_iff.mp hj).1
    rw [List.length_singleton] at this
    omega
   subst hi'
   rw [Nat.sub_self] at hj
   cases hj
   refine ⟨(pY o.1 (der b j)).idxOf (der b j),?_,?_⟩
   ·show (o.2++[_])[js.length]? = _
    rw [List.getElem?_append_right (by omega),hl,Nat.sub_self]
    rfl
   ·show (pY o.1 (der b j))[_]? = _
    rw [List.getElem?_eq_getElem (List.idxOf_lt_length_of_mem hm)]
    congr 1
    exact List.getElem_idxOf _
theorem aJE {nn:Nat}{G:m7 nn→Prop}{b:m7 nn}{l:List (m7 nn)} (hn:l.Nodup) (hl:∀ c∈l,G c) (hg:∀ j,G (der b j)):aGy G b l (List.finRange nn) (sZ b l):=by
 have key:∀ (js is:List (Fin nn)) (o:List (m7 nn)×List Int),aGy G b l is o→aGy G b l (is++js) (js.foldl (aCL b) o):=by
  intro js
  induction js with
  | nil=>intro is o h;rw [List.append_nil];exact h
  | cons j js ih=>
   intro is o h
   have:=ih (is++[j]) (aCL b o j) (h.put j (hg j))
   rw [List.append_assoc] at this
   exact this
 have:=key (List.finRange nn) [] (l,[]) ⟨⟨[],by simp⟩,hn,hl,rfl,fun i j h=>by simp at h⟩
 rw [List.nil_append] at this
 exact this
structure xX {nn:Nat} (G:m7 nn→Prop) (b0:m7 nn) (o:List (m7 nn)×Pl):Prop where
 nd:o.1.Nodup
 all:∀ c∈o.1,G c
 first:o.1[0]? = some b0
 le:o.2.length≤o.1.length
 at_:∀ (k:Nat) r,o.2[k]? = some r→∃ b,o.1[k]? = some b∧r.1=b []∧r.2.length=nn∧∀ j:Fin nn,∃ i:Nat,r.2[j.val]? = some (i:Int)∧o.1[i]? = some (der b j)
theorem xX.step {nn:Nat}{G:m7 nn→Prop}{b0:m7 nn}{o:List (m7 nn)×Pl} (hg:∀ b j,G b→G (der b j)) (h:xX G b0 o):xX G b0 (l3 o):=by
 unfold l3
 split
 ·rename_i b e
  have hb:G b:=h.all b (List.mem_of_getElem? e)
  have R:=aJE (b:=b) h.nd h.all fun j=>hg b j hb
  obtain ⟨m,em⟩:=R.pre
  have up:∀ {i:Nat}{c:m7 nn},o.1[i]? = some c→(sZ b o.1).1[i]? = some c:=fun {i c} z=>by
   rw [em,List.getElem?_append_left (List.getElem?_eq_some_iff.mp z).1]
   exact z
  refine ⟨R.nd,R.all,up h.first,?_,fun k r hk=>?_⟩
  ·show (o.2++[_]).length≤(sZ b o.1).1.length
   have:=(List.getElem?_eq_some_iff.mp e).1
   rw [em,List.length_append,List.length_append,List.length_singleton]
   omega
  ·have hk':(o.2++[(b [],(sZ b o.1).2)])[k]? = some r:=hk
   by_cases hi:k<o.2.length
   ·rw [List.getElem?_append_left hi] at hk'
    obtain ⟨b',a1,a2,a3,a4⟩:=h.at_ k r hk'
    refine ⟨b',up a1,a2,a3,fun j=>?_⟩
    obtain ⟨i,c1,c2⟩:=a4 j
    exact ⟨i,c1,up c2⟩
   ·rw [List.getElem?_append_right (by omega)] at hk'
    have hi':k=o.2.length:=by
     have:=(List.getElem?_eq_some_iff.mp hk').1
     rw [List.length_singleton] at this
     omega
    subst hi'
    rw [Nat.sub_self] at hk'
    cases hk'
    refine ⟨b,up e,rfl,by rw [R.len,List.length_finRange],fun j=>?_⟩
    exact R.at_ j.val j (by rw [List.getElem?_eq_getElem (by simp)];simp)
 ·exact h
section
variable {nn:Nat}{pl:Pl}
theorem vR (hp:bQ nn pl):∀ k,xX (fun b=>∃ s,s<pl.length∧b=bB nn pl s) (bB nn pl 0) (qH (bB nn pl 0) k)
 | 0=>⟨by simp [qH],fun c hc=>by
   have hc':c∈[bB nn pl 0]:=hc
   exact ⟨0,hp.few.1,List.mem_singleton.mp hc'⟩,rfl,Nat.zero_le _,fun k r h=>by simp [qH] at h⟩
 | k+1=>(vR hp k).step fun b j ⟨s,hs,e⟩=>⟨pZ pl s j.val,mK hp hs j,by rw [e,xC]⟩
theorem xD (hp:bQ nn pl) (k:Nat):(qH (bB nn pl 0) k).1.length≤pl.length:=by
 have h:=vR hp k
 have:=j4 (m:=(List.range pl.length).map (bB nn pl)) h.nd fun c hc=>by
  obtain ⟨s,hs,e⟩:=h.all c hc
  exact List.mem_map.mpr ⟨s,List.mem_range.mpr hs,e.symm⟩
 simpa using this
theorem aFn (b:m7 nn):∀ k,k≤(qH b k).2.length∨(qH b k).1.length≤(qH b k).2.length
 | 0=>.inl (Nat.zero_le _)
 | k+1=>by
  show k+1≤(l3 (qH b k)).2.length∨(l3 (qH b k)).1.length≤(l3 (qH b k)).2.length
  cases e:(qH b k).1[(qH b k).2.length]? with
  | none=>
   have es:l3 (qH b k)=qH b k:=by unfold l3;rw [e]
   rw [es]
   exact .inr (by simpa using e)
  | some c=>
   have es:l3 (qH b k)=((sZ c (qH b k).1).1,(qH b k).2++[(c [],(sZ c (qH b k).1).2)]):=by unfold l3;rw [e]
   rw [es]
   rcases aFn b k with z | z
   ·left
    show k+1≤((qH b k).2++[_]).length
    rw [List.length_append,List.length_singleton]
    omega
   ·have:=(List.getElem?_eq_some_iff.mp e).1
    omega
theorem aJg (hp:bQ nn pl):(qH (bB nn pl 0) 20).2.length=(qH (bB nn pl 0) 20).1.length:=by
 have h1:=(vR hp 20).le
 have h2:=xD hp 20
 have h3:=hp.few.2
 rcases aFn (bB nn pl 0) 20 with z | z <;> omega
theorem aDi (b:m7 nn) {k:Nat} (h:(qH b k).1.length≤(qH b k).2.length):∀ m,k≤m→qH b m=qH b k:=by
 intro m hm
 induction m with
 | zero=>rw [Nat.le_zero.mp hm]
 | succ m ih=>
  by_cases e:k=m+1
  ·rw [e]
  ·show l3 (qH b m)=_
   rw [ih (by omega)]
   unfold l3
   rw [List.getElem?_eq_none h]
theorem xM (hp:bQ nn pl):bQ nn (eW (bB nn pl 0))∧(eW (bB nn pl 0)).length≤pl.length∧bB nn (eW (bB nn pl 0)) 0=bB nn pl 0∧∀ s∈eW (bB nn pl 0),∃ t,t<pl.length∧s.1=aY pl t:=by
 have h:=vR hp 20
 have hl:=aJg hp
 have hf:=xD hp 20
 unfold eW
 have h0:=(List.getElem?_eq_some_iff.mp h.first).1
 refine ⟨⟨⟨by omega,by have:=hp.few.2;omega⟩,hp.cnt,fun s hs=>?_⟩,by omega,?_,fun s hs=>?_⟩
 ·obtain ⟨k,hk,e⟩:=List.mem_iff_getElem.mp hs
  obtain ⟨b,a1,a2,a3,a4⟩:=h.at_ k s (by rw [List.getElem?_eq_getElem hk,e])
  refine ⟨a3,fun x hx=>?_⟩
  obtain ⟨j,hj,ej⟩:=List.mem_iff_getElem.mp hx
  obtain ⟨i,c1,c2⟩:=a4 ⟨j,by omega⟩
  rw [List.getElem?_eq_getElem hj,ej] at c1
  cases c1
  have:=(List.getElem?_eq_some_iff.mp c2).1
  constructor
  ·exact Int.natCast_nonneg _
  ·rw [hl];exact_mod_cast this
 ·refine aCk (fun i t=>(qH (bB nn pl 0) 20).1[i]? = some (bB nn pl t)) (fun i t e=>?_) h.first
  have hi:=(List.getElem?_eq_some_iff.mp e).1
  have hi2:i<(qH (bB nn pl 0) 20).2.length:=by omega
  obtain ⟨b,a1,a2,a3,a4⟩:=h.at_ i _ (List.getElem?_eq_getElem hi2)
  rw [a1] at e
  cases e
  refine ⟨?_,fun j=>?_⟩
  ·unfold aY
   rw [b6 hi2,a2]
   rfl
  ·obtain ⟨k,c1,c2⟩:=a4 j
   have:pZ (qH (bB nn pl 0) 20).2 i j.val=k:=by
    unfold pZ
    rw [b6 hi2,List.getD_eq_getElem?_getD,c1]
    rfl
   rw [this,c2,xC]
 ·obtain ⟨k,hk,e⟩:=List.mem_iff_getElem.mp hs
  obtain ⟨b,a1,a2,a3,a4⟩:=h.at_ k s (by rw [List.getElem?_eq_getElem hk,e])
  obtain ⟨t,ht,eb⟩:=h.all b (List.mem_of_getElem? a1)
  exact ⟨t,ht,by rw [a2,eb];rfl⟩
theorem aCF {q:Pl} (hp:bQ nn pl) (hq:bQ nn q):eW (bB nn pl 0)=eW (bB nn q 0)↔bB nn pl 0=bB nn q 0:=by
 constructor
 ·intro h
  rw [← (xM hp).2.2.1,← (xM hq).2.2.1,h]
 ·intro h
  rw [h]
end
section
variable {ns:List Int}{pay:List (List Int)}{p q:Pl}{d:Rat}{h:Nat}
theorem zJ {s t:Nat} (e:bB (aL ns).length p s=bB (aL ns).length q t) {r:List Int} (hr:r∈aL ns):bB (aL ns).length p (jG ns p s r)=bB (aL ns).length q (jG ns q t r):=
 zH e ⟨(aL ns).idxOf r,List.idxOf_lt_length_of_mem hr⟩
theorem aLI (hp:iB ns p) {s t:Nat} (hs:s<p.length) (e:bB (aL ns).length p s=bB (aL ns).length q t):bB (aL ns).length p (dX ns p s)=bB (aL ns).length q (dX ns q t):=by
 unfold dX
 rw [← rD e]
 exact zJ e (uE hp hs)
theorem yK {a b m:Nat} (hb:b<m):(a * m+b) / m=a∧(a * m+b) % m=b:=by
 have hm:0<m:=by omega
 constructor
 ·rw [Nat.mul_comm,Nat.mul_add_div hm,Nat.div_eq_of_lt hb,Nat.add_zero]
 ·rw [Nat.mul_comm,Nat.mul_add_mod,Nat.mod_eq_of_lt hb]
theorem aCb {a b n m:Nat} (ha:a<n) (hb:b<m):a * m+b<n * m:=by
 have:(a+1) * m≤n * m:=Nat.mul_le_mul_right m ha
 rw [Nat.add_mul,Nat.one_mul] at this
 omega
open Classical in
theorem aGH (hp:iB ns p) (hq:iB ns q) (hd:kL d) {s t:Nat} (hs:s<p.length) (ht:t<q.length) (e:bB (aL ns).length p s=bB (aL ns).length q t):dL ns pay p d h s=dL ns pay q d h t:=by
 have hm:0<q.length:=by omega
 let B:Nat→Prop:=fun x=>bB (aL ns).length p (x / q.length)=bB (aL ns).length q (x % q.length)
 let f:Nat→Nat:=fun x=>if B x then dX ns p (x / q.length) * q.length+dX ns q (x % q.length) else x
 let W:Nat→Rat:=fun x=>if B x then dL ns pay p d h (x / q.length)-dL ns pay q d h (x % q.length) else 0
 have lt1:∀ x,x<p.length * q.length→x / q.length<p.length:=fun x hx=>Nat.div_lt_of_lt_mul (by rw [Nat.mul_comm];exact hx)
 have lt2:∀ x,x % q.length<q.length:=fun x=>Nat.mod_lt _ hm
 have hf:∀ x,x<p.length * q.length→f x<p.length * q.length:=fun x hx=>by
  show (if B x then _ else x)<_
  split
  ·exact aCb (vO hp _ (lt1 x hx)) (vO hq _ (lt2 x))
  ·exact hx
 have hW:Sol (p.length * q.length) d (fun _=>0) f W:=fun x hx=>by
  show W x=(1-d) * 0+d * W (f x)
  by_cases hb:B x
  ·have e1:W x=dL ns pay p d h (x / q.length)-dL ns pay q d h (x % q.length):=if_pos hb
   have e2:f x=dX ns p (x / q.length) * q.length+dX ns q (x % q.length):=if_pos hb
   have c:=yK (a:=dX ns p (x / q.length)) (vO hq _ (lt2 x))
   have hb2:B (f x):=by
    show bB _ p (f x / q.length)=bB _ q (f x % q.length)
    rw [e2,c.1,c.2]
    exact aLI hp (lt1 x hx) hb
   have e3:W (f x)=dL ns pay p d h (dX ns p (x / q.length))-dL ns pay q d h (dX ns q (x % q.length)):=by
    have:W (f x)=dL ns pay p d h (f x / q.length)-dL ns pay q d h (f x % q.length):=if_pos hb2
    rw [this,e2,c.1,c.2]
   have w1:=xP (h:=h) (pay:=pay) hp hd (lt1 x hx)
   have w2:=xP (h:=h) (pay:=pay) hq hd (lt2 x)
   have er:=rD hb
   rw [e1,e3,w1,w2,er]
   grind
  ·have e1:W x=0:=if_neg hb
   have e2:f x=x:=if_neg hb
   rw [e2,e1]
   grind
 have hZ:Sol (p.length * q.length) d (fun _=>0) f (fun _=>0):=fun x hx=>by grind
 have hx:=aCb hs ht
 have c:=yK (a:=s) ht
 have u:=hW.uniq hd.pos hd.lt hf hZ hx
 have hb:B (s * q.length+t):=by
  show bB _ p ((s * q.length+t) / q.length)=bB _ q ((s * q.length+t) % q.length)
  rw [c.1,c.2]
  exact e
 have e1:W (s * q.length+t)=dL ns pay p d h ((s * q.length+t) / q.length)-dL ns pay q d h ((s * q.length+t) % q.length):=if_pos hb
 rw [e1,c.1,c.2] at u
 grind
theorem aGZ:∀ {st:List (Int×Int×Int)}{t:Nat}{r:List Int},(∀ x∈st,0≤x.1∧0≤x.2.1∧x.2.1<ns.length∧0≤x.2.2∧x.2.2<ns.getD x.2.1.toNat 0)→r∈aL ns→fB st t r∈aL ns
 | [],t,r,_,hr=>hr
 | x::st,t,r,h,hr=>by
  have hx:=h x List.mem_cons_self
  show fB st t (if x.1=(t:Int) then r.set x.2.1.toNat x.2.2 else r)∈aL ns
  refine aGZ (fun y hy=>h y (List.mem_cons_of_mem _ hy)) ?_
  split
  ·exact aFt hr hx.2.2.2.1 hx.2.2.2.2
  ·exact hr
theorem aDj {st:List (Int×Int×Int)} (hp:iB ns p) (hs:lP ns st) (e:bB (aL ns).length p 0=bB (aL ns).length q 0):∀ t,f7 ns p st t<p.length∧bB (aL ns).length p (f7 ns p st t)=bB (aL ns).length q (f7 ns q st t)
 | 0=>⟨hp.few.1,e⟩
 | t+1=>by
  obtain ⟨h1,h2⟩:=aDj hp hs e t
  have hr:fB st t (aY p (f7 ns p st t))∈aL ns:=aGZ hs.ok (uE hp h1)
  refine ⟨aDd hp h1 hr,?_⟩
  show bB _ p (jG ns p (f7 ns p st t) (fB st t (aY p (f7 ns p st t))))=bB _ q (jG ns q (f7 ns q st t) (fB st t (aY q (f7 ns q st t))))
  rw [← rD h2]
  exact zJ h2 hr
theorem aGa {st:List (Int×Int×Int)}{many:Nat} (hp:iB ns p) (hs:lP ns st) (e:bB (aL ns).length p 0=bB (aL ns).length q 0):oN ns p st many=oN ns q st many:=by
 unfold oN
 refine List.map_congr_left fun t _=>?_
 unfold aGk
 rw [rD (aDj hp hs e t).2]
end
def pB (n s:Nat):List Nat:=s::(List.range n).filter fun k=>k != s
def pQ (pl:Pl) (s:Nat):Pl:=(pB pl.length s).map fun k=>(aY pl k,(pl.getD k ([],[])).2.map fun x=>(((pB pl.length s).idxOf x.toNat:Nat):Int))
def qK (pl:Pl):Pl:=(pl.map fun st=>(st.1,st.2.zipIdx.map fun x=>x.1+(pl.length:Int) * ((x.2:Int) % 2)))++pl.map fun st=>(st.1,st.2.map fun x=>x+(pl.length:Int) * (x % 2))
theorem lB {n s k:Nat} (hs:s<n):k∈pB n s↔k<n:=by
 unfold pB
 rw [List.mem_cons,List.mem_filter,List.mem_range]
 constructor
 ·rintro (h | h)
  ·omega
  ·exact h.1
 ·intro h
  by_cases e:k=s
  ·exact .inl e
  ·exact .inr ⟨h,by simpa using e⟩
theorem aEd {n s:Nat}:(pB n s).Nodup:=by
 unfold pB
 refine List.nodup_cons.mpr ⟨fun h=>?_,List.nodup_range.filter _⟩
 have:=(List.mem_filter.mp h).2
 simp at this
theorem wL {n s:Nat} (hs:s<n):(pB n s).length=n:=by
 have h1:=j4 (aEd (n:=n) (s:=s)) (m:=List.range n) fun x hx=>List.mem_range.mpr ((lB hs).mp hx)
 have h2:=j4 (List.nodup_range (n:=n)) (m:=pB n s) fun x hx=>(lB hs).mpr (List.mem_range.mp hx)
 rw [List.length_range] at h1 h2
 omega
section
variable {nn:Nat}{pl:Pl}{s:Nat}
theorem aFw (hp:bQ nn pl) (hs:s<pl.length):bQ nn (pQ pl s)∧bB nn (pQ pl s) 0=bB nn pl s:=by
 have hl:=wL hs
 have hfl:(pQ pl s).length=pl.length:=by unfold pQ;rw [List.length_map,hl]
 refine ⟨⟨by rw [hfl];exact hp.few,hp.cnt,fun st hst=>?_⟩,?_⟩
 ·obtain ⟨k,hk,e⟩:=List.mem_map.mp hst
  have hk':=(lB hs).mp hk
  subst e
  have hm:pl.getD k ([],[])∈pl:=by rw [b6 hk'];exact List.getElem_mem hk'
  obtain ⟨n1,n2⟩:=hp.nexts _ hm
  refine ⟨by rw [List.length_map];exact n1,fun x hx=>?_⟩
  obtain ⟨y,hy,ey⟩:=List.mem_map.mp hx
  have b:=n2 y hy
  have hi:(pB pl.length s).idxOf y.toNat<(pB pl.length s).length:=List.idxOf_lt_length_of_mem ((lB hs).mpr (by omega))
  rw [hfl]
  omega
 ·refine aCk (fun i k=>(pB pl.length s)[i]? = some k) (fun i k e=>?_) (by rfl)
  have hi:=(List.getElem?_eq_some_iff.mp e).1
  have hk:k<pl.length:=(lB hs).mp (List.mem_of_getElem? e)
  have eg:(pQ pl s).getD i ([],[])=(aY pl k,(pl.getD k ([],[])).2.map fun x=>(((pB pl.length s).idxOf x.toNat:Nat):Int)):=by
   unfold pQ
   rw [List.getD_eq_getElem?_getD,List.getElem?_map,e]
   rfl
  refine ⟨?_,fun j=>?_⟩
  ·show ((pQ pl s).getD i ([],[])).1=_
   rw [eg]
  ·have en:pZ (pQ pl s) i j.val=(pB pl.length s).idxOf (pZ pl k j.val):=by
    show (((pQ pl s).getD i ([],[])).2.getD j.val 0).toNat=_
    rw [eg,List.getD_eq_getElem?_getD,List.getElem?_map,aIt hp hk j]
    rfl
   have hm:pZ pl k j.val∈pB pl.length s:=(lB hs).mpr (mK hp hk j)
   rw [en,List.getElem?_eq_getElem (List.idxOf_lt_length_of_mem hm)]
   congr 1
   exact List.getElem_idxOf _
theorem aIC (hp:bQ nn pl) (hf:pl.length≤10):bQ nn (qK pl):=by
 have hl:(qK pl).length=2 * pl.length:=by unfold qK;rw [List.length_append,List.length_map,List.length_map];omega
 refine ⟨by have:=hp.few.1;omega,hp.cnt,fun st hst=>?_⟩
 rw [hl]
 unfold qK at hst
 rcases List.mem_append.mp hst with h | h
 ·obtain ⟨t,ht,e⟩:=List.mem_map.mp h
  subst e
  obtain ⟨n1,n2⟩:=hp.nexts t ht
  refine ⟨by rw [List.length_map,List.length_zipIdx];exact n1,fun x hx=>?_⟩
  obtain ⟨y,hy,ey⟩:=List.mem_map.mp hx
  have hm:y.1∈t.2:=(List.mem_zipIdx' (x:=y.1) (i:=y.2) hy).2 ▸ List.getElem_mem _
  have b:=n2 _ hm
  have:(y.2:Int) % 2=0∨(y.2:Int) % 2=1:=by omega
  rcases this with z | z <;> (rw [z] at ey;omega)
 ·obtain ⟨t,ht,e⟩:=List.mem_map.mp h
  subst e
  obtain ⟨n1,n2⟩:=hp.nexts t ht
  refine ⟨by rw [List.length_map];exact n1,fun x hx=>?_⟩
  obtain ⟨y,hy,ey⟩:=List.mem_map.mp hx
  have b:=n2 _ hy
  have:y % 2=0∨y % 2=1:=by omega
  rcases this with z | z <;> (rw [z] at ey;omega)
end
open Classical in
noncomputable def kD:List D→Option D
 | [p,q]=>match kF p,kF q with
  | some a,some b=>if bQ (lU a) a∧bQ (lU a) b then some (.bl (decide (bB (lU a) a 0=bB (lU a) b 0))) else none
  | _,_=>none
 | _=>none
open Classical in
noncomputable def cZ:List D→Option D
 | [p,q]=>match kF p,kF q with
  | some a,some b=>if bQ (lU a) a∧bQ (lU a) b then some (.bl (decide (bB (lU a) a 0=bB (lU a) b 0))) else none
  | _,_=>none
 | _=>none
open Classical in
noncomputable def jU:List D→Option D
 | [p]=>match kF p with
  | some a=>if bQ (lU a) a then some (bA (eW (bB (lU a) a 0))) else none
  | none=>none
 | _=>none
open Classical in
noncomputable def eQ:List D→Option D
 | [p]=>match kF p with
  | some a=>if bQ (lU a) a then some (bA (eW (bB (lU a) a 0))) else none
  | none=>none
 | _=>none
open Classical in
noncomputable def eX:List D→Option D
 | [p,.int s]=>match kF p with
  | some a=>if bQ (lU a) a∧0≤s∧s<a.length then some (bA (pQ a s.toNat)) else none
  | none=>none
 | _=>none
open Classical in
noncomputable def cR:List D→Option D
 | [p]=>match kF p with
  | some a=>if bQ (lU a) a∧a.length≤10 then some (bA (qK a)) else none
  | none=>none
 | _=>none
theorem iB.f {ns:List Int}{pl:Pl} (h:iB ns pl) (h1:1≤(aL ns).length) (h2:(aL ns).length≤27):bQ (aL ns).length pl:=⟨h.few,⟨h1,h2⟩,h.nexts⟩
section
variable {α β:Type} [DecidableEq α] [DecidableEq β]
def uD (l:List α) (a:α):List α:=if a∈l then l else l++[a]
def eF (l:List α):List α:=l.foldl uD []
def iL (l:List α):List Int:=l.map fun a=>((eF l).idxOf a:Int)
theorem yG {l:List α}{a b:α}:b∈uD l a↔b∈l∨b=a:=by
 unfold uD
 split
 ·rename_i h
  exact ⟨.inl,fun z=>z.elim id fun z=>z ▸ h⟩
 ·simp
theorem aDZ {l:List α}{a:α} (h:l.Nodup):(uD l a).Nodup:=by
 unfold uD
 split
 ·exact h
 ·rename_i hb
  refine List.nodup_append.mpr ⟨h,by simp,fun x hx y hy=>?_⟩
  rw [List.mem_singleton.mp hy]
  exact fun z=>hb (z ▸ hx)
theorem aA5 {b:α}:∀ (l m:List α),b∈l.foldl uD m↔b∈m∨b∈l
 | [],m=>by simp
 | a::l,m=>by
  rw [List.foldl_cons,aA5 l,yG,List.mem_cons,or_assoc]
theorem wB:∀ (l m:List α),m.Nodup→(l.foldl uD m).Nodup
 | [],m,h=>h
 | a::l,m,h=>wB l _ (aDZ h)
theorem jK {l:List α}{b:α}:b∈eF l↔b∈l:=by
 unfold eF
 rw [aA5]
 simp
theorem t6 (l:List α):(eF l).Nodup:=wB l [] List.nodup_nil
theorem aDG (l:List α) (a:α):eF (l++[a])=uD (eF l) a:=by
 unfold eF
 rw [List.foldl_append]
 rfl
theorem aG6 {l:List α}{a b:α} (ha:a∈l) (hb:b∈l):l.idxOf a=l.idxOf b↔a=b:=by
 constructor
 ·intro h
  have h1:=List.getElem_idxOf (List.idxOf_lt_length_of_mem ha)
  have h2:=List.getElem_idxOf (List.idxOf_lt_length_of_mem hb)
  rw [← h1,← h2]
  simp [h]
 ·rintro rfl;rfl
theorem aBn {f:α→β}:∀ (l m:List α),(∀ x∈m++l,∀ y∈m++l,f x=f y→x=y)→(l.map f).foldl uD (m.map f)=(l.foldl uD m).map f
 | [],m,_=>rfl
 | a::l,m,h=>by
  rw [List.map_cons,List.foldl_cons,List.foldl_cons]
  have e:uD (m.map f) (f a)=(uD m a).map f:=by
   unfold uD
   by_cases ha:a∈m
   ·rw [if_pos ha,if_pos (List.mem_map_of_mem ha)]
   ·rw [if_neg ha,if_neg (fun z=>?_),List.map_append]
    ·rfl
    ·obtain ⟨x,hx,e⟩:=List.mem_map.mp z
     have:=h x (List.mem_append_left _ hx) a (List.mem_append_right _ List.mem_cons_self) e
     exact ha (this ▸ hx)
  rw [e]
  refine aBn l _ fun x hx y hy=>h x ?_ y ?_
  ·rcases List.mem_append.mp hx with z | z
   ·rcases yG.mp z with z | z
    ·exact List.mem_append_left _ z
    ·rw [z];exact List.mem_append_right _ List.mem_cons_self
   ·exact List.mem_append_right _ (List.mem_cons_of_mem _ z)
  ·rcases List.mem_append.mp hy with z | z
   ·rcases yG.mp z with z | z
    ·exact List.mem_append_left _ z
    ·rw [z];exact List.mem_append_right _ List.mem_cons_self
   ·exact List.mem_append_right _ (List.mem_cons_of_mem _ z)
theorem aBj {f:α→β}{a:α}:∀ (l:List α),(∀ x∈l,f x=f a→x=a)→(l.map f).idxOf (f a)=l.idxOf a
 | [],_=>rfl
 | x::l,h=>by
  rw [List.map_cons,List.idxOf_cons,List.idxOf_cons]
  by_cases e:x=a
  ·simp [e]
  ·have e':¬ f x=f a:=fun z=>e (h x List.mem_cons_self z)
   have b1:(f x == f a)=false:=by simpa using e'
   have b2:(x == a)=false:=by simpa using e
   rw [b1,b2,aBj l fun y hy=>h y (List.mem_cons_of_mem _ hy)]
theorem aDh {f:α→β}{l:List α} (h:∀ x∈l,∀ y∈l,f x=f y→x=y):iL (l.map f)=iL l:=by
 unfold iL
 have e:eF (l.map f)=(eF l).map f:=aBn l [] (by simpa using h)
 rw [e,List.map_map]
 refine List.map_congr_left fun a ha=>?_
 show (((eF l).map f).idxOf (f a):Int)=_
 rw [aBj _ fun x hx=>h x (jK.mp hx) a ha]
end
section
variable {α β:Type} [DecidableEq α] [DecidableEq β] {n:Nat}{g:Nat→α}{h:Nat→β}
theorem sL (hk:∀ s t,s<n→t<n→(g s=g t↔h s=h t)):iL ((List.range n).map g)=iL ((List.range n).map h):=by
 have e1:(List.range n).map g=((List.range n).map fun s=>(g s,h s)).map Prod.fst:=by rw [List.map_map];rfl
 have e2:(List.range n).map h=((List.range n).map fun s=>(g s,h s)).map Prod.snd:=by rw [List.map_map];rfl
 rw [e1,e2,aDh (f:=Prod.fst) (l:=(List.range n).map fun s=>(g s,h s)),aDh (f:=Prod.snd) (l:=(List.range n).map fun s=>(g s,h s))]
 ·intro x hx y hy e
  obtain ⟨s,hs,rfl⟩:=List.mem_map.mp hx
  obtain ⟨t,ht,rfl⟩:=List.mem_map.mp hy
  have e':h s=h t:=e
  exact Prod.ext ((hk s t (List.mem_range.mp hs) (List.mem_range.mp ht)).mpr e') e'
 ·intro x hx y hy e
  obtain ⟨s,hs,rfl⟩:=List.mem_map.mp hx
  obtain ⟨t,ht,rfl⟩:=List.mem_map.mp hy
  have e':g s=g t:=e
  exact Prod.ext e' ((hk s t (List.mem_range.mp hs) (List.mem_range.mp ht)).mp e')
theorem nI (l:List α):(iL l).length=l.length:=by unfold iL;rw [List.length_map]
theorem aB8 {s:Nat} (hs:s<n):(iL ((List.range n).map g)).getD s 0=((eF ((List.range n).map g)).idxOf (g s):Int):=by
 unfold iL
 rw [b6 (by simpa using hs)]
 simp
theorem qP {s t:Nat} (hs:s<n) (ht:t<n):(iL ((List.range n).map g)).getD s 0=(iL ((List.range n).map g)).getD t 0↔g s=g t:=by
 rw [aB8 hs,aB8 ht]
 have m:∀ {s},s<n→g s∈eF ((List.range n).map g):=fun {s} hs=>jK.mpr (List.mem_map.mpr ⟨s,List.mem_range.mpr hs,rfl⟩)
 rw [← aG6 (m hs) (m ht)]
 omega
theorem aFz {s:Nat} (hs:s<n):0≤(iL ((List.range n).map g)).getD s 0∧(iL ((List.range n).map g)).getD s 0<n:=by
 rw [aB8 hs]
 have h1:=List.idxOf_lt_length_of_mem (jK.mpr (List.mem_map.mpr ⟨s,List.mem_range.mpr hs,rfl⟩):g s∈eF ((List.range n).map g))
 have h2:=j4 (t6 ((List.range n).map g)) (m:=(List.range n).map g) fun x hx=>jK.mp hx
 rw [List.length_map,List.length_range] at h2
 omega
theorem aEC:iL ((List.range n).map fun s=>(iL ((List.range n).map g)).getD s 0)=iL ((List.range n).map g):=sL fun s t hs ht=>qP hs ht
end
theorem sV (l:List Int):(List.range l.length).map (fun s=>l.getD s 0)=l:=by
 refine List.ext_getElem? fun i=>?_
 rw [List.getElem?_map]
 by_cases hi:i<l.length
 ·rw [List.getElem?_eq_getElem (by simpa using hi),List.getElem_range,Option.map_some,b6 hi,List.getElem?_eq_getElem hi]
 ·rw [List.getElem?_eq_none (by simpa using hi),List.getElem?_eq_none (by omega)]
  rfl
theorem aBs {γ:Type}{p q:γ→Bool}:∀ {l:List γ},(∀ x∈l,p x=true→q x=true)→(∃ x∈l,q x=true∧p x=false)→l.countP p<l.countP q
 | [],_,⟨x,hx,_⟩=>by simp at hx
 | a::l,h,⟨x,hx,h1,h2⟩=>by
  have le:l.countP p≤l.countP q:=List.countP_mono_left fun x hx=>h x (List.mem_cons_of_mem _ hx)
  rw [List.countP_cons,List.countP_cons]
  rcases List.mem_cons.mp hx with rfl | hx
  ·rw [h1,h2];simp;omega
  ·have ih:=aBs (fun x hx=>h x (List.mem_cons_of_mem _ hx)) ⟨x,hx,h1,h2⟩
   have:=h a List.mem_cons_self
   cases hp:p a <;> cases hq:q a <;> simp_all <;> omega
section
variable {nn:Nat}{pl:Pl}
def pk (pl:Pl) (ss:List Int) (s:Nat):Int×List Int:=(ss.getD s 0,(pl.getD s ([],[])).2.map fun b=>ss.getD b.toNat 0)
def nZ (pl:Pl) (ss:List Int):List Int:=iL ((List.range pl.length).map (pk pl ss))
def aBH (pl:Pl):List Int:=iL ((List.range pl.length).map (aY pl))
open Classical in
noncomputable def f8 (nn:Nat) (pl:Pl):List Int:=iL ((List.range pl.length).map (bB nn pl))
structure aCC (nn:Nat) (pl:Pl) (ss:List Int):Prop where
 len:ss.length=pl.length
 can:iL ss=ss
 bd:∀ s,s<pl.length→0≤ss.getD s 0∧ss.getD s 0<pl.length
 up:∀ s t,s<pl.length→t<pl.length→bB nn pl s=bB nn pl t→ss.getD s 0=ss.getD t 0
 dn:∀ s t,s<pl.length→t<pl.length→ss.getD s 0=ss.getD t 0→aY pl s=aY pl t
theorem aHw {α:Type} [DecidableEq α] {n:Nat}{g:Nat→α}:iL (iL ((List.range n).map g))=iL ((List.range n).map g):=by
 have e:=sV (iL ((List.range n).map g))
 rw [nI,List.length_map,List.length_range] at e
 have:=aEC (n:=n) (g:=g)
 rw [e] at this
 exact this
theorem aFT:aCC nn pl (aBH pl):=
 ⟨by unfold aBH;rw [nI,List.length_map,List.length_range],aHw,fun s hs=>aFz hs,fun s t hs ht e=>(qP hs ht).mpr (rD e),fun s t hs ht e=>(qP hs ht).mp e⟩
theorem aDE (hp:bQ nn pl) {ss:List Int}{s t:Nat} (hs:s<pl.length) (ht:t<pl.length):pk pl ss s=pk pl ss t↔ss.getD s 0=ss.getD t 0∧∀ j:Fin nn,ss.getD (pZ pl s j.val) 0=ss.getD (pZ pl t j.val) 0:=by
 unfold pk
 rw [gW hp hs,gW hp ht,Prod.ext_iff,List.map_map,List.map_map]
 constructor
 ·rintro ⟨h1,h2⟩
  refine ⟨h1,fun j=>?_⟩
  have:=(List.map_inj_left.mp h2) j (List.mem_finRange j)
  simpa using this
 ·rintro ⟨h1,h2⟩
  exact ⟨h1,List.map_congr_left fun j _=>by simpa using h2 j⟩
theorem qR {ss:List Int}{s t:Nat} (hs:s<pl.length) (ht:t<pl.length):(nZ pl ss).getD s 0=(nZ pl ss).getD t 0↔pk pl ss s=pk pl ss t:=qP hs ht
theorem aCC.part (hp:bQ nn pl) {ss:List Int} (h:aCC nn pl ss):aCC nn pl (nZ pl ss):=by
 refine ⟨by unfold nZ;rw [nI,List.length_map,List.length_range],aHw,fun s hs=>aFz hs,fun s t hs ht e=>?_,fun s t hs ht e=>?_⟩
 ·exact (qR hs ht).mpr ((aDE hp hs ht).mpr ⟨h.up s t hs ht e,fun j=>h.up _ _ (mK hp hs j) (mK hp ht j) (zH e j)⟩)
 ·exact h.dn s t hs ht ((aDE hp hs ht).mp ((qR hs ht).mp e)).1
def aHK (n:Nat) (ss:List Int):Nat:=(List.range (n * n)).countP fun x=>decide (ss.getD (x / n) 0=ss.getD (x % n) 0)
theorem aGw (hp:bQ nn pl) {ss:List Int} (h:aCC nn pl ss) (hn:nZ pl ss≠ss):aHK pl.length (nZ pl ss)<aHK pl.length ss:=by
 have n0:0<pl.length:=hp.few.1
 have dm:∀ x,x<pl.length * pl.length→x / pl.length<pl.length∧x % pl.length<pl.length:=fun x hx=>⟨Nat.div_lt_of_lt_mul hx,Nat.mod_lt _ n0⟩
 refine aBs (fun x hx e=>?_) ?_
 ·obtain ⟨h1,h2⟩:=dm x (List.mem_range.mp hx)
  have:=((aDE hp h1 h2).mp ((qR h1 h2).mp (of_decide_eq_true e))).1
  exact decide_eq_true this
 ·refine Classical.byContradiction fun no=>hn ?_
  have key:∀ s t,s<pl.length→t<pl.length→(pk pl ss s=pk pl ss t↔ss.getD s 0=ss.getD t 0):=fun s t hs ht=>by
   refine ⟨fun e=>((aDE hp hs ht).mp e).1,fun e=>Classical.byContradiction fun ne=>no ?_⟩
   have hx:s * pl.length+t<pl.length * pl.length:=by
    have:(s+1) * pl.length≤pl.length * pl.length:=Nat.mul_le_mul_right _ hs
    rw [Nat.add_mul,Nat.one_mul] at this
    omega
   have d1:(s * pl.length+t) / pl.length=s:=by rw [Nat.mul_comm,Nat.mul_add_div n0,Nat.div_eq_of_lt ht,Nat.add_zero]
   have d2:(s * pl.length+t) % pl.length=t:=by rw [Nat.mul_comm,Nat.mul_add_mod,Nat.mod_eq_of_lt ht]
   refine ⟨s * pl.length+t,List.mem_range.mpr hx,?_,?_⟩
   ·rw [d1,d2];exact decide_eq_true e
   ·rw [d1,d2];exact decide_eq_false fun z=>ne ((qR hs ht).mp z)
  have e1:nZ pl ss=iL ((List.range pl.length).map fun s=>ss.getD s 0):=sL key
  have e2:=sV ss
  rw [h.len] at e2
  rw [e1,e2]
  exact h.can
theorem aGx (hp:bQ nn pl) {ss:List Int} (h:aCC nn pl ss) (he:nZ pl ss=ss):ss=f8 nn pl:=by
 classical
 have st:∀ s t,s<pl.length→t<pl.length→ss.getD s 0=ss.getD t 0→bB nn pl s=bB nn pl t:=fun s t hs ht e=>by
  refine aCk (fun s t=>s<pl.length∧t<pl.length∧ss.getD s 0=ss.getD t 0) (fun s t r=>?_) ⟨hs,ht,e⟩
  obtain ⟨hs,ht,e⟩:=r
  refine ⟨h.dn s t hs ht e,fun j=>⟨mK hp hs j,mK hp ht j,?_⟩⟩
  have e':(nZ pl ss).getD s 0=(nZ pl ss).getD t 0:=by rw [he];exact e
  exact ((aDE hp hs ht).mp ((qR hs ht).mp e')).2 j
 have e2:=sV ss
 rw [h.len] at e2
 have e3:iL ((List.range pl.length).map fun s=>ss.getD s 0)=ss:=by rw [e2];exact h.can
 rw [← e3]
 unfold f8
 exact sL fun s t hs ht=>⟨st s t hs ht,h.up s t hs ht⟩
theorem x9:(f8 nn pl).length=pl.length:=by classical unfold f8;rw [nI,List.length_map,List.length_range]
theorem sU {s t:Nat} (hs:s<pl.length) (ht:t<pl.length):(f8 nn pl).getD s 0=(f8 nn pl).getD t 0↔bB nn pl s=bB nn pl t:=by
 classical
 unfold f8
 exact qP hs ht
end
def aNg (K:PySem.W.Frag) (F:List D→DM→Option D):Sp:=fun vs H Q _=>∃ C ds m us l o d,vs=us++[V.ref l]∧bY C H∧bO K C us ds∧C l=some (.frz o (tJ K m))∧F ds m=some d∧∀ v C' H',eM C H C' H'→i5 K C' v d→Q v H'
def aI0 (P:Program) (w:World) (K:PySem.W.Frag) (mg:Str→Option Value) (base:Heap) (k:Nat) (x:Str) (F:List D→DM→Option D):Prop:=
 ∃ f fd ps,uT P w K mg base kK k f fd ps (aNg K F)∧mg x=some (.ref f)∧PySem.W.keepIn K (.ref f)=true∧pT K fd ps []
abbrev GM:=DS→(List D→DM→Prop)→Prop
def DAM (X:Cx) (es:List Expr) (g:GM):Prop:=∃ t,PA X es t∧∀ C0 H0 δ σ C H (Q:List D→DM→Prop) (R:List V→Hp→Prop),gI X.K C0 H0 δ σ C H→g δ Q →
 (∀ ds m vs l o C1 H1,Q ds m→eM C H C1 H1→bO X.K C1 vs ds→C1 l=some (.frz o (tJ X.K m))→R (vs++[.ref l]) H1)→t σ H R
section
variable {X:Cx}{e:Expr}{es:List Expr}{pos:Pos}{ga:GE}{gf:GM}
def aCa (i:Nat):GM:=fun δ Q=>match δ[i]? with
 | some (.fd m)=>Q [] m
 | _=>False
def aBF (ga:GE) (gr:GM):GM:=fun δ Q=>ga δ fun d=>gr δ fun ds m=>Q (d::ds) m
theorem aIi {i:Nat} (hx:PE X e (wP i)) (hs:starEach [e] X.env=(false,eval e X.env)::starEach [] X.env:=by rfl):DAM X [e] (aCa i):=by
 refine ⟨_,bX hx dS hs,fun C0 H0 δ σ C H Q R rp g k=>?_⟩
 unfold aCa at g
 split at g
 ·rename_i m em
  obtain ⟨l,o,a,b⟩:=rp.dc.fd i m em
  exact ⟨.ref l,a,k [] m [] l o C H g (eM.refl rp.ch) .nil b⟩
 ·exact g.elim
theorem aDq (ha:DE X e ga) (hr:DAM X es gf) (hs:starEach (e::es) X.env=(false,eval e X.env)::starEach es X.env:=by rfl):DAM X (e::es) (aBF ga gf):=by
 obtain ⟨t1,p1,h1⟩:=ha
 obtain ⟨t2,p2,h2⟩:=hr
 refine ⟨_,bX p1 p2 hs,fun C0 H0 δ σ C H Q R rp g k=>h1 C0 H0 δ σ C H _ _ rp g fun d v C1 H1 q e1 n1=>?_⟩
 exact h2 C0 H0 δ σ C1 H1 _ _ (rp.grow e1) q fun ds m vs l o C2 H2 q2 e2 n2 hl=>k (d::ds) m (v::vs) l o C2 H2 q2 (e1.trans e2) (.cons (n1.mono e2.cc) n2) hl
def aEi (F:List D→DM→Option D) (gf:GM):GE:=fun δ Q=>gf δ fun ds m=>mS (F ds m) Q
theorem aH7 {F:List D→DM→Option D}{k:Nat}{x:Str}{p:Pos} (h:aI0 X.prog X.w X.K X.mg X.base k x F) (hr:cL k X.A) (hg:Gl X x) (ha:DAM X (e::es) gf) (hdb:(x == ("__debug__":Str))=false:=by decide)
  (he:starEach (e::es) X.env=(false,eval e X.env)::starEach es X.env:=by rfl) (hpl:(backTo pos (starEach es X.env)).any (·.1)=false:=by rfl):DE X (.Call (.Name x p) (e::es) [] pos) (aEi F gf):=by
 obtain ⟨f,fd,ps,Fk,hm,hk,hb⟩:=h
 obtain ⟨t,pa,h⟩:=ha
 refine ⟨_,aCd Fk hr hg hm hk hb .nil aIh pa hdb he hpl,fun C0 H0 δ σ C H Q R rp g k=>h C0 H0 δ σ C H _ _ rp g fun ds m vs l o C1 H1 q e1 n1 hl=>?_⟩
 cases e2:F ds m with
 | none=>rw [e2] at q;exact q.elim
 | some d=>
  rw [e2] at q
  exact ⟨C1,ds,m,vs,l,o,d,by rw [List.append_nil],e1.ch,n1,hl,e2,fun v C' H' ex nv=>k d v C' H' q (e1.trans ex) nv⟩
end
theorem gI.setF {K:PySem.W.Frag}{C0 H0 C H:Hp}{δ:DS}{σ:St} (R:gI K C0 H0 δ σ C H) {i:Nat}{l:Addr}{o:Obj}{m:DM} (hl:C l=some (.frz o (tJ K m))):gI K C0 H0 (δ.set i (.fd m)) (σ.set i (some (.ref l))) C H:=by
 refine ⟨by simp [R.len],R.ext,fun j e h'=>?_,fun j ds h'=>?_,fun j k ds es l hjk h1 h2 h3=>?_,fun j n h'=>?_,fun j n h'=>?_,fun j k n n' q hjk h1 h2 h3=>?_⟩
 ·rcases aR h' with ⟨_,e1,_⟩ | ⟨hj,h'⟩
  ·cases e1
  ·rw [List.getElem?_set_ne (Ne.symm hj)]
   exact R.im j e h'
 ·rcases aR h' with ⟨_,e1,_⟩ | ⟨hj,h'⟩
  ·cases e1
  ·rw [List.getElem?_set_ne (Ne.symm hj)]
   exact R.ow j ds h'
 ·rcases aR h1 with ⟨_,e1,_⟩ | ⟨hj,h1⟩
  ·cases e1
  ·rcases aR h2 with ⟨_,e1,_⟩ | ⟨hk,h2⟩
   ·cases e1
   ·rw [List.getElem?_set_ne (Ne.symm hj)] at h3
    rw [List.getElem?_set_ne (Ne.symm hk)]
    exact R.ap j k ds es l hjk h1 h2 h3
 ·rcases aR h' with ⟨_,e1,_⟩ | ⟨hj,h'⟩
  ·cases e1
  ·rw [List.getElem?_set_ne (Ne.symm hj)]
   exact R.dc.od j n h'
 ·rcases aR h' with ⟨rfl,e1,hl'⟩ | ⟨hj,h'⟩
  ·cases e1
   exact ⟨l,o,by rw [List.getElem?_set_self (by rw [R.len];exact hl')],hl⟩
  ·rw [List.getElem?_set_ne (Ne.symm hj)]
   exact R.dc.fd j n h'
 ·rcases aR h1 with ⟨_,e1,_⟩ | ⟨hj,h1⟩
  ·cases e1
  ·rcases aR h2 with ⟨_,e1,_⟩ | ⟨hk,h2⟩
   ·cases e1
   ·rw [List.getElem?_set_ne (Ne.symm hj)] at h3
    rw [List.getElem?_set_ne (Ne.symm hk)]
    exact R.dc.ap j k n n' q hjk h1 h2 h3
def uX (N:List Str) (ds:List D) (m:DM):DS:=(bK N ds).set ds.length (.fd m)
theorem aEK {N:List Str}{us:List V}{v:V} (h:us.length<N.length):start N (us++[v])=(start N us).set us.length (some v):=by
 unfold start
 obtain ⟨n,e⟩:∃ n,N.length-us.length=n+1:=⟨N.length-us.length-1,by omega⟩
 have e2:N.length-(us++[v]).length=n:=by rw [List.length_append,List.length_singleton];omega
 rw [e,e2,List.replicate_succ,List.set_append_right _ _ (by simp),List.length_map,Nat.sub_self]
 simp
theorem fnM {P:Program}{w:World}{K:PySem.W.Frag}{mg:Str→Option Value}{base:Heap}{x qual:Str}{st:Stmt}{f:Addr}{fd:FuncData}{N ps:List Str}{k:Nat}{F:List D→DM→Option D}{g:GS} (Fn:Fun K x qual st f fd) (S:bD N ps (aD st))
  (hl:∀ ds m d,F ds m=some d→ds.length+1=ps.length) (hN:ps.length≤N.length)
  (hb:∀ (cdv:Value) (A:Around) (outer:List Env) (s:Shared) (H:Hp) (E:XK),cL k (A.deeper (envOfC qual (aD st) s.heap.objs.size f cdv))→kJ (d6 kK P w K mg base N qual (aD st) f cdv A outer s H E).nox (aW st) g)
  (hv:∀ ds m d,F ds m=some d→g { nx:=fun _=>d = .non,rt:=fun r=>r=d } (uX N ds m)) (hm:mg x=some (.ref f)) (bi:pT K fd ps []):aI0 P w K mg base (k+1) x F:=by
 refine ⟨f,fd,ps,Fn.ok S (fun vs H Q E h=>?_) (fun cdv A outer s H vs Q E hr h=>?_),hm,Fn.kp,bi⟩
 ·obtain ⟨C,ds,m,us,l,o,d,rfl,_,n,_,e,_⟩:=h
  rw [List.length_append,List.length_singleton,n.length]
  exact hl ds m d e
 ·obtain ⟨C,ds,m,us,l,o,d,rfl,ch,n,hc,e,q⟩:=h
  obtain ⟨t,p,h⟩:=hb cdv A outer s H E hr
  have hn:=n.length
  have hlen:=hl ds m d e
  have rp:gI K C H (uX N ds m) (start N (us++[V.ref l])) C H:=by
   rw [aEK (by omega)]
   unfold uX
   rw [hn]
   exact (rA ch n).setF hc
  refine ⟨t,p,h C H (uX N ds m) (start N (us++[V.ref l])) C H _ _ rp (hv ds m d e) ⟨fun δ σ C' H' rp z=>?_,fun r v C' H' ex nv z=>?_,fun _ _ _ _ _ z=>z.elim,fun _ _ _ _ _ z=>z.elim⟩⟩
  ·subst z
   exact q _ C' H' rp.ext (eD.mpr rfl)
  ·subst z
   exact q v C' H' ex nv
section
variable {κ:Type} [DecidableEq κ]
def sH (l:List κ) (m:Nat):List (κ×Int):=(l.zipIdx m).map fun x=>(x.1,(x.2:Int))
theorem aGB (a:κ) (l:List κ) (m:Nat):sH (a::l) m=(a,(m:Int))::sH l (m+1):=rfl
theorem oI (k:κ):∀ (l:List κ) (m:Nat),eO (sH l m) k=if k∈l then some ((m+l.idxOf k:Nat):Int) else none
 | [],m=>by simp [eO,sH]
 | a::l,m=>by
  rw [aGB]
  by_cases e:a=k
  ·subst e
   simp [eO,List.find?_cons]
  ·have ih:=oI k l (m+1)
   have h1:eO ((a,(m:Int))::sH l (m+1)) k=eO (sH l (m+1)) k:=by simp [eO,List.find?_cons,e]
   have eb:(a == k)=false:=by simpa using e
   rw [h1,ih,List.idxOf_cons,eb]
   by_cases hm:k∈l
   ·rw [if_pos hm,if_pos (List.mem_cons_of_mem _ hm)]
    congr 2
    show m+1+_=m+(_+1)
    omega
   ·rw [if_neg hm,if_neg (fun z=>by
     rcases List.mem_cons.mp z with z | z
     ·exact e z.symm
     ·exact hm z)]
theorem zU (l:List κ) (m:Nat):(sH l m).length=l.length:=by simp [sH]
theorem aDX {l:List κ}{k:κ} (h:k∉l):qG (sH l 0) k (l.length:Int)=sH (l++[k]) 0:=by
 unfold qG
 rw [if_neg]
 ·simp [sH,List.zipIdx_append]
 ·intro z
  obtain ⟨p,hp,e⟩:=List.any_eq_true.mp z
  obtain ⟨x,hx,rfl⟩:=List.mem_map.mp hp
  have:=(List.mem_zipIdx' (x:=x.1) (i:=x.2) hx).2
  refine h ?_
  rw [← of_decide_eq_true e]
  show x.1∈l
  rw [this]
  exact List.getElem_mem _
end
section
variable {nn:Nat}{pl:Pl}
noncomputable abbrev srt (nn:Nat) (pl:Pl) (s:Nat):Int:=(f8 nn pl).getD s 0
noncomputable def rW (nn:Nat) (pl:Pl) (os:List Nat):List (Int×Int):=sH (os.map (srt nn pl)) 0
open Classical in
theorem aBC {os:List Nat}{t:Nat} (hos:∀ o∈os,o<pl.length) (ht:t<pl.length):srt nn pl t∈os.map (srt nn pl)↔bB nn pl t∈os.map (bB nn pl):=by
 rw [List.mem_map,List.mem_map]
 constructor
 ·rintro ⟨o,ho,e⟩
  exact ⟨o,ho,(sU (hos o ho) ht).mp e⟩
 ·rintro ⟨o,ho,e⟩
  exact ⟨o,ho,(sU (hos o ho) ht).mpr e⟩
open Classical in
theorem aJJ {os:List Nat}{t:Nat} (hos:∀ o∈os,o<pl.length) (ht:t<pl.length):(os.map (srt nn pl)).idxOf (srt nn pl t)=(os.map (bB nn pl)).idxOf (bB nn pl t):=by
 induction os with
 | nil=>rfl
 | cons o os ih=>
  rw [List.map_cons,List.map_cons,List.idxOf_cons,List.idxOf_cons,ih fun x hx=>hos x (List.mem_cons_of_mem _ hx)]
  have k:=sU (nn:=nn) (hos o List.mem_cons_self) ht
  by_cases e:bB nn pl o=bB nn pl t
  ·have e1:(bB nn pl o == bB nn pl t)=true:=by simpa using e
   have e2:(srt nn pl o == srt nn pl t)=true:=by simpa using k.mpr e
   rw [e1,e2]
  ·have e1:(bB nn pl o == bB nn pl t)=false:=by simpa using e
   have e2:(srt nn pl o == srt nn pl t)=false:=by simpa using fun z=>e (k.mp z)
   rw [e1,e2]
open Classical in
theorem aBm {os:List Nat}{t:Nat} (hos:∀ o∈os,o<pl.length) (ht:t<pl.length):eO (rW nn pl os) (srt nn pl t)=if bB nn pl t∈os.map (bB nn pl) then some ((os.map (bB nn pl)).idxOf (bB nn pl t):Int) else none:=by
 unfold rW
 rw [oI,aJJ hos ht,Nat.zero_add]
 by_cases h:bB nn pl t∈os.map (bB nn pl)
 ·rw [if_pos h,if_pos ((aBC hos ht).mpr h)]
 ·rw [if_neg h,if_neg fun z=>h ((aBC hos ht).mp z)]
theorem aGY (os:List Nat):(rW nn pl os).length=os.length:=by unfold rW;rw [zU,List.length_map]
theorem aHD {os:List Nat}{t:Nat} (hos:∀ o∈os,o<pl.length) (ht:t<pl.length) (h:bB nn pl t∉os.map (bB nn pl)):qG (rW nn pl os) (srt nn pl t) (os.length:Int)=rW nn pl (os++[t]):=by
 have:=aDX (l:=os.map (srt nn pl)) (k:=srt nn pl t) fun z=>h ((aBC hos ht).mp z)
 rw [List.length_map] at this
 unfold rW
 rw [this,List.map_append]
 rfl
theorem aIB (hp:bQ nn pl) {os:List Nat}{rows:Pl} (hI:xX (fun b=>∃ s,s<pl.length∧b=bB nn pl s) (bB nn pl 0) (os.map (bB nn pl),rows)) (hos:∀ o∈os,o<pl.length) (hl:rows.length=os.length) :
  (∀ s∈os,∀ j:Fin nn,bB nn pl (pZ pl s j.val)∈os.map (bB nn pl))∧open Classical in os.map (fun s=>(aY pl s,(pl.getD s ([],[])).2.map fun b=>((os.map (bB nn pl)).idxOf (bB nn pl b.toNat):Int)))=rows:=by
 classical
 have nd:(os.map (bB nn pl)).Nodup:=hI.nd
 have key:∀ (k:Nat) s,os[k]? = some s→∃ r,rows[k]? = some r∧r.1=aY pl s∧r.2.length=nn∧∀ j:Fin nn,∃ i:Nat,r.2[j.val]? = some (i:Int)∧(os.map (bB nn pl))[i]? = some (bB nn pl (pZ pl s j.val)):=fun k s hk=>by
  have hk':k<rows.length:=by rw [hl];exact (List.getElem?_eq_some_iff.mp hk).1
  obtain ⟨b,a1,a2,a3,a4⟩:=hI.at_ k rows[k] (List.getElem?_eq_getElem hk')
  have eb:b=bB nn pl s:=by
   have a1':(os.map (bB nn pl))[k]? = some b:=a1
   rw [List.getElem?_map,hk] at a1'
   cases a1'
   rfl
  subst eb
  exact ⟨rows[k],List.getElem?_eq_getElem hk',a2,a3,fun j=>a4 j⟩
 refine ⟨fun s hs j=>?_,?_⟩
 ·obtain ⟨k,hk⟩:=List.getElem?_of_mem hs
  obtain ⟨r,_,_,_,q⟩:=key k s hk
  obtain ⟨i,_,h2⟩:=q j
  exact List.mem_of_getElem? h2
 ·refine List.ext_getElem? fun k=>?_
  rw [List.getElem?_map]
  by_cases hk:k<os.length
  ·obtain ⟨r,h1,h2,h3,h4⟩:=key k os[k] (List.getElem?_eq_getElem hk)
   have hs:os[k]<pl.length:=hos _ (List.getElem_mem hk)
   rw [List.getElem?_eq_getElem hk,h1,Option.map_some]
   congr 1
   refine Prod.ext h2.symm ?_
   show (pl.getD os[k] ([],[])).2.map _=r.2
   rw [gW hp hs,List.map_map]
   refine List.ext_getElem? fun j=>?_
   rw [List.getElem?_map]
   by_cases hj:j<nn
   ·obtain ⟨i,g1,g2⟩:=h4 ⟨j,hj⟩
    rw [List.getElem?_eq_getElem (by simpa using hj),g1,Option.map_some]
    congr 1
    simp only [List.getElem_finRange,Function.comp,Int.toNat_natCast]
    have hi:=(List.getElem?_eq_some_iff.mp g2).1
    have hm:=List.mem_of_getElem? g2
    have e1:=List.getElem_idxOf (List.idxOf_lt_length_of_mem hm)
    have e2:(os.map (bB nn pl))[(os.map (bB nn pl)).idxOf (bB nn pl (pZ pl os[k] j))]? = (os.map (bB nn pl))[i]? := by
     have g2':(os.map (bB nn pl))[i]? = some (bB nn pl (pZ pl os[k] j)):=g2
     rw [g2',List.getElem?_eq_getElem (List.idxOf_lt_length_of_mem hm),e1]
    have:=(List.getElem?_inj (List.idxOf_lt_length_of_mem hm) nd).mp e2
    exact_mod_cast this
   ·rw [List.getElem?_eq_none (by simpa using hj),List.getElem?_eq_none (by omega)]
    rfl
  ·rw [List.getElem?_eq_none (by omega),List.getElem?_eq_none (by omega)]
   rfl
end
theorem aCB {u l:Int} (hl:0<l):cH (Rat.divInt u l) = .tup [.int (u / (Int.gcd u l:Int)),.int (l / (Int.gcd u l:Int))]:=by
 have h1:l.sign=1:=Int.sign_eq_one_of_pos hl
 unfold cH
 rw [Rat.num_divInt,Rat.den_divInt,if_neg (by omega),h1,Int.one_mul,Int.gcd_comm l u]
 congr 4
 rw [Int.natCast_ediv,show ((l.natAbs:Nat):Int)=l by omega]
open Classical in
noncomputable def dB:List D→Option D
 | [.int x,.tup [.int u,.int l],d]=>qZ d fun d=>if Bd 40 x∧Bd 4000 u∧Bd 4000 l then some (.tup [.int (((d.den:Int)-d.num) * x * l+d.num * u),.int ((d.den:Int) * l)]) else none
 | _=>none
theorem aM1 {x u l:Int}{d:Rat} (hd:kL d) (h1:Bd 40 x) (h2:Bd 4000 u) (h3:Bd 4000 l):dB [.int x,.tup [.int u,.int l],cH d]=some (.tup [.int (((d.den:Int)-d.num) * x * l+d.num * u),.int ((d.den:Int) * l)]):=by
 simp only [dB,oQ hd,if_pos (show Bd 40 x∧Bd 4000 u∧Bd 4000 l from ⟨h1,h2,h3⟩)]
def prD:D→Option (Int×List Int)
 | .tup ds=>sC ds
 | _=>none
def prE (p:Int×List Int):D:=.tup [.int p.1,aF p.2]
section
variable {α:Type}{f:D→Option α}{g:α→D}
def yC (f:D→Option α):List D→Option (List α)
 | []=>some []
 | d::ds=>match f d,yC f ds with
  | some a,some l=>some (a::l)
  | _,_=>none
theorem aB4 (h:∀ d a,f d=some a→d=g a):∀ {ds:List D}{l:List α},yC f ds=some l→ds=l.map g
 | [],l,e=>by cases e;rfl
 | d::ds,l,e=>by
  unfold yC at e
  split at e
  ·rename_i a m e1 e2
   cases e
   rw [List.map_cons,← h _ _ e1,← aB4 h e2]
  ·cases e
theorem aBv (h:∀ a,f (g a)=some a):∀ l:List α,yC f (l.map g)=some l
 | []=>rfl
 | a::l=>by
  rw [List.map_cons,yC,h a,aBv h l]
end
theorem aLd (d:D) (p:Int×List Int) (h:prD d=some p):d=prE p:=by
 unfold prD at h
 split at h
 ·rw [aDl h];rfl
 ·cases h
theorem aLs (p:Int×List Int):prD (prE p)=some p:=oP
def d7:List D→Option D
 | [.lst ds]=>if ds.length≤1000 then match yC tU ds with
   | some l=>some (.lst ((iL l).map D.int))
   | none=>match yC prD ds with
    | some l=>some (.lst ((iL l).map D.int))
    | none=>none
  else none
 | _=>none
theorem aGF {l:List (List Int)} (h:l.length≤1000):d7 [.lst (l.map aF)]=some (.lst ((iL l).map D.int)):=by
 simp only [d7,List.length_map,h,if_true,aBv l7]
theorem aDY {l:List (Int×List Int)} (h:l.length≤1000):d7 [.lst (l.map prE)]=some (.lst ((iL l).map D.int)):=by
 cases l with
 | nil=>rfl
 | cons p l=>
  have no:yC tU (prE p::l.map prE)=none:=by
   rw [yC]
   rfl
  simp only [d7,List.length_map,h,if_true,aBv aLs]
  rw [List.map_cons,no]
open Classical in
noncomputable def i7:List D→Option D
 | [p,.lst ss]=>match kF p,cX ss with
  | some pl,some sl=>if bQ (lU pl) pl∧sl.length=pl.length then some (.lst ((nZ pl sl).map D.int)) else none
  | _,_=>none
 | _=>none
open Classical in
noncomputable def b9:List D→Option D
 | [p]=>match kF p with
  | some pl=>if bQ (lU pl) pl then some (.lst ((f8 (lU pl) pl).map D.int)) else none
  | none=>none
 | _=>none
open Classical in
noncomputable def dQ:List D→DM→Option D
 | [st,.lst ss],.k kvs=>match yH st,cX ss with
  | some s,some sl=>if s.2.length≤1000∧∀ x∈s.2,0≤x∧x.toNat<sl.length∧(eO kvs (sl.getD x.toNat 0)).isSome=true then some (.tup [aF s.1,aF (s.2.map fun x=>(eO kvs (sl.getD x.toNat 0)).getD 0)]) else none
  | _,_=>none
 | _,_=>none
section
variable {nn:Nat}{pl:Pl}
theorem aE7 (hp:bQ nn pl) {sl:List Int} (h:sl.length=pl.length):i7 [bA pl,.lst (sl.map D.int)]=some (.lst ((nZ pl sl).map D.int)):=by
 have e:=hp.of_nn
 subst e
 simp only [i7,iQ,cP]
 exact if_pos ⟨hp,h⟩
theorem aLD (hp:bQ nn pl):b9 [bA pl]=some (.lst ((f8 nn pl).map D.int)):=by
 have e:=hp.of_nn
 subst e
 simp only [b9,iQ]
 exact if_pos hp
end
section
variable {X:Cx}{a:Addr}{oe:Obj}{C Nn:Addr}{i:Nat}{n y1 y2:Str}{p1 p2 p3 q1 q2 q3 r1 r2 r3 s1 s2 s3 u pos:Pos}
end
noncomputable def pF:GS:=(cF (i8 (jY "int" (aE 0)) (l6 (jY "bool" (aE 0)))))
noncomputable def mN:GS:=(aX (jO (dG (bL tO (aE 3) (gC (.int 0)))) (aX (bR (bL u0 (aE 2) (aE 3)) (cY 4)) (aX (bR (aE 3) (cY 2)) (bR (aE 4) (cY 3))))) (cF (aE 2)))
noncomputable def mT:GS:=(aX (bR (aZ pH (aA (aE 1) aI)) (cY 3)) mN)
noncomputable def iY:GS:=(aX (bR (aZ pH (aA (aE 0) aI)) (cY 2)) mT)
noncomputable def wO:GS:=(aX (gB (uC (aE 0)) (cY 2) (aX (dN 3 (g9 aI)) (aX (gB (xL (aE 1)) (cY 4) (gB (fK (aE 2)) (cY 5) (kI 3 (bL fO (aE 4) (bS (aA (aE 5) aI)))))) (j5 3 (bR (aE 3) (cY 1)))))) (cF (aZ cA (aA (aE 1) aI))))
noncomputable def rF:GS:=(aX (bR (gF (g9 (aA (bS aI) aI))) (cY 1)) wO)
noncomputable def u3:GS:=(aX (gB (qD (aE 0) (aE 1)) (j6 3 4) (bR (bL fO (bL i6 (aE 2) (aE 4)) (aE 3)) (cY 2))) (cF (aE 2)))
noncomputable def pA:GS:=(aX (bR (gC (.int 0)) (cY 2)) u3)
noncomputable def jB:GS:=(cF (i8 (jY "tuple" (aE 0)) (iH oLe oLe (aE 1) (aZ gX (aA (aE 0) aI)) (aE 2))))
noncomputable def nY:GS:=(cF (bS (aA (aE 3) (aA (bL uF (bL eG (aE 2) (gC (.int 1))) (bL eG (aE 1) (gC (.int 1)))) aI))))
noncomputable def jD:GS:=(aX (bR (bL fO (bL uF (bL uF (bL aBU (bL eG (aE 2) (gC (.int 1))) (bL eG (aE 2) (gC (.int 0)))) (aE 0)) (bL eG (aE 1) (gC (.int 1)))) (bL uF (bL eG (aE 2) (gC (.int 0))) (bL eG (aE 1) (gC (.int 0))))) (cY 3)) nY)
noncomputable def wJ:GS:=(aX (gB (xL (aE 0)) (cY 4) (aX (bR (bL fO (bL uF (aE 2) (bL eG (aE 1) (gC (.int 1)))) (bL uF (aE 3) (aE 4))) (cY 2)) (bR (bL uF (aE 3) (bL eG (aE 1) (gC (.int 0)))) (cY 3)))) (cF (aE 2)))
noncomputable def rK:GS:=(aX (bR (gC (.int 0)) (cY 2)) (aX (bR (gC (.int 1)) (cY 3)) wJ))
noncomputable def l8:GS:=(cF (bS (aA (bL eG (aE 0) (gC (.int 0))) (aA (aZ cA (aA (gF (cC [none,some 2,some 1] (uC (bL eG (aE 0) (gC (.int 1)))) (cY 0) (tQ 1 (gKI (bL eG (aE 2) (aE 0)))))) aI)) aI))))
noncomputable def tL:GS:=(sG 1 (cF (gF (cC [none,some 1] (xL (aE 0)) (cY 0) (tQ 1 (gKD (aE 0)))))))
noncomputable def o7:GS:=(aX (gB (xL (aE 0)) (cY 2) (iG (nN 1 (gKD (aE 2))) (sE 1 (gKD (aE 2)) (wI 1)) dW)) tL)
noncomputable def tE:GS:=(aX (aHh 1) o7)
noncomputable def nE:GS:=(aX (iG (dG (bL oLt (aE 1) (aZ gX (aA (aE 0) aI)))) (cF (bL eG (aE 0) (aE 1))) dW) (cF (gC (.int 0))))
noncomputable def pN:GS:=(cF (bL u0 (bL u0 (bL i6 (aE 0) (gC (.int 48271))) (aE 1)) (aE 2)))
noncomputable def sF:GS:=(aX (gB (uC (aE 0)) (cY 2) (aX (dN 3 (g9 aI)) (aX (gB (xL (aE 1)) (cY 4) (qW 3 (cC [none,some 4] (fK (aE 2)) (cY 0) (bL fO (aE 1) (bS (aA (aE 0) aI)))))) (j5 3 (bR (aE 3) (cY 1)))))) (cF (aE 1)))
noncomputable def nD:GS:=(aX (bR (gF (g9 (aA (bS aI) aI))) (cY 1)) sF)
noncomputable def pP:GS:=(aX (aJi 4 2) (iG (fS 3 (dG (bL aB0 (aE 4) (aE 3)))) (aX (kI 3 (aE 4)) (aX (iG (dG (bL tO (bL eG (bL eG (aE 0) (bL eG (aE 4) (gC (.int 0)))) (gC (.int 0))) (bL eG (bL eG (aE 1) (bL eG (aE 4) (gC (.int 1)))) (gC (.int 0))))) (cF (gC (.bl false))) dW) (dN 2 (fU 2 (lN (aE 2) (gF (yT (bL eG (bL eG (aE 0) (bL eG (aE 4) (gC (.int 0)))) (gC (.int 1))) (bL eG (bL eG (aE 1) (bL eG (aE 4) (gC (.int 1)))) (gC (.int 1)))))))))) dW))
noncomputable def qL:GS:=(aX (jO (fS 2 (lG (aE 2))) pP) (cF (gC (.bl true))))
noncomputable def mB:GS:=(aX (dN 2 (g9 (aA (bS (aA (gC (.int 0)) (aA (gC (.int 0)) aI))) aI))) (aX (dN 3 (g9 aI)) qL))
noncomputable def sA:GS:=(cF (aZ cA (aA (gF (cC [none,some 0,some 2] (xL (aE 2)) (cY 0) (bS (aA (bL eG (bL eG (aE 1) (aE 0)) (gC (.int 0))) (aA (aZ cA (aA (gF (cC [none,some 2] (uC (bL eG (bL eG (aE 1) (aE 0)) (gC (.int 1)))) (cY 0) (aEw (aE 1) (aE 0)))) aI)) aI))))) aI)))
noncomputable def nQ:GS:=(aX (bR (gF (lN (gF (g9 (aA (aE 1) aI))) (gF (pG [none,some 1] (fK (aZ gX (aA (aE 0) aI))) (cY 0) (dG (bL tO (aE 0) (aE 1))) (aE 0))))) (cY 2)) sA)
noncomputable def n6:GS:=(kI 1 (bS (aA (aE 2) (aA (aZ cA (aA (gF (cC [none,some 0] (uC (aE 3)) (cY 0) (bL fO (aE 0) (bL i6 (aZ gX (aA (aE 1) aI)) (bL u0 (aE 0) (gC (.int 2))))))) aI)) aI))))
noncomputable def nR:GS:=(kI 1 (bS (aA (aE 2) (aA (aZ cA (aA (gF (cC [none,none,some 0] (hG (aE 3)) (j6 0 1) (bL fO (aE 1) (bL i6 (aZ gX (aA (aE 2) aI)) (bL u0 (aE 0) (gC (.int 2))))))) aI)) aI))))
noncomputable def oH:GS:=(aX (gB (uC (aE 0)) (j6 2 3) n6) (j5 1 (cF (aZ cA (aA (aE 1) aI)))))
noncomputable def oR:GS:=(aX (gB (uC (aE 0)) (j6 2 3) nR) oH)
noncomputable def kG:GS:=(aX (dN 1 (g9 aI)) oR)
noncomputable def zE:GS:=(cF (bS (aA (bL aET (aE 0) (aE 3)) (aA (bL aET (aE 1) (aE 3)) aI))))
noncomputable def yQ:GS:=(aX (bR (bL uF (aE 2) (aO dM (aA (aE 0) (aA (aE 1) aI)))) (cY 3)) zE)
noncomputable def tW:GS:=(aX (bR (bL aET (aE 1) (aZ pH (aA (aE 1) aI))) (cY 2)) yQ)
noncomputable def kC:GS:=(cF (i8 (aO iJ (aA (aE 0) aI)) (iH oLe oLe (aE 1) (aE 0) (aE 2))))
noncomputable def aCl:GS:=(cF (bL eG (bL eG (aE 0) (gC (.int 1))) (aO dJ (aA (aE 1) (aA (bL eG (aE 0) (gC (.int 0))) aI)))))
noncomputable def j9:GS:=(cF (bL eG (bL eG (bL eG (aE 1) (aE 2)) (gC (.int 1))) (aO dJ (aA (aE 3) (aA (bL eG (aE 0) (gC (.int 0))) aI)))))
noncomputable def t5:GS:=(cF (aO d7 (aA (gF (cC [none,none,some 1] (hG (aE 0)) (j6 0 1) (bS (aA (bL eG (aE 2) (aE 0)) (aA (aZ cA (aA (gF (cC [none,some 2] (uC (bL eG (aE 1) (gC (.int 1)))) (cY 0) (bL eG (aE 1) (aE 0)))) aI)) aI))))) aI)))
noncomputable def kU:GS:=(j5 3 (cF (bS (aA (aE 1) (aA (aZ cA (aA (aE 3) aI)) aI)))))
noncomputable def kT:GS:=(aX (iG (dG (bL wN (bL u0 (aE 0) (gC (.int 9))) (gC (.int 0)))) (aX (bR (gF (i4 xK (aA (gF (cC [none,some 0] (fK (gC (.int 4))) (cY 0) (bL aBU (aO bU (aA (bL fO (aE 1) (aE 0)) (aA (gC (.int 9931)) (aA (gC (.int 19)) aI)))) (gC (.int 9))))) aI))) (cY 7)) (dN 3 (g9 (aA (bS (aA (bL eG (aE 7) (gC (.int 2))) (aA (bL eG (aE 7) (gC (.int 2))) aI))) (aA (bS (aA (bL eG (aE 7) (gC (.int 0))) (aA (bL eG (aE 7) (gC (.int 3))) aI))) (aA (bS (aA (bL eG (aE 7) (gC (.int 3))) (aA (bL eG (aE 7) (gC (.int 0))) aI))) (aA (bS (aA (bL eG (aE 7) (gC (.int 1))) (aA (bL eG (aE 7) (gC (.int 1))) aI))) aI))))))) dW) kU)
noncomputable def oU:GS:=(aX (gB (fK (aZ gX (aA (aO dD (aA (aE 1) aI)) aI))) (cY 4) (aX (bR (bL fO (aE 0) (bL i6 (gC (.int 13)) (aE 4))) (cY 5)) (aX (dN 6 (cC [none,some 2,some 5] (fK (aZ gX (aA (aE 1) aI))) (cY 0) (bL aBU (bL fO (aO bU (aA (bL fO (aE 2) (bL i6 (gC (.int 5)) (aE 0))) (aA (gC (.int 9941)) (aA (bL aBU (bL i6 (gC (.int 2)) (aE 1)) (gC (.int 1))) aI)))) (gC (.int 1))) (aE 1)))) (j5 6 (kI 3 (aZ cA (aA (aE 6) aI))))))) kT)
noncomputable def kQ:GS:=(aX (bR (bL eG (gF (g9 (aA (gC (.int 2)) (aA (gC (.int 5)) (aA (gC (.int 10)) aI))))) (aO bU (aA (aE 0) (aA (gC (.int 9949)) (aA (gC (.int 3)) aI))))) (cY 2)) (aX (dN 3 (g9 aI)) oU))
noncomputable def oO:GS:=(aX (iG (dG (bL wN (bL u0 (aE 0) (gC (.int 3))) (gC (.int 0)))) (bR (bS (aA (gC (.int 2)) (aA (gC (.int 2)) aI))) (cY 1)) dW) kQ)
noncomputable def kA:GS:=(aX (bR (aZ cA (aA (gF (cC [none,some 0] (fK (bL fO (gC (.int 2)) (bL aJf (aO bU (aA (aE 0) (aA (gC (.int 9967)) (aA (gC (.int 4)) aI)))) (gC (.int 3))))) (cY 0) (bL fO (gC (.int 1)) (aO bU (aA (bL fO (aE 1) (bL i6 (gC (.int 7)) (aE 0))) (aA (gC (.int 9973)) (aA (gC (.int 3)) aI))))))) aI)) (cY 1)) oO)
noncomputable def iA:GS:=(aX (gB (lZ (gC (.int 2)) (gC (.int 30))) (cY 3) (jO (rX (dG (bL wN (bL u0 (aE 2) (aE 3)) (gC (.int 0)))) (dG (bL wN (bL u0 (aE 1) (aE 3)) (gC (.int 0))))) (aX (bR (bL aJf (aE 2) (aE 3)) (cY 2)) (bR (bL aJf (aE 1) (aE 3)) (cY 1))))) (cF (bS (aA (aE 2) (aA (aE 1) aI)))))
noncomputable def nW:GS:=(aX (iG (dG (bL wN (bL u0 (aE 0) (gC (.int 4))) (gC (.int 0)))) (bR (bL aBU (aE 1) (gC (.int 1))) (cY 2)) dW) iA)
noncomputable def nK:GS:=(aX (bR (bL fO (gC (.int 1)) (aO bU (aA (aE 0) (aA (gC (.int 9923)) (aA (bL aBU (aE 1) (gC (.int 1))) aI))))) (cY 2)) nW)
noncomputable def jC:GS:=(aX (bR (bL fO (gC (.int 2)) (aO bU (aA (aE 0) (aA (gC (.int 9929)) (aA (gC (.int 29)) aI))))) (cY 1)) nK)
noncomputable def uI:GS:=(cF (bL eG (aE 2) (aO bU (aA (aE 1) (aA (gC (.int 9907)) (aA (aZ gX (aA (aE 2) aI)) aI))))))
noncomputable def pJ:GS:=(aX (bR (aO dD (aA (bL eG (aE 0) (gC (.int 0))) aI)) (cY 2)) uI)
noncomputable def mE:GS:=(cF (gF (cC [none,some 0,some 1] (fK (gC (.int 4))) (cY 0) (aO cK (aA (aE 1) (aA (bL fO (aE 2) (aE 0)) aI))))))
noncomputable def mZ:GS:=(aX (dN 7 (fU 1 (pG [none,none,some 0,some 6] (iZ (aE 1)) (j6 0 1) (lG (aO cZ (aA (aO eX (aA (aE 2) (aA (aE 1) aI))) (aA (aO eX (aA (aE 2) (aA (aE 3) aI))) aI)))) (aE 0)))) (j5 7 (aX (iG (mC (lG (aE 7))) (aX (bR (gF (fU 1 (g9 (aA (aZ gX (aA (aE 1) aI)) aI)))) (cY 7)) (kI 1 (aE 6))) dW) (kI 5 (bL eG (aE 7) (gC (.int 0)))))))
noncomputable def m4:GS:=(aX (bR (jZ 2 (jZ 1 (bL eG (aE 0) (bL eG (aE 1) (aZ gX (aA (aE 2) aI)))))) (j6 3 4)) (aX (dN 5 (g9 aI)) (aX (gB (uC (aE 4)) (cY 6) mZ) (j5 5 (kI 2 (bS (aA (aE 3) (aA (aZ cA (aA (aE 5) aI)) aI))))))))
noncomputable def r9:GS:=(aX (jO (fS 2 (fS 1 (dG (bL oLt (aZ gX (aA (aE 2) aI)) (aZ gX (aA (aE 1) aI)))))) m4) (j5 2 (cF (aZ cA (aA (aE 2) aI)))))
noncomputable def nA:GS:=(aX (dN 1 (g9 (aA (gC (.int 0)) aI))) (aX (dN 2 (g9 aI)) r9))
noncomputable def o8:GS:=(cF (aZ pC (aA (gF (cC [none,none] (qD (aE 0) (aE 1)) (j6 0 1) (aO dP (aA (aE 0) (aA (gC (.int 0)) (aA (bL aBU (aE 1) (gC (.int 1))) aI)))))) aI)))
noncomputable def oK:GS:=(aX (iG (mC (lG (aO aU (aA (aE 0) (aA (aZ gX (aA (aE 1) aI)) (aA (aZ gX (aA (aE 1) aI)) aI)))))) (cF (gC (.bl false))) dW) o8)
noncomputable def kY:GS:=(cF (aZ pC (aA (gF (cC [none,some 1,some 2] (uC (aE 0)) (cY 0) (aO dP (aA (aE 0) (aA (aE 1) (aA (aE 2) aI)))))) aI)))
noncomputable def sY:GS:=(aX (gB (fK (aE 2)) (cY 8) (aX (bR (aZ cA (aA (gF (cC [none,none,some 4,some 8] (hG (bL eG (bL eG (aE 1) (aE 7)) (gC (.int 0)))) (j6 0 1) (aBO 2 (gKT (aA (aE 3) (aA (aE 0) aI))) (aE 1)))) aI)) (cY 9)) (aX (kI 6 (aE 9)) (bR (aO cN (aA (aE 0) (aA (aE 1) (aA (aE 7) (aA (aE 9) aI))))) (cY 7))))) (j5 6 (cF (aZ cA (aA (aE 6) aI)))))
noncomputable def sW:GS:=(sG 4 (aX (dN 6 (g9 aI)) (aX (bR (gC (.int 0)) (cY 7)) sY)))
noncomputable def sI:GS:=(aX (gB (uC (aE 3)) (cY 5) (sE 4 (gKT (aA (bL eG (aE 5) (gC (.int 0))) (aA (bL eG (aE 5) (gC (.int 1))) aI))) (bL eG (aE 5) (gC (.int 2))))) sW)
noncomputable def uV:GS:=(aX (aCy 4 (.t [])) sI)
noncomputable def rR:GS:=(cF (gF (cC [none,some 2,some 0] (gIs (aE 1)) (cY 0) (bL eG (aO p5 (aA (aE 2) (aA (aE 0) aI))) (aE 1)))))
noncomputable def nX:GS:=(cF (aO lF (aA (bL eG (aE 3) (gC (.int 0))) (aA (bL eG (aE 3) (gC (.int 1))) aI))))
noncomputable def nH:GS:=(aX (gB (aKy (aE 0)) (cY 4) (bR (aO dB (aA (aE 4) (aA (aE 3) (aA (aE 2) aI)))) (cY 3))) nX)
noncomputable def jE:GS:=(aX (bR (bS (aA (aO gG (aA (aE 1) (aA (aE 2) aI))) (aA (aO gG (aA (gF (aHY (g9 (aA (gC (.int 1)) aI)) (aZ gX (aA (aE 1) aI)))) (aA (aE 2) aI))) aI))) (cY 3)) nH)
noncomputable def l4:GS:=(aX (jO (dG (bL tO (aE 2) (aE 1))) (aX (bR (aE 2) (cY 1)) (bR (aO i7 (aA (aE 0) (aA (aE 1) aI))) (cY 2)))) (cF (aE 1)))
noncomputable def lY:GS:=(aX (bR (aO i7 (aA (aE 0) (aA (aE 1) aI))) (cY 2)) l4)
noncomputable def iC:GS:=(aX (bR (aO d7 (aA (gF (cC [none] (uC (aE 0)) (cY 0) (bL eG (aE 0) (gC (.int 0))))) aI)) (cY 1)) lY)
noncomputable def r6:GS:=(aX (gB (fK (aE 3)) (cY 5) (aX (bR (bL fO (bL eG (aE 1) (bL fO (gC (.int 1)) (bL u0 (aE 5) (gC (.int 3))))) (bL i6 (gC (.int 11)) (aE 5))) (cY 6)) (aX (dN 7 (cC [none,some 3,some 6] (fK (aZ gX (aA (aO dD (aA (bL eG (aE 0) (gC (.int 0))) aI)) aI))) (cY 0) (aO bU (aA (bL fO (aE 2) (bL i6 (gC (.int 3)) (aE 0))) (aA (gC (.int 9887)) (aA (aE 1) aI)))))) (j5 7 (kI 4 (bS (aA (aO jJ (aA (aE 0) (aA (aE 6) aI))) (aA (aZ cA (aA (aE 7) aI)) aI)))))))) (j5 4 (cF (aZ cA (aA (aE 4) aI)))))
noncomputable def nM:GS:=(aX (bR (bL fO (gC (.int 1)) (aO bU (aA (bL eG (aE 1) (gC (.int 0))) (aA (gC (.int 9901)) (aA (aE 2) aI))))) (cY 3)) (aX (dN 4 (g9 aI)) r6))
noncomputable def mF:GS:=(cF (i8 (aO aU (aA (aE 0) (aA (aE 3) (aA (aE 3) aI)))) (aO fV (aA (aE 0) (aA (gC (.int 0)) (aA (bL aBU (aE 2) (gC (.int 1))) aI))))))
noncomputable def kS:GS:=(aX (bR (aZ gX (aA (aO iS (aA (aE 1) aI)) aI)) (cY 3)) mF)
noncomputable def uM:GS:=(aX (gB (fK (aZ gX (aA (bL eG (aE 0) (gC (.int 0))) aI))) (cY 5) (aX (bR (aO iR (aA (aE 0) (aA (aE 1) (aA (aE 5) aI)))) (cY 6)) (aX (bR (aO iR (aA (aE 0) (aA (aE 2) (aA (aE 5) aI)))) (cY 7)) (kI 4 (aO bZ (aA (aE 6) (aA (aE 7) (aA (aE 3) aI)))))))) (j5 4 (cF (aZ cA (aA (aE 4) aI)))))
noncomputable def pI:GS:=(aX (dN 4 (g9 aI)) uM)
noncomputable def v7:GS:=(iG (nN 2 (gKI (bL eG (aE 1) (aE 6)))) (aX (sE 2 (gKI (bL eG (aE 1) (aE 6))) (jZ 3 (aZ gX (aA (aE 3) aI)))) (kI 3 (aE 6))) dW)
noncomputable def vU:GS:=(aX (bR (jZ 3 (bL eG (bL eG (aE 0) (bL eG (aE 3) (aE 4))) (gC (.int 1)))) (cY 5)) (aX (gB (uC (aE 5)) (cY 6) v7) (bR (bL fO (aE 4) (gC (.int 1))) (cY 4))))
noncomputable def yE:GS:=(sG 2 (j5 3 (cF (aZ cA (aA (gF (cC [none,some 1,some 2,some 0] (xL (aE 3)) (cY 0) (aEi dQ (aBF (bL eG (aE 3) (aE 0)) (aBF (aE 1) (aCa 2)))))) aI)))))
noncomputable def aDB:GS:=(aX (jO (fS 3 (dG (bL oLt (aE 4) (aZ gX (aA (aE 3) aI))))) vU) yE)
noncomputable def aCI:GS:=(aX (dN 3 (g9 (aA (gC (.int 0)) aI))) (aX (bR (gC (.int 0)) (cY 4)) aDB))
noncomputable def aDP:GS:=(aX (aD6 2 (bL eG (aE 1) (gC (.int 0))) (gC (.int 0))) aCI)
noncomputable def aB6:GS:=(aX (bR (aO b9 (aA (aE 0) aI)) (cY 1)) aDP)
noncomputable def iF:GS:=(cF (i8 (aO aU (aA (aE 0) (aA (gC (.int 2)) (aA (gC (.int 2)) aI)))) (i8 (aO mL (aA (bL eG (aE 0) (gC (.int 0))) (aA (aE 1) aI))) (aO jT (aA (bL eG (aE 0) (gC (.int 1))) (aA (aE 1) (aA (aE 2) aI)))))))
noncomputable def lX:GS:=(j5 6 (cF (aO iP (aA (aE 0) (aA (gF (aKc (aE 6) qX (lM (tQ 4 (gKI (aE 5)))))) (aA (gF (aKc (aE 6) (lM (tQ 4 (gKI (aE 5)))) qX)) (aA (aE 3) aI)))))))
noncomputable def lR:GS:=(sG 4 (aX (dN 6 (cC [none,some 1] (aB5 4) (cY 0) (bL eG (bL eG (aE 1) (aE 0)) (gC (.int 0))))) lX))
noncomputable def lT:GS:=(aX (jO (nN 4 (gKI (aE 5))) (aX (sE 4 (gKI (aE 5)) (wI 4)) (bR (aO cN (aA (aE 0) (aA (aE 1) (aA (aE 5) (aA (bL eG (bL eG (aE 1) (aE 5)) (gC (.int 0))) aI))))) (cY 5)))) lR)
noncomputable def k8:GS:=(aX (aCy 4 (.k [])) (aX (bR (aE 2) (cY 5)) lT))
noncomputable def xG:GS:=(cF (bL wN (aO jU (aA (aE 0) aI)) (aO jU (aA (aE 1) aI))))
noncomputable def nG:GS:=(cF (aZ pC (aA (gF (cC [none,some 1,some 0] (uC (aE 0)) (cY 0) (aO jF (aA (aE 0) (aA (bL eG (aE 1) (gC (.int 0))) (aA (aZ gX (aA (aE 2) aI)) aI)))))) aI)))
noncomputable def mG:GS:=(aX (iG (mC (lG (aO aU (aA (aE 0) (aA (gC (.int 1)) (aA (gC (.int (8))) aI)))))) (cF (gC (.bl false))) dW) nG)
noncomputable def tX:GS:=(cF (aZ cA (aA (gF (cC [none,some 0,some 1,some 2] (fK (aZ gX (aA (aE 1) aI))) (cY 0) (aO eY (aA (aE 1) (aA (aE 2) (aA (aE 0) (aA (aE 3) aI))))))) aI)))
noncomputable def u8:GS:=(aX (bR (aO kD (aA (aE 6) (aA (aE 7) aI))) (cY 8)) (aX (iG (gOr (mC (lG (jY "bool" (aE 8)))) (dG (bL tO (aE 8) (aO cZ (aA (aE 6) (aA (aE 7) aI)))))) (cF (gC (.bl false))) dW) (iG (dG (bL tO (aE 8) (bL wN (aO jU (aA (aE 6) aI)) (aO jU (aA (aE 7) aI))))) (cF (gC (.bl false))) dW)))
noncomputable def y8:GS:=(aX (bR (fW dU (aA (bL i6 (gC (.int 3)) (aO cK (aA (aE 0) (aA (bL i6 (gC (.int 5)) (aE 1)) aI)))) aI)) (cY 2)) (aX (bR (fW dR (aA (aE 2) (aA (aO c9 (aA (aE 0) (aA (bL fO (bL i6 (gC (.int 5)) (aE 1)) (gC (.int 1))) aI))) (aA (gC (.int 4)) aI)))) (cY 3)) (aX (bR (fW dR (aA (aE 2) (aA (aO c9 (aA (aE 0) (aA (bL fO (bL i6 (gC (.int 5)) (aE 1)) (gC (.int 2))) aI))) (aA (gC (.int 4)) aI)))) (cY 4)) (aX (bR (aO cR (aA (aE 3) aI)) (cY 5)) (aX (gB (xL (gF (g9 (aA (bS (aA (aE 3) (aA (aE 4) aI))) (aA (bS (aA (aE 3) (aA (aE 5) aI))) (aA (bS (aA (aE 3) (aA (aE 3) aI))) (aA (bS (aA (aE 4) (aA (aE 5) aI))) aI))))))) (j6 6 7) u8) (aX (bR (aO jU (aA (aE 3) aI)) (cY 9)) (aX (iG (gOr (dG (bL tO (aE 9) (aO eQ (aA (aE 3) aI)))) (gOr (mC (lG (aO j3 (aA (aE 9) (aA (aE 2) aI))))) (mC (lG (aO kD (aA (aE 9) (aA (aE 3) aI))))))) (cF (gC (.bl false))) dW) (aX (bR (aO dC (aA (aO cK (aA (aE 0) (aA (bL fO (gC (.int 20)) (aE 1)) aI))) aI)) (cY 10)) (aX (iG (dG (bL tO (bL eG (aO iK (aA (aE 2) (aA (aE 9) (aA (aE 10) aI)))) (gC (.int 0))) (bL eG (aO iK (aA (aE 2) (aA (aE 3) (aA (aE 10) aI)))) (gC (.int 0))))) (cF (gC (.bl false))) dW) (aX (bR (bS (aA (bS (aA (gC (.int 1)) (aA (gC (.int 0)) (aA (gC (.int 0)) aI)))) (aA (bS (aA (gC (.int 2)) (aA (gC (.int 1)) (aA (gC (.int 0)) aI)))) (aA (bS (aA (gC (.int 4)) (aA (gC (.int 0)) (aA (gC (.int 1)) aI)))) (aA (bS (aA (gC (.int 5)) (aA (gC (.int 1)) (aA (gC (.int 1)) aI)))) aI))))) (cY 11)) (iG (dG (bL tO (aO iN (aA (aE 2) (aA (aE 9) (aA (gC (.int 8)) (aA (aE 11) aI))))) (aO iN (aA (aE 2) (aA (aE 3) (aA (gC (.int 8)) (aA (aE 11) aI))))))) (cF (gC (.bl false))) dW)))))))))))
noncomputable def aFA:GS:=(aX (gB (fK (gC (.int 3))) (cY 1) y8) (cF (gC (.bl true))))
theorem b7 {n:Nat} (h:n≤1000):n≤sizeLine:=Nat.le_of_lt (cM h)
theorem d0 (d:D):wM (tyD d) "int"=(match d with
 | .int _=>true
 | .bl _=>true
 | _=>false):=by cases d <;> rfl
theorem c8 (d:D):wM (tyD d) "bool"=(match d with
 | .bl _=>true
 | _=>false):=by cases d <;> rfl
theorem cJ (d:D):wM (tyD d) "tuple"=(match d with
 | .tup _=>true
 | _=>false):=by cases d <;> rfl
theorem aFh {i j:Int}{Q:D→Prop}:i6 (.int i) (.int j) Q=(aGn i j∧Q (.int (i * j))):=rfl
end L2
local macro_rules | `(tactic| simp_all_arith! [$x:term]) => do
 let i : Lean.TSyntax `ident := ⟨x.raw⟩
 `(tactic| (intro ds d h; unfold $i:ident at h; split at h; all_goals first | rfl | cases h))
local macro_rules | `(tactic| simp_all_arith!) => `(tactic| exact ⟨rfl, rfl, rfl, by decide +kernel, rfl, by decide +kernel, by decide +kernel⟩)
local macro_rules | `(tactic| simp_arith! only [$as,*]) => `(tactic| simp only [L2.cF, L2.i8, L2.uG, L2.nP, L2.jY, L2.d0, L2.c8, L2.cJ, L2.aE, L2.aX, L2.bR, L2.cY, L2.gC, L2.gF, L2.g9, L2.aA, L2.aI, L2.bS, L2.aZ, L2.i4, L2.aO, L2.fW, L2.mS, L2.mO, L2.gX, L2.pH, L2.pC, L2.cA, L2.nF, L2.bL, L2.o6, L2.jA, L2.fO, L2.aFh, L2.tO, L2.wN, L2.oIs, L2.kE, L2.aBZ, L2.l5, L2.eG, L2.iH, L2.iD, L2.dG, L2.mU, L2.iG, L2.uC, L2.xL, L2.fK, L2.lZ, L2.kI, L2.qW, L2.j5, L2.dN, L2.dW, L2.lG, L2.mC, L2.rX, L2.gOr, L2.lM, L2.qX, L2.uP, L2.lN, L2.uZ, L2.j6, L2.qD, L2.l6, L2.sQ, L2.jZ, L2.fS, L2.fU, L2.hG, L2.iZ, L2.tR, L2.uO, L2.t9, eq_self, if_true, ↓reduceIte, Bool.false_eq_true, if_false, List.getElem?_cons_zero, List.getElem?_cons_succ, List.set_cons_zero, List.set_cons_succ, $as,*])
local macro_rules | `(tactic| simp_arith only [$as,*]) => `(tactic| simp only [L2.cF, L2.i8, L2.uG, L2.nP, L2.jY, L2.d0, L2.c8, L2.cJ, L2.aE, L2.aX, L2.bR, L2.cY, L2.gC, L2.gF, L2.g9, L2.aA, L2.aI, L2.bS, L2.aZ, L2.i4, L2.aO, L2.fW, L2.mS, L2.mO, L2.gX, L2.pH, L2.pC, L2.cA, L2.nF, L2.bL, L2.o6, L2.jA, L2.fO, L2.i6, L2.tO, L2.wN, L2.oIs, L2.kE, L2.j7, L2.l5, L2.eG, L2.iH, L2.iD, L2.dG, L2.mU, L2.iG, L2.uC, L2.xL, L2.fK, L2.lZ, L2.kI, L2.qW, L2.j5, L2.dN, L2.dW, L2.lG, L2.mC, L2.rX, L2.gOr, L2.lM, L2.qX, L2.uP, L2.lN, L2.uZ, L2.j6, L2.qD, L2.l6, L2.sQ, L2.jZ, L2.fS, L2.fU, L2.hG, L2.iZ, L2.tR, L2.uO, L2.t9, eq_self, if_true, ↓reduceIte, Bool.false_eq_true, if_false, List.getElem?_cons_zero, List.getElem?_cons_succ, List.set_cons_zero, List.set_cons_succ, $as,*])
local macro_rules | `(tactic| simp_all_arith only [$as,*]) => `(tactic| simp only [L2.cF, L2.i8, L2.uG, L2.nP, L2.jY, L2.d0, L2.c8, L2.cJ, L2.aE, L2.aX, L2.bR, L2.cY, L2.gC, L2.gF, L2.g9, L2.aA, L2.aI, L2.bS, L2.aZ, L2.i4, L2.aO, L2.fW, L2.mS, L2.mO, L2.gX, L2.pH, L2.pC, L2.cA, L2.nF, L2.bL, L2.o6, L2.jA, L2.fO, L2.aFh, L2.tO, L2.wN, L2.oIs, L2.kE, L2.j7, L2.l5, L2.eG, L2.iH, L2.iD, L2.dG, L2.mU, L2.iG, L2.uC, L2.xL, L2.fK, L2.lZ, L2.kI, L2.qW, L2.j5, L2.dN, L2.dW, L2.lG, L2.mC, L2.rX, L2.gOr, L2.lM, L2.qX, L2.uP, L2.lN, L2.uZ, L2.j6, L2.qD, L2.l6, L2.sQ, L2.jZ, L2.fS, L2.fU, L2.hG, L2.iZ, L2.tR, L2.uO, L2.t9, eq_self, if_true, ↓reduceIte, Bool.false_eq_true, if_false, List.getElem?_cons_zero, List.getElem?_cons_succ, List.set_cons_zero, List.set_cons_succ, $as,*])
namespace L2
open PySem PySem.Spec PyProof.Rows
abbrev gJ (d:D):qU:={ nx:=fun _=>d = .non,rt:=fun r=>r=d }
theorem aMd {es:List D}{ns:List Int}:List.zipWith (fun x y=>D.tup [x,y]) es (ns.map D.int)=List.zipWith (fun x n=>D.tup [x,.int n]) es ns:=by
 rw [List.zipWith_map_right]
theorem uK (R:List (List Int)) (n:Int) (j:Nat) (h:j<R.length):cS (R.take (j+1)) n=cS (R.take j) n++(List.range n.toNat).map fun (k:Nat)=>R[j]++[(k:Int)]:=by
 rw [List.take_succ,List.getElem?_eq_getElem h,Option.toList_some,zD,aDx]
theorem zY (ns:List Int) (i:Nat) (h:i<ns.length):aL (ns.take (i+1))=cS (aL (ns.take i)) ns[i]:=by
 rw [List.take_succ,List.getElem?_eq_getElem h,Option.toList_some,mR]
theorem cW {α β:Type}{f:α→β}{l:List α}{i:Nat}{d:β} (e:(l.map f)[i]? = some d):∃ h:i<l.length,d=f l[i]:=by
 rw [List.getElem?_map] at e
 cases e2:l[i]? with
 | none=>rw [e2] at e;cases e
 | some x=>
  rw [e2] at e
  obtain ⟨h,e3⟩:=List.getElem?_eq_some_iff.mp e2
  cases e
  exact ⟨h,by rw [e3]⟩
theorem aBq {ns:List Int} (ho:dO ns=true) {i:Nat} (hi:i<ns.length):1≤ns[i]∧ns[i]≤3∧(aL (ns.take i)).length≤27∧∀ r∈aL (ns.take i),r.length≤3:=by
 obtain ⟨m1,m2⟩:=lD ho
 have h1:=m2 ns[i] (List.getElem_mem hi)
 refine ⟨h1.1,h1.2,(lO (vC ho i)).2,fun r hr=>?_⟩
 rw [(qE hr).1,List.length_take]
 omega
abbrev aGr (p:D→Prop):qU:={ nx:=fun _=>p .non,rt:=p }
theorem oG {c p m:Int} (h:0<m):0≤kH c p m:=Int.emod_nonneg _ (by omega)
theorem oA {c p m:Int} (h:0<m):kH c p m<m:=Int.emod_lt_of_pos _ h
theorem aBQ {c p m:Int} (hp:0<p) (hm:0<m):bU [.int c,.int p,.int m]=some (.int (kH c p m)):=if_pos ⟨hp,hm⟩
theorem okD {ns:List Int} (h1:ns.length≤3) (h2:∀ n∈ns,1≤n∧n≤3):dO ns=true:=by
 unfold dO
 rw [Bool.and_eq_true,decide_eq_true_eq,List.all_eq_true]
 exact ⟨h1,fun n hn=>by simpa using h2 n hn⟩
abbrev aIK (c:Int):D→Prop:=fun d=>∃ ns pay,d=fD ns pay∧gN ns pay∧(c % 3=0→ns=[2,2])
theorem gR (a:Int) (n:Nat):(bW a n).length=n:=by simp [bW]
theorem aKr {ns:List Int} (ho:dO ns=true):dD [aF ns]=some (.lst ((aL ns).map aF)):=gO _ ho
def aB1 (s:List Int×List Int):D:=.tup [aF s.1,aF s.2]
theorem aK1 (q:Rat):((q.den:Int):Rat)≠0:=by
 intro z
 have z2:((q.den:Int):Rat)=((0:Int):Rat):=z
 rw [Rat.intCast_inj] at z2
 have:=q.den_nz
 omega
theorem aBY:∀ ds d,cK ds=some d→nE (gJ d) (bK ["_law_script","_law_k"] ds)
 | [.lst xs,.int k],d,h=>by
  have h:(match cX xs with
   | some ns=>if 0≤k then some (D.int (ns.getD k.toNat 0)) else none
   | none=>none)=some d:=h
  split at h
  ·rename_i ns e
   split at h
   ·rename_i hk
    cases h
    rw [fF e]
    show nE _ [.im (.lst (ns.map D.int)),.im (.int k)]
    simp_arith only [nE,List.getElem?_cons_zero,List.getElem?_cons_succ,List.length_map]
    by_cases hl:k<(ns.length:Int)
    ·have hl':k.toNat<ns.length:=by omega
     simp [hl,gT,ixN,hk,hl']
    ·have hl':ns.length≤k.toNat:=by omega
     simp [hl,hl']
   ·cases h
  ·cases h
theorem aCT:∀ ds d,bU ds=some d→pN (gJ d) (bK ["_law_cell_here","_law_prime","_law_many"] ds)
 | [.int c,.int p,.int m],d,h=>by
  have h:(if 0<p∧0<m then some (D.int (kH c p m)) else none)=some d:=h
  split at h
  ·rename_i hp
   cases h
   show pN _ [.im (.int c),.im (.int p),.im (.int m)]
   simp_arith only [pN,List.getElem?_cons_zero,List.getElem?_cons_succ,kH]
   exact ⟨Or.inr ⟨by decide,by decide⟩,hp.1,hp.2,trivial⟩
  ·cases h
theorem aCq:∀ ds d,dD ds=some d→nD (gJ d) (bK ["_law_deeds","_law_found","_law_many","_law_more","_law_row_here"] ds)
 | [.tup es],d,h=>by
  obtain ⟨ns,rfl,ho,rfl⟩:=jN (show fE es (fun ns=>D.lst ((aL ns).map aF))=some d from h)
  show nD _ [.im (.tup (ns.map D.int)),.un,.un,.un,.un]
  simp_arith only [nD,sF,gB]
  refine ⟨by decide,by decide,fun i δ=>∃ a b c,δ=[.im (.tup (ns.map D.int)),.im (.lst ((aL (ns.take i)).map aF)),a,b,c],⟨.un,.un,.un,rfl⟩,?_,?_⟩
  ·rintro i d δ ed ⟨a,b,c,rfl⟩
   obtain ⟨hi,rfl⟩:=cW ed
   obtain ⟨f1,f2,f3,f4⟩:=aBq ho hi
   generalize hR:aL (ns.take i)=R at *
   generalize hn:ns[i]=n at *
   simp_arith only []
   refine ⟨by decide,fun j δ=>∃ c,δ=[.im (.tup (ns.map D.int)),.im (.lst (R.map aF)),.im (.int n),.ow ((cS (R.take j) n).map aF),c],⟨c,rfl⟩,?_,?_⟩
   ·rintro j d δ ed ⟨c,rfl⟩
    obtain ⟨hj,rfl⟩:=cW ed
    have fr:=f4 R[j] (List.getElem_mem hj)
    have hl:(cS (R.take j) n).length≤81:=by
     rw [mJ,List.length_take]
     exact Nat.le_trans (Nat.mul_le_mul (Nat.le_trans (Nat.min_le_right _ _) f3) (show n.toNat≤3 by omega)) (by decide)
    simp_arith only [cC]
    refine ⟨by omega,?_,fun d=>match d with
     | .int k=>aF (R[j]++[k])
     | _=>.non,fun d hd=>?_,?_,?_⟩
    ·unfold bW
     rw [List.length_map,List.length_range]
     exact b7 (by omega)
    ·unfold bW at hd
     obtain ⟨k,hk,rfl⟩:=List.mem_map.mp hd
     simp_arith only [δc,List.map_cons,List.map_nil,aF,List.length_cons,List.length_nil,List.length_map]
     exact ⟨by decide,b7 (by omega),by rw [List.map_append];rfl⟩
    ·unfold bW
     simp only [List.length_map,List.length_range]
     exact b7 (by omega)
    ·refine ⟨.im (aF R[j]),?_⟩
     rw [uK R n j hj,List.map_append,List.map_map]
     simp [bW,Function.comp_def]
   ·rintro δ ⟨c,rfl⟩
    simp_arith only []
    rw [zY ns i hi,hR,hn,List.length_map,List.take_length]
    exact ⟨_,_,_,rfl⟩
  ·rintro δ ⟨a,b,c,rfl⟩
   simp_arith only []
   rw [List.length_map,List.take_length]
theorem aHg (c:Int) (ns:List Int) (hns:ns.length≤3) (h2:2≤ns.length) (ho:dO ns=true) (h3:c % 3=0→ns=[2,2]) (w:Sl) (pay:List (List Int)) (hp:gN ns pay) (a b d e:Sl) :
  kT (aGr (aIK c)) [.im (.int c),.im (aF ns),w,.ow (pay.map aF),a,b,d,e]:=by
 obtain ⟨l1,l2⟩:=lO ho
 have fin:∀ (pay:List (List Int)) (a b d e:Sl),gN ns pay→kU (aGr (aIK c)) [.im (.int c),.im (aF ns),w,.ow (pay.map aF),a,b,d,e]:=by
  intro pay a b d e hp
  simp_arith only [kU,List.length_cons,List.length_nil]
  exact ⟨by decide,ns,pay,rfl,hp,h3⟩
 simp_arith only [kT]
 refine ⟨by decide,by decide,?_⟩
 by_cases e9:c % 9=0
 ·have e9':(c % 9 == 0)=true:=by simpa using e9
  simp_arith only [e9',cC]
  have e3:ns=[2,2]:=h3 (by omega)
  refine ⟨by decide,by decide,fun x=>match x with
   | .int k=>.int (kH (c+k) 9931 19-9)
   | _=>.non,fun x hx=>?_,?_⟩
  ·unfold bW at hx
   obtain ⟨k,hk,rfl⟩:=List.mem_map.mp hx
   simp_arith only [δc,List.map_cons,List.map_nil,aBQ (show (0:Int)<9931 by decide) (show (0:Int)<19 by decide)]
  ·have em:(bW 0 (4:Int).toNat).map (fun x=>match x with
     | .int k=>D.int (kH (c+k) 9931 19-9)
     | _=>.non)=((List.range 4).map fun (k:Nat)=>kH (c+(0+(k:Int))) 9931 19-9).map D.int:=by
    simp [bW,Function.comp_def]
   rw [em]
   simp only [xK,cP]
   refine ⟨by simp,fun ms hpm hso=>?_⟩
   have hlen:ms.length=4:=by rw [hpm.length_eq];simp
   have hb:∀ x∈ms, -9≤x∧x≤9:=by
    intro x hx
    have hx':=hpm.mem_iff.mp hx
    obtain ⟨k,hk,rfl⟩:=List.mem_map.mp hx'
    have:=oG (c:=c+(0+(k:Int))) (p:=9931) (show (0:Int)<19 by decide)
    have:=oA (c:=c+(0+(k:Int))) (p:=9931) (show (0:Int)<19 by decide)
    omega
   match ms,hlen,hb with
   | [m0,m1,m2,m3],_,hb=>
    have i0:gT ([m0,m1,m2,m3].map D.int) 0=some (.int m0):=rfl
    have i1:gT ([m0,m1,m2,m3].map D.int) 1=some (.int m1):=rfl
    have i2:gT ([m0,m1,m2,m3].map D.int) 2=some (.int m2):=rfl
    have i3:gT ([m0,m1,m2,m3].map D.int) 3=some (.int m3):=rfl
    simp_arith only [i0,i1,i2,i3,List.length_cons,List.length_nil]
    refine ⟨by decide,by decide,by decide,by decide,by decide,?_⟩
    have b0:=hb m0 (by simp)
    have b1:=hb m1 (by simp)
    have b2:=hb m2 (by simp)
    have b3:=hb m3 (by simp)
    refine fin [[m2,m2],[m0,m3],[m3,m0],[m1,m1]] _ _ _ _ ⟨h2,ho,?_,?_⟩
    ·rw [e3];rfl
    ·intro r hr
     rw [e3]
     simp only [List.mem_cons,List.not_mem_nil,or_false] at hr
     rcases hr with rfl | rfl | rfl | rfl <;> refine ⟨rfl,fun x hx=>?_⟩ <;> simp only [List.mem_cons,List.not_mem_nil,or_false] at hx <;> rcases hx with rfl | rfl <;> assumption
 ·have e9':(c % 9 == 0)=false:=by simpa using e9
  simp_arith only [e9']
  exact fin pay a b d e hp
theorem aAL (c:Int) (ns:List Int) (hns:ns.length≤3) (h2:2≤ns.length) (ho:dO ns=true) (h3:c % 3=0→ns=[2,2]) :
  kQ (aGr (aIK c)) [.im (.int c),.im (aF ns),.un,.un,.un,.un,.un,.un]:=by
 obtain ⟨l1,l2⟩:=lO ho
 have w0:=oG (c:=c) (p:=9949) (show (0:Int)<3 by decide)
 have w1:=oA (c:=c) (p:=9949) (show (0:Int)<3 by decide)
 have hw:∃ wd:Int,gT [D.int 2,.int 5,.int 10] (kH c 9949 3)=some (.int wd)∧2≤wd∧wd≤10:=by
  have:kH c 9949 3=0∨kH c 9949 3=1∨kH c 9949 3=2:=by omega
  rcases this with e | e | e <;> rw [e]
  ·exact ⟨2,rfl,by decide,by decide⟩
  ·exact ⟨5,rfl,by decide,by decide⟩
  ·exact ⟨10,rfl,by decide,by decide⟩
 obtain ⟨wd,ew,wd1,wd2⟩:=hw
 simp_arith only [kQ,oU,aBQ (show (0:Int)<9949 by decide) (show (0:Int)<3 by decide),ew,aKr ho,gB,List.length_cons,List.length_nil]
 refine ⟨by decide,by decide,⟨by omega,by rw [List.length_map];omega⟩,fun i δ=>∃ a b d e,∃ pay:List (List Int),δ=[.im (.int c),.im (aF ns),.im (.int wd),.ow (pay.map aF),a,b,d,e]∧pay.length=i∧i≤(aL ns).length∧∀ r∈pay,r.length=ns.length∧∀ x∈r, -9≤x∧x≤9,⟨.un,.un,.un,.un,[],rfl,rfl,Nat.zero_le _,fun r hr=>by simp at hr⟩,?_,?_⟩
 ·rintro i x δ ed ⟨a,b,d,e,pay,rfl,hpl,hil,hpb⟩
  unfold bW at ed
  obtain ⟨hi,rfl⟩:=cW ed
  rw [List.length_range,List.length_map] at hi
  have hi':i<(aL ns).length:=by omega
  simp_arith only [cC,aF,List.length_map,List.getElem_range]
  generalize hsd:c+13 * (0+(i:Int))=sd
  have m1:0<2 * wd-1:=by omega
  refine ⟨Or.inl ⟨by decide,by decide⟩,⟨by omega,by omega⟩,by rw [gR];exact b7 (by omega),fun y=>match y with
   | .int k=>.int (kH (sd+5 * k) 9941 (2 * wd-1)+1-wd)
   | _=>.non,fun y hy=>?_,?_⟩
  ·unfold bW at hy
   obtain ⟨k,hk,rfl⟩:=List.mem_map.mp hy
   simp_arith only [δc,List.map_cons,List.map_nil,aBQ (show (0:Int)<9941 by decide) m1]
   exact ⟨Or.inl ⟨by decide,by decide⟩,Or.inl ⟨by decide,by decide⟩,trivial⟩
  ·have em:(bW 0 (ns.length:Int).toNat).map (fun y=>match y with
     | .int k=>D.int (kH (sd+5 * k) 9941 (2 * wd-1)+1-wd)
     | _=>.non)=((List.range ns.length).map fun (k:Nat)=>kH (sd+5 * (0+(k:Int))) 9941 (2 * wd-1)+1-wd).map D.int:=by
    simp [bW,Function.comp_def]
   rw [em]
   have hrow:∀ x∈(List.range ns.length).map fun (k:Nat)=>kH (sd+5 * (0+(k:Int))) 9941 (2 * wd-1)+1-wd, -9≤x∧x≤9:=by
    intro x hx
    obtain ⟨k,hk,rfl⟩:=List.mem_map.mp hx
    have:=oG (c:=sd+5 * (0+(k:Int))) (p:=9941) m1
    have:=oA (c:=sd+5 * (0+(k:Int))) (p:=9941) m1
    omega
   have hrl:((List.range ns.length).map fun (k:Nat)=>kH (sd+5 * (0+(k:Int))) 9941 (2 * wd-1)+1-wd).length=ns.length:=by simp
   generalize ((List.range ns.length).map fun (k:Nat)=>kH (sd+5 * (0+(k:Int))) 9941 (2 * wd-1)+1-wd)=row at hrow hrl
   have e5:pay.map aF++[D.tup (row.map D.int)]=(pay++[row]).map aF:=by
    rw [List.map_append]
    rfl
   rw [e5]
   refine ⟨cM (by omega),_,_,_,_,_,rfl,by simp [hpl],hi',fun r hr=>?_⟩
   rcases List.mem_append.mp hr with hr | hr
   ·exact hpb r hr
   ·obtain rfl:=List.mem_singleton.mp hr
    exact ⟨hrl,hrow⟩
 ·rintro δ ⟨a,b,d,e,pay,rfl,hpl,hil,hpb⟩
  rw [gR,List.length_map] at hpl
  exact aHg c ns hns h2 ho h3 _ pay ⟨h2,ho,by omega,hpb⟩ a b d e
theorem wW:∀ ds p,dU ds=some p→kA (aGr p) (bK ["_law_cell_here","_law_deeds","_law_wide","_law_pay","_law_k","_law_seed","_law_one","_law_few"] ds)
 | [.int c],p,h=>by
  cases h
  show kA _ [.im (.int c),.un,.un,.un,.un,.un,.un,.un]
  have a0:=oG (c:=c) (p:=9967) (show (0:Int)<4 by decide)
  have a1:=oA (c:=c) (p:=9967) (show (0:Int)<4 by decide)
  unfold kA oO
  simp_arith only [aBQ (show (0:Int)<9967 by decide) (show (0:Int)<4 by decide),cC]
  have n1:2≤2+kH c 9967 4 / 3:=by omega
  have n2:2+kH c 9967 4 / 3≤3:=by omega
  generalize hn:2+kH c 9967 4 / 3=n at *
  refine ⟨⟨by decide,by decide⟩,⟨by omega,by omega⟩,by rw [gR];exact b7 (by omega),fun y=>match y with
   | .int k=>.int (1+kH (c+7 * k) 9973 3)
   | _=>.non,fun y hy=>?_,?_⟩
  ·unfold bW at hy
   obtain ⟨k,hk,rfl⟩:=List.mem_map.mp hy
   simp_arith only [δc,List.map_cons,List.map_nil,aBQ (show (0:Int)<9973 by decide) (show (0:Int)<3 by decide)]
   exact ⟨Or.inl ⟨by decide,by decide⟩,trivial⟩
  ·have em:(bW 0 n.toNat).map (fun y=>match y with
     | .int k=>D.int (1+kH (c+7 * k) 9973 3)
     | _=>.non)=((List.range n.toNat).map fun (k:Nat)=>1+kH (c+7 * (0+(k:Int))) 9973 3).map D.int:=by
    simp [bW,Function.comp_def]
   rw [em]
   refine ⟨by decide,by decide,?_⟩
   by_cases e3:c % 3=0
   ·have e3':(c % 3 == 0)=true:=by simpa using e3
    simp_arith only [e3',List.length_cons,List.length_nil]
    exact ⟨by decide,aAL c [2,2] (by decide) (by decide) (by decide) fun _=>rfl⟩
   ·have e3':(c % 3 == 0)=false:=by simpa using e3
    simp_arith only [e3']
    have hl:((List.range n.toNat).map fun (k:Nat)=>1+kH (c+7 * (0+(k:Int))) 9973 3).length=n.toNat:=by simp
    refine aAL c _ (by omega) (by omega) (okD (by omega) fun x hx=>?_) fun z=>absurd z e3
    obtain ⟨k,hk,rfl⟩:=List.mem_map.mp hx
    have:=oG (c:=c+7 * (0+(k:Int))) (p:=9973) (show (0:Int)<3 by decide)
    have:=oA (c:=c+7 * (0+(k:Int))) (p:=9973) (show (0:Int)<3 by decide)
    omega
theorem aJQ {u l U L:Int} (hl:0<l) (hL:0<L) (hg:Int.gcd u l=1) (h:u * L=U * l):D.tup [.int u,.int l] = .tup [.int (Rat.divInt U L).num,.int ((Rat.divInt U L).den:Int)]:=by
 have e:Rat.divInt U L=Rat.divInt u l:=by
  rw [Rat.divInt_eq_divInt_iff (by omega) (by omega)]
  exact h.symm
 have h1:l.sign=1:=Int.sign_eq_one_of_pos hl
 have h2:l.gcd u=1:=by rw [Int.gcd_comm];exact hg
 rw [e,Rat.num_divInt,Rat.den_divInt,if_neg (by omega),h1,h2]
 simp
 omega
theorem vZ:∀ ds p,dC ds=some p→jC (gJ p) (bK ["_law_cell_here","_law_lower","_law_upper","_law_by"] ds)
 | [.int c],p,h=>by
  cases h
  show jC _ [.im (.int c),.un,.un,.un]
  have a1:0≤kH c 9929 29:=oG (by decide)
  have a2:kH c 9929 29<29:=oA (by decide)
  simp_arith only [jC,iA,nW,nK,aBQ (show (0:Int)<9929 by decide) (show (0:Int)<29 by decide)]
  generalize hl:2+kH c 9929 29=l
  have hpl:zW c=l:=hl
  have l1:2≤l:=by omega
  have l2:l≤30:=by omega
  have m1:0<l-1:=by omega
  simp only [aBQ (show (0:Int)<9923 by decide) m1]
  have b1:0≤kH c 9923 (l-1):=oG m1
  have b2:kH c 9923 (l-1)<l-1:=oA m1
  have key:∀ u:Int,0<u→u<l→aIb c=u→iA (gJ (.tup [.int (aBX c).num,.int ((aBX c).den:Int)])) [.im (.int c),.im (.int l),.im (.int u),.un]:=by
   intro U u1 u2 hU
   have hR:aBX c=Rat.divInt U l:=by unfold aBX;rw [hU,hpl]
   rw [hR]
   have hL:0<l:=by omega
   generalize hLL:l=L at hL hR ⊢
   rw [hLL] at u2 l2
   simp_arith only [iA,gB,jO]
   refine ⟨by decide,fun i δ=>∃ (u l:Int) (z:Sl),δ=[.im (.int c),.im (.int l),.im (.int u),z]∧u * L=U * l∧0<u∧u<l∧l≤30∧∀ d:Int,2≤d→d<2+i→d ∣ u→d ∣ l→False,⟨U,L,.un,rfl,rfl,u1,u2,l2,fun d h1 h2=>by omega⟩,?_,?_⟩
   ·rintro i d δ ed ⟨u,l,z,rfl,hul,u1,u2,l2,hd⟩
    unfold bW at ed
    obtain ⟨hi,rfl⟩:=cW ed
    rw [List.length_range] at hi
    simp_arith only [List.getElem_range]
    generalize hb:(2:Int)+(i:Int)=b at *
    have b1:0<b:=by omega
    refine ⟨fun n δ=>∃ u l:Int,δ=[.im (.int c),.im (.int l),.im (.int u),.im (.int b)]∧n=u.toNat∧u * L=U * l∧0<u∧u<l∧l≤30∧∀ d:Int,2≤d→d<b→d ∣ u→d ∣ l→False,⟨_,u,l,rfl,rfl,hul,u1,u2,l2,fun d h1 h2=>hd d h1 (by omega)⟩,?_⟩
    rintro n δ ⟨u,l,rfl,rfl,hul,u1,u2,l2,hd⟩
    simp_arith only []
    refine ⟨b1,by decide,?_⟩
    by_cases e1:u % b=0
    ·have e1':(u % b == 0)=true:=by simpa using e1
     simp_arith only [e1']
     refine ⟨b1,by decide,?_⟩
     by_cases e2:l % b=0
     ·have e2':(l % b == 0)=true:=by simpa using e2
      simp_arith only [e2']
      have hb2:2≤b:=by omega
      have hb3:b<1073741824:=by omega
      obtain ⟨q,hq⟩:=Int.dvd_of_emod_eq_zero e1
      obtain ⟨r,hr⟩:=Int.dvd_of_emod_eq_zero e2
      have eq1:u / b=q:=by rw [hq];exact Int.mul_ediv_cancel_left _ (by omega)
      have er1:l / b=r:=by rw [hr];exact Int.mul_ediv_cancel_left _ (by omega)
      rw [eq1,er1]
      have q0:0<q:=by
       by_cases z:0<q
       ·exact z
       ·have:=Int.mul_nonpos_of_nonneg_of_nonpos (show 0≤b by omega) (show q≤0 by omega)
        omega
      have qr:q<r:=by
       by_cases z:q<r
       ·exact z
       ·have:=Int.mul_le_mul_of_nonneg_left (show r≤q by omega) (show 0≤b by omega)
        omega
      have qu:q<u:=by
       have:2 * q≤b * q:=Int.mul_le_mul_of_nonneg_right hb2 (by omega)
       omega
      have rl:r≤l:=by
       have:1 * r≤b * r:=Int.mul_le_mul_of_nonneg_right (by omega) (by omega)
       omega
      have hqr:q * L=U * r:=by
       have h5:b * (q * L)=b * (U * r):=by
        rw [← Int.mul_assoc,← hq,hul,hr,← Int.mul_assoc,← Int.mul_assoc,Int.mul_comm U b]
       exact Int.eq_of_mul_eq_mul_left (by omega) h5
      refine ⟨⟨b1,hb3⟩,⟨b1,hb3⟩,q.toNat,by omega,q,r,rfl,rfl,hqr,q0,qr,by omega,fun d h1 h2 h3 h4=>hd d h1 h2 ?_ ?_⟩
      ·rw [hq];exact Int.dvd_trans h3 (Int.dvd_mul_left _ _)
      ·rw [hr];exact Int.dvd_trans h4 (Int.dvd_mul_left _ _)
     ·have e2':(l % b == 0)=false:=by simpa using e2
      simp_arith only [e2']
      refine ⟨u,l,_,rfl,hul,u1,u2,l2,fun d h1 h2 h3 h4=>?_⟩
      by_cases hdb:d=b
      ·subst hdb;exact e2 (Int.emod_eq_zero_of_dvd h4)
      ·exact hd d h1 (by omega) h3 h4
    ·have e1':(u % b == 0)=false:=by simpa using e1
     simp_arith only [e1']
     refine ⟨u,l,_,rfl,hul,u1,u2,l2,fun d h1 h2 h3 h4=>?_⟩
     by_cases hdb:d=b
     ·subst hdb;exact e1 (Int.emod_eq_zero_of_dvd h3)
     ·exact hd d h1 (by omega) h3 h4
   ·rintro δ ⟨u,l,z,rfl,hul,u1,u2,l2,hd⟩
    simp_arith only []
    refine ⟨b7 (by simp),aJQ (by omega) hL ?_ hul⟩
    rw [show (bW 2 ((30:Int)-2).toNat).length=28 from by simp [bW]] at hd
    have g1:(Int.gcd u l:Int) ∣ u:=Int.gcd_dvd_left ..
    have g2:(Int.gcd u l:Int) ∣ l:=Int.gcd_dvd_right ..
    have g3:(Int.gcd u l:Int)≤u:=Int.le_of_dvd u1 g1
    have g4:0<Int.gcd u l:=Int.gcd_pos_of_ne_zero_left _ (by omega)
    by_cases g5:Int.gcd u l=1
    ·exact g5
    ·exact (hd (Int.gcd u l) (by omega) (by omega) g1 g2).elim
  refine ⟨by decide,by decide,?_⟩
  by_cases e1:c % 4=0
  ·have e1':(c % 4 == 0)=true:=by simpa using e1
   simp_arith only [e1']
   exact key _ (by omega) (by omega) (by unfold aIb;rw [if_pos e1,hpl])
  ·have e1':(c % 4 == 0)=false:=by simpa using e1
   simp_arith only [e1']
   exact key _ (by omega) (by omega) (by unfold aIb;rw [if_neg e1,hpl])
theorem aCK:∀ ds d,jJ ds=some d→pJ (gJ d) (bK ["_law_meeting_here","_law_cell_here","_law_some"] ds)
 | [.tup [.tup es,p],.int c],d,h=>by
  obtain ⟨ns,rfl,ho,rfl⟩:=jN (show fE es (fun ns=>aF ((aL ns).getD (kH c 9907 (aL ns).length).toNat []))=some d from h)
  show pJ _ [.im (.tup [.tup (ns.map D.int),p]),.im (.int c),.un]
  obtain ⟨l1,l2⟩:=lO ho
  have hm:(0:Int)<((aL ns).length:Int):=by omega
  have b1:0≤kH c 9907 (aL ns).length:=Int.emod_nonneg _ (by omega)
  have b2:kH c 9907 (aL ns).length<(aL ns).length:=Int.emod_lt_of_pos _ hm
  have b3:(kH c 9907 (aL ns).length).toNat<(aL ns).length:=by omega
  have e1:gT [D.tup (ns.map D.int),p] 0=some (D.tup (ns.map D.int)):=rfl
  have e2:bU [.int c,.int 9907,.int ((((aL ns).map aF).length:Nat):Int)]=some (.int (kH c 9907 (aL ns).length)):=by
   rw [List.length_map]
   exact if_pos ⟨by decide,hm⟩
  have e3:gT ((aL ns).map aF) (kH c 9907 (aL ns).length)=some (aF ((aL ns).getD (kH c 9907 (aL ns).length).toNat [])):=by
   simp [gT,ixN,b1,b2,b3]
  simp_arith only [pJ,uI,e1,dD,gO _ ho,e2,e3]
theorem aAu:∀ ds d,c9 ds=some d→mE (gJ d) (bK ["_law_script","_law_k"] ds)
 | [.lst xs,.int k],d,h=>by
  have h:(match cX xs with
   | some ns=>if 0≤k then some (D.lst ((List.range 4).map fun (n:Nat)=>.int (ns.getD (k.toNat+n) 0))) else none
   | none=>none)=some d:=h
  split at h
  ·rename_i ns e
   split at h
   ·rename_i hk
    cases h
    rw [fF e]
    show mE _ [.im (.lst (ns.map D.int)),.im (.int k)]
    simp_arith only [mE,cC]
    refine ⟨by decide,by decide,fun d=>match d with
     | .int n=>.int (ns.getD (k+n).toNat 0)
     | _=>.non,fun d hd=>?_,?_⟩
    ·unfold bW at hd
     obtain ⟨n,hn,rfl⟩:=List.mem_map.mp hd
     have h0:0≤k+(0+(n:Int)):=by omega
     simp_arith only [δc,List.map_cons,List.map_nil,cK,cP,if_pos h0]
    ·congr 1
     unfold bW
     rw [List.map_map]
     refine List.map_congr_left fun n hn=>?_
     have:(k+(0+(n:Int))).toNat=k.toNat+n:=by omega
     simp only [Function.comp_def,this]
   ·cases h
  ·cases h
theorem aBA:∀ ds p,dR ds=some p→nM (aGr p) (bK ["_law_meeting_here","_law_cells_here","_law_most","_law_many","_law_found","_law_k","_law_cell_here","_law_nexts"] ds)
 | [.tup [.tup es,q],.lst cs,.int m],p,h=>by
  have h':(match cX es,cX cs with
   | some ns,some xs=>if dO ns=true∧xs.length=4∧0<m∧m≤8 then some (fun d=>∃ pl,d=bA pl∧pE ns pl) else none
   | _,_=>none)=some p:=h
  clear h
  split at h'
  ·rename_i ns xs e1 e2
   split at h'
   ·rename_i hh
    obtain ⟨ho,hx,hm0,hm8⟩:=hh
    have e:=Option.some.inj h'
    subst e
    rw [fF e1,fF e2]
    clear h' e1 e2
    match xs,hx with
    | [c0,c1,c2,c3],_=>
     show nM _ [.im (.tup [.tup (ns.map D.int),q]),.im (.lst [.int c0,.int c1,.int c2,.int c3]),.im (.int m),.un,.un,.un,.un,.un]
     obtain ⟨l1,l2⟩:=lO ho
     have m0:=oG (c:=c0) (p:=9901) hm0
     have m1:=oA (c:=c0) (p:=9901) hm0
     have i0:gT [D.int c0,.int c1,.int c2,.int c3] 0=some (.int c0):=rfl
     have j0:gT [D.tup (ns.map D.int),q] 0=some (aF ns):=rfl
     unfold nM r6
     simp_arith only [i0,aBQ (show (0:Int)<9901 by decide) hm0,gB,List.length_cons,List.length_nil]
     generalize hmany:1+kH c0 9901 m=many
     have k1:1≤many:=by omega
     have k2:many≤8:=by omega
     refine ⟨by decide,⟨by omega,by omega⟩,fun i δ=>∃ a b d,∃ pl:List (List Int×List Int),δ=[.im (.tup [.tup (ns.map D.int),q]),.im (.lst [.int c0,.int c1,.int c2,.int c3]),.im (.int m),.im (.int many),.ow (pl.map aB1),a,b,d]∧pl.length=i∧(i:Int)≤many∧∀ s∈pl,s.1∈aL ns∧s.2.length=(aL ns).length∧∀ x∈s.2,0≤x∧x<many,⟨.un,.un,.un,[],rfl,rfl,by omega,fun r hr=>by simp at hr⟩,?_,?_⟩
     ·rintro i x δ ed ⟨a,b,d,pl,rfl,hpl,hil,hpb⟩
      unfold bW at ed
      obtain ⟨hi,rfl⟩:=cW ed
      rw [List.length_range] at hi
      have hcell:∃ cc:Int,gT [D.int c0,.int c1,.int c2,.int c3] (1+(0+(i:Int)) % 3)=some (.int cc):=by
       have:(0+(i:Int)) % 3=0∨(0+(i:Int)) % 3=1∨(0+(i:Int)) % 3=2:=by omega
       rcases this with e | e | e <;> rw [e]
       ·exact ⟨c1,rfl⟩
       ·exact ⟨c2,rfl⟩
       ·exact ⟨c3,rfl⟩
      obtain ⟨cc,hcc⟩:=hcell
      simp_arith only [cC,List.getElem_range,hcc,j0,aKr ho]
      generalize hsd:cc+11 * (0+(i:Int))=sd
      refine ⟨by decide,Or.inl ⟨by decide,by decide⟩,⟨by omega,by rw [List.length_map];omega⟩,by rw [gR,List.length_map];exact b7 (by omega),fun y=>match y with
       | .int k=>.int (kH (sd+3 * k) 9887 many)
       | _=>.non,fun y hy=>?_,?_⟩
      ·unfold bW at hy
       obtain ⟨k,hk,rfl⟩:=List.mem_map.mp hy
       simp_arith only [δc,List.map_cons,List.map_nil,aBQ (show (0:Int)<9887 by decide) (show 0<many by omega)]
       exact ⟨Or.inl ⟨by decide,by decide⟩,trivial⟩
      ·have em:(bW 0 (((aL ns).map aF).length:Int).toNat).map (fun y=>match y with
         | .int k=>D.int (kH (sd+3 * k) 9887 many)
         | _=>.non)=((List.range (aL ns).length).map fun (k:Nat)=>kH (sd+3 * (0+(k:Int))) 9887 many).map D.int:=by
        simp [bW,Function.comp_def]
       rw [em]
       have hrow:∀ x∈(List.range (aL ns).length).map fun (k:Nat)=>kH (sd+3 * (0+(k:Int))) 9887 many,0≤x∧x<many:=by
        intro x hx
        obtain ⟨k,hk,rfl⟩:=List.mem_map.mp hx
        exact ⟨oG (by omega),oA (by omega)⟩
       have hrl:((List.range (aL ns).length).map fun (k:Nat)=>kH (sd+3 * (0+(k:Int))) 9887 many).length=(aL ns).length:=by simp
       generalize ((List.range (aL ns).length).map fun (k:Nat)=>kH (sd+3 * (0+(k:Int))) 9887 many)=nx at hrow hrl
       have er:jJ [.tup [.tup (ns.map D.int),q],.int sd]=some (aF ((aL ns).getD (kH sd 9907 (aL ns).length).toNat [])):=gO _ ho
       simp_arith only [er,List.length_cons,List.length_nil]
       have b1:0≤kH sd 9907 (aL ns).length:=oG (by omega)
       have b2:kH sd 9907 (aL ns).length<(aL ns).length:=oA (by omega)
       have hmem:(aL ns).getD (kH sd 9907 (aL ns).length).toNat []∈aL ns:=by
        have hlt:(kH sd 9907 (aL ns).length).toNat<(aL ns).length:=by omega
        rw [List.getD_eq_getElem?_getD,List.getElem?_eq_getElem hlt]
        exact List.getElem_mem hlt
       generalize (aL ns).getD (kH sd 9907 (aL ns).length).toNat []=rw0 at hmem
       have e5:pl.map aB1++[D.tup [aF rw0,.tup (nx.map D.int)]]=(pl++[(rw0,nx)]).map aB1:=by
        rw [List.map_append]
        rfl
       rw [e5]
       refine ⟨by decide,cM (by rw [List.length_map];omega),_,_,_,_,rfl,by simp [hpl],by omega,fun s hs=>?_⟩
       rcases List.mem_append.mp hs with hs | hs
       ·exact hpb s hs
       ·obtain rfl:=List.mem_singleton.mp hs
        exact ⟨hmem,hrl,hrow⟩
     ·rintro δ ⟨a,b,d,pl,rfl,hpl,hil,hpb⟩
      rw [gR] at hpl hil
      simp_arith only []
      refine ⟨pl,rfl,⟨by omega,by omega⟩,fun s hs=>(hpb s hs).1,fun s hs=>⟨(hpb s hs).2.1,fun x hx=>?_⟩⟩
      have:=(hpb s hs).2.2 x hx
      omega
   ·cases h'
  ·cases h'
section
variable {nn:Nat}{pl:Pl}
theorem aJ0 (hp:bQ nn pl) (hl:pl.length≤10):cR [bA pl]=some (bA (qK pl)):=by
 simp only [cR,iQ]
 exact if_pos ⟨by rw [hp.of_nn];exact hp,hl⟩
theorem aGm (l:List Int):qQ (l.map D.int)=l.zipIdx.map fun x=>D.tup [.int (x.2:Int),.int x.1]:=by
 refine List.ext_getElem? fun i=>?_
 rw [qJ,List.getElem?_map,List.getElem?_map,List.getElem?_zipIdx]
 cases l[i]? <;> simp
theorem aCG {α β:Type} (l:List α) (f:α→β) {i:Nat} (hi:i<l.length):(l.take (i+1)).map f=(l.take i).map f++[f l[i]]:=by
 rw [List.take_succ,List.getElem?_eq_getElem hi,Option.toList_some,List.map_append]
 rfl
end
theorem wS:∀ ds d,cR ds=some d→kG (gJ d) (bK ["_law_plan_here","_law_found","_law_row_here","_law_nexts"] ds)
 | [p],res,h=>by
  simp only [cR] at h
  split at h
  ·rename_i pl e1
   split at h
   ·rename_i hh
    obtain ⟨hp,hl⟩:=hh
    cases h
    rw [gH e1]
    clear e1
    show kG _ [.im (bA pl),.un,.un,.un]
    simp_all_arith only [kG,oH,oR,List.length_nil,gB]
    refine ⟨by decide,fun i δ=>∃ a2 a3,δ=[.im (bA pl),.ow (((pl.take i).map fun st=>(st.1,st.2.zipIdx.map fun x=>x.1+(pl.length:Int) * ((x.2:Int) % 2))).map fun s=>D.tup [aF s.1,aF s.2]),a2,a3],⟨_,_,rfl⟩,?_,?_⟩
    ·rintro i x δ ed ⟨a2,a3,rfl⟩
     obtain ⟨hi,rfl⟩:=cW ed
     have hn:=hp.nexts _ (List.getElem_mem hi)
     have hc:=hp.cnt
     generalize hst:pl[i]=st at *
     simp_all_arith only [nR,cC,aGm,δc,List.map_cons,List.map_nil,List.length_map]
     refine ⟨by rw [List.length_zipIdx];exact b7 (by omega),fun y=>match y with
      | .tup [.int k,.int z]=>.int (z+(pl.length:Int) * (k % 2))
      | _=>.non,fun y hy=>?_,by simp only [List.length_cons,List.length_nil];decide,?_,.im (aF st.1),.im (aF st.2),?_⟩
     ·obtain ⟨z,hz,rfl⟩:=List.mem_map.mp hy
      simp only [u0,jA,aFh]
      exact ⟨by decide,.inl ⟨by omega,by omega⟩,trivial⟩
     ·rw [List.length_take]
      exact cM (by omega)
     ·rw [aCG pl _ hi,hst,List.map_append]
      simp only [aF,List.map_cons,List.map_nil,List.map_map,Function.comp_def]
    ·rintro δ ⟨a2,a3,rfl⟩
     rw [List.length_map,List.take_length]
     simp_all_arith only [gB]
     refine ⟨fun i δ=>∃ a2 a3,δ=[.im (bA pl),.ow ((((pl.map fun st=>(st.1,st.2.zipIdx.map fun x=>x.1+(pl.length:Int) * ((x.2:Int) % 2))))++(pl.take i).map fun st=>(st.1,st.2.map fun x=>x+(pl.length:Int) * (x % 2))).map fun s=>D.tup [aF s.1,aF s.2]),a2,a3],⟨a2,a3,by simp⟩,?_,?_⟩
     ·rintro i x δ ed ⟨a2,a3,rfl⟩
      obtain ⟨hi,rfl⟩:=cW ed
      have hn:=hp.nexts _ (List.getElem_mem hi)
      have hc:=hp.cnt
      generalize hst:pl[i]=st at *
      simp_all_arith only [n6,cC,δc,List.map_cons,List.map_nil,List.length_map]
      refine ⟨b7 (by omega),fun y=>match y with
       | .int z=>.int (z+(pl.length:Int) * (z % 2))
       | _=>.non,fun y hy=>?_,by simp only [List.length_cons,List.length_nil];decide,?_,.im (aF st.1),.im (aF st.2),?_⟩
      ·obtain ⟨z,hz,rfl⟩:=List.mem_map.mp hy
       simp only [u0,jA,aFh]
       exact ⟨by decide,.inl ⟨by omega,by omega⟩,trivial⟩
      ·rw [List.length_append,List.length_map,List.length_map,List.length_take]
       exact cM (by omega)
      ·rw [aCG pl _ hi,hst,← List.append_assoc,List.map_append (l₂:=[_])]
       simp only [aF,List.map_cons,List.map_nil,List.map_map,Function.comp_def]
     ·rintro δ ⟨a2,a3,rfl⟩
      rw [List.length_map,List.take_length]
      simp_all_arith only []
      rfl
   ·cases h
  ·cases h
section
variable {nn:Nat}{pl:Pl}{s:Nat}
theorem aKp (hp:bQ nn pl) (hs:s<pl.length):eX [bA pl,.int s]=some (bA (pQ pl s)):=by
 simp only [eX,iQ]
 exact if_pos ⟨by rw [hp.of_nn];exact hp,by omega,by omega⟩
theorem nV (hs:s<pl.length):gT (pl.map fun s=>D.tup [aF s.1,aF s.2]) (s:Int)=some (.tup [aF (aY pl s),aF (pl.getD s ([],[])).2]):=by
 rw [aB2 (by rw [List.length_map];exact hs),List.getElem_map]
 unfold aY
 rw [b6 hs]
def e6 (l:List Nat):List Int:=l.map fun (k:Nat)=>(k:Int)
theorem yY (k:Nat):∀ {l:List Nat},k∈l→oZ ((e6 l).map fun x=>x == (k:Int))=some (l.idxOf k)
 | [],h=>by cases h
 | a::l,h=>by
  by_cases e:a=k
  ·subst e
   simp [e6,oZ]
  ·have hm:k∈l:=by
    rcases List.mem_cons.mp h with z | z
    ·exact absurd z.symm e
    ·exact z
   have ih:=yY k hm
   have eb:((a:Int) == (k:Int))=false:=by simp;omega
   have ec:(a == k)=false:=by simpa using e
   show oZ (((a:Int) == (k:Int))::(e6 l).map fun x=>x == (k:Int))=some ((a::l).idxOf k)
   rw [eb,List.idxOf_cons,ec,oZ,ih]
   rfl
theorem aC3 (n s:Nat):(((List.range n).map fun (k:Nat)=>D.int (0+(k:Int))).filter fun d=>match d with
  | .int k=>k != (s:Int)
  | _=>false).map (fun d=>d)=(e6 ((List.range n).filter fun k=>k != s)).map D.int:=by
 rw [List.map_id',List.filter_map,e6,List.map_map]
 have:((fun d=>match d with
  | D.int k=>k != (s:Int)
  | _=>false) ∘ fun (k:Nat)=>D.int (0+(k:Int)))=fun k=>k != s:=by
  funext k
  show ((0+(k:Int)) != (s:Int))=(k != s)
  rw [Int.zero_add,Bool.eq_iff_iff]
  simp
  omega
 rw [this]
 refine List.map_congr_left fun k _=>?_
 show D.int (0+(k:Int))=D.int (k:Int)
 rw [Int.zero_add]
end
theorem aBV:∀ ds d,eX ds=some d→nQ (gJ d) (bK ["_law_plan_here","_law_state","_law_order"] ds)
 | [p,.int z],res,h=>by
  simp only [eX] at h
  split at h
  ·rename_i pl e1
   split at h
   ·rename_i hh
    obtain ⟨hp,h0,hl⟩:=hh
    cases h
    obtain ⟨s,rfl⟩:∃ s:Nat,z=(s:Int):=⟨z.toNat,by omega⟩
    have hs:s<pl.length:=by omega
    rw [gH e1,Int.toNat_natCast]
    clear e1
    have f20:=hp.few.2
    show nQ _ [.im (bA pl),.im (.int s),.un]
    simp_arith! only [nQ,sA,List.length_cons,List.length_nil,List.length_map,pG,gR]
    refine ⟨by decide,⟨by omega,by omega⟩,b7 (by omega),fun d=>match d with
     | .int k=>k != (s:Int)
     | _=>false,fun d=>d,fun d hd=>?_,?_⟩
    ·unfold bW at hd
     obtain ⟨k,hk,rfl⟩:=List.mem_map.mp hd
     simp_arith! only [δc,List.map_cons,List.map_nil]
     exact ⟨by decide,rfl,fun _=>trivial⟩
    ·unfold bW
     rw [Int.toNat_natCast,aC3]
     have eo:[D.int (s:Int)]++(e6 ((List.range pl.length).filter fun k=>k != s)).map D.int=(e6 (pB pl.length s)).map D.int:=rfl
     rw [eo]
     have ol:=wL hs
     have fl:=List.length_filter_le (fun d=>match d with
       | D.int k=>k != (s:Int)
       | x=>false) (List.map (fun (k:Nat)=>D.int (0+(k:Int))) (List.range pl.length))
     rw [List.length_map,List.length_range] at fl
     refine ⟨b7 (by omega),?_⟩
     simp_arith! only [cC,List.length_map]
     refine ⟨by unfold e6;rw [List.length_map,ol];exact b7 (by omega),fun d=>match d with
      | .int k=>.tup [aF (aY pl k.toNat),aF ((pl.getD k.toNat ([],[])).2.map fun x=>(((pB pl.length s).idxOf x.toNat:Nat):Int))]
      | _=>.non,fun d hd=>?_,?_⟩
     ·obtain ⟨k',hk',rfl⟩:=List.mem_map.mp hd
      obtain ⟨k,hk,rfl⟩:=List.mem_map.mp (show k'∈(pB pl.length s).map fun (k:Nat)=>(k:Int) from hk')
      have hkl:=(lB hs).mp hk
      have hm:pl.getD k ([],[])∈pl:=by rw [b6 hkl];exact List.getElem_mem hkl
      have hn:=hp.nexts _ hm
      have hc:=hp.cnt
      have e0:gT [aF (aY pl k),aF (pl.getD k ([],[])).2] 0=some (aF (aY pl k)):=rfl
      have e1:gT [aF (aY pl k),aF (pl.getD k ([],[])).2] 1=some (aF (pl.getD k ([],[])).2):=rfl
      simp_arith! only [δc,List.map_cons,List.map_nil,nV hkl,e0,e1,List.length_map]
      refine ⟨b7 (by omega),fun d=>match d with
       | .int x=>.int (((pB pl.length s).idxOf x.toNat:Nat):Int)
       | _=>.non,fun d hd=>?_,by simp only [List.length_cons,List.length_nil];decide,?_⟩
      ·obtain ⟨x,hx,rfl⟩:=List.mem_map.mp hd
       have bx:=hn.2 x hx
       obtain ⟨y,rfl⟩:∃ y:Nat,x=(y:Int):=⟨x.toNat,by omega⟩
       have hy:y∈pB pl.length s:=(lB hs).mpr (by omega)
       simp_arith! only [aEw,aAP,rB,yY y hy,Int.toNat_natCast]
       exact ⟨by decide,trivial⟩
      ·simp only [aF,List.map_map,Function.comp_def,Int.toNat_natCast]
     ·simp only [pQ,bA,aF,e6,List.map_map,Function.comp_def,Int.toNat_natCast]
   ·cases h
  ·cases h
def iE (x:Nat×Nat):D:=.tup [.int (x.1:Int),.int (x.2:Int)]
theorem aGs (a b:Nat×Nat):j7 (iE a) (iE b)=some (a == b):=by
 have:=rQ [(a.1:Int),(a.2:Int)] [(b.1:Int),(b.2:Int)]
 refine this.trans ?_
 congr 1
 rw [Bool.eq_iff_iff]
 simp [Prod.ext_iff]
 omega
theorem yA (x:Nat×Nat):∀ l:List (Nat×Nat),vT (iE x) (l.map iE)=some (l.map fun y=>y == x)
 | []=>rfl
 | y::l=>by
  rw [List.map_cons,vT,aGs,yA x l]
  rfl
theorem yM:∀ l:List (Nat×Nat),iV (l.map iE)≤1
 | []=>by rw [List.map_nil,iV];omega
 | x::l=>by
  rw [List.map_cons,iV]
  have:=yM l
  have e:l5 (iE x)=1:=kM [(x.1:Int),(x.2:Int)]
  omega
theorem aFJ (x:Nat×Nat) (l:List (Nat×Nat)):(l.map fun y=>y == x).any id=l.contains x:=by
 induction l with
 | nil=>rfl
 | cons y l ih=>rw [List.map_cons,List.any_cons,ih,List.contains_cons,id];rw [Bool.beq_comm]
theorem aA9:∀ l:List (Nat×Nat),aAC (l.map iE)=true
 | []=>rfl
 | x::l=>by
  rw [List.map_cons,aAC,aA9 l]
  rfl
theorem aDn {α:Type} (g h:α→D):∀ l:List α,List.zipWith (fun x y=>D.tup [x,y]) (l.map g) (l.map h)=l.map fun a=>D.tup [g a,h a]
 | []=>rfl
 | a::l=>by rw [List.map_cons,List.map_cons,List.zipWith_cons_cons,aDn g h l];rfl
structure AlI (nn:Nat) (p q:Pl) (L S:List (Nat×Nat)):Prop where
 rng:∀ x,x∈L∨x∈S→x.1<p.length∧x.2<q.length
 good:bB nn p 0=bB nn q 0→∀ x,x∈L∨x∈S→bB nn p x.1=bB nn q x.2
 clo:∀ x∈S,aY p x.1=aY q x.2∧∀ j:Fin nn,(pZ p x.1 j.val,pZ q x.2 j.val)∈S∨(pZ p x.1 j.val,pZ q x.2 j.val)∈L
 root:(0,0)∈L∨(0,0)∈S
def aGo (p q:Pl):List (Nat×Nat):=(List.range (p.length * q.length)).map fun k=>(k / q.length,k % q.length)
def un (p q:Pl) (S:List (Nat×Nat)):Nat:=((aGo p q).filter fun x=>!S.contains x).length
section
variable {nn:Nat}{p q:Pl}{L S:List (Nat×Nat)}{x:Nat×Nat}
theorem aHI (h1:x.1<p.length) (h2:x.2<q.length):x∈aGo p q:=by
 refine List.mem_map.mpr ⟨x.1 * q.length+x.2,List.mem_range.mpr (aCb h1 h2),?_⟩
 have c:=yK (a:=x.1) h2
 rw [c.1,c.2]
theorem aKh (hp:bQ nn p) (hq:bQ nn q):un p q []≤400:=by
 unfold un
 refine Nat.le_trans (List.length_filter_le _ _) ?_
 unfold aGo
 rw [List.length_map,List.length_range]
 exact Nat.mul_le_mul hp.few.2 hq.few.2
theorem aJW (h1:x.1<p.length) (h2:x.2<q.length) (hx:x∉S):un p q (S++[x])+1≤un p q S:=by
 unfold un
 have e:((aGo p q).filter fun y=>!(S++[x]).contains y)=((aGo p q).filter fun y=>!S.contains y).filter fun y=>y != x:=by
  rw [List.filter_filter]
  refine List.filter_congr fun y _=>?_
  rw [Bool.eq_iff_iff]
  simp
  exact And.comm
 rw [e]
 have:=(List.length_filter_lt_length_iff_exists (l:=(aGo p q).filter fun y=>!S.contains y) (p:=fun y=>y != x)).mpr ⟨x,List.mem_filter.mpr ⟨aHI h1 h2,by simpa using hx⟩,by simp⟩
 omega
theorem AlI.start (hp:bQ nn p) (hq:bQ nn q):AlI nn p q [(0,0)] []:=by
 refine ⟨fun x hx=>?_,fun h x hx=>?_,fun x hx=>absurd hx (by simp),.inl (by simp)⟩
 ·have:x=(0,0):=by simpa using hx
  subst this
  exact ⟨hp.few.1,hq.few.1⟩
 ·have:x=(0,0):=by simpa using hx
  subst this
  exact h
theorem AlI.old (h:AlI nn p q (L++[x]) S) (hx:x∈S):AlI nn p q L S:=by
 have sub:∀ y,y∈L++[x]∨y∈S→y∈L∨y∈S:=fun y hy=>by
  rcases hy with z | z
  ·rcases List.mem_append.mp z with z | z
   ·exact .inl z
   ·rw [List.mem_singleton.mp z];exact .inr hx
  ·exact .inr z
 have sup:∀ y,y∈L∨y∈S→y∈L++[x]∨y∈S:=fun y hy=>hy.imp (List.mem_append_left _) id
 refine ⟨fun y hy=>h.rng y (sup y hy),fun e y hy=>h.good e y (sup y hy),fun y hy=>⟨(h.clo y hy).1,fun j=>?_⟩,sub _ h.root⟩
 exact (sub _ ((h.clo y hy).2 j).symm).symm
theorem AlI.more (hp:bQ nn p) (hq:bQ nn q) (h:AlI nn p q (L++[x]) S) (hr:aY p x.1=aY q x.2):AlI nn p q (L++(List.finRange nn).map fun j=>(pZ p x.1 j.val,pZ q x.2 j.val)) (S++[x]):=by
 have hx:=h.rng x (.inl (by simp))
 have old:∀ y,y∈L++[x]∨y∈S→y∈L++((List.finRange nn).map fun j=>(pZ p x.1 j.val,pZ q x.2 j.val))∨y∈S++[x]:=fun y hy=>by
  rcases hy with z | z
  ·rcases List.mem_append.mp z with z | z
   ·exact .inl (List.mem_append_left _ z)
   ·exact .inr (List.mem_append_right _ z)
  ·exact .inr (List.mem_append_left _ z)
 have cases':∀ y,y∈L++((List.finRange nn).map fun j=>(pZ p x.1 j.val,pZ q x.2 j.val))∨y∈S++[x]→(y∈L++[x]∨y∈S)∨∃ j:Fin nn,y=(pZ p x.1 j.val,pZ q x.2 j.val):=fun y hy=>by
  rcases hy with z | z
  ·rcases List.mem_append.mp z with z | z
   ·exact .inl (.inl (List.mem_append_left _ z))
   ·obtain ⟨j,_,e⟩:=List.mem_map.mp z
    exact .inr ⟨j,e.symm⟩
  ·rcases List.mem_append.mp z with z | z
   ·exact .inl (.inr z)
   ·exact .inl (.inl (List.mem_append_right _ z))
 refine ⟨fun y hy=>?_,fun e y hy=>?_,fun y hy=>?_,old _ h.root⟩
 ·rcases cases' y hy with z | ⟨j,rfl⟩
  ·exact h.rng y z
  ·exact ⟨mK hp hx.1 j,mK hq hx.2 j⟩
 ·rcases cases' y hy with z | ⟨j,rfl⟩
  ·exact h.good e y z
  ·exact zH (h.good e x (.inl (by simp))) j
 ·rcases List.mem_append.mp hy with z | z
  ·exact ⟨(h.clo y z).1,fun j=>(old _ ((h.clo y z).2 j).symm).symm⟩
  ·rw [List.mem_singleton.mp z]
   exact ⟨hr,fun j=>.inr (List.mem_append_right _ (List.mem_map.mpr ⟨j,List.mem_finRange j,rfl⟩))⟩
theorem AlI.yes (h:AlI nn p q [] S):bB nn p 0=bB nn q 0:=by
 refine aCk (fun a b=>(a,b)∈S) (fun a b hab=>⟨(h.clo _ hab).1,fun j=>?_⟩) ?_
 ·rcases (h.clo _ hab).2 j with z | z
  ·exact z
  ·cases z
 ·rcases h.root with z | z
  ·cases z
  ·exact z
theorem aAX (hp:bQ nn p) (hq:bQ nn q):open Classical in cZ [bA p,bA q]=some (.bl (decide (bB nn p 0=bB nn q 0))):=by
 have e:=hp.of_nn
 subst e
 simp only [cZ,iQ]
 exact if_pos ⟨hp,hq⟩
end
open Classical in
theorem aAv:∀ ds d,cZ ds=some d→mB (gJ d) (bK ["_law_one","_law_other","_law_left","_law_seen","_law_pair"] ds)
 | [a,b],res,h=>by
  simp only [cZ] at h
  split at h
  ·rename_i p q e1 e2
   split at h
   ·rename_i hh
    obtain ⟨hp,hq⟩:=hh
    cases h
    rw [gH e1,gH e2]
    clear e1 e2
    generalize lU p=nn at *
    show mB _ [.im (bA p),.im (bA q),.un,.un,.un]
    have hc:=hp.cnt
    simp_arith! only [mB,qL,List.length_cons,List.length_nil,jO]
    refine ⟨by decide,by decide,by decide,fun n δ=>∃ L S a4,δ=[.im (bA p),.im (bA q),.ow (L.map iE),.ow (S.map iE),a4]∧AlI nn p q L S∧n=L.length+28 * un p q S∧n≤11201∧S.length+un p q S≤400,
     ⟨_,[(0,0)],[],.un,rfl,AlI.start hp hq,rfl,by have:=aKh hp hq;simp;omega,by have:=aKh hp hq;simpa using this⟩,?_⟩
    rintro n δ ⟨L,S,a4,rfl,I,rfl,hn,hS⟩
    rcases List.eq_nil_or_concat L with rfl | ⟨L',x,rfl⟩
    ·simp_arith! only [List.map_nil,List.isEmpty_nil,Bool.not_true]
     show D.bl true=D.bl _
     rw [decide_eq_true I.yes]
    ·rw [List.concat_eq_append] at *
     have eL:(L'++[x]).map iE=L'.map iE++[iE x]:=by rw [List.map_append];rfl
     have hx:=I.rng x (.inl (by simp))
     rw [List.length_append,List.length_singleton] at hn
     have e0:gT [D.int (x.1:Int),.int (x.2:Int)] 0=some (.int (x.1:Int)):=rfl
     have e1:gT [D.int (x.1:Int),.int (x.2:Int)] 1=some (.int (x.2:Int)):=rfl
     have gl:(L'.map iE++[iE x])[(L'.map iE++[iE x]).length-1]? = some (iE x):=by simp
     have ne:(L'.map iE++[iE x]).isEmpty=false:=by simp
     rw [eL]
     simp_arith! only [ne,Bool.not_false,pP,aJi,gl,List.dropLast_concat,aB0,sB,yA,aFJ]
     refine ⟨by have:=yM S;omega,?_⟩
     cases hm:S.contains x with
     | true=>
      have hxS:x∈S:=by simpa using hm
      simp_arith! only [Bool.not_true]
      refine ⟨_,?_,L',S,_,rfl,I.old hxS,rfl,by omega,hS⟩
      rw [List.length_append,List.length_singleton]
      omega
     | false=>
      have hxS:x∉S:=fun z=>by
       have:S.contains x=true:=by simpa using z
       rw [hm] at this
       cases this
      have hu:=aJW hx.1 hx.2 hxS
      have f0:∀ (pl:Pl) (s:Nat),gT [aF (aY pl s),aF (pl.getD s ([],[])).2] 0=some (aF (aY pl s)):=fun _ _=>rfl
      have f1:∀ (pl:Pl) (s:Nat),gT [aF (aY pl s),aF (pl.getD s ([],[])).2] 1=some (aF (pl.getD s ([],[])).2):=fun _ _=>rfl
      have px:iE x=D.tup [.int (x.1:Int),.int (x.2:Int)]:=rfl
      have eS:S.map iE++[iE x]=(S++[x]).map iE:=by rw [List.map_append];rfl
      simp_arith! only [Bool.not_false,List.length_map]
      rw [eS,px]
      simp_arith! only [e0,e1,nV hx.1,nV hx.2,f0,f1,rQ,kM]
      refine ⟨cM (by omega),?_⟩
      refine ⟨by rw [rB];decide,?_⟩
      by_cases hr:aY p x.1=aY q x.2
      ·have eb:(!aY p x.1 == aY q x.2)=false:=by simp [hr]
       have ez:List.zipWith (fun x y=>D.tup [x,y]) ((p.getD x.1 ([],[])).2.map D.int) ((q.getD x.2 ([],[])).2.map D.int)=((List.finRange nn).map fun j=>(pZ p x.1 j.val,pZ q x.2 j.val)).map iE:=by
        rw [gW hp hx.1,gW hq hx.2,List.map_map,List.map_map,aDn,List.map_map]
        rfl
       have l1:(p.getD x.1 ([],[])).2.length=nn:=by rw [gW hp hx.1];simp
       have l2:(q.getD x.2 ([],[])).2.length=nn:=by rw [gW hq hx.2];simp
       rw [eb]
       simp_arith! only [yT,e0,e1,nV hx.1,nV hx.2,f0,f1,ez,List.length_map,l1,l2,List.length_finRange]
       rw [← List.map_append]
       refine ⟨by omega,Nat.le_trans (m:=20000) (by omega) (by decide),aA9 _,_,?_,_,_,_,rfl,I.more hp hq hr,rfl,?_,?_⟩
       ·rw [List.length_append,List.length_append,List.length_map,List.length_finRange,List.length_singleton]
        omega
       ·rw [List.length_append,List.length_map,List.length_finRange]
        omega
       ·rw [List.length_append,List.length_singleton]
        omega
      ·have eb:(!aY p x.1 == aY q x.2)=true:=by simp [hr]
       rw [if_pos eb,decide_eq_false]
       intro e
       exact hr (rD (I.good e x (.inl (by simp))))
   ·cases h
  ·cases h
section
variable {nn:Nat}{pl:Pl}
theorem aG2 (hp:bQ nn pl):eQ [bA pl]=some (bA (eW (bB nn pl 0))):=by
 have e:=hp.of_nn
 subst e
 simp only [eQ,iQ]
 exact if_pos hp
theorem aMn (l:List Nat):qQ ((e6 l).map D.int)=l.zipIdx.map fun x=>D.tup [.int (x.2:Int),.int (x.1:Int)]:=by
 refine List.ext_getElem? fun i=>?_
 rw [qJ,List.getElem?_map,List.getElem?_map,List.getElem?_zipIdx,e6,List.getElem?_map]
 cases l[i]? <;> simp
open Classical in
noncomputable def mX (nn:Nat) (pl:Pl) (l:List Nat) (m:Nat) (b:m7 nn):List Nat:=((l.zipIdx m).filter fun x=>decide (bB nn pl x.1=b)).map fun x=>x.2
open Classical in
theorem y4 (b:m7 nn):∀ (l:List Nat) (m:Nat),(mX nn pl l m b).head? = if b∈l.map (bB nn pl) then some (m+(l.map (bB nn pl)).idxOf b) else none
 | [],m=>by simp [mX]
 | a::l,m=>by
  have ih:=y4 b l (m+1)
  by_cases e:bB nn pl a=b
  ·have h1:mX nn pl (a::l) m b=m::mX nn pl l (m+1) b:=by simp [mX,e]
   rw [h1,List.head?_cons,if_pos (by simp [e]),List.map_cons,List.idxOf_cons]
   simp [e]
  ·have h1:mX nn pl (a::l) m b=mX nn pl l (m+1) b:=by simp [mX,e]
   have e':¬ b=bB nn pl a:=fun z=>e z.symm
   have eb:(bB nn pl a == b)=false:=by simpa using e
   rw [h1,ih,List.map_cons,List.idxOf_cons,eb]
   by_cases hm:b∈l.map (bB nn pl)
   ·rw [if_pos hm,if_pos (List.mem_cons_of_mem _ hm)]
    congr 1
    show m+1+_=m+(_+1)
    omega
   ·rw [if_neg hm,if_neg (fun z=>by
     rcases List.mem_cons.mp z with z | z
     ·exact e' z
     ·exact hm z)]
theorem aF0 (s:List Int×List Int):noL (.tup [aF s.1,aF s.2])=true:=by
 have h1:=qY s.1
 have h2:=qY s.2
 simp only [noL,aAC,h1,h2,Bool.and_self]
theorem aIx (hp:bQ nn pl) {os:List Nat}{new:List Int}{t:Nat}{rows:List D}{row nx a7:Sl} (hos:∀ o∈os,o<pl.length) (hol:os.length≤20) (hnew:new.length<27) (ht:t<pl.length) {De:qU}
  (hn:∀ os' a7,(∀ o∈os',o<pl.length)→os'.map (bB nn pl)=pY (os.map (bB nn pl)) (bB nn pl t)→open Classical in De.nx [.im (bA pl),.ow ((e6 os').map D.int),.ow rows,row,nx,.ow ((new++[((pY (os.map (bB nn pl)) (bB nn pl t)).idxOf (bB nn pl t):Int)]).map D.int),.im (.int t),a7]) :
  mZ De [.im (bA pl),.ow ((e6 os).map D.int),.ow rows,row,nx,.ow (new.map D.int),.im (.int t),a7]:=by
 classical
 simp_arith! only [mZ,pG,aMn,List.length_map,List.length_zipIdx]
 refine ⟨b7 (by omega),fun d=>match d with
  | .tup [.int k,.int o]=>decide (bB nn pl o.toNat=bB nn pl t)
  | _=>false,fun d=>match d with
  | .tup [.int k,.int o]=>.int k
  | _=>.non,fun d hd=>?_,?_⟩
 ·obtain ⟨x,hx,rfl⟩:=List.mem_map.mp hd
  have hm:x.1∈os:=(List.mem_zipIdx' (x:=x.1) (i:=x.2) hx).2 ▸ List.getElem_mem _
  have h1:=hos _ hm
  obtain ⟨f1,f2⟩:=aFw hp h1
  obtain ⟨g1,g2⟩:=aFw hp ht
  have ea:=aAX f1 g1
  rw [f2,g2] at ea
  simp_arith! only [δc,List.map_cons,List.map_nil,aKp hp h1,aKp hp ht,ea,Int.toNat_natCast]
  exact ⟨trivial,fun _=>trivial⟩
 ·have ek:((os.zipIdx.map fun x=>D.tup [.int (x.2:Int),.int (x.1:Int)]).filter fun d=>match d with
    | .tup [.int k,.int o]=>decide (bB nn pl o.toNat=bB nn pl t)
    | _=>false).map (fun d=>match d with
    | .tup [.int k,.int o]=>D.int k
    | _=>.non)=(e6 (mX nn pl os 0 (bB nn pl t))).map D.int:=by
   rw [List.filter_map,List.map_map,e6,mX,List.map_map,List.map_map]
   rfl
  rw [ek]
  have hh:=y4 (pl:=pl) (bB nn pl t) os 0
  by_cases hm:bB nn pl t∈os.map (bB nn pl)
  ·rw [if_pos hm,Nat.zero_add] at hh
   obtain ⟨l,el⟩:∃ l,mX nn pl os 0 (bB nn pl t)=(os.map (bB nn pl)).idxOf (bB nn pl t)::l:=by
    cases e:mX nn pl os 0 (bB nn pl t) with
    | nil=>rw [e] at hh;cases hh
    | cons a l=>rw [e] at hh;cases hh;exact ⟨l,rfl⟩
   have eadd:pY (os.map (bB nn pl)) (bB nn pl t)=os.map (bB nn pl):=if_pos hm
   have:=hn os (.im (.lst ((e6 (mX nn pl os 0 (bB nn pl t))).map D.int))) hos eadd.symm
   rw [eadd] at this
   rw [el] at this ⊢
   have e0:gT (((e6 ((os.map (bB nn pl)).idxOf (bB nn pl t)::l))).map D.int) 0=some (.int ((os.map (bB nn pl)).idxOf (bB nn pl t):Nat)):=xI (j:=0) (by rw [e6];rfl)
   have ne:((e6 ((os.map (bB nn pl)).idxOf (bB nn pl t)::l)).map D.int).isEmpty=false:=rfl
   simp_arith! only [ne,Bool.not_false,Bool.not_true,e0,List.length_map]
   refine ⟨qY _,cM (by omega),?_⟩
   rw [List.map_append] at this
   exact this
  ·rw [if_neg hm] at hh
   have el:mX nn pl os 0 (bB nn pl t)=[]:=by
    cases e:mX nn pl os 0 (bB nn pl t) with
    | nil=>rfl
    | cons a l=>rw [e] at hh;cases hh
   have eadd:pY (os.map (bB nn pl)) (bB nn pl t)=(os++[t]).map (bB nn pl):=by
    unfold pY
    rw [if_neg hm,List.map_append]
    rfl
   have ei:((os++[t]).map (bB nn pl)).idxOf (bB nn pl t)=os.length:=by
    rw [List.map_append,List.idxOf_append,if_neg hm,List.map_cons,List.idxOf_cons]
    simp
   have:=hn (os++[t]) (.im (.lst [.int (os.length:Int)])) (fun o ho=>by
    rcases List.mem_append.mp ho with z | z
    ·exact hos o z
    ·rw [List.mem_singleton.mp z];exact ht) eadd.symm
   rw [eadd,ei] at this
   rw [el]
   have e0:gT [D.int (os.length:Int)] 0=some (.int (os.length:Int)):=rfl
   have il:(e6 os).length=os.length:=by simp [e6]
   simp_arith! only [e6,List.map_nil,List.isEmpty_nil,Bool.not_false,Bool.not_true,e0,List.length_map,List.length_cons,List.length_nil]
   have ea:((os++[t]).map fun (k:Nat)=>(k:Int)).map D.int=(os.map fun (k:Nat)=>(k:Int)).map D.int++[D.int (t:Int)]:=by simp
   rw [e6,ea,List.map_append] at this
   exact ⟨rfl,by decide,rfl,cM (by omega),cM (by omega),this⟩
theorem aIN (hp:bQ nn pl) {os:List Nat}{rows:Pl}{k s:Nat} (hos:∀ o∈os,o<pl.length) (hI:xX (fun b=>∃ s,s<pl.length∧b=bB nn pl s) (bB nn pl 0) (os.map (bB nn pl),rows)) (hr:rows.length=k) (hk:os[k]? = some s) {a3 a4 a5 a6 a7:Sl}{De:qU}
  (hn:∀ os' a3 a4 a5 a6 a7,(∀ o∈os',o<pl.length)→os'.map (bB nn pl)=(sZ (bB nn pl s) (os.map (bB nn pl))).1→De.nx [.im (bA pl),.ow ((e6 os').map D.int),.ow ((rows++[(aY pl s,(sZ (bB nn pl s) (os.map (bB nn pl))).2)]).map fun s=>D.tup [aF s.1,aF s.2]),a3,a4,a5,a6,a7]) :
  m4 De [.im (bA pl),.ow ((e6 os).map D.int),.ow (rows.map fun s=>D.tup [aF s.1,aF s.2]),a3,a4,a5,a6,a7]:=by
 have hs:s<pl.length:=hos s (List.mem_of_getElem? hk)
 have ho:gT ((e6 os).map D.int) (k:Int)=some (.int (s:Int)):=xI (by rw [e6,List.map_map,List.getElem?_map,hk];rfl)
 have ns:=aF0 (aY pl s,(pl.getD s ([],[])).2)
 have f20:=hp.few.2
 have hc:=hp.cnt
 have hle:=hI.le
 rw [List.length_map] at hle
 have lim:∀ os':List Nat,(os'.map (bB nn pl)).Nodup→(∀ o∈os',o<pl.length)→os'.length≤20:=fun os' h1 h2=>by
  have:=j4 h1 (m:=(List.range pl.length).map (bB nn pl)) fun c hc=>by
   obtain ⟨o,ho,e⟩:=List.mem_map.mp hc
   exact List.mem_map.mpr ⟨o,List.mem_range.mpr (h2 o ho),e⟩
  rw [List.length_map,List.length_map,List.length_range] at this
  omega
 simp_arith! only [m4,List.length_map,hr,ho,nV hs,ns,List.length_nil,gB]
 refine ⟨trivial,trivial,by decide,fun j δ=>∃ os' new a6 a7,(∀ o∈os',o<pl.length)∧((List.finRange nn).take j).foldl (aCL (bB nn pl s)) (os.map (bB nn pl),[])=(os'.map (bB nn pl),new)∧new.length=j∧(os'.map (bB nn pl)).Nodup∧δ=[.im (bA pl),.ow ((e6 os').map D.int),.ow (rows.map fun s=>D.tup [aF s.1,aF s.2]),.im (aF (aY pl s)),.im (aF (pl.getD s ([],[])).2),.ow (new.map D.int),a6,a7],⟨os,[],a6,a7,hos,rfl,rfl,hI.nd,rfl⟩,?_,?_⟩
 ·rintro j x δ ed ⟨os',new,a6,a7,h1,h2,h3,h4,rfl⟩
  rw [gW hp hs,List.map_map] at ed
  obtain ⟨hj,rfl⟩:=cW ed
  have hjn:j<nn:=by simpa using hj
  have ej:(List.finRange nn)[j]=⟨j,hjn⟩:=by simp
  have ht:=mK hp hs ⟨j,hjn⟩
  simp_arith! only [Function.comp,ej]
  refine aIx hp h1 (lim _ h4 h1) (by omega) ht fun os2 a7 g1 g2=>⟨os2,_,_,a7,g1,?_,?_,?_,rfl⟩
  ·rw [List.take_succ,List.getElem?_eq_getElem (by simpa using hjn),Option.toList_some,List.foldl_append,h2,g2,ej]
   rfl
  ·rw [List.length_append,h3]
   rfl
  ·rw [g2]
   exact tF h4
 ·rintro δ ⟨os',new,a6,a7,h1,h2,h3,h4,rfl⟩
  have hl:(pl.getD s ([],[])).2.length=nn:=by rw [gW hp hs];simp
  rw [hl,List.take_of_length_le (by simp)] at h2
  have e1:(sZ (bB nn pl s) (os.map (bB nn pl))).1=os'.map (bB nn pl):=congrArg Prod.fst h2
  have e2:(sZ (bB nn pl s) (os.map (bB nn pl))).2=new:=congrArg Prod.snd h2
  have hlo:=(List.getElem?_eq_some_iff.mp hk).1
  have:=lim os hI.nd hos
  simp_arith! only [List.length_cons,List.length_nil,List.length_map,hr]
  have q:=hn os' (.im (aF (aY pl s))) (.im (aF (pl.getD s ([],[])).2)) (.im (.lst (new.map D.int))) a6 a7 h1 e1.symm
  rw [e2,List.map_append] at q
  exact ⟨by decide,cM (by omega),q⟩
end
theorem aBw:∀ ds d,eQ ds=some d→nA (gJ d) (bK ["_law_plan_here","_law_order","_law_rows_here","_law_row_here","_law_nexts","_law_new","_law_there","_law_some"] ds)
 | [a],res,h=>by
  simp only [eQ] at h
  split at h
  ·rename_i pl e1
   split at h
   ·rename_i hp
    cases h
    rw [gH e1]
    clear e1
    generalize lU pl=nn at *
    show nA _ [.im (bA pl),.un,.un,.un,.un,.un,.un,.un]
    have f20:=hp.few.2
    simp_arith! only [nA,r9,List.length_cons,List.length_nil,jO]
    refine ⟨by decide,by decide,fun n δ=>∃ k os rows a3 a4 a5 a6 a7,n=20-k∧qH (bB nn pl 0) k=(os.map (bB nn pl),rows)∧rows.length=k∧(∀ o∈os,o<pl.length)∧δ=[.im (bA pl),.ow ((e6 os).map D.int),.ow (rows.map fun s=>D.tup [aF s.1,aF s.2]),a3,a4,a5,a6,a7],
     ⟨_,0,[0],[],_,_,_,_,_,rfl,rfl,rfl,fun o ho=>by rw [List.mem_singleton.mp ho];exact hp.few.1,rfl⟩,?_⟩
    rintro n δ ⟨k,os,rows,a3,a4,a5,a6,a7,rfl,ei,hr,hos,rfl⟩
    have hI:=vR hp k
    have hf:=xD hp k
    rw [ei] at hI hf
    have hf':os.length≤pl.length:=by simpa using hf
    have hle:rows.length≤os.length:=by simpa using hI.le
    have il:(e6 os).length=os.length:=by simp [e6]
    simp_arith! only [List.length_map,hr,il]
    by_cases hlt:k<os.length
    ·have hb:decide ((k:Int)<(os.length:Int))=true:=by simp;omega
     rw [hb]
     simp_arith! only []
     obtain ⟨s,hs⟩:∃ s,os[k]? = some s:=⟨_,List.getElem?_eq_getElem hlt⟩
     refine aIN hp hos hI hr hs fun os' a3 a4 a5 a6 a7 g1 g2=>⟨20-(k+1),by omega,k+1,os',_,a3,a4,a5,a6,a7,rfl,?_,?_,g1,rfl⟩
     ·show l3 (qH (bB nn pl 0) k)=_
      rw [ei]
      unfold l3
      have:(os.map (bB nn pl))[rows.length]? = some (bB nn pl s):=by rw [hr,List.getElem?_map,hs];rfl
      simp only [this]
      rw [g2]
      rfl
     ·rw [List.length_append,hr]
      rfl
    ·have hb:decide ((k:Int)<(os.length:Int))=false:=by simp;omega
     rw [hb]
     simp_arith! only []
     have:eW (bB nn pl 0)=rows:=by
      unfold eW
      rw [aDi (bB nn pl 0) (k:=k) (by rw [ei];simp;omega) 20 (by omega),ei]
     rw [this]
   ·cases h
  ·cases h
section
theorem zO {α:Type} [DecidableEq α] {f:α→D} (h:∀ a b,j7 (f a) (f b)=some (decide (a=b))):∀ l m:List α,mD (l.map f) (m.map f)=some ((l.zip m).all fun p=>decide (p.1=p.2))
 | [],_=>by unfold mD;rfl
 | _::_,[]=>by unfold mD;rfl
 | x::a,y::b=>by
  rw [List.map_cons,List.map_cons,mD,h,zO h a b]
  rfl
theorem sR {α:Type} [DecidableEq α]:∀ (a b:List α),(((a.zip b).all fun p=>decide (p.1=p.2)) && a.length == b.length)=decide (a=b)
 | [],[]=>by simp
 | [],_::_=>by simp
 | _::_,[]=>by simp
 | x::a,y::b=>by
  have:=sR a b
  rw [Bool.eq_iff_iff] at this ⊢
  simp at this ⊢
  rw [and_assoc,this]
theorem aGI (a b:List Int×List Int):j7 (.tup [aF a.1,aF a.2]) (.tup [aF b.1,aF b.2])=some (decide (a=b)):=by
 have e1:=rQ a.1 b.1
 have e2:=rQ a.2 b.2
 unfold j7 mD
 rw [e1]
 unfold mD
 rw [e2]
 unfold mD
 simp
 rw [Bool.eq_iff_iff]
 simp [Prod.ext_iff]
theorem aA0 (a b:Pl):j7 (bA a) (bA b)=some (decide (a=b)):=by
 unfold bA j7
 rw [zO aGI,List.length_map,List.length_map,Option.map_some,sR]
theorem uY {k:Nat}:∀ {l:List D},(∀ x∈l,l5 x≤k)→iV l≤k
 | [],_=>by unfold iV;omega
 | x::l,h=>by
  unfold iV
  have h1:=h x List.mem_cons_self
  have h2:=uY (l:=l) fun y hy=>h y (List.mem_cons_of_mem _ hy)
  omega
theorem xR (pl:List (List Int×List Int)):l5 (bA pl)≤32:=by
 have:iV (pl.map fun s=>D.tup [aF s.1,aF s.2])≤3:=uY fun x hx=>by
  obtain ⟨s,_,rfl⟩:=List.mem_map.mp hx
  have e1:=kM s.1
  have e2:=kM s.2
  show l5 (.tup [aF s.1,aF s.2])≤3
  unfold l5 iV iV iV
  omega
 show l5 (.tup (pl.map fun s=>D.tup [aF s.1,aF s.2]))≤32
 unfold l5
 omega
theorem aLc (a b:Bool):j7 (.bl a) (.bl b)=some (a == b):=by unfold j7;rfl
theorem aGV {ns r:List Int} (h:r∈aL ns):tZ (aF r) ns=true:=by
 have R:=qE h
 simp only [tZ,aF,List.length_map,R.1,decide_true,Bool.true_and,List.all_eq_true,id]
 intro b hb
 obtain ⟨i,hi,rfl⟩:=List.mem_iff_getElem.mp hb
 rw [List.length_zipWith,List.length_map] at hi
 rw [List.getElem_zipWith,List.getElem_map]
 have h1:r[i]? = some r[i]:=List.getElem?_eq_getElem (by omega)
 have h2:ns[i]? = some ns[i]:=List.getElem?_eq_getElem (by omega)
 have:=R.2 i _ _ h1 h2
 simp [eZ]
 omega
theorem aFL {ns:List Int}{pl:List (List Int×List Int)} (K:pE ns pl):p6 (bA pl) ns=true:=by
 obtain ⟨k1,k2⟩:=K.few
 simp only [p6,bA,List.length_map,k1,k2,decide_true,Bool.true_and,List.all_map,List.all_eq_true]
 intro s hs
 have e1:=aGV (K.row s hs)
 obtain ⟨h1,h2⟩:=K.nexts s hs
 have e2:nT (aF s.2) ns pl.length=true:=by
  simp only [nT,aF,List.length_map,h1,decide_true,Bool.true_and,List.all_map,List.all_eq_true]
  intro x hx
  have:=h2 x hx
  simp [eZ]
  omega
 simp [Function.comp_def,kZ,e1,e2]
end
section
variable {ns0:List Int}{ns:List Int}{pay:List (List Int)}{pl:List (List Int×List Int)}{d:Rat}
theorem aKl {k:Int} (hk:0≤k):cK [.lst (ns0.map D.int),.int k]=some (.int (ns0.getD k.toNat 0)):=by
 unfold cK
 simp only [cP,if_pos hk]
theorem aH9 {k:Int} (hk:0≤k):∃ cs:List Int,cs.length=4∧c9 [.lst (ns0.map D.int),.int k]=some (.lst (cs.map D.int)):=by
 refine ⟨(List.range 4).map fun (n:Nat)=>ns0.getD (k.toNat+n) 0,by simp,?_⟩
 unfold c9
 simp only [cP,if_pos hk,List.map_map,Function.comp_def]
theorem aKi (ho:gN ns pay) {cs:List Int} (hc:cs.length=4) {m:Int} (h0:0<m) (h8:m≤8):dR [fD ns pay,.lst (cs.map D.int),.int m]=some fun d=>∃ pl,d=bA pl∧pE ns pl:=by
 unfold dR
 simp only [cP]
 exact if_pos ⟨ho.ok,hc,h0,h8⟩
end
section
variable {nn:Nat}{p q:Pl}{ns:List Int}{pay:List (List Int)}{pl:Pl}{d:Rat}
open Classical in
theorem aHm (hp:bQ nn p) (hq:bQ nn q):kD [bA p,bA q]=some (.bl (decide (bB nn p 0=bB nn q 0))):=by
 have e:=hp.of_nn
 subst e
 simp only [kD,iQ]
 exact if_pos ⟨hp,hq⟩
theorem aDO (hp:bQ nn p):jU [bA p]=some (bA (eW (bB nn p 0))):=by
 have e:=hp.of_nn
 subst e
 simp only [jU,iQ]
 exact if_pos hp
open Classical in
theorem uW (hp:bQ nn p) (hq:bQ nn q) {De:qU}{a0 a1 a2 a3 a4 a5 a8 a9 a10 a11:Sl}
  (hn:∀ a8,De.nx [a0,a1,a2,a3,a4,a5,.im (bA p),.im (bA q),a8,a9,a10,a11]) :
  u8 De [a0,a1,a2,a3,a4,a5,.im (bA p),.im (bA q),a8,a9,a10,a11]:=by
 have el:decide (eW (bB nn p 0)=eW (bB nn q 0))=decide (bB nn p 0=bB nn q 0):=by
  rw [Bool.eq_iff_iff]
  simp [aCF hp hq]
 have fl:=aAX hp hq
 have dp:=xR (eW (bB nn p 0))
 have db:∀ b:Bool,l5 (.bl b)≤32:=fun b=>by simp [l5]
 have eo:∀ (Q:D→Prop),wN (bA (eW (bB nn p 0))) (bA (eW (bB nn q 0))) Q=Q (.bl (decide (bB nn p 0=bB nn q 0))):=fun Q=>by
  unfold wN
  rw [aA0,el]
  simp [dp]
 have en:∀ (b:Bool) (Q:D→Prop),tO (.bl b) (.bl b) Q=Q (.bl false):=fun b Q=>by
  unfold tO
  rw [aLc]
  simp [l5]
 have eI:wM "bool" "bool"=true:=by decide
 simp only [u8,aX,bR,aO,aA,aI,aE,mS,aHm hp hq,cY,iG,gOr,mC,lG,jY,tyD,dG,bL,fl,aDO hp,aDO hq,eo,en,eI,Bool.not_true,mU,dW,Bool.false_eq_true,if_false,List.getElem?_cons_zero,List.getElem?_cons_succ,List.set_cons_zero,List.set_cons_succ]
 exact hn _
noncomputable def aB3:GS:=(aX (bR (aO jU (aA (aE 3) aI)) (cY 9)) (aX (iG (gOr (dG (bL tO (aE 9) (aO eQ (aA (aE 3) aI)))) (gOr (mC (lG (aO j3 (aA (aE 9) (aA (aE 2) aI))))) (mC (lG (aO kD (aA (aE 9) (aA (aE 3) aI))))))) (cF (gC (.bl false))) dW) (aX (bR (aO dC (aA (aO cK (aA (aE 0) (aA (bL fO (gC (.int 20)) (aE 1)) aI))) aI)) (cY 10)) (aX (iG (dG (bL tO (bL eG (aO iK (aA (aE 2) (aA (aE 9) (aA (aE 10) aI)))) (gC (.int 0))) (bL eG (aO iK (aA (aE 2) (aA (aE 3) (aA (aE 10) aI)))) (gC (.int 0))))) (cF (gC (.bl false))) dW) (aX (bR (bS (aA (bS (aA (gC (.int 1)) (aA (gC (.int 0)) (aA (gC (.int 0)) aI)))) (aA (bS (aA (gC (.int 2)) (aA (gC (.int 1)) (aA (gC (.int 0)) aI)))) (aA (bS (aA (gC (.int 4)) (aA (gC (.int 0)) (aA (gC (.int 1)) aI)))) (aA (bS (aA (gC (.int 5)) (aA (gC (.int 1)) (aA (gC (.int 1)) aI)))) aI))))) (cY 11)) (iG (dG (bL tO (aO iN (aA (aE 2) (aA (aE 9) (aA (gC (.int 8)) (aA (aE 11) aI))))) (aO iN (aA (aE 2) (aA (aE 3) (aA (gC (.int 8)) (aA (aE 11) aI))))))) (cF (gC (.bl false))) dW))))))
theorem aKV:y8=(aX (bR (fW dU (aA (bL i6 (gC (.int 3)) (aO cK (aA (aE 0) (aA (bL i6 (gC (.int 5)) (aE 1)) aI)))) aI)) (cY 2)) (aX (bR (fW dR (aA (aE 2) (aA (aO c9 (aA (aE 0) (aA (bL fO (bL i6 (gC (.int 5)) (aE 1)) (gC (.int 1))) aI))) (aA (gC (.int 4)) aI)))) (cY 3)) (aX (bR (fW dR (aA (aE 2) (aA (aO c9 (aA (aE 0) (aA (bL fO (bL i6 (gC (.int 5)) (aE 1)) (gC (.int 2))) aI))) (aA (gC (.int 4)) aI)))) (cY 4)) (aX (bR (aO cR (aA (aE 3) aI)) (cY 5)) (aX (gB (xL (gF (g9 (aA (bS (aA (aE 3) (aA (aE 4) aI))) (aA (bS (aA (aE 3) (aA (aE 5) aI))) (aA (bS (aA (aE 3) (aA (aE 3) aI))) (aA (bS (aA (aE 4) (aA (aE 5) aI))) aI))))))) (j6 6 7) u8) aB3))))):=rfl
theorem aDw (e:ns=[2,2]):lP ns [(1,0,0),(2,1,0),(4,0,1),(5,1,1)]:=by
 subst e
 exact ⟨by decide,by decide,by decide⟩
theorem aKd (hpk:pE ns pl) (hp:bQ (aL ns).length pl):pE ns (eW (bB (aL ns).length pl 0)):=by
 obtain ⟨hf,hfl,hfb,hfr⟩:=xM hp
 refine ⟨⟨hf.few.1,Nat.le_trans hfl hpk.few.2⟩,fun s hs=>?_,fun s hs=>hf.nexts s hs⟩
 obtain ⟨t,ht,e⟩:=hfr s hs
 rw [e]
 exact uE hpk.w ht
theorem aAJ (ho:gN ns pay) (hp:iB ns pl) (hd:kL d):iK [fD ns pay,bA pl,cH d]=some (.tup ((List.range pl.length).map fun s=>D.tup ((List.range ns.length).map fun h=>cH (dL ns pay pl d h s)))):=by
 simp only [iK,kO ho,rO hp,oQ hd,aBB]
theorem aBf (ho:gN ns pay) (hp:iB ns pl) (e:ns=[2,2]):iN [fD ns pay,bA pl,.int 8,.tup [.tup [.int 1,.int 0,.int 0],.tup [.int 2,.int 1,.int 0],.tup [.int 4,.int 0,.int 1],.tup [.int 5,.int 1,.int 1]]]=some (.tup ((oN ns pl [(1,0,0),(2,1,0),(4,0,1),(5,1,1)] 8).map aF)):=by
 simp only [iN,kO ho,rO hp]
 exact (rJ (n:=1000) (h:=8) (by decide)).trans (aDF (aDw e))
theorem aFC {f:Nat→D}{n:Nat} (h:1≤n):gT ((List.range n).map f) 0=some (f 0):=
 xI (j:=0) (by rw [List.getElem?_map,List.getElem?_eq_getElem (by rw [List.length_range];exact h)];simp)
theorem aG5 {ns0:List Int}{i:Nat} (ho:gN ns pay) (e22:ns=[2,2]) (hp:bQ (aL ns).length pl) (hpk:pE ns pl) {De:qU}{a4 a5 a6 a7 a8 a9 a10 a11:Sl}
  (hn:∀ a4 a5 a6 a7 a8 a9 a10 a11,De.nx [.im (.lst (ns0.map D.int)),.im (.int i),.im (fD ns pay),.im (bA pl),a4,a5,a6,a7,a8,a9,a10,a11]) :
  aB3 De [.im (.lst (ns0.map D.int)),.im (.int i),.im (fD ns pay),.im (bA pl),a4,a5,a6,a7,a8,a9,a10,a11]:=by
 classical
 have hfo:=aKd hpk hp
 obtain ⟨hf,hfl,hfb,hfr⟩:=xM hp
 have fip:j3 [bA (eW (bB (aL ns).length pl 0)),fD ns pay]=some (.bl (p6 (bA (eW (bB (aL ns).length pl 0))) ns)):=gO _ ho.ok
 rw [aFL hfo] at fip
 have fal:=aHm hf hp
 rw [decide_eq_true hfb] at fal
 have fll:=aG2 hp
 have fle:=aDO hp
 have dp:=xR (eW (bB (aL ns).length pl 0))
 have hd:=aJL (ns0.getD (20+(i:Int)).toNat 0)
 have fpt:dC [.int (ns0.getD (20+(i:Int)).toNat 0)]=some (cH (aBX (ns0.getD (20+(i:Int)).toNat 0))):=rfl
 have pe:oN ns pl [(1,0,0),(2,1,0),(4,0,1),(5,1,1)] 8=oN ns (eW (bB (aL ns).length pl 0)) [(1,0,0),(2,1,0),(4,0,1),(5,1,1)] 8:=(aGa hfo.w (aDw e22) hfb).symm
 generalize aBX (ns0.getD (20+(i:Int)).toNat 0)=d at hd fpt
 have we:(fun h=>cH (dL ns pay pl d h 0))=fun h=>cH (dL ns pay (eW (bB (aL ns).length pl 0)) d h 0):=by
  funext h
  rw [aGH hfo.w hpk.w hd hfo.few.1 hpk.few.1 hfb]
 generalize eW (bB (aL ns).length pl 0)=few at *
 have fw1:=aAJ ho hfo.w hd
 have fw2:=aAJ ho hpk.w hd
 have fp1:=aBf ho hfo.w e22
 have fp2:=aBf ho hpk.w e22
 have i1:=aFC (f:=fun s=>D.tup ((List.range ns.length).map fun h=>cH (dL ns pay few d h s))) hfo.few.1
 have i2:=aFC (f:=fun s=>D.tup ((List.range ns.length).map fun h=>cH (dL ns pay pl d h s))) hpk.few.1
 rw [we] at i2
 rw [pe] at fp2
 have fc:=aKl (ns0:=ns0) (k:=20+(i:Int)) (by omega)
 simp_arith! only [aB3,fle,fll,tP,Bool.not_true,fip,fal,fc,fpt,fw1,fw2,i1,i2,fp1,fp2]
 have d1:iV (few.map fun s=>D.tup [aF s.1,aF s.2])≤3:=uY fun x hx=>by
  obtain ⟨s,_,rfl⟩:=List.mem_map.mp hx
  have e1:=kM s.1
  have e2:=kM s.2
  show l5 (.tup [aF s.1,aF s.2])≤3
  unfold l5 iV iV iV
  omega
 have d2:iV ((List.range ns.length).map fun h=>cH (dL ns pay few d h 0))≤1:=uY fun x hx=>by
  obtain ⟨h,_,rfl⟩:=List.mem_map.mp hx
  simp [l5,iV]
 have d3:=aAV (oN ns few [(1,0,0),(2,1,0),(4,0,1),(5,1,1)] 8)
 exact ⟨by omega,by omega,by simp only [List.length_cons,List.length_nil];decide,by simp only [List.length_cons,List.length_nil];decide,by simp only [List.length_cons,List.length_nil];decide,by simp only [List.length_cons,List.length_nil];decide,by simp only [List.length_cons,List.length_nil];decide,by omega,hn _ _ _ _ _ _ _ _⟩
theorem aG0 {ns0:List Int}{i:Nat} (hi:i<3) {De:qU}{a2 a3 a4 a5 a6 a7 a8 a9 a10 a11:Sl}
  (hn:∀ a1 a2 a3 a4 a5 a6 a7 a8 a9 a10 a11,De.nx [.im (.lst (ns0.map D.int)),a1,a2,a3,a4,a5,a6,a7,a8,a9,a10,a11]) :
  y8 De [.im (.lst (ns0.map D.int)),.im (.int i),a2,a3,a4,a5,a6,a7,a8,a9,a10,a11]:=by
 obtain ⟨cs,hcs,fcs⟩:=aH9 (ns0:=ns0) (k:=5 * (i:Int)+1) (by omega)
 obtain ⟨cs2,hcs2,fcs2⟩:=aH9 (ns0:=ns0) (k:=5 * (i:Int)+2) (by omega)
 simp_arith! only [aKV,aKl (ns0:=ns0) (k:=5 * (i:Int)) (by omega)]
 refine ⟨Or.inl ⟨by decide,by decide⟩,Or.inl ⟨by decide,by decide⟩,?_⟩
 simp only [dU]
 rintro m ⟨ns,pay,rfl,ho,h22⟩
 have e22:=h22 (by omega)
 refine ⟨Or.inl ⟨by decide,by decide⟩,?_⟩
 simp only [fcs,aKi ho hcs (show (0:Int)<4 by decide) (show (4:Int)≤8 by decide)]
 rintro x ⟨pl,rfl,hpk⟩
 refine ⟨Or.inl ⟨by decide,by decide⟩,?_⟩
 simp only [fcs2,aKi ho hcs2 (show (0:Int)<4 by decide) (show (4:Int)≤8 by decide)]
 rintro x ⟨ot,rfl,hok⟩
 have b:=lO ho.ok
 have hp:bQ (aL ns).length pl:=hpk.w.f (by omega) (by omega)
 have hq:bQ (aL ns).length ot:=hok.w.f (by omega) (by omega)
 have ht:bQ (aL ns).length (qK pl):=aIC hp (by have:=hpk.few.2;omega)
 simp_arith! only [aJ0 hp (by have:=hpk.few.2;omega),List.length_cons,List.length_nil,gB]
 refine ⟨by decide,by decide,by decide,by decide,by decide,fun j δ=>∃ a6 a7 a8,δ=[.im (.lst (ns0.map D.int)),.im (.int i),.im (fD ns pay),.im (bA pl),.im (bA ot),.im (bA (qK pl)),a6,a7,a8,a9,a10,a11],⟨_,_,_,rfl⟩,?_,?_⟩
 ·rintro j x δ ed ⟨a6,a7,a8,rfl⟩
  have hm:=List.mem_of_getElem? ed
  simp only [List.mem_cons,List.not_mem_nil,or_false] at hm
  rcases hm with rfl | rfl | rfl | rfl
  ·exact uW hp hq fun _=>⟨_,_,_,rfl⟩
  ·exact uW hp ht fun _=>⟨_,_,_,rfl⟩
  ·exact uW hp hp fun _=>⟨_,_,_,rfl⟩
  ·exact uW hq ht fun _=>⟨_,_,_,rfl⟩
 ·rintro δ ⟨a6,a7,a8,rfl⟩
  exact aG5 ho e22 hp hpk fun _ _ _ _ _ _ _ _=>hn _ _ _ _ _ _ _ _ _ _ _
end
theorem aKC:∀ ds p,wF ds=some p→aFA (aGr p) (bK ["_law_script","_law_k","_law_meeting_here","_law_plan_here","_law_other","_law_twice","_law_one","_law_two","_law_found","_law_few","_law_patience_here","_law_strays"] ds)
 | [.lst xs],p,h=>by
  have h':(match cX xs with
   | some _=>some (fun d=>d=D.bl true)
   | none=>none)=some p:=h
  clear h
  split at h'
  ·rename_i ns0 e
   cases h'
   rw [fF e]
   clear e
   show aFA _ [.im (.lst (ns0.map D.int)),.un,.un,.un,.un,.un,.un,.un,.un,.un,.un,.un]
   unfold aFA
   simp_arith! only [gB]
   refine ⟨by decide,fun i δ=>∃ (a1 a2 a3 a4 a5 a6 a7 a8 a9 a10 a11:Sl),δ=[.im (.lst (ns0.map D.int)),a1,a2,a3,a4,a5,a6,a7,a8,a9,a10,a11],⟨_,_,_,_,_,_,_,_,_,_,_,rfl⟩,?_,?_⟩
   ·rintro i x δ ed ⟨a1,a2,a3,a4,a5,a6,a7,a8,a9,a10,a11,rfl⟩
    unfold bW at ed
    obtain ⟨hi,rfl⟩:=cW ed
    rw [List.length_range] at hi
    rw [List.getElem_range,Int.zero_add]
    exact aG0 hi fun _ _ _ _ _ _ _ _ _ _ _=>⟨_,_,_,_,_,_,_,_,_,_,_,rfl⟩
   ·rintro δ ⟨a1,a2,a3,a4,a5,a6,a7,a8,a9,a10,a11,rfl⟩
    trivial
  ·cases h'
section
variable {ns:List Int}{pay:List (List Int)}{pl:List (List Int×List Int)}{s:Nat}{r:List Int}
theorem uB (hs:s<pl.length):gT (pl.map fun s=>D.tup [aF s.1,aF s.2]) (s:Int)=some (.tup [aF (aY pl s),aF (pl.getD s ([],[])).2]):=by
 rw [aB2 (by rw [List.length_map];exact hs),List.getElem_map]
 unfold aY
 rw [b6 hs]
theorem aFB (hp:iB ns pl) (hs:s<pl.length) (hr:r∈aL ns):(pl.getD s ([],[])).2.getD ((aL ns).idxOf r) 0=(jG ns pl s r:Int)∧jG ns pl s r<pl.length∧(aL ns).idxOf r<(pl.getD s ([],[])).2.length:=by
 have hm:pl.getD s ([],[])∈pl:=by rw [b6 hs];exact List.getElem_mem hs
 obtain ⟨h1,h2⟩:=hp.nexts _ hm
 have hi:(aL ns).idxOf r<(pl.getD s ([],[])).2.length:=by
  rw [h1]
  exact List.idxOf_lt_length_of_mem hr
 have:=h2 _ (List.getElem_mem hi)
 unfold jG
 rw [b6 hi]
 omega
theorem oX (hp:iB ns pl) (hs:s<pl.length):aY pl s∈aL ns:=by
 unfold aY
 rw [b6 hs]
 exact hp.row _ (List.getElem_mem hs)
end
theorem aHM {ns r:List Int} (ho:dO ns=true) (hr:r∈aL ns):dJ [aF r,aF ns]=some (.int ((aL ns).idxOf r:Nat)):=by
 simp only [dJ,l7,cP]
 rw [if_pos ⟨ho,hr⟩]
theorem aDU:∀ ds d,dJ ds=some d→pA (gJ d) (bK ["row","deeds","place","deed","many"] ds)
 | [x,.tup es],d,h=>by
  cases e1:tU x with
  | none=>simp [dJ,e1] at h
  | some r=>
   cases e2:cX es with
   | none=>simp [dJ,e1,e2] at h
   | some ns=>
    simp only [dJ,e1,e2] at h
    rw [o5 e1,fF e2]
    split at h
    ·rename_i hc
     obtain ⟨ho,hr⟩:=hc
     cases h
     have rl:=pK hr
     show pA _ [.im (aF r),.im (.tup (ns.map D.int)),.un,.un,.un]
     simp_arith! only [pA,u3,aF,aHU,gB]
     refine ⟨fun i δ=>∃ a b,δ=[.im (.tup (r.map D.int)),.im (.tup (ns.map D.int)),.im (.int (mW (r.take i) (ns.take i))),a,b],⟨.un,.un,rfl⟩,?_,?_⟩
     ·rintro i d δ ed ⟨a,b,rfl⟩
      obtain ⟨hi,rfl⟩:=cW ed
      rw [List.length_zip] at hi
      have h1:i<r.length:=by omega
      have h2:i<ns.length:=by omega
      have bd:=aG8 ho hr i
      simp_arith! only [List.getElem_zip]
      refine ⟨.inl ⟨by omega,by omega⟩,.im (.int r[i]),.im (.int ns[i]),?_⟩
      rw [aDp h1 h2 rl]
     ·rintro δ ⟨a,b,rfl⟩
      simp_arith! only []
      rw [List.length_map,List.length_zip,rl,Nat.min_self,List.take_length,← rl,List.take_length,aBk hr]
    ·cases h
theorem aLz {ns:List Int}{pay:List (List Int)}{r:List Int} (ho:gN ns pay) (hr:r∈aL ns):p5 [fD ns pay,aF r]=some (aF (rZ ns pay r)):=by
 simp only [p5,kO ho,aCV hr]
theorem aJ8:∀ ds d,p5 ds=some d→aCl (gJ d) (bK ["meeting","row"] ds)
 | [m,x],d,h=>by
  obtain ⟨ns,pay,rfl,ho,h⟩:=kN (show hC m _=some d from h)
  obtain ⟨r,rfl,hr,h⟩:=aDQ h
  cases h
  show aCl _ [.im (fD ns pay),.im (aF r)]
  have e0:gT [aF ns,D.tup (pay.map aF)] 0=some (aF ns):=rfl
  have e1:gT [aF ns,D.tup (pay.map aF)] 1=some (D.tup (pay.map aF)):=rfl
  have e2:gT (pay.map aF) ((aL ns).idxOf r:Nat)=some (aF (rZ ns pay r)):=aIu (aDv ho hr)
  simp_arith only [aCl,fD,e0,e1,aHM ho.ok hr,e2]
theorem uS:∀ ds d,dM ds=some d→iY (gJ d) (bK ["one","other","greater","smaller","rest"] ds)
 | [.int a,.int b],d,h=>by
  cases h
  show iY _ [.im (.int a),.im (.int b),.un,.un,.un]
  simp_arith only [iY,mN,mT,jO]
  have ea:∀ a:Int,(if a<0 then -a else a)=(a.natAbs:Int):=fun a=>by split <;> omega
  refine ⟨fun n δ=>∃ (x y:Nat) (z:Sl),δ=[.im (.int a),.im (.int b),.im (.int x),.im (.int y),z]∧n=y∧Nat.gcd x y=Int.gcd a b,⟨b.natAbs,a.natAbs,b.natAbs,.un,by rw [ea,ea],rfl,rfl⟩,?_⟩
  rintro n δ ⟨x,y,z,rfl,rfl,hg⟩
  simp_arith only []
  refine ⟨by decide,?_⟩
  cases n with
  | zero=>
   simp
   rw [← hg]
   simp
  | succ y=>
   have e:((((y+1:Nat):Int)) == 0)=false:=by simp;omega
   simp_arith only [e,Bool.not_false]
   refine ⟨by omega,(x % (y+1):Nat),Nat.mod_lt _ (Nat.succ_pos _),y+1,x % (y+1),_,rfl,rfl,?_⟩
   rw [← hg,Nat.gcd_comm x,Nat.gcd_rec (y+1) x,Nat.gcd_comm]
theorem aJt {u l:Int} (hl:0<l) (h1:Bd 7000 u) (h2:Bd 7000 l):lF [.int u,.int l]=some (cH (Rat.divInt u l)):=if_pos ⟨hl,h1,h2⟩
theorem aGg:∀ ds d,lF ds=some d→tW (gJ d) (bK ["upper","lower","sign","divisor"] ds)
 | [.int u,.int l],d,h=>by
  simp only [lF] at h
  split at h
  ·rename_i hh
   obtain ⟨hl,b1,b2⟩:=hh
   cases h
   show tW _ [.im (.int u),.im (.int l),.un,.un]
   have ea:(if l<0 then -l else l)=l:=if_neg (by omega)
   have ed:l / l=1:=Int.ediv_self (by omega)
   have gd:(Int.gcd u l) ∣ l.natAbs:=Int.gcd_dvd_natAbs_right u l
   have gle:Int.gcd u l≤l.natAbs:=Nat.le_of_dvd (by omega) gd
   have gpos:0<Int.gcd u l:=Nat.pos_of_dvd_of_pos gd (by omega)
   have bx:Bd 8000 ((Int.gcd u l:Nat):Int):=(b2.of_le (i:=(Int.gcd u l:Nat)) (by omega) (by omega)).mono (by decide)
   have bl:Bd 8000 l:=b2.mono (by decide)
   simp_arith only [tW,zE,yQ,ea,ed,dM,Int.one_mul,aCB hl,List.length_cons,List.length_nil]
   exact ⟨⟨hl,bl⟩,.inl (.inl ⟨by decide,by decide⟩),⟨by omega,bx⟩,⟨by omega,bx⟩,by decide,trivial⟩
  ·cases h
theorem aFu {ns:List Int}{pay:List (List Int)}{pl:List (List Int×List Int)}{s:Nat}{r:List Int} (ho:gN ns pay) (hp:iB ns pl) (hs:s<pl.length) (hr:r∈aL ns):cN [fD ns pay,bA pl,.int s,aF r]=some (.int (jG ns pl s r)):=by
 simp only [cN,kO ho,rO hp,rJ hs,aCV hr]
theorem wY:∀ ds d,cN ds=some d→j9 (gJ d) (bK ["meeting","plan","state","row"] ds)
 | [m,p,x,y],d,h=>by
  obtain ⟨ns,pay,rfl,ho,h⟩:=kN (show hC m _=some d from h)
  obtain ⟨pl,rfl,hp,h⟩:=rM h
  obtain ⟨s,rfl,hs,h⟩:=rC h
  obtain ⟨r,rfl,hr,h⟩:=aDQ h
  cases h
  show j9 _ [.im (fD ns pay),.im (.tup (pl.map fun s=>D.tup [aF s.1,aF s.2])),.im (.int s),.im (aF r)]
  have e0:gT [aF ns,D.tup (pay.map aF)] 0=some (aF ns):=rfl
  have e1:gT [aF (aY pl s),aF (pl.getD s ([],[])).2] 1=some (aF (pl.getD s ([],[])).2):=rfl
  obtain ⟨n1,n2,n3⟩:=aFB hp hs hr
  have e2:gT ((pl.getD s ([],[])).2.map D.int) ((aL ns).idxOf r:Nat)=some (.int (jG ns pl s r)):=by rw [oV n3,n1]
  simp_arith only [j9,e0,e1,uB hs,aHM ho.ok hr,e2]
theorem aE2 {ns:List Int}{pay:List (List Int)}{rs:List (List Int)}{x:D}{h:Nat} (ho:gN ns pay) (hx:sB x=some (rs.map aF)) (h1:rs.length≤20) (h2:∀ r∈rs,r∈aL ns) (hh:h<ns.length) :
  iR [fD ns pay,x,.int h]=some (.lst ((rs.map fun r=>m8 ns pay r h).map D.int)):=by
 simp only [iR,kO ho,sX hx h1 h2,rJ hh]
theorem aEg:∀ ds d,iR ds=some d→rR (gJ d) (bK ["meeting","rows","hand"] ds)
 | [m,x,y],d,h=>by
  obtain ⟨ns,pay,rfl,ho,h⟩:=kN (show hC m _=some d from h)
  obtain ⟨rs,hx,h1,h2,h⟩:=vI h
  obtain ⟨i,rfl,hi,h⟩:=rC h
  cases h
  show rR _ [.im (fD ns pay),.im x,.im (.int i)]
  simp_arith only [rR,gIs,hx,cC]
  refine ⟨by rw [List.length_map];exact b7 (by omega),fun x=>match tU x with
   | some r=>.int (m8 ns pay r i)
   | none=>.non,fun x hx=>?_,?_⟩
  ·obtain ⟨r,hr,rfl⟩:=List.mem_map.mp hx
   have hr:=h2 r hr
   have hp:i<(rZ ns pay r).length:=by rw [(aC4 ho hr).1];exact hi
   have ei:gT ((rZ ns pay r).map D.int) (i:Nat)=some (.int (m8 ns pay r i)):=oV hp
   simp_arith only [δc,List.map_cons,List.map_nil,aLz ho hr,ei,l7]
  ·rw [List.map_map,List.map_map]
   congr 1
   refine List.map_congr_left fun r _=>?_
   simp only [Function.comp,l7]
theorem aC0 {ys:List Int}{d:Rat} (hy:jP ys=true) (hd:kL d):gG [.lst (ys.map D.int),cH d]=some (.int (u7 d.num d.den ys)):=by
 simp only [gG,cP,if_pos hy,oQ hd]
theorem aHt (p q:Int) (ys:List Int) {i:Nat} (hi:i<ys.length):((ys.take (i+1)).foldl (fun (a:Int×Int) y=>(a.1 * q+a.2 * y,a.2 * p)) (0,1))=(((ys.take i).foldl (fun (a:Int×Int) y=>(a.1 * q+a.2 * y,a.2 * p)) (0,1)).1 * q+((ys.take i).foldl (fun (a:Int×Int) y=>(a.1 * q+a.2 * y,a.2 * p)) (0,1)).2 * ys[i],((ys.take i).foldl (fun (a:Int×Int) y=>(a.1 * q+a.2 * y,a.2 * p)) (0,1)).2 * p):=by
 rw [List.take_succ,List.getElem?_eq_getElem hi,Option.toList_some,List.foldl_append]
 rfl
theorem aEp:∀ ds d,gG ds=some d→rK (gJ d) (bK ["pays","patience","total","weight","pay"] ds)
 | [.lst es,x],r,h=>by
  cases ei:cX es with
  | none=>simp [gG,ei] at h
  | some ys=>
   simp only [gG,ei] at h
   split at h
   ·rename_i hy
    obtain ⟨d,rfl,hd,h⟩:=oS h
    cases h
    rw [fF ei]
    obtain ⟨y1,y2⟩:=sP hy
    show rK _ [.im (.lst (ys.map D.int)),.im (cH d),.un,.un,.un]
    have e0:gT [D.int d.num,D.int d.den] 0=some (.int d.num):=rfl
    have e1:gT [D.int d.num,D.int d.den] 1=some (.int d.den):=rfl
    have bp:Bd 40 d.num:=hd.bits.1
    have bq:Bd 40 (d.den:Int):=hd.bits.2
    have key:∀ i,(ys.take i).foldl (fun (a:Int×Int) y=>(a.1 * (d.den:Int)+a.2 * y,a.2 * d.num)) (0,1)=(u7 d.num d.den (ys.take i),d.num ^ (ys.take i).length):=by
     intro i
     rw [aDm]
     simp
    simp_arith only [rK,wJ,gB]
    refine ⟨fun i δ=>∃ a4,δ=[.im (.lst (ys.map D.int)),.im (cH d),.im (.int (u7 d.num d.den (ys.take i))),.im (.int (d.num ^ (ys.take i).length)),a4],⟨.un,by simp [u7]⟩,?_,?_⟩
    ·rintro i x δ ed ⟨a4,rfl⟩
     obtain ⟨hi,rfl⟩:=cW ed
     have k1:=key i
     have k2:=aHt d.num d.den ys hi
     rw [key (i+1),k1] at k2
     have hl:(ys.take i).length≤20:=by rw [List.length_take];omega
     have b1:Bd 8000 (u7 d.num d.den (ys.take i)):=(aBy bp bq (ys:=ys.take i) fun y hy=>y2 y (List.mem_of_mem_take hy)).mono (by omega)
     have b2:Bd 8000 (d.num ^ (ys.take i).length):=(bp.pow _).mono (by omega)
     have b3:Bd 8000 ys[i]:=by
      have:=y2 ys[i] (List.getElem_mem hi)
      have b:Bd 4 ys[i]:=by unfold Bd;omega
      exact b.mono (by decide)
     simp_arith only [e0,e1]
     refine ⟨.inr ⟨b1,bq.mono (by decide)⟩,.inr ⟨b2,b3⟩,.inr ⟨b2,bp.mono (by decide)⟩,.im (.int ys[i]),?_⟩
     have k3:=congrArg Prod.fst k2
     have k4:=congrArg Prod.snd k2
     simp only at k3 k4
     rw [k3,k4]
    ·rintro δ ⟨a4,rfl⟩
     simp_arith only []
     rw [List.length_map,List.take_length]
   ·cases h
theorem aMs (a b:Int):gT [D.int a,D.int b] 0=some (.int a):=rfl
theorem aLQ (a b:Int):gT [D.int a,D.int b] 1=some (.int b):=rfl
theorem vS:∀ ds d,dB ds=some d→jD (gJ d) (bK ["pay","later","patience","upper"] ds)
 | [.int x,.tup [.int u,.int l],y],r,h=>by
  obtain ⟨d,rfl,hd,h1⟩:=oS (show qZ y _=some r from h)
  clear h
  split at h1
  ·rename_i hh
   obtain ⟨b1,b2,b3⟩:=hh
   cases h1
   show jD _ [.im (.int x),.im (.tup [.int u,.int l]),.im (cH d),.un]
   have c1:=hd.bits.2.sub hd.bits.1
   have c2:=c1.mul b1
   simp_arith only [jD,nY,aMs,aLQ,List.length_cons,List.length_nil]
   exact ⟨.inr ⟨c1.mono (by decide),b1.mono (by decide)⟩,.inr ⟨c2.mono (by decide),b3.mono (by decide)⟩,.inr ⟨hd.bits.1.mono (by decide),b2.mono (by decide)⟩,.inr ⟨hd.bits.2.mono (by decide),b3.mono (by decide)⟩,by decide,trivial⟩
  ·cases h1
theorem aI5 {xs ys:List Int}{d:Rat} (hx:jP xs=true) (hy:jP ys=true) (hn:ys≠[]) (hd:kL d):bZ [.lst (xs.map D.int),.lst (ys.map D.int),cH d]=some (cH (woL d xs ys)):=by
 simp only [bZ,cP,if_pos (show jP xs=true∧jP ys=true∧ys≠[] from ⟨hx,hy,hn⟩),oQ hd]
theorem aIE (d:Rat) (x:Int) (xs ys:List Int):woL d (x::xs) ys=(1-d) * x+d * woL d xs ys:=by
 unfold woL
 rw [List.map_cons,List.length_cons,Rat.pow_succ]
 show (1-d) * (x:Rat)+d * rY d (xs.map fun (x:Int)=>(x:Rat))+_=_
 grind
theorem aJr {d:Rat} (x u l:Int) (hl:0<l):Rat.divInt (((d.den:Int)-d.num) * x * l+d.num * u) ((d.den:Int) * l)=(1-d) * x+d * Rat.divInt u l:=by
 have h1:=aCi d
 have n1:=aK1 d
 have n2:((l:Int):Rat)≠0:=by
  intro z
  have z2:((l:Int):Rat)=((0:Int):Rat):=z
  rw [Rat.intCast_inj] at z2
  omega
 rw [Rat.divInt_eq_div,Rat.divInt_eq_div,Rat.intCast_add,Rat.intCast_mul,Rat.intCast_mul,Rat.intCast_mul,Rat.intCast_mul,Rat.intCast_sub]
 generalize ((d.den:Int):Rat)=a at *
 generalize ((d.num:Int):Rat)=p at *
 generalize ((l:Int):Rat)=b at *
 generalize ((u:Int):Rat)=y at *
 grind
theorem vW:∀ ds d,bZ ds=some d→jE (gJ d) (bK ["before","again","patience","worth","pay"] ds)
 | [.lst as,.lst bs,x],r,h=>by
  cases ea:cX as with
  | none=>simp [bZ,ea] at h
  | some xs=>
   cases eb:cX bs with
   | none=>simp [bZ,ea,eb] at h
   | some ys=>
    simp only [bZ,ea,eb] at h
    split at h
    ·rename_i hc
     obtain ⟨hx,hy,hn⟩:=hc
     obtain ⟨d,rfl,hd,h⟩:=oS h
     cases h
     rw [fF ea,fF eb]
     obtain ⟨x1,x2⟩:=sP hx
     obtain ⟨y1,y2⟩:=sP hy
     have hyl:0<ys.length:=List.length_pos_iff.mpr hn
     show jE _ [.im (.lst (xs.map D.int)),.im (.lst (ys.map D.int)),.im (cH d),.un,.un]
     have e0:∀ a b:Int,gT [D.int a,D.int b] 0=some (.int a):=fun _ _=>rfl
     have e1:∀ a b:Int,gT [D.int a,D.int b] 1=some (.int b):=fun _ _=>rfl
     have bp:Bd 40 d.num:=hd.bits.1
     have bq:Bd 40 (d.den:Int):=hd.bits.2
     have o1:jP (List.replicate ys.length 1)=true:=vJ (by simpa using y1) fun y hy=>by rw [List.eq_of_mem_replicate hy];decide
     have er:(List.replicate (ys.length:Int).toNat [D.int 1]).flatten=(List.replicate ys.length (1:Int)).map D.int:=by
      rw [Int.toNat_natCast]
      generalize ys.length=n
      induction n with
      | zero=>rfl
      | succ n ih=>rw [List.replicate_succ,List.flatten_cons,ih,List.replicate_succ];rfl
     have b1:Bd 1000 (u7 d.num d.den ys):=(aBy bp bq y2).mono (by omega)
     have b2:Bd 1000 (u7 d.num d.den (List.replicate ys.length 1)):=(aBy bp bq (ys:=List.replicate ys.length 1) fun y hy=>by rw [List.eq_of_mem_replicate hy];decide).mono (by rw [List.length_replicate];omega)
     obtain ⟨pn1,pn2⟩:=aBI hd
     have b3:Bd 41 ((d.den:Int)-d.num):=bq.sub bp
     simp_arith only [jE,nX,nH,aC0 hy hd,aHY,List.length_map,List.length_cons,List.length_nil,er,aC0 o1 hd,aKy,gB]
     refine ⟨by decide,⟨by omega,by omega,b7 (by omega)⟩,by decide,fun i δ=>∃ (u l:Int) (a4:Sl),δ=[.im (.lst (xs.map D.int)),.im (.lst (ys.map D.int)),.im (cH d),.im (.tup [.int u,.int l]),a4]∧0<l∧Bd (50 * i+1000) u∧Bd (50 * i+1000) l∧Rat.divInt u l=woL d (xs.drop (xs.length-i)) ys,⟨_,_,.un,rfl,aE3 hd hyl,b1,b2,?_⟩,?_,?_⟩
     ·rw [Nat.sub_zero,List.drop_length,← aKa hd hn]
      show _=(0:Rat)+d ^ 0 * _
      rw [Rat.pow_zero]
      grind
     ·rintro i x δ ed ⟨u,l,a4,rfl,hl,bu,bl,ew⟩
      have hi:i<xs.length:=by
       have:=(List.getElem?_eq_some_iff.mp ed).1
       simpa using this
      rw [List.getElem?_reverse (by simpa using hi),List.length_map] at ed
      obtain ⟨hj,rfl⟩:=cW ed
      have bx:Bd 4 xs[xs.length-1-i]:=by
       have:=x2 _ (List.getElem_mem hj)
       unfold Bd
       omega
      have c1:=b3.mul bx
      have c2:=c1.mul bl
      have c3:=bp.mul bu
      have c4:=bq.mul bl
      have c5:Bd (50 * i+1045+1) (((d.den:Int)-d.num) * xs[xs.length-1-i] * l+d.num * u):=(c2.mono (by omega)).add (c3.mono (by omega))
      simp_arith only [aM1 hd (bx.mono (by decide)) (bu.mono (by omega)) (bl.mono (by omega))]
      refine ⟨_,_,_,rfl,Int.mul_pos (by omega) hl,c5.mono (by omega),c4.mono (by omega),?_⟩
      rw [aJr _ u l hl,ew,show xs.length-(i+1)=xs.length-1-i by omega,List.drop_eq_getElem_cons hj,aIE,show xs.length-1-i+1=xs.length-i by omega]
     ·rintro δ ⟨u,l,a4,rfl,hl,bu,bl,ew⟩
      rw [List.length_reverse,List.length_map] at bu bl ew
      rw [Nat.sub_self,List.drop_zero] at ew
      simp_arith only [e0,e1,aJt hl (bu.mono (by omega)) (bl.mono (by omega)),ew]
    ·cases h
theorem aM0 {ns:List Int}{pay:List (List Int)}{d:Rat} (ho:gN ns pay) (hd:kL d) {x y:D}{rows over:List (List Int)} (hx:sB x=some (rows.map aF)) (hy:sB y=some (over.map aF)) (h1:rows.length≤20) (h2:∀ r∈rows,r∈aL ns) (h3:over.length≤20) (h4:∀ r∈over,r∈aL ns) (h5:over≠[]) :
  iP [fD ns pay,x,y,cH d]=some (.tup ((List.range ns.length).map fun h=>cH (woR ns pay rows over d h))):=by
 simp only [iP,kO ho,sX hx h1 h2,sX hy h3 h4,oQ hd,if_neg h5]
theorem aLX {ns:List Int}{pay:List (List Int)}{d:Rat} (rows over:List (List Int)) (h:Nat):woL d (rows.map fun r=>m8 ns pay r h) (over.map fun r=>m8 ns pay r h)=woR ns pay rows over d h:=by
 unfold woL woR
 rw [List.map_map,List.map_map,List.length_map,List.length_map]
 rfl
theorem aC5:∀ ds d,iP ds=some d→pI (gJ d) (bK ["meeting","rows","over","patience","told","hand","before","again"] ds)
 | [m,x,y,z],r,h=>by
  obtain ⟨ns,pay,rfl,ho,h⟩:=kN (show hC m _=some r from h)
  obtain ⟨rows,hx,h1,h2,h⟩:=vI h
  obtain ⟨over,hy,h3,h4,h⟩:=vI h
  obtain ⟨d,rfl,hd,h⟩:=oS h
  split at h
  ·cases h
  ·rename_i h5
   cases h
   show pI _ [.im (fD ns pay),.im x,.im y,.im (cH d),.un,.un,.un,.un]
   have e0:gT [aF ns,D.tup (pay.map aF)] 0=some (aF ns):=rfl
   have n3:=(lD ho.ok).1
   simp_arith only [pI,uM,e0,gB,List.length_nil,List.length_map]
   refine ⟨by decide,⟨by omega,by omega⟩,fun i δ=>∃ a5 a6 a7,δ=[.im (fD ns pay),.im x,.im y,.im (cH d),.ow ((List.range i).map fun h=>cH (woR ns pay rows over d h)),a5,a6,a7],⟨_,_,_,rfl⟩,?_,?_⟩
   ·rintro i w δ ed ⟨a5,a6,a7,rfl⟩
    unfold bW at ed
    obtain ⟨hi,rfl⟩:=cW ed
    rw [List.length_range] at hi
    have hi':i<ns.length:=by omega
    rw [List.getElem_range,Int.zero_add]
    have o1:jP (rows.map fun r=>m8 ns pay r i)=true:=vJ (by simpa using h1) fun w hw=>by
     obtain ⟨r,hr,rfl⟩:=List.mem_map.mp hw
     exact aFc ho (h2 r hr)
    have o2:jP (over.map fun r=>m8 ns pay r i)=true:=vJ (by simpa using h3) fun w hw=>by
     obtain ⟨r,hr,rfl⟩:=List.mem_map.mp hw
     exact aFc ho (h4 r hr)
    have o3:(over.map fun r=>m8 ns pay r i)≠[]:=by simpa using h5
    simp_arith only [aE2 ho hx h1 h2 hi',aE2 ho hy h3 h4 hi',aI5 o1 o2 o3 hd,aLX,List.length_map,List.length_range]
    refine ⟨cM (by omega),?_⟩
    rw [show (List.range (i+1)).map (fun h=>cH (woR ns pay rows over d h))=(List.range i).map (fun h=>cH (woR ns pay rows over d h))++[cH (woR ns pay rows over d i)] by rw [List.range_succ,List.map_append];rfl]
    exact ⟨_,_,_,rfl⟩
   ·rintro δ ⟨a5,a6,a7,rfl⟩
    simp_arith only []
    rw [gR,Int.toNat_natCast]
section
variable {ns:List Int}{pay:List (List Int)}{pl:List (List Int×List Int)}{d:Rat}{h s:Nat}
theorem aDb (hp:iB ns pl) (hd:kL d) (hs:s<pl.length) {n i:Nat} (hi:i<n) (e:gU (dX ns pl) n s=gU (dX ns pl) i s):dL ns pay pl d h s=woR ns pay (((List.range n).map fun t=>aY pl (gU (dX ns pl) t s)).take i) (((List.range n).map fun t=>aY pl (gU (dX ns pl) t s)).drop i) d h:=by
 have W:=aBg (h:=h) (pay:=pay) hp hd
 have hf:=vO hp
 have a:=W.unroll hf i s hs
 have hc:=p7 hf i s hs
 have b:=W.unroll hf (n-i) (gU (dX ns pl) i s) hc
 rw [← k9,show i+(n-i)=n by omega,e] at b
 unfold woR
 have l1:rY d ((((List.range n).map fun t=>aY pl (gU (dX ns pl) t s)).take i).map (fun r=>(m8 ns pay r h:Rat)))=fst d (fun s=>(m8 ns pay (aY pl s) h:Rat)) (dX ns pl) i s:=by
  rw [yF,← List.map_take,List.map_map,List.take_range,Nat.min_eq_left (by omega)]
  rfl
 have l2:rY d ((((List.range n).map fun t=>aY pl (gU (dX ns pl) t s)).drop i).map (fun r=>(m8 ns pay r h:Rat)))=fst d (fun s=>(m8 ns pay (aY pl s) h:Rat)) (dX ns pl) (n-i) (gU (dX ns pl) i s):=by
  rw [yF,← List.map_drop,List.map_map]
  congr 1
  refine List.ext_getElem (by simp) fun k h1 h2=>?_
  simp only [List.getElem_map,List.getElem_drop,List.getElem_range,Function.comp]
  rw [← k9]
 rw [l1,l2,List.length_take,List.length_drop,List.length_map,List.length_range,Nat.min_eq_left (by omega),a]
 obtain ⟨p1,p2⟩:=mM hd.pos hd.lt (n-i) (by omega)
 have hne:(1-d ^ (n-i))≠0:=by grind
 have k:dL ns pay pl d h (gU (dX ns pl) i s)=fst d (fun s=>(m8 ns pay (aY pl s) h:Rat)) (dX ns pl) (n-i) (gU (dX ns pl) i s) / (1-d ^ (n-i)):=by grind
 rw [k]
def lQ (f:Nat→Nat) (t:Nat):List (Int×Int):=(List.range t).map fun (k:Nat)=>((f k:Int),(k:Int))
theorem aF1 {f:Nat→Nat}{t:Nat}{x i:Int} (e:eO (lQ f t) x=some i):∃ k,k<t∧i=(k:Int)∧(f k:Int)=x:=by
 unfold eO at e
 obtain ⟨p,hp,e2⟩:=Option.map_eq_some_iff.mp e
 have h1:=List.mem_of_find?_eq_some hp
 have h2:=List.find?_some hp
 unfold lQ at h1
 obtain ⟨k,hk,rfl⟩:=List.mem_map.mp h1
 exact ⟨k,List.mem_range.mp hk,e2.symm,of_decide_eq_true h2⟩
theorem aAI {f:Nat→Nat}{t:Nat}{x:Int} (e:eO (lQ f t) x=none):∀ k,k<t→(f k:Int)≠x:=by
 intro k hk z
 unfold eO at e
 have e2:=Option.map_eq_none_iff.mp e
 have:=List.find?_eq_none.mp e2 ((f k:Int),(k:Int)) (List.mem_map.mpr ⟨k,List.mem_range.mpr hk,rfl⟩)
 exact this (decide_eq_true z)
theorem aI4 {f:Nat→Nat}{t:Nat}{x:Int} (hx:(f t:Int)=x) (e:eO (lQ f t) x=none):qG (lQ f t) x t=lQ f (t+1):=by
 unfold qG
 have hn:¬ ((lQ f t).any fun p=>decide (p.1=x))=true:=by
  intro z
  obtain ⟨p,hp,hq⟩:=List.any_eq_true.mp z
  unfold lQ at hp
  obtain ⟨k,hk,rfl⟩:=List.mem_map.mp hp
  exact aAI e k (List.mem_range.mp hk) (of_decide_eq_true hq)
 rw [if_neg hn]
 unfold lQ
 rw [List.range_succ,List.map_append,← hx]
 rfl
theorem aH8 (ho:gN ns pay) (hp:iB ns pl) (hs:s<pl.length) (hd:kL d):eY [fD ns pay,bA pl,.int s,cH d]=some (.tup ((List.range ns.length).map fun h=>cH (dL ns pay pl d h s))):=by
 simp only [eY,kO ho,rO hp,rJ hs,oQ hd]
end
theorem xU:∀ ds d,eY ds=some d→k8 (gJ d) (bK ["meeting","plan","start","patience","came","state","rows"] ds)
 | [m,p,x,z],r,h=>by
  obtain ⟨ns,pay,rfl,ho,h⟩:=kN (show hC m _=some r from h)
  obtain ⟨pl,rfl,hp,h⟩:=rM h
  obtain ⟨s,rfl,hs,h⟩:=rC h
  obtain ⟨d,rfl,hd,h⟩:=oS h
  cases h
  show k8 _ [.im (fD ns pay),.im (bA pl),.im (.int s),.im (cH d),.un,.un,.un]
  have hf:=vO hp
  have h20:=hp.few.2
  simp_arith only [k8,lX,lR,lT,lT,aCy,jO]
  refine ⟨fun n δ=>∃ t:Nat,δ=[.im (fD ns pay),.im (bA pl),.im (.int s),.im (cH d),.od (.k (lQ (fun k=>gU (dX ns pl) k s) t)),.im (.int (gU (dX ns pl) t s)),.un]∧n=pl.length-t∧t≤pl.length∧∀ i j,i<j→j<t→gU (dX ns pl) i s≠gU (dX ns pl) j s,⟨pl.length,0,rfl,rfl,Nat.zero_le _,fun i j _ hj=>absurd hj (Nat.not_lt_zero j)⟩,?_⟩
  rintro n δ ⟨t,rfl,rfl,ht,hdis⟩
  have hst:=p7 hf t s hs
  simp_arith only [nN,mY,gKI,DM.get]
  cases el:eO (lQ (fun k=>gU (dX ns pl) k s) t) (gU (dX ns pl) t s:Int) with
  | none=>
   have hnew:=aAI el
   have hdis':∀ i j,i<j→j<t+1→gU (dX ns pl) i s≠gU (dX ns pl) j s:=by
    intro i j hij hj z
    by_cases hjt:j=t
    ·subst hjt
     exact hnew i hij (by rw [z])
    ·exact hdis i j hij (by omega) z
   have htl:t<pl.length:=by
    apply Nat.lt_of_not_le
    intro z
    have e:t=pl.length:=by omega
    obtain ⟨i,j,hij,hj,ez⟩:=vL pl.length (fun k=>gU (dX ns pl) k s) fun k _=>p7 hf k s hs
    exact hdis' i j hij (by omega) ez
   have e0:gT [aF (aY pl (gU (dX ns pl) t s)),aF (pl.getD (gU (dX ns pl) t s) ([],[])).2] 0=some (aF (aY pl (gU (dX ns pl) t s))):=rfl
   have hlen:(lQ (fun k=>gU (dX ns pl) k s) t).length=t:=by simp [lQ]
   have hz:t<sizeLine:=cM (by omega)
   have hstep:jG ns pl (gU (dX ns pl) t s) (aY pl (gU (dX ns pl) t s))=gU (dX ns pl) (t+1) s:=by
    rw [k9]
    rfl
   simp_arith only [Option.isSome_none,Bool.not_false,sE,wI,mY,gKI,DM.put,hlen,hz,uB hst,e0,aFu ho hp hst (oX hp hst),hstep]
   refine ⟨pl.length-(t+1),by omega,t+1,?_,rfl,htl,hdis'⟩
   rw [aI4 (f:=fun k=>gU (dX ns pl) k s) rfl el]
  | some i0=>
   obtain ⟨i,hi,rfl,hii⟩:=aF1 el
   have hii:gU (dX ns pl) i s=gU (dX ns pl) t s:=by omega
   simp_arith only [Option.isSome_some,Bool.not_true,lR,lX,sG,aB5,cC]
   refine ⟨by simp only [List.length_map,lQ,List.length_range];exact b7 (by omega),fun x=>match x with
    | .int k=>aF (aY pl k.toNat)
    | _=>.non,fun x hx=>?_,?_⟩
   ·obtain ⟨q,hq,rfl⟩:=List.mem_map.mp hx
    unfold lQ at hq
    obtain ⟨k,hk,rfl⟩:=List.mem_map.mp hq
    have hsk:=p7 hf k s hs
    have e0:gT [aF (aY pl (gU (dX ns pl) k s)),aF (pl.getD (gU (dX ns pl) k s) ([],[])).2] 0=some (aF (aY pl (gU (dX ns pl) k s))):=rfl
    simp_arith only [δc,List.map_cons,List.map_nil,uB hsk,e0,Int.toNat_natCast]
   ·have em:((lQ (fun k=>gU (dX ns pl) k s) t).map fun p=>D.int p.1).map (fun x=>match x with
     | .int k=>aF (aY pl k.toNat)
     | _=>.non)=((List.range t).map fun k=>aY pl (gU (dX ns pl) k s)).map aF:=by
     unfold lQ
     rw [List.map_map,List.map_map,List.map_map]
     refine List.map_congr_left fun k _=>?_
     simp
    rw [em]
    generalize hR:((List.range t).map fun k=>aY pl (gU (dX ns pl) k s))=R
    have hl:R.length=t:=by rw [← hR];simp
    have hm:∀ r∈R,r∈aL ns:=by
     intro r hr
     rw [← hR] at hr
     obtain ⟨k,_,rfl⟩:=List.mem_map.mp hr
     exact oX hp (p7 hf k s hs)
    have c1:aAs (R.map aF) none (some (i:Int))=(R.take i).map aF:=by rw [aF4 _ _ (by rw [List.length_map];omega),List.map_take]
    have c2:aAs (R.map aF) (some (i:Int)) none=(R.drop i).map aF:=by rw [aGC _ _ (by rw [List.length_map];omega),List.map_drop]
    have fw:=aM0 (pay:=pay) ho hd (x:=.lst ((R.take i).map aF)) (y:=.lst ((R.drop i).map aF)) (rows:=R.take i) (over:=R.drop i) rfl rfl (by rw [List.length_take];omega) (fun r hr=>hm r (List.mem_of_mem_take hr)) (by rw [List.length_drop];omega) (fun r hr=>hm r (List.mem_of_mem_drop hr)) (by
     intro z
     have:=congrArg List.length z
     rw [List.length_drop] at this
     simp at this
     omega)
    simp_arith only [aKc,tQ,mY,gKI,DM.get,el,c1,c2,fw]
    congr 1
    refine List.map_congr_left fun h _=>?_
    rw [← hR,aDb hp hd hs hi hii.symm]
theorem aFO:∀ ds d,iK ds=some d→tX (gJ d) (bK ["meeting","plan","patience"] ds)
 | [m,p,z],r,h=>by
  obtain ⟨ns,pay,rfl,ho,h⟩:=kN (show hC m _=some r from h)
  obtain ⟨pl,rfl,hp,h⟩:=rM h
  obtain ⟨d,rfl,hd,h⟩:=oS h
  cases h
  show tX _ [.im (fD ns pay),.im (bA pl),.im (cH d)]
  have h20:=hp.few.2
  simp_arith only [tX,cC,List.length_map]
  refine ⟨⟨by omega,by omega⟩,by rw [gR];exact b7 (by omega),fun x=>match x with
   | .int s=>.tup ((List.range ns.length).map fun h=>cH (dL ns pay pl d h s.toNat))
   | _=>.non,fun x hx=>?_,?_⟩
  ·unfold bW at hx
   obtain ⟨s,hs,rfl⟩:=List.mem_map.mp hx
   have hs':s<pl.length:=by
    have:=List.mem_range.mp hs
    omega
   simp_arith only [δc,List.map_cons,List.map_nil,Int.zero_add,aH8 ho hp hs' hd,Int.toNat_natCast]
  ·unfold bW aBB
   rw [List.map_map,Int.toNat_natCast]
   congr 1
   refine List.map_congr_left fun s _=>?_
   simp
section
variable {ns:List Int}{pay:List (List Int)}{pl:List (List Int×List Int)}{st:List (Int×Int×Int)}
theorem rL:∀ {st:List (Int×Int×Int)}{t:Nat}{r:List Int},(∀ x∈st,0≤x.1∧0≤x.2.1∧x.2.1<ns.length∧0≤x.2.2∧x.2.2<ns.getD x.2.1.toNat 0)→r∈aL ns→fB st t r∈aL ns
 | [],t,r,_,hr=>hr
 | x::st,t,r,h,hr=>by
  have hx:=h x List.mem_cons_self
  show fB st t (if x.1=(t:Int) then r.set x.2.1.toNat x.2.2 else r)∈aL ns
  refine rL (fun y hy=>h y (List.mem_cons_of_mem _ hy)) ?_
  split
  ·exact aFt hr hx.2.2.2.1 hx.2.2.2.2
  ·exact hr
theorem aA8 (hp:iB ns pl) (hs:lP ns st):∀ t,f7 ns pl st t<pl.length∧aGk ns pl st t∈aL ns
 | 0=>⟨hp.few.1,rL hs.ok (oX hp hp.few.1)⟩
 | t+1=>by
  obtain ⟨h1,h2⟩:=aA8 hp hs t
  have h3:f7 ns pl st (t+1)<pl.length:=(aFB hp h1 h2).2.1
  exact ⟨h3,rL hs.ok (oX hp h3)⟩
theorem aAB {t:Nat}{r:List Int}{i:Nat} (hi:i<st.length):fB (st.take (i+1)) t r=if st[i].1=(t:Int) then (fB (st.take i) t r).set st[i].2.1.toNat st[i].2.2 else fB (st.take i) t r:=by
 unfold fB
 rw [List.take_succ,List.getElem?_eq_getElem hi,Option.toList_some,List.foldl_append]
 rfl
end
section
variable {ns:List Int}{st:List (Int×Int×Int)}
theorem aFY {κ:Type} [DecidableEq κ] (kvs:List (κ×Int)) (k j:κ) (v:Int):eO (qG kvs k v) j=if j=k then some v else eO kvs j:=by
 have inj:∀ a b:Option Int,a.map V.int=b.map V.int→a=b:=by
  intro a b e
  cases a <;> cases b <;> first | rfl | cases e | skip
  rfl
 have hid:∀ a b:κ,(fun x:κ=>x) a=(fun x:κ=>x) b→a=b:=fun _ _ z=>z
 apply inj
 have e1:=mH (f:=fun x:κ=>x) hid j (qG kvs k v)
 have e2:=rT (f:=fun x:κ=>x) hid k v kvs
 have e3:=mH (f:=fun x:κ=>x) hid j kvs
 rw [← e1,← e2,aIm,e3]
 split <;> rfl
def kvS (st:List (Int×Int×Int)):List (List Int×Int):=st.foldl (fun kvs x=>qG kvs [x.1,x.2.1] x.2.2) []
theorem xY {i:Nat} (hi:i<st.length):kvS (st.take (i+1))=qG (kvS (st.take i)) [st[i].1,st[i].2.1] st[i].2.2:=by
 unfold kvS
 rw [List.take_succ,List.getElem?_eq_getElem hi,Option.toList_some,List.foldl_append]
 rfl
theorem aG3 {κ:Type} [DecidableEq κ] (kvs:List (κ×Int)) (k:κ) (v:Int):(qG kvs k v).length≤kvs.length+1:=by
 unfold qG
 split
 ·rw [List.length_map];omega
 ·simp
theorem aFa:∀ i,i≤st.length→(kvS (st.take i)).length≤i
 | 0,_=>by simp [kvS]
 | i+1,h=>by
  rw [xY (by omega)]
  have:=aG3 (kvS (st.take i)) [st[i].1,st[i].2.1] st[i].2.2
  have:=aFa i (by omega)
  omega
theorem aAF (hs:lP ns st) {t:Nat}{r:List Int} (hr:r∈aL ns) {h:Nat} (hh:h<ns.length):∀ i,i≤st.length→(fB (st.take i) t r).getD h 0=(eO (kvS (st.take i)) [(t:Int),(h:Int)]).getD (r.getD h 0)
 | 0,_=>rfl
 | i+1,hi=>by
  have hi':i<st.length:=hi
  have ih:=aAF hs hr hh i (by omega) (t:=t)
  have ok:=hs.ok _ (List.getElem_mem hi')
  have hm:fB (st.take i) t r∈aL ns:=rL (fun y hy=>hs.ok y (List.mem_of_mem_take hy)) hr
  have rl:=pK hm
  rw [aAB hi',xY hi',aFY]
  by_cases e1:st[i].1=(t:Int)
  ·rw [if_pos e1]
   by_cases e2:st[i].2.1=(h:Int)
   ·have e3:st[i].2.1.toNat=h:=by omega
    rw [if_pos (by rw [e1,e2]),e3,b6 (by rw [List.length_set];omega)]
    simp
   ·have e3:st[i].2.1.toNat≠h:=by omega
    rw [if_neg (by intro z;injection z with _ z;injection z with z;exact e2 z.symm),← ih,List.getD_eq_getElem?_getD,List.getElem?_set_ne e3,← List.getD_eq_getElem?_getD]
  ·rw [if_neg e1,if_neg (by intro z;injection z with z;exact e1 z.symm),ih]
end
theorem aGh:∀ ds d,iN ds=some d→uV (gJ d) (bK ["meeting","plan","many","strays","strayed","stray","done","state","time","row"] ds)
 | [m,p,x,y],d,h=>by
  obtain ⟨ns,pay,rfl,ho,h1⟩:=kN (show hC m _=some d from h)
  obtain ⟨pl,rfl,hp,h2⟩:=rM h1
  obtain ⟨n,rfl,hn,h3⟩:=rC h2
  obtain ⟨st,rfl,hs,h4⟩:=aCu h3
  clear h h1 h2 h3
  cases h4
  show uV _ [.im (fD ns pay),.im (bA pl),.im (.int n),.im (.tup (st.map aCZ)),.un,.un,.un,.un,.un,.un]
  have n3:=(lD ho.ok).1
  have s100:=hs.few
  simp_arith only [uV,sY,sW,sI,sI,aCy,gB]
  refine ⟨fun i δ=>∃ a5,δ=[.im (fD ns pay),.im (bA pl),.im (.int n),.im (.tup (st.map aCZ)),.od (.t (kvS (st.take i))),a5,.un,.un,.un,.un],⟨_,rfl⟩,?_,?_⟩
  ·rintro i x δ ed ⟨a5,rfl⟩
   obtain ⟨hi,rfl⟩:=cW ed
   have e0:gT [D.int st[i].1,D.int st[i].2.1,D.int st[i].2.2] 0=some (.int st[i].1):=rfl
   have e1:gT [D.int st[i].1,D.int st[i].2.1,D.int st[i].2.2] 1=some (.int st[i].2.1):=rfl
   have e2:gT [D.int st[i].1,D.int st[i].2.1,D.int st[i].2.2] 2=some (.int st[i].2.2):=rfl
   have ei:cX [D.int st[i].1,D.int st[i].2.1]=some [st[i].1,st[i].2.1]:=rfl
   have hz:(kvS (st.take i)).length<sizeLine:=cM (by have:=aFa (st:=st) i (by omega);omega)
   simp_arith only [sE,gKT,e0,e1,e2,ei,DM.put,cP,hz,List.length_cons,List.length_nil]
   refine ⟨by decide,.im (aCZ st[i]),?_⟩
   rw [xY hi]
  ·rintro δ ⟨a5,rfl⟩
   rw [List.length_map,List.take_length]
   simp_arith only [sW,sY,sG,gB,List.length_nil]
   refine ⟨by decide,⟨by omega,by omega⟩,fun t δ=>∃ a8 a9,δ=[.im (fD ns pay),.im (bA pl),.im (.int n),.im (.tup (st.map aCZ)),.fd (.t (kvS st)),a5,.ow ((oN ns pl st t).map aF),.im (.int (f7 ns pl st t)),a8,a9],⟨_,_,rfl⟩,?_,?_⟩
   ·rintro t x δ ed ⟨a8,a9,rfl⟩
    unfold bW at ed
    obtain ⟨ht,rfl⟩:=cW ed
    rw [List.length_range] at ht
    obtain ⟨hsl,hrt⟩:=aA8 hp hs t
    have hr0:=oX hp hsl
    have rl:=pK hr0
    have e0:gT [aF (aY pl (f7 ns pl st t)),aF (pl.getD (f7 ns pl st t) ([],[])).2] 0=some (aF (aY pl (f7 ns pl st t))):=rfl
    rw [List.getElem_range,Int.zero_add]
    simp_arith only [uB hsl,e0,aEa,cC]
    refine ⟨by simp only [List.length_map,List.length_range];exact b7 (by omega),fun x=>match x with
     | .tup [.int h,.int k]=>.int ((eO (kvS st) [(t:Int),h]).getD k)
     | _=>.non,fun x hx=>?_,?_⟩
    ·obtain ⟨k,hk,rfl⟩:=List.mem_map.mp hx
     have ei:cX [D.int (t:Int),D.int (k:Int)]=some [(t:Int),(k:Int)]:=rfl
     simp_arith only [δc,List.map_cons,List.map_nil,aBO,mY,gKT,ei,DM.get,cP,List.length_cons,List.length_nil]
     refine ⟨by decide,?_⟩
     cases eO (kvS st) [(t:Int),(k:Int)] <;> rfl
    ·have em:((List.range (aY pl (f7 ns pl st t)).length).map fun (k:Nat)=>D.tup [.int k,.int ((aY pl (f7 ns pl st t)).getD k 0)]).map (fun x=>match x with
      | .tup [.int h,.int k]=>D.int ((eO (kvS st) [(t:Int),h]).getD k)
      | _=>.non)=(aGk ns pl st t).map D.int:=by
      rw [List.map_map]
      have el:(aGk ns pl st t).length=(aY pl (f7 ns pl st t)).length:=by rw [pK hrt,rl]
      refine List.ext_getElem (by simp [el]) fun k h1 h2=>?_
      simp only [List.getElem_map,List.getElem_range,Function.comp]
      have hk:k<ns.length:=by simpa [pK hrt] using h2
      have:=aAF hs (t:=t) hr0 hk st.length (Nat.le_refl _)
      rw [List.take_length] at this
      rw [← this,← b6 (by rw [pK hrt];exact hk) 0]
      rfl
     rw [em]
     have fb:=aFu (pay:=pay) ho hp hsl hrt
     simp_arith only [fb,List.length_map]
     refine ⟨cM (by simp [oN];omega),?_⟩
     have e1:oN ns pl st (t+1)=oN ns pl st t++[aGk ns pl st t]:=by
      unfold oN
      rw [List.range_succ,List.map_append]
      rfl
     rw [e1,List.map_append]
     exact ⟨_,_,rfl⟩
   ·rintro δ ⟨a8,a9,rfl⟩
    simp_arith only []
    rw [gR,Int.toNat_natCast]
theorem aDH:∀ ds d,iJ ds=some d→pF (gJ d) (bK ["thing"] ds)
 | [x],d,h=>by
  cases h
  show pF _ [.im x]
  cases x <;> simp [pF,cF ,i8,uG,nP,jY,d0,c8,cJ,aE,aX,bR,cY,gC,gF,g9,aA,aI,bS,aZ,i4,aO,fW,mS,mO,gX,pH,pC,cA,nF,bL,o6,jA,fO,i6,tO,wN,oIs,kE,j7,l5,eG,iH,iD,dG,mU,iG,uC,xL,fK,lZ,kI,qW,j5,dN,dW,lG,mC,rX,gOr,lM,qX,uP,lN,uZ,j6,qD,l6,sQ,jZ,fS,fU,hG,iZ,tR,uO,t9,eq_self,if_true, ↓reduceIte,Bool.false_eq_true,if_false,List.getElem?_cons_zero,List.getElem?_cons_succ,List.set_cons_zero,List.set_cons_succ,xE]
 | [],d,h=>by cases h
 | _::_::_,d,h=>by cases h
theorem aAn:∀ ds d,dP ds=some d→kC (gJ d) (bK ["thing","least","most"] ds)
 | [x,.int a,.int b],d,h=>by
  cases h
  show kC _ [.im x,.im (.int a),.im (.int b)]
  cases x with
  | int i=>
   simp [kC,cF ,i8,uG,nP,jY,d0,c8,cJ,aE,aX,bR,cY,gC,gF,g9,aA,aI,bS,aZ,i4,aO,fW,mS,mO,gX,pH,pC,cA,nF,bL,o6,jA,fO,i6,tO,wN,oIs,kE,j7,l5,eG,iH,iD,dG,mU,iG,uC,xL,fK,lZ,kI,qW,j5,dN,dW,lG,mC,rX,gOr,lM,qX,uP,lN,uZ,j6,qD,l6,sQ,jZ,fS,fU,hG,iZ,tR,uO,t9,eq_self,if_true, ↓reduceIte,Bool.false_eq_true,if_false,List.getElem?_cons_zero,List.getElem?_cons_succ,List.set_cons_zero,List.set_cons_succ,iJ,xE,eZ]
   split <;> simp_all <;> omega
  | _=>simp [kC,cF ,i8,uG,nP,jY,d0,c8,cJ,aE,aX,bR,cY,gC,gF,g9,aA,aI,bS,aZ,i4,aO,fW,mS,mO,gX,pH,pC,cA,nF,bL,o6,jA,fO,i6,tO,wN,oIs,kE,j7,l5,eG,iH,iD,dG,mU,iG,uC,xL,fK,lZ,kI,qW,j5,dN,dW,lG,mC,rX,gOr,lM,qX,uP,lN,uZ,j6,qD,l6,sQ,jZ,fS,fU,hG,iZ,tR,uO,t9,eq_self,if_true, ↓reduceIte,Bool.false_eq_true,if_false,List.getElem?_cons_zero,List.getElem?_cons_succ,List.set_cons_zero,List.set_cons_succ,iJ,xE,eZ]
theorem y6:∀ ds d,aU ds=some d→jB (gJ d) (bK ["thing","fewest","most"] ds)
 | [x,.int a,.int b],d,h=>by
  cases h
  show jB _ [.im x,.im (.int a),.im (.int b)]
  cases x with
  | tup xs=>
   simp [jB,cF ,i8,uG,nP,jY,d0,c8,cJ,aE,aX,bR,cY,gC,gF,g9,aA,aI,bS,aZ,i4,aO,fW,mS,mO,gX,pH,pC,cA,nF,bL,o6,jA,fO,i6,tO,wN,oIs,kE,j7,l5,eG,iH,iD,dG,mU,iG,uC,xL,fK,lZ,kI,qW,j5,dN,dW,lG,mC,rX,gOr,lM,qX,uP,lN,uZ,j6,qD,l6,sQ,jZ,fS,fU,hG,iZ,tR,uO,t9,eq_self,if_true, ↓reduceIte,Bool.false_eq_true,if_false,List.getElem?_cons_zero,List.getElem?_cons_succ,List.set_cons_zero,List.set_cons_succ,bP]
   split <;> simp_all <;> omega
  | _=>simp [jB,cF ,i8,uG,nP,jY,d0,c8,cJ,aE,aX,bR,cY,gC,gF,g9,aA,aI,bS,aZ,i4,aO,fW,mS,mO,gX,pH,pC,cA,nF,bL,o6,jA,fO,i6,tO,wN,oIs,kE,j7,l5,eG,iH,iD,dG,mU,iG,uC,xL,fK,lZ,kI,qW,j5,dN,dW,lG,mC,rX,gOr,lM,qX,uP,lN,uZ,j6,qD,l6,sQ,jZ,fS,fU,hG,iZ,tR,uO,t9,eq_self,if_true, ↓reduceIte,Bool.false_eq_true,if_false,List.getElem?_cons_zero,List.getElem?_cons_succ,List.set_cons_zero,List.set_cons_succ,bP]
theorem aGK:∀ ds d,mL ds=some d→oK (gJ d) (bK ["thing","deeds"] ds)
 | [x,.tup es],d,h=>by
  obtain ⟨ns,rfl,ho,rfl⟩:=jN (show fE es (fun ns=>D.bl (tZ x ns))=some d from h)
  show oK _ [.im x,.im (.tup (ns.map D.int))]
  obtain ⟨m1,m2⟩:=lD ho
  cases x with
  | tup xs=>
   by_cases h1:xs.length=ns.length
   ·have e1:bP (.tup xs) (ns.map D.int).length (ns.map D.int).length=true:=by
     simp [bP]
     omega
    simp_arith only [oK,o8,aU,e1,Bool.not_true,cC]
    refine ⟨?_,fun p=>match p with
     | .tup [a,.int n]=>.bl (eZ a 0 (n-1))
     | _=>.non,fun p hp=>?_,?_⟩
    ·rw [List.length_zipWith]
     exact b7 (by rw [h1];omega)
    ·rw [aMd] at hp
     obtain ⟨i,hi,rfl⟩:=List.mem_iff_getElem.mp hp
     rw [List.getElem_zipWith]
     simp [δc,cF ,i8,uG,nP,jY,d0,c8,cJ,aE,aX,bR,cY,gC,gF,g9,aA,aI,bS,aZ,i4,aO,fW,mS,mO,gX,pH,pC,cA,nF,bL,o6,jA,fO,i6,tO,wN,oIs,kE,j7,l5,eG,iH,iD,dG,mU,iG,uC,xL,fK,lZ,kI,qW,j5,dN,dW,lG,mC,rX,gOr,lM,qX,uP,lN,uZ,j6,qD,l6,sQ,jZ,fS,fU,hG,iZ,tR,uO,t9,eq_self,if_true, ↓reduceIte,Bool.false_eq_true,if_false,List.getElem?_cons_zero,List.getElem?_cons_succ,List.set_cons_zero,List.set_cons_succ,dP]
    ·have e2:(List.zipWith (fun x y=>D.tup [x,y]) xs (ns.map D.int)).map (fun p=>match p with
       | .tup [a,.int n]=>D.bl (eZ a 0 (n-1))
       | _=>.non)=(List.zipWith (fun x n=>eZ x 0 (n-1)) xs ns).map D.bl:=by
      rw [aMd,List.map_zipWith,List.map_zipWith]
     rw [e2,aA4]
     simp [tZ,h1]
   ·have e1:bP (.tup xs) (ns.map D.int).length (ns.map D.int).length=false:=by
     simp [bP]
     omega
    simp_arith only [oK,o8,aU,e1,Bool.not_false,tZ,decide_eq_false h1,Bool.false_and]
  | _=>simp [oK,o8,cF ,i8,uG,nP,jY,d0,c8,cJ,aE,aX,bR,cY,gC,gF,g9,aA,aI,bS,aZ,i4,aO,fW,mS,mO,gX,pH,pC,cA,nF,bL,o6,jA,fO,i6,tO,wN,oIs,kE,j7,l5,eG,iH,iD,dG,mU,iG,uC,xL,fK,lZ,kI,qW,j5,dN,dW,lG,mC,rX,gOr,lM,qX,uP,lN,uZ,j6,qD,l6,sQ,jZ,fS,fU,hG,iZ,tR,uO,t9,eq_self,if_true, ↓reduceIte,Bool.false_eq_true,if_false,List.getElem?_cons_zero,List.getElem?_cons_succ,List.set_cons_zero,List.set_cons_succ,aU,bP,tZ]
theorem x8:∀ ds d,fV ds=some d→kY (gJ d) (bK ["parts","least","most"] ds)
 | [.tup xs,.int a,.int b],d,h=>by
  have h:(if xs.length≤1000 then some (D.bl (xs.all fun d=>eZ d a b)) else none)=some d:=h
  split at h
  ·rename_i hl
   cases h
   show kY _ [.im (.tup xs),.im (.int a),.im (.int b)]
   simp_arith only [kY,cC,List.getElem?_cons_zero,List.getElem?_cons_succ]
   refine ⟨b7 hl,fun x=>.bl (eZ x a b),fun x hx=>?_,?_⟩
   ·simp [δc,dP]
   ·rw [zZ]
    simp [Function.comp_def,List.all_map]
  ·cases h
theorem aD4:∀ ds d,iS ds=some d→rF (gJ d) (bK ["deeds","rows","many","longer","row","deed"] ds)
 | [.tup es],d,h=>by
  obtain ⟨ns,rfl,ho,rfl⟩:=jN (show fE es (fun ns=>D.tup ((aL ns).map aF))=some d from h)
  show rF _ [.im (.tup (ns.map D.int)),.un,.un,.un,.un,.un]
  simp_arith only [rF,wO,gB]
  refine ⟨by decide,by decide,fun i δ=>∃ a b c e,δ=[.im (.tup (ns.map D.int)),.im (.lst ((aL (ns.take i)).map aF)),a,b,c,e],⟨.un,.un,.un,.un,rfl⟩,?_,?_⟩
  ·rintro i d δ ed ⟨a,b,c,e,rfl⟩
   obtain ⟨hi,rfl⟩:=cW ed
   obtain ⟨f1,f2,f3,f4⟩:=aBq ho hi
   generalize hR:aL (ns.take i)=R at *
   generalize hn:ns[i]=n at *
   simp_arith only []
   refine ⟨by decide,fun j δ=>∃ c e,δ=[.im (.tup (ns.map D.int)),.im (.lst (R.map aF)),.im (.int n),.ow ((cS (R.take j) n).map aF),c,e],⟨c,e,rfl⟩,?_,?_⟩
   ·rintro j d δ ed ⟨c,e,rfl⟩
    obtain ⟨hj,rfl⟩:=cW ed
    have fr:=f4 R[j] (List.getElem_mem hj)
    simp_arith only []
    refine ⟨by omega,fun k δ=>∃ e,δ=[.im (.tup (ns.map D.int)),.im (.lst (R.map aF)),.im (.int n),.ow ((cS (R.take j) n).map aF++((List.range k).map fun (m:Nat)=>aF (R[j]++[(m:Int)]))),.im (aF R[j]),e],⟨e,by simp⟩,?_,?_⟩
    ·rintro k d δ ed ⟨e,rfl⟩
     unfold bW at ed
     obtain ⟨hk,rfl⟩:=cW ed
     rw [List.length_range] at hk
     simp_arith only [aF,List.getElem_range,Int.zero_add]
     have hl:(cS (R.take j) n).length≤81:=by
      rw [mJ,List.length_take]
      exact Nat.le_trans (Nat.mul_le_mul (Nat.le_trans (Nat.min_le_right _ _) f3) (show n.toNat≤3 by omega)) (by decide)
     refine ⟨b7 (by simp),by simp;exact b7 (by omega),?_,?_⟩
     ·refine cM ?_
      simp
      omega
     ·refine ⟨.im (.int (k:Int)),?_⟩
      rw [List.range_succ,List.map_append,← List.append_assoc]
      simp only [List.map_cons,List.map_nil,List.map_append,aF]
    ·rintro δ ⟨e,rfl⟩
     refine ⟨.im (aF R[j]),e,?_⟩
     rw [uK R n j hj,List.map_append,List.map_map]
     simp [bW,Function.comp_def]
   ·rintro δ ⟨c,e,rfl⟩
    simp_arith only []
    rw [zY ns i hi,hR,hn,List.length_map,List.take_length]
    exact ⟨_,_,_,_,rfl⟩
  ·rintro δ ⟨a,b,c,e,rfl⟩
   simp_arith only []
   rw [List.length_map,List.take_length]
theorem aDy:∀ ds d,jT ds=some d→kS (gJ d) (bK ["thing","deeds","states","many"] ds)
 | [x,.tup es,.int st],d,h=>by
  obtain ⟨ns,rfl,ho,rfl⟩:=jN (show fE es (fun ns=>D.bl (nT x ns st))=some d from h)
  show kS _ [.im x,.im (.tup (ns.map D.int)),.im (.int st),.un]
  obtain ⟨l1,l2⟩:=lO ho
  cases x with
  | tup xs=>
   by_cases h1:xs.length=(aL ns).length
   ·have e1:bP (.tup xs) ((aL ns).map aF).length ((aL ns).map aF).length=true:=by
     simp [bP]
     omega
    have h2:xs.length≤1000:=by omega
    simp_arith only [kS,mF,iS,gO _ ho,aU,e1,fV,if_pos h2,nT,decide_eq_true h1,Bool.true_and]
   ·have e1:bP (.tup xs) ((aL ns).map aF).length ((aL ns).map aF).length=false:=by
     simp [bP]
     omega
    simp_arith only [kS,mF,iS,gO _ ho,aU,e1,nT,decide_eq_false h1,Bool.false_and]
  | _=>simp_arith only [kS,mF,iS,gO _ ho,aU,bP,nT]
theorem aCw:∀ ds d,jF ds=some d→iF (gJ d) (bK ["thing","deeds","states"] ds)
 | [x,.tup es,.int st],d,h=>by
  obtain ⟨ns,rfl,ho,rfl⟩:=jN (show fE es (fun ns=>D.bl (kZ x ns st))=some d from h)
  show iF _ [.im x,.im (.tup (ns.map D.int)),.im (.int st)]
  cases x with
  | tup xs=>
   match xs with
   | [a,b]=>
    have e0:gT [a,b] 0=some a:=rfl
    have e1:gT [a,b] 1=some b:=rfl
    have e2:bP (.tup [a,b]) 2 2=true:=by simp [bP]
    simp_arith only [iF,aU,e2,e0,e1,mL,jT,gO _ ho,kZ]
    cases tZ a ns <;> simp
   | []=>simp [iF,cF ,i8,uG,nP,jY,d0,c8,cJ,aE,aX,bR,cY,gC,gF,g9,aA,aI,bS,aZ,i4,aO,fW,mS,mO,gX,pH,pC,cA,nF,bL,o6,jA,fO,i6,tO,wN,oIs,kE,j7,l5,eG,iH,iD,dG,mU,iG,uC,xL,fK,lZ,kI,qW,j5,dN,dW,lG,mC,rX,gOr,lM,qX,uP,lN,uZ,j6,qD,l6,sQ,jZ,fS,fU,hG,iZ,tR,uO,t9,eq_self,if_true, ↓reduceIte,Bool.false_eq_true,if_false,List.getElem?_cons_zero,List.getElem?_cons_succ,List.set_cons_zero,List.set_cons_succ,aU,bP,kZ]
   | [a]=>simp [iF,cF ,i8,uG,nP,jY,d0,c8,cJ,aE,aX,bR,cY,gC,gF,g9,aA,aI,bS,aZ,i4,aO,fW,mS,mO,gX,pH,pC,cA,nF,bL,o6,jA,fO,i6,tO,wN,oIs,kE,j7,l5,eG,iH,iD,dG,mU,iG,uC,xL,fK,lZ,kI,qW,j5,dN,dW,lG,mC,rX,gOr,lM,qX,uP,lN,uZ,j6,qD,l6,sQ,jZ,fS,fU,hG,iZ,tR,uO,t9,eq_self,if_true, ↓reduceIte,Bool.false_eq_true,if_false,List.getElem?_cons_zero,List.getElem?_cons_succ,List.set_cons_zero,List.set_cons_succ,aU,bP,kZ]
   | a::b::c::r=>
    have h4:bP (.tup (a::b::c::r)) 2 2=false:=by simp [bP];omega
    simp_arith only [iF,aU,h4,kZ]
  | _=>simp [iF,cF ,i8,uG,nP,jY,d0,c8,cJ,aE,aX,bR,cY,gC,gF,g9,aA,aI,bS,aZ,i4,aO,fW,mS,mO,gX,pH,pC,cA,nF,bL,o6,jA,fO,i6,tO,wN,oIs,kE,j7,l5,eG,iH,iD,dG,mU,iG,uC,xL,fK,lZ,kI,qW,j5,dN,dW,lG,mC,rX,gOr,lM,qX,uP,lN,uZ,j6,qD,l6,sQ,jZ,fS,fU,hG,iZ,tR,uO,t9,eq_self,if_true, ↓reduceIte,Bool.false_eq_true,if_false,List.getElem?_cons_zero,List.getElem?_cons_succ,List.set_cons_zero,List.set_cons_succ,aU,bP,kZ]
theorem aER:∀ ds d,j3 ds=some d→mG (gJ d) (bK ["thing","meeting"] ds)
 | [x,.tup [.tup es,p]],d,h=>by
  obtain ⟨ns,rfl,ho,rfl⟩:=jN (show fE es (fun ns=>D.bl (p6 x ns))=some d from h)
  show mG _ [.im x,.im (.tup [.tup (ns.map D.int),p])]
  have e0:gT [D.tup (ns.map D.int),p] 0=some (D.tup (ns.map D.int)):=rfl
  cases x with
  | tup xs=>
   by_cases h1:1≤xs.length∧xs.length≤8
   ·have e1:bP (.tup xs) 1 8=true:=by
     simp [bP]
     omega
    simp_arith only [mG,nG,aU,e1,Bool.not_true,cC]
    refine ⟨b7 (by omega),fun s=>.bl (kZ s ns xs.length),fun s hs=>?_,?_⟩
    ·simp_arith only [δc,List.map_cons,List.map_nil,e0,jF,gO _ ho]
    ·rw [zZ]
     simp [Function.comp_def,List.all_map,p6,h1]
   ·have e1:bP (.tup xs) 1 8=false:=by
     simp [bP]
     omega
    have e2:(decide (1≤xs.length) && decide (xs.length≤8))=false:=by simp;omega
    simp_arith only [mG,nG,aU,e1,Bool.not_false,p6,e2,Bool.false_and]
  | _=>simp [mG,nG,cF ,i8,uG,nP,jY,d0,c8,cJ,aE,aX,bR,cY,gC,gF,g9,aA,aI,bS,aZ,i4,aO,fW,mS,mO,gX,pH,pC,cA,nF,bL,o6,jA,fO,i6,tO,wN,oIs,kE,j7,l5,eG,iH,iD,dG,mU,iG,uC,xL,fK,lZ,kI,qW,j5,dN,dW,lG,mC,rX,gOr,lM,qX,uP,lN,uZ,j6,qD,l6,sQ,jZ,fS,fU,hG,iZ,tR,uO,t9,eq_self,if_true, ↓reduceIte,Bool.false_eq_true,if_false,List.getElem?_cons_zero,List.getElem?_cons_succ,List.set_cons_zero,List.set_cons_succ,aU,bP,p6]
section
variable {α:Type} [DecidableEq α]
structure aK8 (mk:List (α×Int)→DM) (e:α→D):Prop where
 get:∀ kvs a,(mk kvs).get (e a)=some (eO kvs a)
 put:∀ kvs a v,kvs.length<sizeLine→(mk kvs).put (e a) v=some (mk (qG kvs a v))
 len:∀ (δ:DS) (i:Nat) (Q:D→Prop) kvs,mY δ i=some (mk kvs)→(wI i δ Q↔Q (.int kvs.length))
 kd:∀ a,aMa (e a)
theorem aK5:aK8 DM.t aF:=by
 refine ⟨fun kvs a=>?_,fun kvs a v h=>?_,fun δ i Q kvs h=>?_,fun a=>?_⟩
 ·simp only [DM.get,cP]
 ·simp only [DM.put,cP,h,if_true]
 ·unfold wI
  rw [h]
 ·exact Or.inl (by rw [cP];simp)
theorem aKR:aK8 DM.p prE:=by
 refine ⟨fun kvs a=>?_,fun kvs a v h=>?_,fun δ i Q kvs h=>?_,fun a=>?_⟩
 ·simp only [DM.get,prE,oP]
 ·simp only [DM.put,prE,oP,h,if_true]
 ·unfold wI
  rw [h]
 ·exact Or.inr (by rw [oP];simp)
theorem wK {l:List α}{j:Nat} (h:j<l.length):eF (l.take (j+1))=uD (eF (l.take j)) l[j]:=by
 rw [List.take_succ,List.getElem?_eq_getElem h,Option.toList_some,aDG]
theorem aEN (l:List α):(eF l).length≤l.length:=j4 (t6 l) fun x hx=>jK.mp hx
theorem aHk {mk:List (α×Int)→DM}{e:α→D} (N:aK8 mk e) {l:List α} (hl:l.length≤1000):o7 (gJ (.lst ((iL l).map D.int))) [.im (.lst (l.map e)),.od (mk []),.un]:=by
 simp_arith! only [o7,gB]
 refine ⟨fun j δ=>∃ a,δ=[.im (.lst (l.map e)),.od (mk (sH (eF (l.take j)) 0)),a],⟨_,rfl⟩,?_,?_⟩
 ·rintro j x δ ed ⟨a,rfl⟩
  obtain ⟨hj,rfl⟩:=cW ed
  have fl:=aEN (l.take j)
  rw [List.length_take] at fl
  have fz:(sH (eF (l.take j)) 0).length<sizeLine:=by rw [zU];exact cM (by omega)
  simp_arith! only [nN,mY,gKD,N.kd,true_and,N.get,oI]
  by_cases hm:l[j]∈eF (l.take j)
  ·have ef:eF (l.take (j+1))=eF (l.take j):=by rw [wK hj];exact if_pos hm
   simp_arith! only [hm,if_true,Option.isSome_some,Bool.not_true]
   exact ⟨_,by rw [ef]⟩
  ·have ef:eF (l.take (j+1))=eF (l.take j)++[l[j]]:=by rw [wK hj];exact if_neg hm
   simp_arith! only [hm,if_false,Option.isSome_none,Bool.not_false,sE]
   refine (N.len _ _ _ _ rfl).mpr ?_
   have pu:=aDX hm
   simp_arith! only [gKD,N.kd,true_and,N.put _ _ _ fz,zU,pu]
   exact ⟨_,by rw [ef]⟩
 ·rintro δ ⟨a,rfl⟩
  rw [List.length_map,List.take_length]
  simp_arith! only [tL,sG,cC,List.length_map]
  refine ⟨b7 hl,fun d=>.int (((mk (sH (eF l) 0)).get d).bind id |>.getD 0),fun d hd=>?_,?_⟩
  ·obtain ⟨x,hx,rfl⟩:=List.mem_map.mp hd
   simp_arith! only [δc,List.map_cons,List.map_nil,tQ,mY,gKD,N.kd,true_and,N.get,oI,jK.mpr hx,if_true,Option.bind_some,id,Option.getD_some]
  ·unfold iL
   rw [List.map_map,List.map_map]
   congr 1
   refine List.map_congr_left fun x hx=>?_
   simp only [Function.comp,N.get,oI,jK.mpr hx,if_true,Option.bind_some,id,Option.getD_some,Nat.zero_add]
end
theorem aCt:∀ ds d,d7 ds=some d→tE (gJ d) (bK ["things","numbers","thing"] ds)
 | [.lst ds],d,h=>by
  have h':(if ds.length≤1000 then match yC tU ds with
   | some l=>some (D.lst ((iL l).map D.int))
   | none=>match yC prD ds with
    | some l=>some (.lst ((iL l).map D.int))
    | none=>none
   else none)=some d:=h
  clear h
  split at h'
  ·rename_i hl
   show tE _ [.im (.lst ds),.un,.un]
   split at h'
   ·rename_i l e
    cases h'
    rw [aB4 (fun _ _=>o5) e] at hl ⊢
    refine Or.inl ?_
    rw [List.length_map] at hl
    exact aHk aK5 hl
   ·split at h'
    ·rename_i l e
     cases h'
     rw [aB4 aLd e] at hl ⊢
     refine Or.inr ?_
     rw [List.length_map] at hl
     exact aHk aKR hl
    ·cases h'
  ·cases h'
section
variable {nn:Nat}{pl:Pl}
theorem aL3:(bA pl) = .tup (pl.map aB1):=rfl
theorem aFX (f:Nat→List Int×List Int→D):(qQ (pl.map aB1))=(List.range pl.length).map fun (s:Nat)=>D.tup [.int (s:Int),aB1 (pl.getD s ([],[]))]:=by
 refine List.ext_getElem? fun i=>?_
 rw [qJ,List.getElem?_map,List.getElem?_map]
 by_cases hi:i<pl.length
 ·rw [List.getElem?_eq_getElem hi,List.getElem?_eq_getElem (by simpa using hi),List.getElem_range,Option.map_some,Option.map_some,Option.map_some,b6 hi]
 ·rw [List.getElem?_eq_none (by omega),List.getElem?_eq_none (by simpa using hi)]
  rfl
end
theorem aFU:∀ ds d,i7 ds=some d→t5 (gJ d) (bK ["plan","sorts"] ds)
 | [p,.lst ss],d,h=>by
  simp only [i7] at h
  split at h
  ·rename_i pl sl e1 e2
   split at h
   ·rename_i hh
    obtain ⟨hp,hsl⟩:=hh
    cases h
    rw [gH e1,fF e2]
    clear e1 e2
    generalize lU pl=nn at *
    show t5 _ [.im (.tup (pl.map aB1)),.im (.lst (sl.map D.int))]
    have f20:=hp.few.2
    have hc:=hp.cnt
    simp_arith! only [t5,cC,aFX (fun _ _=>.non),List.length_map,List.length_range]
    refine ⟨b7 (by omega),fun d=>match d with
     | .tup [.int s,_]=>prE (pk pl sl s.toNat)
     | _=>.non,fun d hd=>?_,?_⟩
    ·obtain ⟨s,hs,rfl⟩:=List.mem_map.mp hd
     have hs':=List.mem_range.mp hs
     have hm:pl.getD s ([],[])∈pl:=by rw [b6 hs'];exact List.getElem_mem hs'
     obtain ⟨n1,n2⟩:=hp.nexts _ hm
     have a1:gT (sl.map D.int) (s:Int)=some (.int (sl.getD s 0)):=oV (by omega)
     have a2:gT [aF (pl.getD s ([],[])).1,aF (pl.getD s ([],[])).2] 1=some (aF (pl.getD s ([],[])).2):=rfl
     simp_arith! only [δc,List.map_cons,List.map_nil,aB1,a1,a2,cC,List.length_map,n1,Int.toNat_natCast]
     refine ⟨b7 (by omega),fun d=>match d with
      | .int x=>.int (sl.getD x.toNat 0)
      | _=>.non,fun d hd=>?_,?_⟩
     ·obtain ⟨x,hx,rfl⟩:=List.mem_map.mp hd
      have hb:=n2 x hx
      have a3:gT (sl.map D.int) x=some (.int (sl.getD x.toNat 0)):=by
       have:=oV (l:=sl) (i:=x.toNat) (by omega)
       rw [Int.toNat_of_nonneg hb.1] at this
       exact this
      simp_arith! only [δc,List.map_cons,List.map_nil,a3]
     ·simp only [List.length_cons,List.length_nil]
      refine ⟨by decide,?_⟩
      simp only [prE,pk,aF,List.map_map]
      rfl
    ·rw [List.map_map]
     have e:((List.range pl.length).map ((fun d=>match d with
      | .tup [.int s,_]=>prE (pk pl sl s.toNat)
      | _=>.non) ∘ fun (s:Nat)=>D.tup [.int (s:Int),aB1 (pl.getD s ([],[]))]))=((List.range pl.length).map (pk pl sl)).map prE:=by
      rw [List.map_map]
      refine List.map_congr_left fun s _=>?_
      simp only [Function.comp,Int.toNat_natCast]
     rw [e,aDY (by rw [List.length_map,List.length_range];omega)]
     rfl
   ·cases h
  ·cases h
section
theorem aIY (a b:List Int):j7 (.lst (a.map D.int)) (.lst (b.map D.int))=some (decide (a=b)):=by
 unfold j7
 by_cases hl:a.length=b.length
 ·have hz:=sR a b
  rw [if_pos (by rw [List.length_map,List.length_map];exact hl),zO (f:=D.int) (fun x y=>by unfold j7;congr 1),← hz]
  simp [hl]
 ·rw [if_neg (by rw [List.length_map,List.length_map];exact hl),decide_eq_false (fun z=>hl (by rw [z]))]
theorem aJm (a:List Int):l5 (.lst (a.map D.int))≤32:=by
 have:iV (a.map D.int)≤0:=uY fun x hx=>by
  obtain ⟨i,_,rfl⟩:=List.mem_map.mp hx
  simp [l5]
 unfold l5
 omega
end
theorem sS:∀ ds d,b9 ds=some d→iC (gJ d) (bK ["plan","sorts","finer"] ds)
 | [p],d,h=>by
  simp only [b9] at h
  split at h
  ·rename_i pl e1
   split at h
   ·rename_i hp
    cases h
    rw [gH e1]
    clear e1
    generalize lU pl=nn at *
    show iC _ [.im (bA pl),.un,.un]
    have f20:=hp.few.2
    have e0:(pl.map fun s=>aF s.1)=((List.range pl.length).map (aY pl)).map aF:=by
     refine List.ext_getElem? fun i=>?_
     rw [List.map_map,List.getElem?_map,List.getElem?_map]
     by_cases hi:i<pl.length
     ·rw [List.getElem?_eq_getElem hi,List.getElem?_eq_getElem (by simpa using hi),List.getElem_range]
      simp only [Option.map_some,Function.comp,aY,b6 hi]
     ·rw [List.getElem?_eq_none (by omega),List.getElem?_eq_none (by simpa using hi)]
      rfl
    simp_arith! only [iC,l4,lY,cC,List.length_map]
    refine ⟨b7 (by omega),fun d=>match d with
     | .tup [a,_]=>a
     | _=>.non,fun d hd=>?_,?_⟩
    ·obtain ⟨s,hs,rfl⟩:=List.mem_map.mp hd
     have a2:gT [aF s.1,aF s.2] 0=some (aF s.1):=rfl
     simp_arith! only [δc,List.map_cons,List.map_nil,a2]
    ·rw [List.map_map]
     have e:(pl.map ((fun d=>match d with
      | .tup [a,_]=>a
      | _=>.non) ∘ fun s=>D.tup [aF s.1,aF s.2]))=((List.range pl.length).map (aY pl)).map aF:=by
      rw [← e0]
      rfl
     rw [e,aGF (by rw [List.length_map,List.length_range];omega)]
     have i0:aCC nn pl (aBH pl):=aFT
     simp_arith! only []
     rw [show iL ((List.range pl.length).map (aY pl))=aBH pl from rfl,aE7 hp i0.len]
     simp_arith! only [jO]
     refine ⟨fun n δ=>∃ ss,aCC nn pl ss∧n=aHK pl.length ss∧δ=[.im (bA pl),.im (.lst (ss.map D.int)),.im (.lst ((nZ pl ss).map D.int))],⟨_,_,i0,rfl,rfl⟩,?_⟩
     rintro n δ ⟨ss,hi,rfl,rfl⟩
     simp_arith! only [aIY]
     refine ⟨aJm _,?_⟩
     by_cases he:nZ pl ss=ss
     ·simp_arith! only [he,decide_true,Bool.not_true]
      rw [aGx hp hi he]
     ·simp_arith! only [he,decide_false,Bool.not_false]
      have h2:=hi.part hp
      rw [aE7 hp h2.len]
      exact ⟨_,aGw hp hi he,_,h2,rfl,rfl⟩
   ·cases h
  ·cases h
theorem aAf:∀ ds m d,dQ ds m=some d→l8 (gJ d) (uX ["part","sorts","numbers"] ds m)
 | [st,.lst ss],.k kvs,d,h=>by
  simp only [dQ] at h
  split at h
  ·rename_i s sl e1 e2
   split at h
   ·rename_i hh
    cases h
    rw [aCE e1,fF e2]
    clear e1 e2
    show l8 _ [.im (.tup [aF s.1,aF s.2]),.im (.lst (sl.map D.int)),.fd (.k kvs)]
    have a0:gT [aF s.1,aF s.2] 0=some (aF s.1):=rfl
    have a1:gT [aF s.1,aF s.2] 1=some (aF s.2):=rfl
    simp_arith! only [l8,a0,a1,cC,List.length_map]
    refine ⟨b7 hh.1,fun d=>match d with
     | .int x=>.int ((eO kvs (sl.getD x.toNat 0)).getD 0)
     | _=>.non,fun d hd=>?_,?_⟩
    ·obtain ⟨x,hx,rfl⟩:=List.mem_map.mp hd
     obtain ⟨h0,h1,h2⟩:=hh.2 x hx
     obtain ⟨v,ev⟩:=Option.isSome_iff_exists.mp h2
     have a3:gT (sl.map D.int) x=some (.int (sl.getD x.toNat 0)):=by
      have:=oV (l:=sl) h1
      rw [Int.toNat_of_nonneg h0] at this
      exact this
     simp_arith! only [δc,List.map_cons,List.map_nil,tQ,mY,gKI,a3,DM.get,ev,Option.getD_some]
    ·simp only [List.length_cons,List.length_nil,List.map_map]
     refine ⟨by decide,?_⟩
     simp only [aF,List.map_map]
     rfl
   ·cases h
  ·cases h
theorem aIO {os:List Nat}{g:Nat→List Int×List Int}{F:D→D} (h:∀ s∈os,F (.int (s:Int)) = .tup [aF (g s).1,aF (g s).2]):((e6 os).map D.int).map F=(os.map g).map fun s=>D.tup [aF s.1,aF s.2]:=by
 rw [e6,List.map_map,List.map_map,List.map_map]
 exact List.map_congr_left fun s hs=>h s hs
theorem aMU {r nx sl:List Int}{kvs:List (Int×Int)}{f:Int→Int} (hn:nx.length≤1000) (h:∀ x∈nx,0≤x∧x.toNat<sl.length∧eO kvs (sl.getD x.toNat 0)=some (f x)):dQ [.tup [aF r,aF nx],.lst (sl.map D.int)] (.k kvs)=some (.tup [aF r,aF (nx.map f)]):=by
 have pp:yH (.tup [aF r,aF nx])=some (r,nx):=by simp only [yH,l7]
 have e:(nx.map fun x=>(eO kvs (sl.getD x.toNat 0)).getD 0)=nx.map f:=List.map_congr_left fun x hx=>by rw [(h x hx).2.2];rfl
 simp only [dQ,pp,cP]
 rw [if_pos ⟨hn,fun x hx=>⟨(h x hx).1,(h x hx).2.1,by rw [(h x hx).2.2];rfl⟩⟩,e]
section
variable {nn:Nat}{pl:Pl}
theorem aEX {t:Nat} (ht:t<pl.length):gT ((f8 nn pl).map D.int) (t:Int)=some (.int (srt nn pl t)):=oV (by rw [x9];exact ht)
theorem aFM {os:List Nat}{t:Nat} (hos:∀ o∈os,o<pl.length) (hol:os.length≤20) (ht:t<pl.length) {De:qU}{a4 a5:Sl}
  (hn:∀ os',(∀ o∈os',o<pl.length)→os'.map (bB nn pl)=pY (os.map (bB nn pl)) (bB nn pl t)→De.nx [.im (bA pl),.im (.lst ((f8 nn pl).map D.int)),.od (.k (rW nn pl os')),.ow ((e6 os').map D.int),a4,a5,.im (.int t)]) :
  v7 De [.im (bA pl),.im (.lst ((f8 nn pl).map D.int)),.od (.k (rW nn pl os)),.ow ((e6 os).map D.int),a4,a5,.im (.int t)]:=by
 classical
 have a1:=aEX (nn:=nn) ht
 have il:(e6 os).length=os.length:=by simp [e6]
 have kl:=aGY (nn:=nn) (pl:=pl) os
 simp_arith! only [v7,nN,mY,gKI,a1,DM.get,aBm hos ht]
 by_cases hm:bB nn pl t∈os.map (bB nn pl)
 ·simp_arith! only [hm,if_true,Option.isSome_some,Bool.not_true]
  exact hn os hos (if_pos hm).symm
 ·have kz:(rW nn pl os).length<sizeLine:=by rw [kl];exact cM (by omega)
  have q:=hn (os++[t]) (fun o ho=>by
   rcases List.mem_append.mp ho with z | z
   ·exact hos o z
   ·rw [List.mem_singleton.mp z];exact ht) (by
   unfold pY
   rw [if_neg hm,List.map_append]
   rfl)
  have ea:(e6 (os++[t])).map D.int=(e6 os).map D.int++[D.int (t:Int)]:=by simp [e6]
  rw [ea,← aHD hos ht hm] at q
  simp_arith! only [hm,if_false,Option.isSome_none,Bool.not_false,sE,gKI,a1,List.length_map,il,noL,qY,DM.put,kz,if_true]
  exact ⟨trivial,cM (by omega),q⟩
theorem aFK (hp:bQ nn pl) {os:List Nat}{k s:Nat}{rows:Pl} (hos:∀ o∈os,o<pl.length) (hI:xX (fun b=>∃ s,s<pl.length∧b=bB nn pl s) (bB nn pl 0) (os.map (bB nn pl),rows)) (hk:os[k]? = some s) {a5 a6:Sl}{De:qU}
  (hn:∀ os' a5 a6,(∀ o∈os',o<pl.length)→os'.map (bB nn pl)=(sZ (bB nn pl s) (os.map (bB nn pl))).1→De.nx [.im (bA pl),.im (.lst ((f8 nn pl).map D.int)),.od (.k (rW nn pl os')),.ow ((e6 os').map D.int),.im (.int ((k+1:Nat):Int)),a5,a6]) :
  vU De [.im (bA pl),.im (.lst ((f8 nn pl).map D.int)),.od (.k (rW nn pl os)),.ow ((e6 os).map D.int),.im (.int k),a5,a6]:=by
 have hs:s<pl.length:=hos s (List.mem_of_getElem? hk)
 have ho:gT ((e6 os).map D.int) (k:Int)=some (.int (s:Int)):=xI (by rw [e6,List.map_map,List.getElem?_map,hk];rfl)
 have f20:=hp.few.2
 have hc:=hp.cnt
 have lim:∀ os':List Nat,(os'.map (bB nn pl)).Nodup→(∀ o∈os',o<pl.length)→os'.length≤20:=fun os' h1 h2=>by
  have:=j4 h1 (m:=(List.range pl.length).map (bB nn pl)) fun c hc=>by
   obtain ⟨o,ho,e⟩:=List.mem_map.mp hc
   exact List.mem_map.mpr ⟨o,List.mem_range.mpr (h2 o ho),e⟩
  rw [List.length_map,List.length_map,List.length_range] at this
  omega
 have a1:gT [aF (aY pl s),aF (pl.getD s ([],[])).2] 1=some (aF (pl.getD s ([],[])).2):=rfl
 have nl:noL (aF (pl.getD s ([],[])).2)=true:=by
  have:=qY (pl.getD s ([],[])).2
  simpa [noL] using this
 simp_arith! only [vU,ho,nV hs,a1,nl,gB]
 refine ⟨trivial,fun j δ=>∃ os' new a6,(∀ o∈os',o<pl.length)∧((List.finRange nn).take j).foldl (aCL (bB nn pl s)) (os.map (bB nn pl),[])=(os'.map (bB nn pl),new)∧(os'.map (bB nn pl)).Nodup∧δ=[.im (bA pl),.im (.lst ((f8 nn pl).map D.int)),.od (.k (rW nn pl os')),.ow ((e6 os').map D.int),.im (.int k),.im (aF (pl.getD s ([],[])).2),a6],⟨os,[],a6,hos,rfl,hI.nd,rfl⟩,?_,?_⟩
 ·rintro j x δ ed ⟨os',new,a6,h1,h2,h4,rfl⟩
  rw [gW hp hs,List.map_map] at ed
  obtain ⟨hj,rfl⟩:=cW ed
  have hjn:j<nn:=by simpa using hj
  have ej:(List.finRange nn)[j]=⟨j,hjn⟩:=by simp
  have ht:=mK hp hs ⟨j,hjn⟩
  simp_arith! only [Function.comp,ej]
  refine aFM h1 (lim _ h4 h1) ht fun os2 g1 g2=>⟨os2,(aCL (bB nn pl s) (os'.map (bB nn pl),new) ⟨j,hjn⟩).2,_,g1,?_,?_,rfl⟩
  ·rw [List.take_succ,List.getElem?_eq_getElem (by simpa using hjn),Option.toList_some,List.foldl_append,h2,g2,ej]
   rfl
  ·rw [g2]
   exact tF h4
 ·rintro δ ⟨os',new,a6,h1,h2,h4,rfl⟩
  have hl:(pl.getD s ([],[])).2.length=nn:=by rw [gW hp hs];simp
  rw [List.length_map,hl,List.take_of_length_le (by simp)] at h2
  have e1:(sZ (bB nn pl s) (os.map (bB nn pl))).1=os'.map (bB nn pl):=congrArg Prod.fst h2
  simp_arith! only []
  exact hn os' _ _ h1 e1.symm
end
theorem aI1:∀ ds d,jU ds=some d→aB6 (gJ d) (bK ["plan","sorts","numbers","states","place","nexts","behind"] ds)
 | [a],res,h=>by
  simp only [jU] at h
  split at h
  ·rename_i pl e1
   split at h
   ·rename_i hp
    cases h
    rw [gH e1]
    clear e1
    generalize lU pl=nn at *
    classical
    show aB6 _ [.im (bA pl),.un,.un,.un,.un,.un,.un]
    have f20:=hp.few.2
    have hc:=hp.cnt
    have s0:gT ((f8 nn pl).map D.int) 0=some (.int (srt nn pl 0)):=aEX (t:=0) hp.few.1
    simp_arith! only [aB6,yE,aDB,aCI,aDP,aLD hp,aD6,s0,List.length_cons,List.length_nil,jO]
    refine ⟨by decide,fun n δ=>∃ (k:Nat) (os:List Nat) (rows:Pl) (a5 a6:Sl),n=20-k∧qH (bB nn pl 0) k=(os.map (bB nn pl),rows)∧rows.length=k∧(∀ o∈os,o<pl.length)∧δ=[.im (bA pl),.im (.lst ((f8 nn pl).map D.int)),.od (.k (rW nn pl os)),.ow ((e6 os).map D.int),.im (.int k),a5,a6],
     ⟨_,0,[0],[],_,_,rfl,rfl,rfl,fun o ho=>by rw [List.mem_singleton.mp ho];exact hp.few.1,rfl⟩,?_⟩
    rintro n δ ⟨k,os,rows,a5,a6,rfl,ei,hr,hos,rfl⟩
    have hI:=vR hp k
    have hf:=xD hp k
    rw [ei] at hI hf
    have hf':os.length≤pl.length:=by simpa using hf
    have hle:rows.length≤os.length:=by simpa using hI.le
    have il:(e6 os).length=os.length:=by simp [e6]
    simp_arith! only [List.length_map,il]
    by_cases hlt:k<os.length
    ·have hb:decide ((k:Int)<(os.length:Int))=true:=by simp;omega
     rw [hb]
     simp_arith! only []
     obtain ⟨s,hs⟩:∃ s,os[k]? = some s:=⟨_,List.getElem?_eq_getElem hlt⟩
     refine aFK hp hos hI hs fun os' a5 a6 g1 g2=>⟨20-(k+1),by omega,k+1,os',rows++[(aY pl s,(sZ (bB nn pl s) (os.map (bB nn pl))).2)],a5,a6,rfl,?_,?_,g1,rfl⟩
     ·show l3 (qH (bB nn pl 0) k)=_
      rw [ei]
      unfold l3
      have:(os.map (bB nn pl))[rows.length]? = some (bB nn pl s):=by rw [hr,List.getElem?_map,hs];rfl
      simp only [this]
      rw [g2]
      rfl
     ·rw [List.length_append,hr]
      rfl
    ·have hb:decide ((k:Int)<(os.length:Int))=false:=by simp;omega
     rw [hb]
     have hro:rows.length=os.length:=by omega
     obtain ⟨hmem,hrows⟩:=aIB hp hI hos hro
     have hlean:eW (bB nn pl 0)=rows:=by
      unfold eW
      rw [aDi (bB nn pl 0) (k:=k) (by rw [ei];simp;omega) 20 (by omega),ei]
     simp_arith! only [yE,sG,cC,List.length_map,il]
     refine ⟨b7 (by omega),fun d=>match d with
      | .int x=>.tup [aF (aY pl x.toNat),aF ((pl.getD x.toNat ([],[])).2.map fun b=>((os.map (bB nn pl)).idxOf (bB nn pl b.toNat):Int))]
      | _=>.non,fun d hd=>?_,?_⟩
     ·obtain ⟨y,hy,rfl⟩:=List.mem_map.mp hd
      obtain ⟨s,hs,rfl⟩:=List.mem_map.mp hy
      have hsl:=hos s hs
      have hm:pl.getD s ([],[])∈pl:=by rw [b6 hsl];exact List.getElem_mem hsl
      obtain ⟨n1,n2⟩:=hp.nexts _ hm
      have lk:∀ x∈(pl.getD s ([],[])).2,eO (rW nn pl os) ((f8 nn pl).getD x.toNat 0)=some ((os.map (bB nn pl)).idxOf (bB nn pl x.toNat):Int):=fun x hx=>by
       classical
       have hb:=n2 x hx
       rw [gW hp hsl] at hx
       obtain ⟨j,_,rfl⟩:=List.mem_map.mp hx
       have:=aBm (nn:=nn) hos (mK hp hsl j)
       rw [if_pos (hmem s hs j)] at this
       rw [Int.toNat_natCast]
       exact this
      have fr:dQ [.tup [aF (aY pl s),aF (pl.getD s ([],[])).2],.lst ((f8 nn pl).map D.int)] (.k (rW nn pl os))=some (.tup [aF (aY pl s),aF ((pl.getD s ([],[])).2.map fun b=>((os.map (bB nn pl)).idxOf (bB nn pl b.toNat):Int))]):=by
       exact aMU (by omega) fun x hx=>⟨(n2 x hx).1,by have:=n2 x hx;rw [x9];omega,lk x hx⟩
      simp_arith! only [δc,List.map_cons,List.map_nil,aEi,aBF,aCa,nV hsl,fr,Int.toNat_natCast]
     ·rw [hlean,← hrows]
      exact congrArg D.tup (aIO (g:=fun s=>(aY pl s,(pl.getD s ([],[])).2.map fun b=>((os.map (bB nn pl)).idxOf (bB nn pl b.toNat):Int))) fun s _=>by simp only [Int.toNat_natCast])
   ·cases h
  ·cases h
theorem aIr:∀ ds d,kD ds=some d→xG (gJ d) (bK ["one","other"] ds)
 | [p,q],d,h=>by
  simp only [kD] at h
  split at h
  ·rename_i a b e1 e2
   split at h
   ·rename_i hh
    obtain ⟨ha,hb⟩:=hh
    cases h
    rw [gH e1,gH e2]
    clear e1 e2
    generalize lU a=nn at *
    classical
    show xG _ [.im (bA a),.im (bA b)]
    have fa:=aDO ha
    have fb:=aDO hb
    have el:decide (eW (bB nn a 0)=eW (bB nn b 0))=decide (bB nn a 0=bB nn b 0):=by
     rw [Bool.eq_iff_iff]
     simp [aCF ha hb]
    have dp:=xR (eW (bB nn a 0))
    have eo:∀ (Q:D→Prop),wN (bA (eW (bB nn a 0))) (bA (eW (bB nn b 0))) Q=Q (.bl (decide (bB nn a 0=bB nn b 0))):=fun Q=>by
     unfold wN
     rw [aA0,el]
     simp [dp]
    simp only [xG,cF,bL,aO,aA,aI,aE,mS,fa,fb,eo,List.getElem?_cons_zero,List.getElem?_cons_succ]
   ·cases h
  ·cases h
def oJ (i:Nat):Stmt:=PySem.Challenge.pw_pactkeep_k10_whole_plans_made_lean.main.body.getD i (.Pass ⟨0,0,0,0⟩)
abbrev jH:Stmt:=oJ 1
abbrev dH:Stmt:=oJ 2
abbrev mV:Stmt:=oJ 3
abbrev jX:Stmt:=oJ 6
abbrev kW:Stmt:=oJ 7
abbrev jV:Stmt:=oJ 8
abbrev jM:Stmt:=oJ 9
abbrev lK:Stmt:=oJ 10
abbrev jQ:Stmt:=oJ 11
abbrev fQ:Stmt:=oJ 12
abbrev eR:Stmt:=oJ 13
abbrev gQ:Stmt:=oJ 14
abbrev tI:Stmt:=oJ 16
abbrev lL:Stmt:=oJ 18
abbrev lI:Stmt:=oJ 19
abbrev jI:Stmt:=oJ 20
abbrev eV:Stmt:=oJ 21
abbrev fA:Stmt:=oJ 22
abbrev j1:Stmt:=oJ 23
abbrev d9:Stmt:=oJ 24
abbrev eB:Stmt:=oJ 25
abbrev kP:Stmt:=oJ 26
abbrev pL:Stmt:=oJ 28
abbrev p9:Stmt:=oJ 29
abbrev fN:Stmt:=oJ 30
abbrev cI:Stmt:=oJ 31
abbrev lE:Stmt:=oJ 32
abbrev iI:Stmt:=oJ 33
abbrev iM:Stmt:=oJ 35
abbrev jR:Stmt:=oJ 36
abbrev gK:Stmt:=oJ 37
abbrev cQ:Stmt:=oJ 38
abbrev eC:Stmt:=oJ 39
abbrev jL:Stmt:=oJ 40
abbrev gL:Stmt:=oJ 41
abbrev fL:Stmt:=oJ 42
abbrev gS:Stmt:=oJ 43
abbrev fM:Stmt:=oJ 44
abbrev gM:Stmt:=oJ 45
abbrev c7:Stmt:=oJ 46
abbrev pU:Stmt:=oJ 47
structure m9 (K:PySem.W.Frag) (mg:Str→Option Value):Prop where
 n_abs:mg "abs"=none
 n_all:mg "all"=none
 n_bool:mg "bool"=none
 n_enumerate:mg "enumerate"=none
 n_int:mg "int"=none
 n_isinstance:mg "isinstance"=none
 n_len:mg "len"=none
 n_list:mg "list"=none
 n_range:mg "range"=none
 n_reversed:mg "reversed"=none
 n_sorted:mg "sorted"=none
 n_tuple:mg "tuple"=none
 n_zip:mg "zip"=none
 c_MOST_STATES:∃ t,mg "MOST_STATES"=some (.int (8) t)
section
variable {P:Program}{w:World}{K:PySem.W.Frag}{mg:Str→Option Value}{base:Heap}
section
set_option maxHeartbeats 8000000
variable {f:Addr}{cdv:Value}{A:Around}{outer:List Env}{s:Shared}{H:Hp}{E:XK}
theorem aCS:bD ["thing"] ["thing"] (aD jH):=by simp_all_arith!
theorem aAo (T:m9 K mg) (hr:cL 0 (A.deeper (envOfC "is_whole" (aD jH) s.heap.objs.size f cdv))) :
  kJ (d6 kK P w K mg base ["thing"] "is_whole" (aD jH) f cdv A outer s H E).nox (aW jH) pF:=by
 have hu:=hr.units
 exact (aN (bN (v6 (xJ (T:="int") (by decide) (aB (pv 0)) (xA rfl T.n_int aKE rfl) (fun h1 h2=>bJ h1 rfl T.n_isinstance k7 h2)) (zR (aJd (xJ (T:="bool") (by decide) (aB (pv 0)) (xA rfl T.n_bool aFq rfl) (fun h1 h2=>bJ h1 rfl T.n_isinstance k7 h2)))))))
theorem dZ:bD ["one","other","greater","smaller","rest"] ["one","other"] (aD dH):=by simp_all_arith!
theorem rV (T:m9 K mg) (hr:cL 0 (A.deeper (envOfC "common_divisor" (aD dH) s.heap.objs.size f cdv))) :
  kJ (d6 kK P w K mg base ["one","other","greater","smaller","rest"] "common_divisor" (aD dH) f cdv A outer s H E).nox (aW dH) iY:=by
 have hu:=hr.units
 exact (aH (bF (aV aEt (aC (aB (pv 0)) aG) (fun h1 h2=>bJ h1 rfl T.n_abs aEn h2)) (aM (aK (i:=2) dZ.nd rfl (Or.inl rfl))) (fun h1 h2=>bE h1 h2)) (aH (bF (aV aEt (aC (aB (pv 1)) aG) (fun h1 h2=>bJ h1 rfl T.n_abs aEn h2)) (aM (aK (i:=3) dZ.nd rfl (Or.inl rfl))) (fun h1 h2=>bE h1 h2)) (aH (mP PassesOwn.never (hJ (uL hu) (aB (pv 3)) aJ) (aH (bF (bI mQ (aB (pv 2)) (aB (pv 3))) (aM (aK (i:=4) dZ.nd rfl (Or.inl rfl))) (fun h1 h2=>bE h1 h2)) (aH (bF (aB (pv 3)) (aM (aK (i:=2) dZ.nd rfl (Or.inl rfl))) (fun h1 h2=>bE h1 h2)) (aN (bF (aB (pv 4)) (aM (aK (i:=3) dZ.nd rfl (Or.inl rfl))) (fun h1 h2=>bE h1 h2)))))) (aN (bN (aB (pv 2)))))))
theorem jW:bD ["deeds","rows","many","longer","row","deed"] ["deeds"] (aD kW):=by simp_all_arith!
theorem aBM (T:m9 K mg) (hr:cL 0 (A.deeper (envOfC "rows_of" (aD kW) s.heap.objs.size f cdv))) :
  kJ (d6 kK P w K mg base ["deeds","rows","many","longer","row","deed"] "rows_of" (aD kW) f cdv A outer s H E).nox (aW kW) rF:=by
 have hu:=hr.units
 exact (aH (bF (DF.toE (fR (aC (cT aG) aG))) (aM (aK (i:=1) jW.nd rfl (Or.inl rfl))) (fun h1 h2=>bE h1 h2)) (aH (fP rfl PassesOwn.never (j8 (aB (pv 0))) (aM (aK (i:=2) jW.nd rfl (Or.inl rfl))) (aH (gP (i:=3) (fR aG) (fun h=>f9 (i:=3) jW.nd rfl (Or.inl rfl) h)) (aH (fP rfl PassesOwn.never (qF (aB (pv 1))) (aM (aK (i:=4) jW.nd rfl (Or.inl rfl))) (aN (fP rfl PassesOwn.never (h9 rfl T.n_range (aB (pv 2))) (aM (aK (i:=5) jW.nd rfl (Or.inl rfl))) (aN (lV (i:=3) (bI d8 (aB (pv 4)) (cT (aC (aB (pv 5)) aG))) (fun h=>iW (nL PySem.F.plainAttrs_list PySem.F.slot_list_append PySem.F.type_list_append e7 (pv 3) (bX h dS)))))))) (hX 3 (aN (bF (aB (pv 3)) (aM (aK (i:=1) jW.nd rfl (Or.inl rfl))) (fun h1 h2=>bE h1 h2))))))) (aN (bN (aV cV (aC (aB (pv 1)) aG) (fun h1 h2=>cB h1 rfl T.n_tuple cO h2))))))
theorem lH:bD ["row","deeds","place","deed","many"] ["row","deeds"] (aD jV):=by simp_all_arith!
theorem aAm (T:m9 K mg) (hr:cL 0 (A.deeper (envOfC "place_of" (aD jV) s.heap.objs.size f cdv))) :
  kJ (d6 kK P w K mg base ["row","deeds","place","deed","many"] "place_of" (aD jV) f cdv A outer s H E).nox (aW jV) pA:=by
 have hu:=hr.units
 exact (aH (bF aJ (aM (aK (i:=2) lH.nd rfl (Or.inl rfl))) (fun h1 h2=>bE h1 h2)) (aH (fP rfl PassesOwn.never (aHS rfl T.n_zip aEz (aB (pv 0)) (aB (pv 1))) (n8 (aK (i:=3) lH.nd rfl (Or.inl rfl)) (aK (i:=4) lH.nd rfl (Or.inl rfl)) (fun h1 h2=>oD rfl (cU h1 (cU h2 k6)))) (aN (bF (bI d8 (bI kB (aB (pv 2)) (aB (pv 4))) (aB (pv 3))) (aM (aK (i:=2) lH.nd rfl (Or.inl rfl))) (fun h1 h2=>bE h1 h2)))) (aN (bN (aB (pv 2))))))
theorem zV:bD ["thing","fewest","most"] ["thing","fewest","most"] (aD fQ):=by simp_all_arith!
theorem vG (T:m9 K mg) (hr:cL 0 (A.deeper (envOfC "is_tuple_of" (aD fQ) s.heap.objs.size f cdv))) :
  kJ (d6 kK P w K mg base ["thing","fewest","most"] "is_tuple_of" (aD fQ) f cdv A outer s H E).nox (aW fQ) jB:=by
 have hu:=hr.units
 exact (aN (bN (v6 (xJ (T:="tuple") (by decide) (aB (pv 0)) (xA rfl T.n_tuple cO rfl) (fun h1 h2=>bJ h1 rfl T.n_isinstance k7 h2)) (zR (aDC aFf aFf (aB (pv 1)) (aV fH (aC (aB (pv 0)) aG) (fun h1 h2=>bJ h1 rfl T.n_len eE h2)) (aB (pv 2)))))))
theorem oW:bD ["pay","later","patience","upper"] ["pay","later","patience"] (aD eB):=by simp_all_arith!
theorem tD (T:m9 K mg) (hr:cL 0 (A.deeper (envOfC "now_and_later" (aD eB) s.heap.objs.size f cdv))) :
  kJ (d6 kK P w K mg base ["pay","later","patience","upper"] "now_and_later" (aD eB) f cdv A outer s H E).nox (aW eB) jD:=by
 have hu:=hr.units
 exact (aH (bF (bI d8 (bI nB (bI nB (bI qS (bC (aB (pv 2)) aJ (fun _ _=>rfl)) (bC (aB (pv 2)) aJ (fun _ _=>rfl))) (aB (pv 0))) (bC (aB (pv 1)) aJ (fun _ _=>rfl))) (bI nB (bC (aB (pv 2)) aJ (fun _ _=>rfl)) (bC (aB (pv 1)) aJ (fun _ _=>rfl)))) (aM (aK (i:=3) oW.nd rfl (Or.inl rfl))) (fun h1 h2=>bE h1 h2)) (aN (bN (cT (aC (aB (pv 3)) (aC (bI nB (bC (aB (pv 2)) aJ (fun _ _=>rfl)) (bC (aB (pv 1)) aJ (fun _ _=>rfl))) aG))))))
theorem kR:bD ["pays","patience","total","weight","pay"] ["pays","patience"] (aD kP):=by simp_all_arith!
theorem aBE (T:m9 K mg) (hr:cL 0 (A.deeper (envOfC "weighed" (aD kP) s.heap.objs.size f cdv))) :
  kJ (d6 kK P w K mg base ["pays","patience","total","weight","pay"] "weighed" (aD kP) f cdv A outer s H E).nox (aW kP) rK:=by
 have hu:=hr.units
 exact (aH (bF aJ (aM (aK (i:=2) kR.nd rfl (Or.inl rfl))) (fun h1 h2=>bE h1 h2)) (aH (bF aJ (aM (aK (i:=3) kR.nd rfl (Or.inl rfl))) (fun h1 h2=>bE h1 h2)) (aH (fP rfl PassesOwn.never (qF (aB (pv 0))) (aM (aK (i:=4) kR.nd rfl (Or.inl rfl))) (aH (bF (bI d8 (bI nB (aB (pv 2)) (bC (aB (pv 1)) aJ (fun _ _=>rfl))) (bI nB (aB (pv 3)) (aB (pv 4)))) (aM (aK (i:=2) kR.nd rfl (Or.inl rfl))) (fun h1 h2=>bE h1 h2)) (aN (bF (bI nB (aB (pv 3)) (bC (aB (pv 1)) aJ (fun _ _=>rfl))) (aM (aK (i:=3) kR.nd rfl (Or.inl rfl))) (fun h1 h2=>bE h1 h2))))) (aN (bN (aB (pv 2)))))))
theorem aAr:bD ["part","sorts","numbers"] ["part","sorts","numbers"] (aD fN):=by simp_all_arith!
theorem wQ (T:m9 K mg) (hr:cL 0 (A.deeper (envOfC "renumbered" (aD fN) s.heap.objs.size f cdv))) :
  kJ (d6 kK P w K mg base ["part","sorts","numbers"] "renumbered" (aD fN) f cdv A outer s H E).nox (aW fN) l8:=by
 have hu:=hr.units
 exact (aN (bN (cT (aC (bC (aB (pv 0)) aJ (fun _ _=>rfl)) (aC (aV cV (aC (DF.toE (dY (Nc:=["behind","numbers","sorts"]) (fr:=[none,some 2,some 1]) (ss:=[0]) (bT (sc:=(aD fN)) (N:=["part","sorts","numbers"]) rfl rfl (by decide +kernel)) (by decide) rfl (j8 (bC (aB (pv 0)) aJ (fun _ _=>rfl))) (fun Cc pins fp s3 H3=>aM (aK (i:=0) (show (["behind","numbers","sorts"]:List Str).Nodup by decide +kernel) rfl (Or.inl rfl))) (fun Cc pins fp s3 H3=>(xH hu (pv 1) (tG (bC (aB (pv 2)) (aB (pv 0)) (fun _ _=>rfl))) (fun _ _=>rfl))) eJ)) aG) (fun h1 h2=>cB h1 rfl T.n_tuple cO h2)) aG)))))
theorem p4:bD ["things","numbers","thing"] ["things"] (aD iI):=by simp_all_arith!
theorem aAt (T:m9 K mg) (hr:cL 0 (A.deeper (envOfC "numbered" (aD iI) s.heap.objs.size f cdv))) :
  kJ (d6 kK P w K mg base ["things","numbers","thing"] "numbered" (aD iI) f cdv A outer s H E).nox (aW iI) tE:=by
 have hu:=hr.units
 exact (aH (aHP (i:=1) (f9 (i:=1) p4.nd rfl (Or.inr rfl) aIn)) (aH (fP rfl PassesOwn.never (qF (aB (pv 0))) (aM (aK (i:=2) p4.nd rfl (Or.inl rfl))) (aN (l0 (vE hu (pv 1) (aEL (aB (pv 2)))) (aN (xF hu (pv 1) (aEL (aB (pv 2))) (aFd (i:=1) (bJ aBr rfl T.n_len eE (bX (pv 1) dS)) rfl))) f6))) (uA 1 (aN (bN (DF.toE (dY (Nc:=["thing","numbers"]) (fr:=[none,some 1]) (ss:=[0]) (bT (sc:=(aD iI)) (N:=["things","numbers","thing"]) rfl rfl (by decide +kernel)) (by decide) rfl (qF (aB (pv 0))) (fun Cc pins fp s3 H3=>aM (aK (i:=0) (show (["thing","numbers"]:List Str).Nodup by decide +kernel) rfl (Or.inl rfl))) (fun Cc pins fp s3 H3=>(xH hu (pv 1) (aEL (aB (pv 0))) (fun _ _=>rfl))) eJ)))))))
theorem aCp:bD ["_law_script","_law_k"] ["_law_script","_law_k"] (aD iM):=by simp_all_arith!
theorem xQ (T:m9 K mg) (hr:cL 0 (A.deeper (envOfC "_law_cell" (aD iM) s.heap.objs.size f cdv))) :
  kJ (d6 kK P w K mg base ["_law_script","_law_k"] "_law_cell" (aD iM) f cdv A outer s H E).nox (aW iM) nE:=by
 have hu:=hr.units
 exact (aH (l0 (hJ aHz (aB (pv 1)) (aV fH (aC (aB (pv 0)) aG) (fun h1 h2=>bJ h1 rfl T.n_len eE h2))) (aN (bN (bC (aB (pv 0)) (aB (pv 1)) (fun _ _=>rfl)))) f6) (aN (bN aJ)))
theorem aDc:bD ["_law_cell_here","_law_prime","_law_many"] ["_law_cell_here","_law_prime","_law_many"] (aD jR):=by simp_all_arith!
theorem aAj (T:m9 K mg) (hr:cL 0 (A.deeper (envOfC "_law_mix" (aD jR) s.heap.objs.size f cdv))) :
  kJ (d6 kK P w K mg base ["_law_cell_here","_law_prime","_law_many"] "_law_mix" (aD jR) f cdv A outer s H E).nox (aW jR) pN:=by
 have hu:=hr.units
 exact (aN (bN (bI mQ (bI mQ (bI kB (aB (pv 0)) aJ) (aB (pv 1))) (aB (pv 2)))))
theorem iT:bD ["_law_deeds","_law_found","_law_many","_law_more","_law_row_here"] ["_law_deeds"] (aD gK):=by simp_all_arith!
theorem yU (T:m9 K mg) (hr:cL 0 (A.deeper (envOfC "_law_rows" (aD gK) s.heap.objs.size f cdv))) :
  kJ (d6 kK P w K mg base ["_law_deeds","_law_found","_law_many","_law_more","_law_row_here"] "_law_rows" (aD gK) f cdv A outer s H E).nox (aW gK) nD:=by
 have hu:=hr.units
 exact (aH (bF (DF.toE (fR (aC (cT aG) aG))) (aM (aK (i:=1) iT.nd rfl (Or.inl rfl))) (fun h1 h2=>bE h1 h2)) (aH (fP rfl PassesOwn.never (j8 (aB (pv 0))) (aM (aK (i:=2) iT.nd rfl (Or.inl rfl))) (aH (gP (i:=3) (fR aG) (fun h=>f9 (i:=3) iT.nd rfl (Or.inl rfl) h)) (aH (fP rfl PassesOwn.never (qF (aB (pv 1))) (aM (aK (i:=4) iT.nd rfl (Or.inr rfl))) (aN (aKH (i:=3) (dY (Nc:=["_law_deed","_law_row_here"]) (fr:=[none,some 4]) (ss:=[0]) (bT (sc:=(aD gK)) (N:=["_law_deeds","_law_found","_law_many","_law_more","_law_row_here"]) rfl rfl (by decide +kernel)) (by decide) rfl (h9 rfl T.n_range (aB (pv 2))) (fun Cc pins fp s3 H3=>aM (aK (i:=0) (show (["_law_deed","_law_row_here"]:List Str).Nodup by decide +kernel) rfl (Or.inl rfl))) (fun Cc pins fp s3 H3=>(bI d8 (aB (pv 1)) (cT (aC (aB (pv 0)) aG)))) eJ) (fun h=>iW (nL PySem.F.plainAttrs_list PySem.F.slot_list_extend PySem.F.type_list_extend aFR (pv 3) (bX h dS)))))) (hX 3 (aN (bF (aB (pv 3)) (aM (aK (i:=1) iT.nd rfl (Or.inl rfl))) (fun h1 h2=>bE h1 h2))))))) (aN (bN (aB (pv 1))))))
theorem i9:bD ["_law_one","_law_other","_law_left","_law_seen","_law_pair"] ["_law_one","_law_other"] (aD gS):=by simp_all_arith!
theorem wU (T:m9 K mg) (hr:cL 0 (A.deeper (envOfC "_law_alike" (aD gS) s.heap.objs.size f cdv))) :
  kJ (d6 kK P w K mg base ["_law_one","_law_other","_law_left","_law_seen","_law_pair"] "_law_alike" (aD gS) f cdv A outer s H E).nox (aW gS) mB:=by
 have hu:=hr.units
 exact (aH (gP (i:=2) (fR (aC (cT (aC aJ (aC aJ aG))) aG)) (fun h=>f9 (i:=2) i9.nd rfl (Or.inl rfl) h)) (aH (gP (i:=3) (fR aG) (fun h=>f9 (i:=3) i9.nd rfl (Or.inl rfl) h)) (aH (mP PassesOwn.never (tY 2 (qM (aB (pv 2)) (fun _=>rfl))) (aH (aKK (i:=2) (j:=4) (f9 (i:=4) i9.nd rfl (Or.inl rfl) (aK7 PySem.F.plainAttrs_list PySem.F.slot_list_pop PySem.F.type_list_pop aLh (pv 2)))) (aN (l0 (tY 3 (hJ (aG9 hu) (aB (pv 4)) (aB (pv 3)))) (aH (lV (i:=3) (aB (pv 4)) (fun h=>iW (nL PySem.F.plainAttrs_list PySem.F.slot_list_append PySem.F.type_list_append e7 (pv 3) (bX h dS)))) (aH (l0 (hJ (uL hu) (bC (bC (aB (pv 0)) (bC (aB (pv 4)) aJ (fun _ _=>rfl)) (fun _ _=>rfl)) aJ (fun _ _=>rfl)) (bC (bC (aB (pv 1)) (bC (aB (pv 4)) aJ (fun _ _=>rfl)) (fun _ _=>rfl)) aJ (fun _ _=>rfl))) (aN (bN r8)) f6) (aN (gP (i:=2) (aE9 2 (aHT (aB (pv 2)) (DF.toE (aEI rfl rfl T.n_zip aEz rfl T.n_list aJU (bC (bC (aB (pv 0)) (bC (aB (pv 4)) aJ (fun _ _=>rfl)) (fun _ _=>rfl)) aJ (fun _ _=>rfl)) (bC (bC (aB (pv 1)) (bC (aB (pv 4)) aJ (fun _ _=>rfl)) (fun _ _=>rfl)) aJ (fun _ _=>rfl)))))) (fun h=>f9 (i:=2) i9.nd rfl (Or.inl rfl) h))))) f6)))) (aN (bN r8)))))
theorem tM:bD ["_law_plan_here","_law_state","_law_order"] ["_law_plan_here","_law_state"] (aD fM):=by simp_all_arith!
theorem x6 (T:m9 K mg) (hr:cL 0 (A.deeper (envOfC "_law_from" (aD fM) s.heap.objs.size f cdv))) :
  kJ (d6 kK P w K mg base ["_law_plan_here","_law_state","_law_order"] "_law_from" (aD fM) f cdv A outer s H E).nox (aW fM) nQ:=by
 have hu:=hr.units
 exact (aH (bF (DF.toE (aHT (DF.toE (fR (aC (aB (pv 1)) aG))) (DF.toE (aF8 (ifs:=[_]) (Nc:=["_law_k","_law_state"]) (fr:=[none,some 1]) (ss:=[0]) (bT (sc:=(aD fM)) (N:=["_law_plan_here","_law_state","_law_order"]) rfl rfl (by decide +kernel)) (by decide) rfl (h9 rfl T.n_range (aV fH (aC (aB (pv 0)) aG) (fun h1 h2=>bJ h1 rfl T.n_len eE h2))) (fun Cc pins fp s3 H3=>aM (aK (i:=0) (show (["_law_k","_law_state"]:List Str).Nodup by decide +kernel) rfl (Or.inl rfl))) (fun Cc pins fp s3 H3=>aDs (hJ (uL hu) (aB (pv 0)) (aB (pv 1)))) (fun Cc pins fp s3 H3=>(aB (pv 0))))))) (aM (aK (i:=2) tM.nd rfl (Or.inr rfl))) (fun h1 h2=>bE h1 h2)) (aN (bN (aV cV (aC (DF.toE (dY (Nc:=["_law_k","_law_plan_here","_law_order"]) (fr:=[none,some 0,some 2]) (ss:=[0]) (bT (sc:=(aD fM)) (N:=["_law_plan_here","_law_state","_law_order"]) rfl rfl (by decide +kernel)) (by decide) rfl (qF (aB (pv 2))) (fun Cc pins fp s3 H3=>aM (aK (i:=0) (show (["_law_k","_law_plan_here","_law_order"]:List Str).Nodup by decide +kernel) rfl (Or.inl rfl))) (fun Cc pins fp s3 H3=>(cT (aC (bC (bC (aB (pv 1)) (aB (pv 0)) (fun _ _=>rfl)) aJ (fun _ _=>rfl)) (aC (aV cV (aC (DF.toE (dY (Nc:=["_law_there","_law_order"]) (fr:=[none,some 2]) (ss:=[0]) (by first | rfl | with_unfolding_all rfl) (by decide) rfl (j8 (bC (bC (aB (pv 1)) (aB (pv 0)) (fun _ _=>rfl)) aJ (fun _ _=>rfl))) (fun Cc pins fp s3 H3=>aM (aK (i:=0) (show (["_law_there","_law_order"]:List Str).Nodup by decide +kernel) rfl (Or.inl rfl))) (fun Cc pins fp s3 H3=>(aHn hu (aB (pv 1)) (aB (pv 0)) (fun h1 h2=>nL PySem.F.plainAttrs_list PySem.F.slot_list_index PySem.F.type_list_index (aHj hu) h1 h2))) eJ)) aG) (fun h1 h2=>cB h1 rfl T.n_tuple cO h2)) aG)))) eJ)) aG) (fun h1 h2=>cB h1 rfl T.n_tuple cO h2)))))
theorem fJ:bD ["_law_plan_here","_law_found","_law_row_here","_law_nexts"] ["_law_plan_here"] (aD c7):=by simp_all_arith!
theorem vA (T:m9 K mg) (hr:cL 0 (A.deeper (envOfC "_law_doubled" (aD c7) s.heap.objs.size f cdv))) :
  kJ (d6 kK P w K mg base ["_law_plan_here","_law_found","_law_row_here","_law_nexts"] "_law_doubled" (aD c7) f cdv A outer s H E).nox (aW c7) kG:=by
 have hu:=hr.units
 exact (aH (gP (i:=1) (fR aG) (fun h=>f9 (i:=1) fJ.nd rfl (Or.inl rfl) h)) (aH (fP rfl PassesOwn.never (j8 (aB (pv 0))) (n8 (aK (i:=2) fJ.nd rfl (Or.inl rfl)) (aK (i:=3) fJ.nd rfl (Or.inl rfl)) (fun h1 h2=>oD rfl (cU h1 (cU h2 k6)))) (aN (lV (i:=1) (cT (aC (aB (pv 2)) (aC (aV cV (aC (DF.toE (dY (Nc:=["_law_k","_law_there","_law_plan_here"]) (fr:=[none,none,some 0]) (ss:=[0,1]) (bT (sc:=(aD c7)) (N:=["_law_plan_here","_law_found","_law_row_here","_law_nexts"]) rfl rfl (by decide +kernel)) (by decide) rfl (yJ rfl T.n_enumerate l9 (aB (pv 3))) (fun Cc pins fp s3 H3=>n8 (aK (i:=0) (show (["_law_k","_law_there","_law_plan_here"]:List Str).Nodup by decide +kernel) rfl (Or.inl rfl)) (aK (i:=1) (show (["_law_k","_law_there","_law_plan_here"]:List Str).Nodup by decide +kernel) rfl (Or.inl rfl)) (fun h1 h2=>oD rfl (cU h1 (cU h2 k6)))) (fun Cc pins fp s3 H3=>(bI d8 (aB (pv 1)) (bI kB (aV fH (aC (aB (pv 2)) aG) (fun h1 h2=>bJ h1 rfl T.n_len eE h2)) (bI mQ (aB (pv 0)) aJ)))) uN)) aG) (fun h1 h2=>cB h1 rfl T.n_tuple cO h2)) aG))) (fun h=>iW (nL PySem.F.plainAttrs_list PySem.F.slot_list_append PySem.F.type_list_append e7 (pv 1) (bX h dS)))))) (aH (fP rfl PassesOwn.never (j8 (aB (pv 0))) (n8 (aK (i:=2) fJ.nd rfl (Or.inl rfl)) (aK (i:=3) fJ.nd rfl (Or.inl rfl)) (fun h1 h2=>oD rfl (cU h1 (cU h2 k6)))) (aN (lV (i:=1) (cT (aC (aB (pv 2)) (aC (aV cV (aC (DF.toE (dY (Nc:=["_law_there","_law_plan_here"]) (fr:=[none,some 0]) (ss:=[0]) (bT (sc:=(aD c7)) (N:=["_law_plan_here","_law_found","_law_row_here","_law_nexts"]) rfl rfl (by decide +kernel)) (by decide) rfl (j8 (aB (pv 3))) (fun Cc pins fp s3 H3=>aM (aK (i:=0) (show (["_law_there","_law_plan_here"]:List Str).Nodup by decide +kernel) rfl (Or.inl rfl))) (fun Cc pins fp s3 H3=>(bI d8 (aB (pv 0)) (bI kB (aV fH (aC (aB (pv 1)) aG) (fun h1 h2=>bJ h1 rfl T.n_len eE h2)) (bI mQ (aB (pv 0)) aJ)))) eJ)) aG) (fun h1 h2=>cB h1 rfl T.n_tuple cO h2)) aG))) (fun h=>iW (nL PySem.F.plainAttrs_list PySem.F.slot_list_append PySem.F.type_list_append e7 (pv 1) (bX h dS)))))) (hX 1 (aN (bN (aV cV (aC (aB (pv 1)) aG) (fun h1 h2=>cB h1 rfl T.n_tuple cO h2))))))))
theorem vN:bD ["upper","lower","sign","divisor"] ["upper","lower"] (aD mV):=by simp_all_arith!
theorem aCQ (T:m9 K mg) (h_common_divisor:fI P w K mg base 1 "common_divisor" dM) (hr:cL 1 (A.deeper (envOfC "lowest" (aD mV) s.heap.objs.size f cdv))) :
  kJ (d6 kK P w K mg base ["upper","lower","sign","divisor"] "lowest" (aD mV) f cdv A outer s H E).nox (aW mV) tW:=by
 have hu:=hr.units
 exact (aH (bF (bI aB9 (aB (pv 1)) (aV aEt (aC (aB (pv 1)) aG) (fun h1 h2=>bJ h1 rfl T.n_abs aEn h2))) (aM (aK (i:=2) vN.nd rfl (Or.inl rfl))) (fun h1 h2=>bE h1 h2)) (aH (bF (bI nB (aB (pv 2)) (aQ h_common_divisor (hr.mono (by decide)) rfl (aC (aB (pv 0)) (aC (aB (pv 1)) aG)))) (aM (aK (i:=3) vN.nd rfl (Or.inl rfl))) (fun h1 h2=>bE h1 h2)) (aN (bN (cT (aC (bI aB9 (aB (pv 0)) (aB (pv 3))) (aC (bI aB9 (aB (pv 1)) (aB (pv 3))) aG)))))))
theorem aAi:bD ["thing","least","most"] ["thing","least","most"] (aD gQ):=by simp_all_arith!
theorem wZ (T:m9 K mg) (h_is_whole:fI P w K mg base 1 "is_whole" iJ) (hr:cL 1 (A.deeper (envOfC "is_between" (aD gQ) s.heap.objs.size f cdv))) :
  kJ (d6 kK P w K mg base ["thing","least","most"] "is_between" (aD gQ) f cdv A outer s H E).nox (aW gQ) kC:=by
 have hu:=hr.units
 exact (aN (bN (v6 (aQ h_is_whole (hr.mono (by decide)) rfl (aC (aB (pv 0)) aG)) (zR (aDC aFf aFf (aB (pv 1)) (aB (pv 0)) (aB (pv 2)))))))
theorem aJS:bD ["meeting","row"] ["meeting","row"] (aD tI):=by simp_all_arith!
theorem aF3 (T:m9 K mg) (h_place_of:fI P w K mg base 1 "place_of" dJ) (hr:cL 1 (A.deeper (envOfC "paid" (aD tI) s.heap.objs.size f cdv))) :
  kJ (d6 kK P w K mg base ["meeting","row"] "paid" (aD tI) f cdv A outer s H E).nox (aW tI) aCl:=by
 have hu:=hr.units
 exact (aN (bN (bC (bC (aB (pv 0)) aJ (fun _ _=>rfl)) (aQ h_place_of (hr.mono (by decide)) rfl (aC (aB (pv 1)) (aC (bC (aB (pv 0)) aJ (fun _ _=>rfl)) aG))) (fun _ _=>rfl))))
theorem wX:bD ["meeting","plan","state","row"] ["meeting","plan","state","row"] (aD fA):=by simp_all_arith!
theorem uR (T:m9 K mg) (h_place_of:fI P w K mg base 1 "place_of" dJ) (hr:cL 1 (A.deeper (envOfC "state_behind" (aD fA) s.heap.objs.size f cdv))) :
  kJ (d6 kK P w K mg base ["meeting","plan","state","row"] "state_behind" (aD fA) f cdv A outer s H E).nox (aW fA) j9:=by
 have hu:=hr.units
 exact (aN (bN (bC (bC (bC (aB (pv 1)) (aB (pv 2)) (fun _ _=>rfl)) aJ (fun _ _=>rfl)) (aQ h_place_of (hr.mono (by decide)) rfl (aC (aB (pv 3)) (aC (bC (aB (pv 0)) aJ (fun _ _=>rfl)) aG))) (fun _ _=>rfl))))
theorem aFQ:bD ["plan","sorts"] ["plan","sorts"] (aD lE):=by simp_all_arith!
theorem aC9 (T:m9 K mg) (h_numbered:fI P w K mg base 1 "numbered" d7) (hr:cL 1 (A.deeper (envOfC "parted" (aD lE) s.heap.objs.size f cdv))) :
  kJ (d6 kK P w K mg base ["plan","sorts"] "parted" (aD lE) f cdv A outer s H E).nox (aW lE) t5:=by
 have hu:=hr.units
 exact (aN (bN (aQ h_numbered (hr.mono (by decide)) rfl (aC (DF.toE (dY (Nc:=["state","part","sorts"]) (fr:=[none,none,some 1]) (ss:=[0,1]) (bT (sc:=(aD lE)) (N:=["plan","sorts"]) rfl rfl (by decide +kernel)) (by decide) rfl (yJ rfl T.n_enumerate l9 (aB (pv 0))) (fun Cc pins fp s3 H3=>n8 (aK (i:=0) (show (["state","part","sorts"]:List Str).Nodup by decide +kernel) rfl (Or.inl rfl)) (aK (i:=1) (show (["state","part","sorts"]:List Str).Nodup by decide +kernel) rfl (Or.inl rfl)) (fun h1 h2=>oD rfl (cU h1 (cU h2 k6)))) (fun Cc pins fp s3 H3=>(cT (aC (bC (aB (pv 2)) (aB (pv 0)) (fun _ _=>rfl)) (aC (aV cV (aC (DF.toE (dY (Nc:=["behind","sorts"]) (fr:=[none,some 2]) (ss:=[0]) (by first | rfl | with_unfolding_all rfl) (by decide) rfl (j8 (bC (aB (pv 1)) aJ (fun _ _=>rfl))) (fun Cc pins fp s3 H3=>aM (aK (i:=0) (show (["behind","sorts"]:List Str).Nodup by decide +kernel) rfl (Or.inl rfl))) (fun Cc pins fp s3 H3=>(bC (aB (pv 1)) (aB (pv 0)) (fun _ _=>rfl))) eJ)) aG) (fun h1 h2=>cB h1 rfl T.n_tuple cO h2)) aG)))) uN)) aG))))
theorem cD:bD ["_law_cell_here","_law_deeds","_law_wide","_law_pay","_law_k","_law_seed","_law_one","_law_few"] ["_law_cell_here"] (aD cQ):=by simp_all_arith!
theorem t7 (T:m9 K mg) (h__law_mix:fI P w K mg base 1 "_law_mix" bU) (h__law_rows:fI P w K mg base 1 "_law_rows" dD) (hr:cL 1 (A.deeper (envOfC "_law_meeting" (aD cQ) s.heap.objs.size f cdv))) :
  kJ (d6 kK P w K mg base ["_law_cell_here","_law_deeds","_law_wide","_law_pay","_law_k","_law_seed","_law_one","_law_few"] "_law_meeting" (aD cQ) f cdv A outer s H E).nox (aW cQ) kA:=by
 have hu:=hr.units
 exact (aH (bF (aV cV (aC (DF.toE (dY (Nc:=["_law_k","_law_cell_here"]) (fr:=[none,some 0]) (ss:=[0]) (bT (sc:=(aD cQ)) (N:=["_law_cell_here","_law_deeds","_law_wide","_law_pay","_law_k","_law_seed","_law_one","_law_few"]) rfl rfl (by decide +kernel)) (by decide) rfl (h9 rfl T.n_range (bI d8 aJ (bI aD0 (aQ h__law_mix (hr.mono (by decide)) rfl (aC (aB (pv 0)) (aC aJ (aC aJ aG)))) aJ))) (fun Cc pins fp s3 H3=>aM (aK (i:=0) (show (["_law_k","_law_cell_here"]:List Str).Nodup by decide +kernel) rfl (Or.inl rfl))) (fun Cc pins fp s3 H3=>(bI d8 aJ (aQ h__law_mix (hr.mono (by decide)) rfl (aC (bI d8 (aB (pv 1)) (bI kB aJ (aB (pv 0)))) (aC aJ (aC aJ aG)))))) eJ)) aG) (fun h1 h2=>cB h1 rfl T.n_tuple cO h2)) (aM (aK (i:=1) cD.nd rfl (Or.inl rfl))) (fun h1 h2=>bE h1 h2)) (aH (l0 (hJ (zA hu) (bI mQ (aB (pv 0)) aJ) aJ) (aN (bF (cT (aC aJ (aC aJ aG))) (aM (aK (i:=1) cD.nd rfl (Or.inl rfl))) (fun h1 h2=>bE h1 h2))) f6) (aH (bF (bC (DF.toE (fR (aC aJ (aC aJ (aC aJ aG))))) (aQ h__law_mix (hr.mono (by decide)) rfl (aC (aB (pv 0)) (aC aJ (aC aJ aG)))) (fun _ _=>rfl)) (aM (aK (i:=2) cD.nd rfl (Or.inr rfl))) (fun h1 h2=>bE h1 h2)) (aH (gP (i:=3) (fR aG) (fun h=>f9 (i:=3) cD.nd rfl (Or.inl rfl) h)) (aH (fP rfl PassesOwn.never (h9 rfl T.n_range (aV fH (aC (aQ h__law_rows (hr.mono (by decide)) rfl (aC (aB (pv 1)) aG)) aG) (fun h1 h2=>bJ h1 rfl T.n_len eE h2))) (aM (aK (i:=4) cD.nd rfl (Or.inl rfl))) (aH (bF (bI d8 (aB (pv 0)) (bI kB aJ (aB (pv 4)))) (aM (aK (i:=5) cD.nd rfl (Or.inr rfl))) (fun h1 h2=>bE h1 h2)) (aH (vM (i:=6) (Nc:=["_law_hand","_law_wide","_law_seed"]) (fr:=[none,some 2,some 5]) (ss:=[0]) (bT (sc:=(aD cQ)) (N:=["_law_cell_here","_law_deeds","_law_wide","_law_pay","_law_k","_law_seed","_law_one","_law_few"]) rfl rfl (by decide +kernel)) (by decide) rfl cD.nd rfl (Or.inl rfl) (h9 rfl T.n_range (aV fH (aC (aB (pv 1)) aG) (fun h1 h2=>bJ h1 rfl T.n_len eE h2))) (fun Cc pins fp s3 H3=>aM (aK (i:=0) (show (["_law_hand","_law_wide","_law_seed"]:List Str).Nodup by decide +kernel) rfl (Or.inl rfl))) (fun Cc pins fp s3 H3=>(bI qS (bI d8 (aQ h__law_mix (hr.mono (by decide)) rfl (aC (bI d8 (aB (pv 2)) (bI kB aJ (aB (pv 0)))) (aC aJ (aC (bI qS (bI kB aJ (aB (pv 1))) aJ) aG)))) aJ) (aB (pv 1)))) eJ rfl) (hX 6 (aN (lV (i:=3) (aV cV (aC (aB (pv 6)) aG) (fun h1 h2=>cB h1 rfl T.n_tuple cO h2)) (fun h=>iW (nL PySem.F.plainAttrs_list PySem.F.slot_list_append PySem.F.type_list_append e7 (pv 3) (bX h dS))))))))) (aH (l0 (hJ (zA hu) (bI mQ (aB (pv 0)) aJ) aJ) (aH (bF (DF.toE (aJ1 aF9 (aC (DF.toE (dY (Nc:=["_law_k","_law_cell_here"]) (fr:=[none,some 0]) (ss:=[0]) (bT (sc:=(aD cQ)) (N:=["_law_cell_here","_law_deeds","_law_wide","_law_pay","_law_k","_law_seed","_law_one","_law_few"]) rfl rfl (by decide +kernel)) (by decide) rfl (h9 rfl T.n_range aJ) (fun Cc pins fp s3 H3=>aM (aK (i:=0) (show (["_law_k","_law_cell_here"]:List Str).Nodup by decide +kernel) rfl (Or.inl rfl))) (fun Cc pins fp s3 H3=>(bI qS (aQ h__law_mix (hr.mono (by decide)) rfl (aC (bI d8 (aB (pv 1)) (aB (pv 0))) (aC aJ (aC aJ aG)))) aJ)) eJ)) aG) (fun h1 h2=>bJ h1 rfl T.n_sorted aGq h2))) (aM (aK (i:=7) cD.nd rfl (Or.inl rfl))) (fun h1 h2=>bE h1 h2)) (aN (gP (i:=3) (fR (aC (cT (aC (bC (aB (pv 7)) aJ (fun _ _=>rfl)) (aC (bC (aB (pv 7)) aJ (fun _ _=>rfl)) aG))) (aC (cT (aC (bC (aB (pv 7)) aJ (fun _ _=>rfl)) (aC (bC (aB (pv 7)) aJ (fun _ _=>rfl)) aG))) (aC (cT (aC (bC (aB (pv 7)) aJ (fun _ _=>rfl)) (aC (bC (aB (pv 7)) aJ (fun _ _=>rfl)) aG))) (aC (cT (aC (bC (aB (pv 7)) aJ (fun _ _=>rfl)) (aC (bC (aB (pv 7)) aJ (fun _ _=>rfl)) aG))) aG))))) (fun h=>f9 (i:=3) cD.nd rfl (Or.inl rfl) h)))) f6) (hX 3 (aN (bN (cT (aC (aB (pv 1)) (aC (aV cV (aC (aB (pv 3)) aG) (fun h1 h2=>cB h1 rfl T.n_tuple cO h2)) aG))))))))))))
theorem dI:bD ["_law_cell_here","_law_lower","_law_upper","_law_by"] ["_law_cell_here"] (aD eC):=by simp_all_arith!
theorem sM (T:m9 K mg) (h__law_mix:fI P w K mg base 1 "_law_mix" bU) (hr:cL 1 (A.deeper (envOfC "_law_patience" (aD eC) s.heap.objs.size f cdv))) :
  kJ (d6 kK P w K mg base ["_law_cell_here","_law_lower","_law_upper","_law_by"] "_law_patience" (aD eC) f cdv A outer s H E).nox (aW eC) jC:=by
 have hu:=hr.units
 exact (aH (bF (bI d8 aJ (aQ h__law_mix (hr.mono (by decide)) rfl (aC (aB (pv 0)) (aC aJ (aC aJ aG))))) (aM (aK (i:=1) dI.nd rfl (Or.inl rfl))) (fun h1 h2=>bE h1 h2)) (aH (bF (bI d8 aJ (aQ h__law_mix (hr.mono (by decide)) rfl (aC (aB (pv 0)) (aC aJ (aC (bI qS (aB (pv 1)) aJ) aG))))) (aM (aK (i:=2) dI.nd rfl (Or.inl rfl))) (fun h1 h2=>bE h1 h2)) (aH (l0 (hJ (zA hu) (bI mQ (aB (pv 0)) aJ) aJ) (aN (bF (bI qS (aB (pv 1)) aJ) (aM (aK (i:=2) dI.nd rfl (Or.inl rfl))) (fun h1 h2=>bE h1 h2))) f6) (aH (fP rfl PassesOwn.never (aIZ rfl T.n_range aJ aJ (hp:=fun h=>aGi rfl T.n_range h)) (aM (aK (i:=3) dI.nd rfl (Or.inl rfl))) (aN (mP PassesOwn.never (DW.t (aKT (hJ (zA hu) (bI mQ (aB (pv 2)) (aB (pv 3))) aJ) (aJH (hJ (zA hu) (bI mQ (aB (pv 1)) (aB (pv 3))) aJ)))) (aH (bF (bI aD0 (aB (pv 2)) (aB (pv 3))) (aM (aK (i:=2) dI.nd rfl (Or.inl rfl))) (fun h1 h2=>bE h1 h2)) (aN (bF (bI aD0 (aB (pv 1)) (aB (pv 3))) (aM (aK (i:=1) dI.nd rfl (Or.inl rfl))) (fun h1 h2=>bE h1 h2))))))) (aN (bN (cT (aC (aB (pv 2)) (aC (aB (pv 1)) aG)))))))))
theorem wC:bD ["_law_meeting_here","_law_cell_here","_law_some"] ["_law_meeting_here","_law_cell_here"] (aD jL):=by simp_all_arith!
theorem aAD (T:m9 K mg) (h__law_rows:fI P w K mg base 1 "_law_rows" dD) (h__law_mix:fI P w K mg base 1 "_law_mix" bU) (hr:cL 1 (A.deeper (envOfC "_law_row" (aD jL) s.heap.objs.size f cdv))) :
  kJ (d6 kK P w K mg base ["_law_meeting_here","_law_cell_here","_law_some"] "_law_row" (aD jL) f cdv A outer s H E).nox (aW jL) pJ:=by
 have hu:=hr.units
 exact (aH (bF (aQ h__law_rows (hr.mono (by decide)) rfl (aC (bC (aB (pv 0)) aJ (fun _ _=>rfl)) aG)) (aM (aK (i:=2) wC.nd rfl (Or.inl rfl))) (fun h1 h2=>bE h1 h2)) (aN (bN (bC (aB (pv 2)) (aQ h__law_mix (hr.mono (by decide)) rfl (aC (aB (pv 1)) (aC aJ (aC (aV fH (aC (aB (pv 2)) aG) (fun h1 h2=>bJ h1 rfl T.n_len eE h2)) aG)))) (fun _ _=>rfl)))))
theorem aAk:bD ["_law_script","_law_k"] ["_law_script","_law_k"] (aD fL):=by simp_all_arith!
theorem w8 (T:m9 K mg) (h__law_cell:fI P w K mg base 1 "_law_cell" cK) (hr:cL 1 (A.deeper (envOfC "_law_cells" (aD fL) s.heap.objs.size f cdv))) :
  kJ (d6 kK P w K mg base ["_law_script","_law_k"] "_law_cells" (aD fL) f cdv A outer s H E).nox (aW fL) mE:=by
 have hu:=hr.units
 exact (aN (bN (DF.toE (dY (Nc:=["_law_n","_law_script","_law_k"]) (fr:=[none,some 0,some 1]) (ss:=[0]) (bT (sc:=(aD fL)) (N:=["_law_script","_law_k"]) rfl rfl (by decide +kernel)) (by decide) rfl (h9 rfl T.n_range aJ) (fun Cc pins fp s3 H3=>aM (aK (i:=0) (show (["_law_n","_law_script","_law_k"]:List Str).Nodup by decide +kernel) rfl (Or.inl rfl))) (fun Cc pins fp s3 H3=>(aQ h__law_cell (hr.mono (by decide)) rfl (aC (aB (pv 1)) (aC (bI d8 (aB (pv 2)) (aB (pv 0))) aG)))) eJ))))
theorem eN:bD ["_law_plan_here","_law_order","_law_rows_here","_law_row_here","_law_nexts","_law_new","_law_there","_law_some"] ["_law_plan_here"] (aD gM):=by simp_all_arith!
theorem zI (T:m9 K mg) (h__law_from:fI P w K mg base 1 "_law_from" eX) (h__law_alike:fI P w K mg base 1 "_law_alike" cZ) (hr:cL 1 (A.deeper (envOfC "_law_lean" (aD gM) s.heap.objs.size f cdv))) :
  kJ (d6 kK P w K mg base ["_law_plan_here","_law_order","_law_rows_here","_law_row_here","_law_nexts","_law_new","_law_there","_law_some"] "_law_lean" (aD gM) f cdv A outer s H E).nox (aW gM) nA:=by
 have hu:=hr.units
 exact (aH (gP (i:=1) (fR (aC aJ aG)) (fun h=>f9 (i:=1) eN.nd rfl (Or.inl rfl) h)) (aH (gP (i:=2) (fR aG) (fun h=>f9 (i:=2) eN.nd rfl (Or.inl rfl) h)) (aH (mP PassesOwn.never (tY 2 (tY 1 (hJ aHz (aV fH (aC (aB (pv 2)) aG) (fun h1 h2=>bJ h1 rfl T.n_len eE h2)) (aV fH (aC (aB (pv 1)) aG) (fun h1 h2=>bJ h1 rfl T.n_len eE h2))))) (aH (bF (xN 2 (xN 1 (bC (aB (pv 0)) (bC (aB (pv 1)) (aV fH (aC (aB (pv 2)) aG) (fun h1 h2=>bJ h1 rfl T.n_len eE h2)) (fun _ _=>rfl)) (fun _ _=>rfl)))) (n8 (aK (i:=3) eN.nd rfl (Or.inl rfl)) (aK (i:=4) eN.nd rfl (Or.inl rfl)) (fun h1 h2=>oD rfl (cU h1 (cU h2 k6)))) (fun h1 h2=>bE h1 h2)) (aH (gP (i:=5) (fR aG) (fun h=>f9 (i:=5) eN.nd rfl (Or.inl rfl) h)) (aH (fP rfl PassesOwn.never (j8 (aB (pv 4))) (aM (aK (i:=6) eN.nd rfl (Or.inr rfl))) (aH (aKz (aHO 1 (aEM (ifs:=[_]) (i:=7) (Nc:=["_law_k","_law_one","_law_plan_here","_law_there"]) (fr:=[none,none,some 0,some 6]) (ss:=[0,1]) (bT (sc:=(aD gM)) (N:=["_law_plan_here","_law_order","_law_rows_here","_law_row_here","_law_nexts","_law_new","_law_there","_law_some"]) rfl rfl (by decide +kernel)) (by decide) rfl eN.nd rfl (Or.inl rfl) (aIL rfl T.n_enumerate l9 (aB (pv 1))) (fun Cc pins fp s3 H3=>n8 (aK (i:=0) (show (["_law_k","_law_one","_law_plan_here","_law_there"]:List Str).Nodup by decide +kernel) rfl (Or.inl rfl)) (aK (i:=1) (show (["_law_k","_law_one","_law_plan_here","_law_there"]:List Str).Nodup by decide +kernel) rfl (Or.inl rfl)) (fun h1 h2=>oD rfl (cU h1 (cU h2 k6)))) (fun Cc pins fp s3 H3=>aDs (qM (aQ h__law_alike (hr.mono (by decide)) rfl (aC (aQ h__law_from (hr.mono (by decide)) rfl (aC (aB (pv 2)) (aC (aB (pv 1)) aG))) (aC (aQ h__law_from (hr.mono (by decide)) rfl (aC (aB (pv 2)) (aC (aB (pv 3)) aG))) aG))) (fun _=>rfl))) (fun Cc pins fp s3 H3=>(aB (pv 0))) rfl))) (hX 7 (aH (l0 (vX (qM (aB (pv 7)) (fun _=>rfl))) (aH (bF (DF.toE (aE9 1 (fR (aC (aV fH (aC (aB (pv 1)) aG) (fun h1 h2=>bJ h1 rfl T.n_len eE h2)) aG)))) (aM (aK (i:=7) eN.nd rfl (Or.inl rfl))) (fun h1 h2=>bE h1 h2)) (aN (lV (i:=1) (aB (pv 6)) (fun h=>iW (nL PySem.F.plainAttrs_list PySem.F.slot_list_append PySem.F.type_list_append e7 (pv 1) (bX h dS)))))) f6) (aN (lV (i:=5) (bC (aB (pv 7)) aJ (fun _ _=>rfl)) (fun h=>iW (nL PySem.F.plainAttrs_list PySem.F.slot_list_append PySem.F.type_list_append e7 (pv 5) (bX h dS))))))))) (hX 5 (aN (lV (i:=2) (cT (aC (aB (pv 3)) (aC (aV cV (aC (aB (pv 5)) aG) (fun h1 h2=>cB h1 rfl T.n_tuple cO h2)) aG))) (fun h=>iW (nL PySem.F.plainAttrs_list PySem.F.slot_list_append PySem.F.type_list_append e7 (pv 2) (bX h dS)))))))))) (hX 2 (aN (bN (aV cV (aC (aB (pv 2)) aG) (fun h1 h2=>cB h1 rfl T.n_tuple cO h2))))))))
theorem aGz:bD ["thing","deeds"] ["thing","deeds"] (aD lK):=by simp_all_arith!
theorem aDk (T:m9 K mg) (h_is_tuple_of:fI P w K mg base 1 "is_tuple_of" aU) (h_is_between:fI P w K mg base 2 "is_between" dP) (hr:cL 2 (A.deeper (envOfC "is_row" (aD lK) s.heap.objs.size f cdv))) :
  kJ (d6 kK P w K mg base ["thing","deeds"] "is_row" (aD lK) f cdv A outer s H E).nox (aW lK) oK:=by
 have hu:=hr.units
 exact (aH (l0 (vX (qM (aQ h_is_tuple_of (hr.mono (by decide)) rfl (aC (aB (pv 0)) (aC (aV fH (aC (aB (pv 1)) aG) (fun h1 h2=>bJ h1 rfl T.n_len eE h2)) (aC (aV fH (aC (aB (pv 1)) aG) (fun h1 h2=>bJ h1 rfl T.n_len eE h2)) aG)))) (fun _=>rfl))) (aN (bN r8)) f6) (aN (bN (aV (aEv rfl) (aC (DF.toE (dY (Nc:=["deed","many"]) (fr:=[none,none]) (ss:=[0,1]) (bT (sc:=(aD lK)) (N:=["thing","deeds"]) rfl rfl (by decide +kernel)) (by decide) rfl (aHS rfl T.n_zip aEz (aB (pv 0)) (aB (pv 1))) (fun Cc pins fp s3 H3=>n8 (aK (i:=0) (show (["deed","many"]:List Str).Nodup by decide +kernel) rfl (Or.inl rfl)) (aK (i:=1) (show (["deed","many"]:List Str).Nodup by decide +kernel) rfl (Or.inl rfl)) (fun h1 h2=>oD rfl (cU h1 (cU h2 k6)))) (fun Cc pins fp s3 H3=>(aQ h_is_between (hr.mono (by decide)) rfl (aC (aB (pv 0)) (aC aJ (aC (bI qS (aB (pv 1)) aJ) aG))))) uN)) aG) (fun h1 h2=>bJ h1 rfl T.n_all aD2 h2)))))
theorem aAa:bD ["parts","least","most"] ["parts","least","most"] (aD eR):=by simp_all_arith!
theorem v8 (T:m9 K mg) (h_is_between:fI P w K mg base 2 "is_between" dP) (hr:cL 2 (A.deeper (envOfC "are_between" (aD eR) s.heap.objs.size f cdv))) :
  kJ (d6 kK P w K mg base ["parts","least","most"] "are_between" (aD eR) f cdv A outer s H E).nox (aW eR) kY:=by
 have hu:=hr.units
 exact (aN (bN (aV (aEv rfl) (aC (DF.toE (dY (Nc:=["part","least","most"]) (fr:=[none,some 1,some 2]) (ss:=[0]) (bT (sc:=(aD eR)) (N:=["parts","least","most"]) rfl rfl (by decide +kernel)) (by decide) rfl (j8 (aB (pv 0))) (fun Cc pins fp s3 H3=>aM (aK (i:=0) (show (["part","least","most"]:List Str).Nodup by decide +kernel) rfl (Or.inl rfl))) (fun Cc pins fp s3 H3=>(aQ h_is_between (hr.mono (by decide)) rfl (aC (aB (pv 0)) (aC (aB (pv 1)) (aC (aB (pv 2)) aG))))) eJ)) aG) (fun h1 h2=>bJ h1 rfl T.n_all aD2 h2))))
theorem j2:bD ["meeting","plan","many","strays","strayed","stray","done","state","time","row"] ["meeting","plan","many","strays"] (aD lI):=by simp_all_arith!
theorem aDg (T:m9 K mg) (h_state_behind:fI P w K mg base 2 "state_behind" cN) (hr:cL 2 (A.deeper (envOfC "played" (aD lI) s.heap.objs.size f cdv))) :
  kJ (d6 kK P w K mg base ["meeting","plan","many","strays","strayed","stray","done","state","time","row"] "played" (aD lI) f cdv A outer s H E).nox (aW lI) uV:=by
 have hu:=hr.units
 exact (aH (aFi (i:=4) (.t []) (f9 (i:=4) j2.nd rfl (Or.inr rfl) zB) rfl) (aH (fP rfl PassesOwn.never (j8 (aB (pv 3))) (aM (aK (i:=5) j2.nd rfl (Or.inl rfl))) (aN (xF hu (pv 4) (aHC (aC (bC (aB (pv 5)) aJ (fun _ _=>rfl)) (aC (bC (aB (pv 5)) aJ (fun _ _=>rfl)) aG))) (bC (aB (pv 5)) aJ (fun _ _=>rfl))))) (uA 4 (aH (gP (i:=6) (fR aG) (fun h=>f9 (i:=6) j2.nd rfl (Or.inl rfl) h)) (aH (bF aJ (aM (aK (i:=7) j2.nd rfl (Or.inl rfl))) (fun h1 h2=>bE h1 h2)) (aH (fP rfl PassesOwn.never (h9 rfl T.n_range (aB (pv 2))) (aM (aK (i:=8) j2.nd rfl (Or.inr rfl))) (aH (bF (aV cV (aC (DF.toE (dY (Nc:=["hand","deed","strayed","time"]) (fr:=[none,none,some 4,some 8]) (ss:=[0,1]) (bT (sc:=(aD lI)) (N:=["meeting","plan","many","strays","strayed","stray","done","state","time","row"]) rfl rfl (by decide +kernel)) (by decide) rfl (yJ rfl T.n_enumerate l9 (bC (bC (aB (pv 1)) (aB (pv 7)) (fun _ _=>rfl)) aJ (fun _ _=>rfl))) (fun Cc pins fp s3 H3=>n8 (aK (i:=0) (show (["hand","deed","strayed","time"]:List Str).Nodup by decide +kernel) rfl (Or.inl rfl)) (aK (i:=1) (show (["hand","deed","strayed","time"]:List Str).Nodup by decide +kernel) rfl (Or.inl rfl)) (fun h1 h2=>oD rfl (cU h1 (cU h2 k6)))) (fun Cc pins fp s3 H3=>(aH4 hu (pv 2) (aHC (aC (aB (pv 3)) (aC (aB (pv 0)) aG))) (aB (pv 1)) ⟨rfl,rfl,rfl,rfl⟩)) uN)) aG) (fun h1 h2=>cB h1 rfl T.n_tuple cO h2)) (aM (aK (i:=9) j2.nd rfl (Or.inl rfl))) (fun h1 h2=>bE h1 h2)) (aH (lV (i:=6) (aB (pv 9)) (fun h=>iW (nL PySem.F.plainAttrs_list PySem.F.slot_list_append PySem.F.type_list_append e7 (pv 6) (bX h dS)))) (aN (bF (aQ h_state_behind (hr.mono (by decide)) rfl (aC (aB (pv 0)) (aC (aB (pv 1)) (aC (aB (pv 7)) (aC (aB (pv 9)) aG))))) (aM (aK (i:=7) j2.nd rfl (Or.inl rfl))) (fun h1 h2=>bE h1 h2)))))) (hX 6 (aN (bN (aV cV (aC (aB (pv 6)) aG) (fun h1 h2=>cB h1 rfl T.n_tuple cO h2)))))))))))
theorem aEH:bD ["meeting","rows","hand"] ["meeting","rows","hand"] (aD j1):=by simp_all_arith!
theorem aBu (T:m9 K mg) (h_paid:fI P w K mg base 2 "paid" p5) (hr:cL 2 (A.deeper (envOfC "pays_of" (aD j1) s.heap.objs.size f cdv))) :
  kJ (d6 kK P w K mg base ["meeting","rows","hand"] "pays_of" (aD j1) f cdv A outer s H E).nox (aW j1) rR:=by
 have hu:=hr.units
 exact (aN (bN (DF.toE (dY (Nc:=["row","hand","meeting"]) (fr:=[none,some 2,some 0]) (ss:=[0]) (bT (sc:=(aD j1)) (N:=["meeting","rows","hand"]) rfl rfl (by decide +kernel)) (by decide) rfl (aKD (aB (pv 1))) (fun Cc pins fp s3 H3=>aM (aK (i:=0) (show (["row","hand","meeting"]:List Str).Nodup by decide +kernel) rfl (Or.inl rfl))) (fun Cc pins fp s3 H3=>(bC (aQ h_paid (hr.mono (by decide)) rfl (aC (aB (pv 2)) (aC (aB (pv 0)) aG))) (aB (pv 1)) (fun _ _=>rfl))) eJ))))
theorem iX:bD ["before","again","patience","worth","pay"] ["before","again","patience"] (aD d9):=by simp_all_arith!
theorem sT (T:m9 K mg) (h_weighed:fI P w K mg base 1 "weighed" gG) (h_now_and_later:fI P w K mg base 1 "now_and_later" dB) (h_lowest:fI P w K mg base 2 "lowest" lF) (hr:cL 2 (A.deeper (envOfC "worth_of_pays" (aD d9) s.heap.objs.size f cdv))) :
  kJ (d6 kK P w K mg base ["before","again","patience","worth","pay"] "worth_of_pays" (aD d9) f cdv A outer s H E).nox (aW d9) jE:=by
 have hu:=hr.units
 exact (aH (bF (cT (aC (aQ h_weighed (hr.mono (by decide)) rfl (aC (aB (pv 1)) (aC (aB (pv 2)) aG))) (aC (aQ h_weighed (hr.mono (by decide)) rfl (aC (DF.toE (aLw (fR (aC aJ aG)) (aV fH (aC (aB (pv 1)) aG) (fun h1 h2=>bJ h1 rfl T.n_len eE h2)))) (aC (aB (pv 2)) aG))) aG))) (aM (aK (i:=3) iX.nd rfl (Or.inl rfl))) (fun h1 h2=>bE h1 h2)) (aH (fP rfl PassesOwn.never (aKN rfl T.n_reversed aCs (aB (pv 0))) (aM (aK (i:=4) iX.nd rfl (Or.inl rfl))) (aN (bF (aQ h_now_and_later (hr.mono (by decide)) rfl (aC (aB (pv 4)) (aC (aB (pv 3)) (aC (aB (pv 2)) aG)))) (aM (aK (i:=3) iX.nd rfl (Or.inl rfl))) (fun h1 h2=>bE h1 h2)))) (aN (bN (aQ h_lowest (hr.mono (by decide)) rfl (aC (bC (aB (pv 3)) aJ (fun _ _=>rfl)) (aC (bC (aB (pv 3)) aJ (fun _ _=>rfl)) aG)))))))
theorem e8:bD ["plan","sorts","finer"] ["plan"] (aD cI):=by simp_all_arith!
theorem qI (T:m9 K mg) (h_numbered:fI P w K mg base 1 "numbered" d7) (h_parted:fI P w K mg base 2 "parted" i7) (hr:cL 2 (A.deeper (envOfC "sorts_of_states" (aD cI) s.heap.objs.size f cdv))) :
  kJ (d6 kK P w K mg base ["plan","sorts","finer"] "sorts_of_states" (aD cI) f cdv A outer s H E).nox (aW cI) iC:=by
 have hu:=hr.units
 exact (aH (bF (aQ h_numbered (hr.mono (by decide)) rfl (aC (DF.toE (dY (Nc:=["part"]) (fr:=[none]) (ss:=[0]) (bT (sc:=(aD cI)) (N:=["plan","sorts","finer"]) rfl rfl (by decide +kernel)) (by decide) rfl (j8 (aB (pv 0))) (fun Cc pins fp s3 H3=>aM (aK (i:=0) (show (["part"]:List Str).Nodup by decide +kernel) rfl (Or.inl rfl))) (fun Cc pins fp s3 H3=>(bC (aB (pv 0)) aJ (fun _ _=>rfl))) eJ)) aG)) (aM (aK (i:=1) e8.nd rfl (Or.inl rfl))) (fun h1 h2=>bE h1 h2)) (aH (bF (aQ h_parted (hr.mono (by decide)) rfl (aC (aB (pv 0)) (aC (aB (pv 1)) aG))) (aM (aK (i:=2) e8.nd rfl (Or.inl rfl))) (fun h1 h2=>bE h1 h2)) (aH (mP PassesOwn.never (hJ (uL hu) (aB (pv 2)) (aB (pv 1))) (aH (bF (aB (pv 2)) (aM (aK (i:=1) e8.nd rfl (Or.inl rfl))) (fun h1 h2=>bE h1 h2)) (aN (bF (aQ h_parted (hr.mono (by decide)) rfl (aC (aB (pv 0)) (aC (aB (pv 1)) aG))) (aM (aK (i:=2) e8.nd rfl (Or.inl rfl))) (fun h1 h2=>bE h1 h2))))) (aN (bN (aB (pv 1)))))))
theorem iU:bD ["_law_meeting_here","_law_cells_here","_law_most","_law_many","_law_found","_law_k","_law_cell_here","_law_nexts"] ["_law_meeting_here","_law_cells_here","_law_most"] (aD gL):=by simp_all_arith!
theorem yN (T:m9 K mg) (h__law_mix:fI P w K mg base 1 "_law_mix" bU) (h__law_rows:fI P w K mg base 1 "_law_rows" dD) (h__law_row:fI P w K mg base 2 "_law_row" jJ) (hr:cL 2 (A.deeper (envOfC "_law_plan" (aD gL) s.heap.objs.size f cdv))) :
  kJ (d6 kK P w K mg base ["_law_meeting_here","_law_cells_here","_law_most","_law_many","_law_found","_law_k","_law_cell_here","_law_nexts"] "_law_plan" (aD gL) f cdv A outer s H E).nox (aW gL) nM:=by
 have hu:=hr.units
 exact (aH (bF (bI d8 aJ (aQ h__law_mix (hr.mono (by decide)) rfl (aC (bC (aB (pv 1)) aJ (fun _ _=>rfl)) (aC aJ (aC (aB (pv 2)) aG))))) (aM (aK (i:=3) iU.nd rfl (Or.inr rfl))) (fun h1 h2=>bE h1 h2)) (aH (gP (i:=4) (fR aG) (fun h=>f9 (i:=4) iU.nd rfl (Or.inl rfl) h)) (aH (fP rfl PassesOwn.never (h9 rfl T.n_range (aB (pv 3))) (aM (aK (i:=5) iU.nd rfl (Or.inl rfl))) (aH (bF (bI d8 (bC (aB (pv 1)) (bI d8 aJ (bI mQ (aB (pv 5)) aJ)) (fun _ _=>rfl)) (bI kB aJ (aB (pv 5)))) (aM (aK (i:=6) iU.nd rfl (Or.inr rfl))) (fun h1 h2=>bE h1 h2)) (aH (vM (i:=7) (Nc:=["_law_n","_law_many","_law_cell_here"]) (fr:=[none,some 3,some 6]) (ss:=[0]) (bT (sc:=(aD gL)) (N:=["_law_meeting_here","_law_cells_here","_law_most","_law_many","_law_found","_law_k","_law_cell_here","_law_nexts"]) rfl rfl (by decide +kernel)) (by decide) rfl iU.nd rfl (Or.inl rfl) (h9 rfl T.n_range (aV fH (aC (aQ h__law_rows (hr.mono (by decide)) rfl (aC (bC (aB (pv 0)) aJ (fun _ _=>rfl)) aG)) aG) (fun h1 h2=>bJ h1 rfl T.n_len eE h2))) (fun Cc pins fp s3 H3=>aM (aK (i:=0) (show (["_law_n","_law_many","_law_cell_here"]:List Str).Nodup by decide +kernel) rfl (Or.inl rfl))) (fun Cc pins fp s3 H3=>(aQ h__law_mix (hr.mono (by decide)) rfl (aC (bI d8 (aB (pv 2)) (bI kB aJ (aB (pv 0)))) (aC aJ (aC (aB (pv 1)) aG))))) eJ rfl) (hX 7 (aN (lV (i:=4) (cT (aC (aQ h__law_row (hr.mono (by decide)) rfl (aC (aB (pv 0)) (aC (aB (pv 6)) aG))) (aC (aV cV (aC (aB (pv 7)) aG) (fun h1 h2=>cB h1 rfl T.n_tuple cO h2)) aG))) (fun h=>iW (nL PySem.F.plainAttrs_list PySem.F.slot_list_append PySem.F.type_list_append e7 (pv 4) (bX h dS))))))))) (hX 4 (aN (bN (aV cV (aC (aB (pv 4)) aG) (fun h1 h2=>cB h1 rfl T.n_tuple cO h2))))))))
theorem wD:bD ["thing","deeds","states","many"] ["thing","deeds","states"] (aD jQ):=by simp_all_arith!
theorem aAd (T:m9 K mg) (h_rows_of:fI P w K mg base 1 "rows_of" iS) (h_is_tuple_of:fI P w K mg base 1 "is_tuple_of" aU) (h_are_between:fI P w K mg base 3 "are_between" fV) (hr:cL 3 (A.deeper (envOfC "is_nexts" (aD jQ) s.heap.objs.size f cdv))) :
  kJ (d6 kK P w K mg base ["thing","deeds","states","many"] "is_nexts" (aD jQ) f cdv A outer s H E).nox (aW jQ) kS:=by
 have hu:=hr.units
 exact (aH (bF (aV fH (aC (aQ h_rows_of (hr.mono (by decide)) rfl (aC (aB (pv 1)) aG)) aG) (fun h1 h2=>bJ h1 rfl T.n_len eE h2)) (aM (aK (i:=3) wD.nd rfl (Or.inl rfl))) (fun h1 h2=>bE h1 h2)) (aN (bN (v6 (aQ h_is_tuple_of (hr.mono (by decide)) rfl (aC (aB (pv 0)) (aC (aB (pv 3)) (aC (aB (pv 3)) aG)))) (zR (aQ h_are_between (hr.mono (by decide)) rfl (aC (aB (pv 0)) (aC aJ (aC (bI qS (aB (pv 2)) aJ) aG)))))))))
theorem lJ:bD ["meeting","rows","over","patience","told","hand","before","again"] ["meeting","rows","over","patience"] (aD jI):=by simp_all_arith!
theorem aAg (T:m9 K mg) (h_pays_of:fI P w K mg base 3 "pays_of" iR) (h_worth_of_pays:fI P w K mg base 3 "worth_of_pays" bZ) (hr:cL 3 (A.deeper (envOfC "worth_of" (aD jI) s.heap.objs.size f cdv))) :
  kJ (d6 kK P w K mg base ["meeting","rows","over","patience","told","hand","before","again"] "worth_of" (aD jI) f cdv A outer s H E).nox (aW jI) pI:=by
 have hu:=hr.units
 exact (aH (gP (i:=4) (fR aG) (fun h=>f9 (i:=4) lJ.nd rfl (Or.inl rfl) h)) (aH (fP rfl PassesOwn.never (h9 rfl T.n_range (aV fH (aC (bC (aB (pv 0)) aJ (fun _ _=>rfl)) aG) (fun h1 h2=>bJ h1 rfl T.n_len eE h2))) (aM (aK (i:=5) lJ.nd rfl (Or.inl rfl))) (aH (bF (aQ h_pays_of (hr.mono (by decide)) rfl (aC (aB (pv 0)) (aC (aB (pv 1)) (aC (aB (pv 5)) aG)))) (aM (aK (i:=6) lJ.nd rfl (Or.inl rfl))) (fun h1 h2=>bE h1 h2)) (aH (bF (aQ h_pays_of (hr.mono (by decide)) rfl (aC (aB (pv 0)) (aC (aB (pv 2)) (aC (aB (pv 5)) aG)))) (aM (aK (i:=7) lJ.nd rfl (Or.inl rfl))) (fun h1 h2=>bE h1 h2)) (aN (lV (i:=4) (aQ h_worth_of_pays (hr.mono (by decide)) rfl (aC (aB (pv 6)) (aC (aB (pv 7)) (aC (aB (pv 3)) aG)))) (fun h=>iW (nL PySem.F.plainAttrs_list PySem.F.slot_list_append PySem.F.type_list_append e7 (pv 4) (bX h dS)))))))) (hX 4 (aN (bN (aV cV (aC (aB (pv 4)) aG) (fun h1 h2=>cB h1 rfl T.n_tuple cO h2)))))))
theorem nU:bD ["plan","sorts","numbers","states","place","nexts","behind"] ["plan"] (aD p9):=by simp_all_arith!
theorem aFV (T:m9 K mg) (h_sorts_of_states:fI P w K mg base 3 "sorts_of_states" b9) (h_renumbered:aI0 P w K mg base 1 "renumbered" dQ) (hr:cL 3 (A.deeper (envOfC "lean" (aD p9) s.heap.objs.size f cdv))) :
  kJ (d6 kK P w K mg base ["plan","sorts","numbers","states","place","nexts","behind"] "lean" (aD p9) f cdv A outer s H E).nox (aW p9) aB6:=by
 have hu:=hr.units
 exact (aH (bF (aQ h_sorts_of_states (hr.mono (by decide)) rfl (aC (aB (pv 0)) aG)) (aM (aK (i:=1) nU.nd rfl (Or.inr rfl))) (fun h1 h2=>bE h1 h2)) (aH (aHl (i:=2) (bC (aB (pv 1)) aJ (fun _ _=>rfl)) aJ (fun h=>f9 (i:=2) nU.nd rfl (Or.inr rfl) h)) (aH (gP (i:=3) (fR (aC aJ aG)) (fun h=>f9 (i:=3) nU.nd rfl (Or.inl rfl) h)) (aH (bF aJ (aM (aK (i:=4) nU.nd rfl (Or.inl rfl))) (fun h1 h2=>bE h1 h2)) (aH (mP PassesOwn.never (tY 3 (hJ aHz (aB (pv 4)) (aV fH (aC (aB (pv 3)) aG) (fun h1 h2=>bJ h1 rfl T.n_len eE h2)))) (aH (bF (xN 3 (bC (bC (aB (pv 0)) (bC (aB (pv 3)) (aB (pv 4)) (fun _ _=>rfl)) (fun _ _=>rfl)) aJ (fun _ _=>rfl))) (aM (aK (i:=5) nU.nd rfl (Or.inl rfl))) (fun h1 h2=>bE h1 h2)) (aH (fP rfl PassesOwn.never (j8 (aB (pv 5))) (aM (aK (i:=6) nU.nd rfl (Or.inl rfl))) (aN (l0 (vE hu (pv 2) (tG (bC (aB (pv 1)) (aB (pv 6)) (fun _ _=>rfl)))) (aH (xF hu (pv 2) (tG (bC (aB (pv 1)) (aB (pv 6)) (fun _ _=>rfl))) (xN 3 (aV fH (aC (aB (pv 3)) aG) (fun h1 h2=>bJ h1 rfl T.n_len eE h2)))) (aN (lV (i:=3) (aB (pv 6)) (fun h=>iW (nL PySem.F.plainAttrs_list PySem.F.slot_list_append PySem.F.type_list_append e7 (pv 3) (bX h dS)))))) f6))) (aN (bF (bI d8 (aB (pv 4)) aJ) (aM (aK (i:=4) nU.nd rfl (Or.inl rfl))) (fun h1 h2=>bE h1 h2)))))) (uA 2 (hX 3 (aN (bN (aV cV (aC (DF.toE (dY (Nc:=["state","sorts","numbers","plan"]) (fr:=[none,some 1,some 2,some 0]) (ss:=[0]) (bT (sc:=(aD p9)) (N:=["plan","sorts","numbers","states","place","nexts","behind"]) rfl rfl (by decide +kernel)) (by decide) rfl (qF (aB (pv 3))) (fun Cc pins fp s3 H3=>aM (aK (i:=0) (show (["state","sorts","numbers","plan"]:List Str).Nodup by decide +kernel) rfl (Or.inl rfl))) (fun Cc pins fp s3 H3=>(aH7 h_renumbered (hr.mono (by decide)) rfl (aDq (bC (aB (pv 3)) (aB (pv 0)) (fun _ _=>rfl)) (aDq (aB (pv 1)) (aIi (pv 2)))))) eJ)) aG) (fun h1 h2=>cB h1 rfl T.n_tuple cO h2)))))))))))
theorem aCR:bD ["thing","deeds","states"] ["thing","deeds","states"] (aD jM):=by simp_all_arith!
theorem aAz (T:m9 K mg) (h_is_tuple_of:fI P w K mg base 1 "is_tuple_of" aU) (h_is_row:fI P w K mg base 3 "is_row" mL) (h_is_nexts:fI P w K mg base 4 "is_nexts" jT) (hr:cL 4 (A.deeper (envOfC "is_state" (aD jM) s.heap.objs.size f cdv))) :
  kJ (d6 kK P w K mg base ["thing","deeds","states"] "is_state" (aD jM) f cdv A outer s H E).nox (aW jM) iF:=by
 have hu:=hr.units
 exact (aN (bN (v6 (aQ h_is_tuple_of (hr.mono (by decide)) rfl (aC (aB (pv 0)) (aC aJ (aC aJ aG)))) (v6 (aQ h_is_row (hr.mono (by decide)) rfl (aC (bC (aB (pv 0)) aJ (fun _ _=>rfl)) (aC (aB (pv 1)) aG))) (zR (aQ h_is_nexts (hr.mono (by decide)) rfl (aC (bC (aB (pv 0)) aJ (fun _ _=>rfl)) (aC (aB (pv 1)) (aC (aB (pv 2)) aG)))))))))
theorem iO:bD ["meeting","plan","start","patience","came","state","rows"] ["meeting","plan","start","patience"] (aD eV):=by simp_all_arith!
theorem vP (T:m9 K mg) (h_state_behind:fI P w K mg base 2 "state_behind" cN) (h_worth_of:fI P w K mg base 4 "worth_of" iP) (hr:cL 4 (A.deeper (envOfC "worths_from" (aD eV) s.heap.objs.size f cdv))) :
  kJ (d6 kK P w K mg base ["meeting","plan","start","patience","came","state","rows"] "worths_from" (aD eV) f cdv A outer s H E).nox (aW eV) k8:=by
 have hu:=hr.units
 exact (aH (aFi (i:=4) (.k []) (f9 (i:=4) iO.nd rfl (Or.inl rfl) aIc) rfl) (aH (bF (aB (pv 2)) (aM (aK (i:=5) iO.nd rfl (Or.inl rfl))) (fun h1 h2=>bE h1 h2)) (aH (mP PassesOwn.never (vE hu (pv 4) (tG (aB (pv 5)))) (aH (xF hu (pv 4) (tG (aB (pv 5))) (aFd (i:=4) (bJ aBr rfl T.n_len eE (bX (pv 4) dS)) rfl)) (aN (bF (aQ h_state_behind (hr.mono (by decide)) rfl (aC (aB (pv 0)) (aC (aB (pv 1)) (aC (aB (pv 5)) (aC (bC (bC (aB (pv 1)) (aB (pv 5)) (fun _ _=>rfl)) aJ (fun _ _=>rfl)) aG))))) (aM (aK (i:=5) iO.nd rfl (Or.inl rfl))) (fun h1 h2=>bE h1 h2))))) (uA 4 (aH (vM (i:=6) (Nc:=["number","plan"]) (fr:=[none,some 1]) (ss:=[0]) (bT (sc:=(aD eV)) (N:=["meeting","plan","start","patience","came","state","rows"]) rfl rfl (by decide +kernel)) (by decide) rfl iO.nd rfl (Or.inl rfl) (aJA (pv 4)) (fun Cc pins fp s3 H3=>aM (aK (i:=0) (show (["number","plan"]:List Str).Nodup by decide +kernel) rfl (Or.inl rfl))) (fun Cc pins fp s3 H3=>(bC (bC (aB (pv 1)) (aB (pv 0)) (fun _ _=>rfl)) aJ (fun _ _=>rfl))) eJ rfl) (hX 6 (aN (bN (aQ h_worth_of (hr.mono (by decide)) rfl (aC (aB (pv 0)) (aC (DF.toE (aHa (aB (pv 6)) aFv (aFy (xH hu (pv 4) (tG (aB (pv 5))) (fun _ _=>rfl))))) (aC (DF.toE (aHa (aB (pv 6)) (aFy (xH hu (pv 4) (tG (aB (pv 5))) (fun _ _=>rfl))) aFv)) (aC (aB (pv 3)) aG)))))))))))))
theorem aIp:bD ["one","other"] ["one","other"] (aD pL):=by simp_all_arith!
theorem aEr (T:m9 K mg) (h_lean:fI P w K mg base 4 "lean" jU) (hr:cL 4 (A.deeper (envOfC "alike" (aD pL) s.heap.objs.size f cdv))) :
  kJ (d6 kK P w K mg base ["one","other"] "alike" (aD pL) f cdv A outer s H E).nox (aW pL) xG:=by
 have hu:=hr.units
 exact (aN (bN (aHA (zA hu) (aQ h_lean (hr.mono (by decide)) rfl (aC (aB (pv 0)) aG)) (aQ h_lean (hr.mono (by decide)) rfl (aC (aB (pv 1)) aG)))))
theorem aD7:bD ["thing","meeting"] ["thing","meeting"] (aD jX):=by simp_all_arith!
theorem aCo (T:m9 K mg) (h_is_tuple_of:fI P w K mg base 1 "is_tuple_of" aU) (h_is_state:fI P w K mg base 5 "is_state" jF) (hr:cL 5 (A.deeper (envOfC "is_plan" (aD jX) s.heap.objs.size f cdv))) :
  kJ (d6 kK P w K mg base ["thing","meeting"] "is_plan" (aD jX) f cdv A outer s H E).nox (aW jX) mG:=by
 have hu:=hr.units
 exact (aH (l0 (vX (qM (aQ h_is_tuple_of (hr.mono (by decide)) rfl (aC (aB (pv 0)) (aC aJ (aC (aGW rfl T.c_MOST_STATES) aG)))) (fun _=>rfl))) (aN (bN r8)) f6) (aN (bN (aV (aEv rfl) (aC (DF.toE (dY (Nc:=["part","meeting","thing"]) (fr:=[none,some 1,some 0]) (ss:=[0]) (bT (sc:=(aD jX)) (N:=["thing","meeting"]) rfl rfl (by decide +kernel)) (by decide) rfl (j8 (aB (pv 0))) (fun Cc pins fp s3 H3=>aM (aK (i:=0) (show (["part","meeting","thing"]:List Str).Nodup by decide +kernel) rfl (Or.inl rfl))) (fun Cc pins fp s3 H3=>(aQ h_is_state (hr.mono (by decide)) rfl (aC (aB (pv 0)) (aC (bC (aB (pv 1)) aJ (fun _ _=>rfl)) (aC (aV fH (aC (aB (pv 2)) aG) (fun h1 h2=>bJ h1 rfl T.n_len eE h2)) aG))))) eJ)) aG) (fun h1 h2=>bJ h1 rfl T.n_all aD2 h2)))))
theorem aGj:bD ["meeting","plan","patience"] ["meeting","plan","patience"] (aD lL):=by simp_all_arith!
theorem aDI (T:m9 K mg) (h_worths_from:fI P w K mg base 5 "worths_from" eY) (hr:cL 5 (A.deeper (envOfC "worths" (aD lL) s.heap.objs.size f cdv))) :
  kJ (d6 kK P w K mg base ["meeting","plan","patience"] "worths" (aD lL) f cdv A outer s H E).nox (aW lL) tX:=by
 have hu:=hr.units
 exact (aN (bN (aV cV (aC (DF.toE (dY (Nc:=["state","meeting","plan","patience"]) (fr:=[none,some 0,some 1,some 2]) (ss:=[0]) (bT (sc:=(aD lL)) (N:=["meeting","plan","patience"]) rfl rfl (by decide +kernel)) (by decide) rfl (h9 rfl T.n_range (aV fH (aC (aB (pv 1)) aG) (fun h1 h2=>bJ h1 rfl T.n_len eE h2))) (fun Cc pins fp s3 H3=>aM (aK (i:=0) (show (["state","meeting","plan","patience"]:List Str).Nodup by decide +kernel) rfl (Or.inl rfl))) (fun Cc pins fp s3 H3=>(aQ h_worths_from (hr.mono (by decide)) rfl (aC (aB (pv 1)) (aC (aB (pv 2)) (aC (aB (pv 0)) (aC (aB (pv 3)) aG)))))) eJ)) aG) (fun h1 h2=>cB h1 rfl T.n_tuple cO h2))))
theorem lW:bD ["_law_script","_law_k","_law_meeting_here","_law_plan_here","_law_other","_law_twice","_law_one","_law_two","_law_found","_law_few","_law_patience_here","_law_strays"] ["_law_script"] (aD pU):=by simp_all_arith!
theorem aHf (T:m9 K mg) (h__law_cell:fI P w K mg base 1 "_law_cell" cK) (h__law_meeting:aGp P w K mg base 2 "_law_meeting" dU) (h__law_cells:fI P w K mg base 2 "_law_cells" c9) (h__law_plan:aGp P w K mg base 3 "_law_plan" dR) (h__law_doubled:fI P w K mg base 1 "_law_doubled" cR) (h_alike:fI P w K mg base 5 "alike" kD) (h__law_alike:fI P w K mg base 1 "_law_alike" cZ) (h_lean:fI P w K mg base 4 "lean" jU) (h__law_lean:fI P w K mg base 2 "_law_lean" eQ) (h_is_plan:fI P w K mg base 6 "is_plan" j3) (h__law_patience:fI P w K mg base 2 "_law_patience" dC) (h_worths:fI P w K mg base 6 "worths" iK) (h_played:fI P w K mg base 3 "played" iN) (hr:cL 6 (A.deeper (envOfC "law" (aD pU) s.heap.objs.size f cdv))) :
  kJ (d6 kK P w K mg base ["_law_script","_law_k","_law_meeting_here","_law_plan_here","_law_other","_law_twice","_law_one","_law_two","_law_found","_law_few","_law_patience_here","_law_strays"] "law" (aD pU) f cdv A outer s H E).nox (aW pU) aFA:=by
 have hu:=hr.units
 exact (aH (fP rfl PassesOwn.never (h9 rfl T.n_range aJ) (aM (aK (i:=1) lW.nd rfl (Or.inl rfl))) (aH (bF (yZ h__law_meeting (hr.mono (by decide)) rfl (aC (bI kB aJ (aQ h__law_cell (hr.mono (by decide)) rfl (aC (aB (pv 0)) (aC (bI kB aJ (aB (pv 1))) aG)))) aG)) (aM (aK (i:=2) lW.nd rfl (Or.inl rfl))) (fun h1 h2=>bE h1 h2)) (aH (bF (yZ h__law_plan (hr.mono (by decide)) rfl (aC (aB (pv 2)) (aC (aQ h__law_cells (hr.mono (by decide)) rfl (aC (aB (pv 0)) (aC (bI d8 (bI kB aJ (aB (pv 1))) aJ) aG))) (aC aJ aG)))) (aM (aK (i:=3) lW.nd rfl (Or.inl rfl))) (fun h1 h2=>bE h1 h2)) (aH (bF (yZ h__law_plan (hr.mono (by decide)) rfl (aC (aB (pv 2)) (aC (aQ h__law_cells (hr.mono (by decide)) rfl (aC (aB (pv 0)) (aC (bI d8 (bI kB aJ (aB (pv 1))) aJ) aG))) (aC aJ aG)))) (aM (aK (i:=4) lW.nd rfl (Or.inl rfl))) (fun h1 h2=>bE h1 h2)) (aH (bF (aQ h__law_doubled (hr.mono (by decide)) rfl (aC (aB (pv 3)) aG)) (aM (aK (i:=5) lW.nd rfl (Or.inl rfl))) (fun h1 h2=>bE h1 h2)) (aH (fP rfl PassesOwn.never (qF (DF.toE (fR (aC (cT (aC (aB (pv 3)) (aC (aB (pv 4)) aG))) (aC (cT (aC (aB (pv 3)) (aC (aB (pv 5)) aG))) (aC (cT (aC (aB (pv 3)) (aC (aB (pv 3)) aG))) (aC (cT (aC (aB (pv 4)) (aC (aB (pv 5)) aG))) aG))))))) (n8 (aK (i:=6) lW.nd rfl (Or.inl rfl)) (aK (i:=7) lW.nd rfl (Or.inl rfl)) (fun h1 h2=>oD rfl (cU h1 (cU h2 k6)))) (aH (bF (aQ h_alike (hr.mono (by decide)) rfl (aC (aB (pv 6)) (aC (aB (pv 7)) aG))) (aM (aK (i:=8) lW.nd rfl (Or.inl rfl))) (fun h1 h2=>bE h1 h2)) (aH (l0 (DW.t (aHZ (vX (qM (xJ (T:="bool") (by decide) (aB (pv 8)) (xA rfl T.n_bool aFq rfl) (fun h1 h2=>bJ h1 rfl T.n_isinstance k7 h2)) (fun _=>rfl))) (aGU (hJ (uL hu) (aB (pv 8)) (aQ h__law_alike (hr.mono (by decide)) rfl (aC (aB (pv 6)) (aC (aB (pv 7)) aG))))))) (aN (bN r8)) f6) (aN (l0 (hJ (uL hu) (aB (pv 8)) (aHA (zA hu) (aQ h_lean (hr.mono (by decide)) rfl (aC (aB (pv 6)) aG)) (aQ h_lean (hr.mono (by decide)) rfl (aC (aB (pv 7)) aG)))) (aN (bN r8)) f6))))) (aH (bF (aQ h_lean (hr.mono (by decide)) rfl (aC (aB (pv 3)) aG)) (aM (aK (i:=9) lW.nd rfl (Or.inl rfl))) (fun h1 h2=>bE h1 h2)) (aH (l0 (DW.t (aHZ (hJ (uL hu) (aB (pv 9)) (aQ h__law_lean (hr.mono (by decide)) rfl (aC (aB (pv 3)) aG))) (aHZ (vX (qM (aQ h_is_plan (hr.mono (by decide)) rfl (aC (aB (pv 9)) (aC (aB (pv 2)) aG))) (fun _=>rfl))) (aGU (vX (qM (aQ h_alike (hr.mono (by decide)) rfl (aC (aB (pv 9)) (aC (aB (pv 3)) aG))) (fun _=>rfl))))))) (aN (bN r8)) f6) (aH (bF (aQ h__law_patience (hr.mono (by decide)) rfl (aC (aQ h__law_cell (hr.mono (by decide)) rfl (aC (aB (pv 0)) (aC (bI d8 aJ (aB (pv 1))) aG))) aG)) (aM (aK (i:=10) lW.nd rfl (Or.inl rfl))) (fun h1 h2=>bE h1 h2)) (aH (l0 (hJ (uL hu) (bC (aQ h_worths (hr.mono (by decide)) rfl (aC (aB (pv 2)) (aC (aB (pv 9)) (aC (aB (pv 10)) aG)))) aJ (fun _ _=>rfl)) (bC (aQ h_worths (hr.mono (by decide)) rfl (aC (aB (pv 2)) (aC (aB (pv 3)) (aC (aB (pv 10)) aG)))) aJ (fun _ _=>rfl))) (aN (bN r8)) f6) (aH (aJx (cT (aC (cT (aC aJ (aC aJ (aC aJ aG)))) (aC (cT (aC aJ (aC aJ (aC aJ aG)))) (aC (cT (aC aJ (aC aJ (aC aJ aG)))) (aC (cT (aC aJ (aC aJ (aC aJ aG)))) aG))))) (aM (aK (i:=11) lW.nd rfl (Or.inl rfl)))) (aN (l0 (hJ (uL hu) (aQ h_played (hr.mono (by decide)) rfl (aC (aB (pv 2)) (aC (aB (pv 9)) (aC aJ (aC (aB (pv 11)) aG))))) (aQ h_played (hr.mono (by decide)) rfl (aC (aB (pv 2)) (aC (aB (pv 3)) (aC aJ (aC (aB (pv 11)) aG)))))) (aN (bN r8)) f6))))))))))))) (aN (bN r8)))
end
end
theorem aCj:∀ ds d,iJ ds=some d→ds.length=(["thing"]:List Str).length:=by simp_all_arith! [iJ]
theorem sJ:∀ ds d,dM ds=some d→ds.length=(["one","other"]:List Str).length:=by simp_all_arith! [dM]
theorem aC7:∀ ds d,iS ds=some d→ds.length=(["deeds"]:List Str).length:=by simp_all_arith! [iS]
theorem aBS:∀ ds d,dJ ds=some d→ds.length=(["row","deeds"]:List Str).length:=by simp_all_arith! [dJ]
theorem w9:∀ ds d,aU ds=some d→ds.length=(["thing","fewest","most"]:List Str).length:=by simp_all_arith! [aU]
theorem tS:∀ ds d,dB ds=some d→ds.length=(["pay","later","patience"]:List Str).length:=by simp_all_arith! [dB]
theorem aCY:∀ ds d,gG ds=some d→ds.length=(["pays","patience"]:List Str).length:=by simp_all_arith! [gG]
theorem zC:∀ ds m d,dQ ds m=some d→ds.length+1=(["part","sorts","numbers"]:List Str).length:=by
 intro ds m d h
 unfold dQ at h
 split at h
 all_goals first | rfl | cases h
theorem aBJ:∀ ds d,d7 ds=some d→ds.length=(["things"]:List Str).length:=by simp_all_arith! [d7]
theorem aAx:∀ ds d,cK ds=some d→ds.length=(["_law_script","_law_k"]:List Str).length:=by simp_all_arith! [cK]
theorem aCf:∀ ds d,bU ds=some d→ds.length=(["_law_cell_here","_law_prime","_law_many"]:List Str).length:=by simp_all_arith! [bU]
theorem aAe:∀ ds d,dD ds=some d→ds.length=(["_law_deeds"]:List Str).length:=by simp_all_arith! [dD]
theorem z9:∀ ds d,cZ ds=some d→ds.length=(["_law_one","_law_other"]:List Str).length:=by simp_all_arith! [cZ]
theorem aAw:∀ ds d,eX ds=some d→ds.length=(["_law_plan_here","_law_state"]:List Str).length:=by simp_all_arith! [eX]
theorem vH:∀ ds d,cR ds=some d→ds.length=(["_law_plan_here"]:List Str).length:=by simp_all_arith! [cR]
theorem aEB:∀ ds d,lF ds=some d→ds.length=(["upper","lower"]:List Str).length:=by simp_all_arith! [lF]
theorem yV:∀ ds d,dP ds=some d→ds.length=(["thing","least","most"]:List Str).length:=by simp_all_arith! [dP]
theorem aIy:∀ ds d,p5 ds=some d→ds.length=(["meeting","row"]:List Str).length:=by simp_all_arith! [p5]
theorem v0:∀ ds d,cN ds=some d→ds.length=(["meeting","plan","state","row"]:List Str).length:=by simp_all_arith! [cN]
theorem aED:∀ ds d,i7 ds=some d→ds.length=(["plan","sorts"]:List Str).length:=by simp_all_arith! [i7]
theorem vV:∀ ds d,dU ds=some d→ds.length=(["_law_cell_here"]:List Str).length:=by simp_all_arith! [dU]
theorem uJ:∀ ds d,dC ds=some d→ds.length=(["_law_cell_here"]:List Str).length:=by simp_all_arith! [dC]
theorem aCh:∀ ds d,jJ ds=some d→ds.length=(["_law_meeting_here","_law_cell_here"]:List Str).length:=by simp_all_arith! [jJ]
theorem x3:∀ ds d,c9 ds=some d→ds.length=(["_law_script","_law_k"]:List Str).length:=by simp_all_arith! [c9]
theorem aAh:∀ ds d,eQ ds=some d→ds.length=(["_law_plan_here"]:List Str).length:=by simp_all_arith! [eQ]
theorem aEy:∀ ds d,mL ds=some d→ds.length=(["thing","deeds"]:List Str).length:=by simp_all_arith! [mL]
theorem wT:∀ ds d,fV ds=some d→ds.length=(["parts","least","most"]:List Str).length:=by simp_all_arith! [fV]
theorem aEj:∀ ds d,iN ds=some d→ds.length=(["meeting","plan","many","strays"]:List Str).length:=by simp_all_arith! [iN]
theorem aCH:∀ ds d,iR ds=some d→ds.length=(["meeting","rows","hand"]:List Str).length:=by simp_all_arith! [iR]
theorem uQ:∀ ds d,bZ ds=some d→ds.length=(["before","again","patience"]:List Str).length:=by simp_all_arith! [bZ]
theorem rU:∀ ds d,b9 ds=some d→ds.length=(["plan"]:List Str).length:=by simp_all_arith! [b9]
theorem aAA:∀ ds d,dR ds=some d→ds.length=(["_law_meeting_here","_law_cells_here","_law_most"]:List Str).length:=by simp_all_arith! [dR]
theorem aBT:∀ ds d,jT ds=some d→ds.length=(["thing","deeds","states"]:List Str).length:=by simp_all_arith! [jT]
theorem aB7:∀ ds d,iP ds=some d→ds.length=(["meeting","rows","over","patience"]:List Str).length:=by simp_all_arith! [iP]
theorem aHd:∀ ds d,jU ds=some d→ds.length=(["plan"]:List Str).length:=by simp_all_arith! [jU]
theorem aBx:∀ ds d,jF ds=some d→ds.length=(["thing","deeds","states"]:List Str).length:=by simp_all_arith! [jF]
theorem w4:∀ ds d,eY ds=some d→ds.length=(["meeting","plan","start","patience"]:List Str).length:=by simp_all_arith! [eY]
theorem aGL:∀ ds d,kD ds=some d→ds.length=(["one","other"]:List Str).length:=by simp_all_arith! [kD]
theorem aCx:∀ ds d,j3 ds=some d→ds.length=(["thing","meeting"]:List Str).length:=by simp_all_arith! [j3]
theorem aEb:∀ ds d,iK ds=some d→ds.length=(["meeting","plan","patience"]:List Str).length:=by simp_all_arith! [iK]
theorem aJb:∀ ds d,wF ds=some d→ds.length=(["_law_script"]:List Str).length:=by simp_all_arith! [wF]
theorem aHc {P:Program}{w:World}{K:PySem.W.Frag}{mg:Str→Option Value}{base:Heap}{f:Addr}{fd:FuncData} (T:m9 K mg) (H_is_whole:aP K mg "is_whole" jH ["thing"]) (H_common_divisor:aP K mg "common_divisor" dH ["one","other"]) (H_rows_of:aP K mg "rows_of" kW ["deeds"]) (H_place_of:aP K mg "place_of" jV ["row","deeds"]) (H_is_tuple_of:aP K mg "is_tuple_of" fQ ["thing","fewest","most"]) (H_now_and_later:aP K mg "now_and_later" eB ["pay","later","patience"]) (H_weighed:aP K mg "weighed" kP ["pays","patience"]) (H_renumbered:aP K mg "renumbered" fN ["part","sorts","numbers"]) (H_numbered:aP K mg "numbered" iI ["things"]) (H__law_cell:aP K mg "_law_cell" iM ["_law_script","_law_k"]) (H__law_mix:aP K mg "_law_mix" jR ["_law_cell_here","_law_prime","_law_many"]) (H__law_rows:aP K mg "_law_rows" gK ["_law_deeds"]) (H__law_alike:aP K mg "_law_alike" gS ["_law_one","_law_other"]) (H__law_from:aP K mg "_law_from" fM ["_law_plan_here","_law_state"]) (H__law_doubled:aP K mg "_law_doubled" c7 ["_law_plan_here"]) (H_lowest:aP K mg "lowest" mV ["upper","lower"]) (H_is_between:aP K mg "is_between" gQ ["thing","least","most"]) (H_paid:aP K mg "paid" tI ["meeting","row"]) (H_state_behind:aP K mg "state_behind" fA ["meeting","plan","state","row"]) (H_parted:aP K mg "parted" lE ["plan","sorts"]) (H__law_meeting:aP K mg "_law_meeting" cQ ["_law_cell_here"]) (H__law_patience:aP K mg "_law_patience" eC ["_law_cell_here"]) (H__law_row:aP K mg "_law_row" jL ["_law_meeting_here","_law_cell_here"]) (H__law_cells:aP K mg "_law_cells" fL ["_law_script","_law_k"]) (H__law_lean:aP K mg "_law_lean" gM ["_law_plan_here"]) (H_is_row:aP K mg "is_row" lK ["thing","deeds"]) (H_are_between:aP K mg "are_between" eR ["parts","least","most"]) (H_played:aP K mg "played" lI ["meeting","plan","many","strays"]) (H_pays_of:aP K mg "pays_of" j1 ["meeting","rows","hand"]) (H_worth_of_pays:aP K mg "worth_of_pays" d9 ["before","again","patience"]) (H_sorts_of_states:aP K mg "sorts_of_states" cI ["plan"]) (H__law_plan:aP K mg "_law_plan" gL ["_law_meeting_here","_law_cells_here","_law_most"]) (H_is_nexts:aP K mg "is_nexts" jQ ["thing","deeds","states"]) (H_worth_of:aP K mg "worth_of" jI ["meeting","rows","over","patience"]) (H_lean:aP K mg "lean" p9 ["plan"]) (H_is_state:aP K mg "is_state" jM ["thing","deeds","states"]) (H_worths_from:aP K mg "worths_from" eV ["meeting","plan","start","patience"]) (H_alike:aP K mg "alike" pL ["one","other"]) (H_is_plan:aP K mg "is_plan" jX ["thing","meeting"]) (H_worths:aP K mg "worths" lL ["meeting","plan","patience"]) (FL:Fun K "law" "law" pU f fd):uT P w K mg base kK 7 f fd ["_law_script"] (spR K wF):=by
 have h_is_whole:fI P w K mg base 1 "is_whole" iJ:=by
  obtain ⟨f,fd,Fn,hm,bi⟩:=H_is_whole
  exact pV Fn aCS aCj (fun cdv A outer s H E hr=>aAo T  hr) aDH hm bi
 have h_common_divisor:fI P w K mg base 1 "common_divisor" dM:=by
  obtain ⟨f,fd,Fn,hm,bi⟩:=H_common_divisor
  exact pV Fn dZ sJ (fun cdv A outer s H E hr=>rV T  hr) uS hm bi
 have h_rows_of:fI P w K mg base 1 "rows_of" iS:=by
  obtain ⟨f,fd,Fn,hm,bi⟩:=H_rows_of
  exact pV Fn jW aC7 (fun cdv A outer s H E hr=>aBM T  hr) aD4 hm bi
 have h_place_of:fI P w K mg base 1 "place_of" dJ:=by
  obtain ⟨f,fd,Fn,hm,bi⟩:=H_place_of
  exact pV Fn lH aBS (fun cdv A outer s H E hr=>aAm T  hr) aDU hm bi
 have h_is_tuple_of:fI P w K mg base 1 "is_tuple_of" aU:=by
  obtain ⟨f,fd,Fn,hm,bi⟩:=H_is_tuple_of
  exact pV Fn zV w9 (fun cdv A outer s H E hr=>vG T  hr) y6 hm bi
 have h_now_and_later:fI P w K mg base 1 "now_and_later" dB:=by
  obtain ⟨f,fd,Fn,hm,bi⟩:=H_now_and_later
  exact pV Fn oW tS (fun cdv A outer s H E hr=>tD T  hr) vS hm bi
 have h_weighed:fI P w K mg base 1 "weighed" gG:=by
  obtain ⟨f,fd,Fn,hm,bi⟩:=H_weighed
  exact pV Fn kR aCY (fun cdv A outer s H E hr=>aBE T  hr) aEp hm bi
 have h_renumbered:aI0 P w K mg base 1 "renumbered" dQ:=by
  obtain ⟨f,fd,Fn,hm,bi⟩:=H_renumbered
  exact fnM Fn aAr zC (by decide) (fun cdv A outer s H E hr=>wQ T  hr) aAf hm bi
 have h_numbered:fI P w K mg base 1 "numbered" d7:=by
  obtain ⟨f,fd,Fn,hm,bi⟩:=H_numbered
  exact pV Fn p4 aBJ (fun cdv A outer s H E hr=>aAt T  hr) aCt hm bi
 have h__law_cell:fI P w K mg base 1 "_law_cell" cK:=by
  obtain ⟨f,fd,Fn,hm,bi⟩:=H__law_cell
  exact pV Fn aCp aAx (fun cdv A outer s H E hr=>xQ T  hr) aBY hm bi
 have h__law_mix:fI P w K mg base 1 "_law_mix" bU:=by
  obtain ⟨f,fd,Fn,hm,bi⟩:=H__law_mix
  exact pV Fn aDc aCf (fun cdv A outer s H E hr=>aAj T  hr) aCT hm bi
 have h__law_rows:fI P w K mg base 1 "_law_rows" dD:=by
  obtain ⟨f,fd,Fn,hm,bi⟩:=H__law_rows
  exact pV Fn iT aAe (fun cdv A outer s H E hr=>yU T  hr) aCq hm bi
 have h__law_alike:fI P w K mg base 1 "_law_alike" cZ:=by
  obtain ⟨f,fd,Fn,hm,bi⟩:=H__law_alike
  exact pV Fn i9 z9 (fun cdv A outer s H E hr=>wU T  hr) aAv hm bi
 have h__law_from:fI P w K mg base 1 "_law_from" eX:=by
  obtain ⟨f,fd,Fn,hm,bi⟩:=H__law_from
  exact pV Fn tM aAw (fun cdv A outer s H E hr=>x6 T  hr) aBV hm bi
 have h__law_doubled:fI P w K mg base 1 "_law_doubled" cR:=by
  obtain ⟨f,fd,Fn,hm,bi⟩:=H__law_doubled
  exact pV Fn fJ vH (fun cdv A outer s H E hr=>vA T  hr) wS hm bi
 have h_lowest:fI P w K mg base 2 "lowest" lF:=by
  obtain ⟨f,fd,Fn,hm,bi⟩:=H_lowest
  exact pV Fn vN aEB (fun cdv A outer s H E hr=>aCQ T h_common_divisor hr) aGg hm bi
 have h_is_between:fI P w K mg base 2 "is_between" dP:=by
  obtain ⟨f,fd,Fn,hm,bi⟩:=H_is_between
  exact pV Fn aAi yV (fun cdv A outer s H E hr=>wZ T h_is_whole hr) aAn hm bi
 have h_paid:fI P w K mg base 2 "paid" p5:=by
  obtain ⟨f,fd,Fn,hm,bi⟩:=H_paid
  exact pV Fn aJS aIy (fun cdv A outer s H E hr=>aF3 T h_place_of hr) aJ8 hm bi
 have h_state_behind:fI P w K mg base 2 "state_behind" cN:=by
  obtain ⟨f,fd,Fn,hm,bi⟩:=H_state_behind
  exact pV Fn wX v0 (fun cdv A outer s H E hr=>uR T h_place_of hr) wY hm bi
 have h_parted:fI P w K mg base 2 "parted" i7:=by
  obtain ⟨f,fd,Fn,hm,bi⟩:=H_parted
  exact pV Fn aFQ aED (fun cdv A outer s H E hr=>aC9 T h_numbered hr) aFU hm bi
 have h__law_meeting:aGp P w K mg base 2 "_law_meeting" dU:=by
  obtain ⟨f,fd,Fn,hm,bi⟩:=H__law_meeting
  exact fnR Fn cD vV (fun cdv A outer s H E hr=>t7 T h__law_mix h__law_rows hr) wW hm bi
 have h__law_patience:fI P w K mg base 2 "_law_patience" dC:=by
  obtain ⟨f,fd,Fn,hm,bi⟩:=H__law_patience
  exact pV Fn dI uJ (fun cdv A outer s H E hr=>sM T h__law_mix hr) vZ hm bi
 have h__law_row:fI P w K mg base 2 "_law_row" jJ:=by
  obtain ⟨f,fd,Fn,hm,bi⟩:=H__law_row
  exact pV Fn wC aCh (fun cdv A outer s H E hr=>aAD T h__law_rows h__law_mix hr) aCK hm bi
 have h__law_cells:fI P w K mg base 2 "_law_cells" c9:=by
  obtain ⟨f,fd,Fn,hm,bi⟩:=H__law_cells
  exact pV Fn aAk x3 (fun cdv A outer s H E hr=>w8 T h__law_cell hr) aAu hm bi
 have h__law_lean:fI P w K mg base 2 "_law_lean" eQ:=by
  obtain ⟨f,fd,Fn,hm,bi⟩:=H__law_lean
  exact pV Fn eN aAh (fun cdv A outer s H E hr=>zI T h__law_from h__law_alike hr) aBw hm bi
 have h_is_row:fI P w K mg base 3 "is_row" mL:=by
  obtain ⟨f,fd,Fn,hm,bi⟩:=H_is_row
  exact pV Fn aGz aEy (fun cdv A outer s H E hr=>aDk T h_is_tuple_of h_is_between hr) aGK hm bi
 have h_are_between:fI P w K mg base 3 "are_between" fV:=by
  obtain ⟨f,fd,Fn,hm,bi⟩:=H_are_between
  exact pV Fn aAa wT (fun cdv A outer s H E hr=>v8 T h_is_between hr) x8 hm bi
 have h_played:fI P w K mg base 3 "played" iN:=by
  obtain ⟨f,fd,Fn,hm,bi⟩:=H_played
  exact pV Fn j2 aEj (fun cdv A outer s H E hr=>aDg T h_state_behind hr) aGh hm bi
 have h_pays_of:fI P w K mg base 3 "pays_of" iR:=by
  obtain ⟨f,fd,Fn,hm,bi⟩:=H_pays_of
  exact pV Fn aEH aCH (fun cdv A outer s H E hr=>aBu T h_paid hr) aEg hm bi
 have h_worth_of_pays:fI P w K mg base 3 "worth_of_pays" bZ:=by
  obtain ⟨f,fd,Fn,hm,bi⟩:=H_worth_of_pays
  exact pV Fn iX uQ (fun cdv A outer s H E hr=>sT T h_weighed h_now_and_later h_lowest hr) vW hm bi
 have h_sorts_of_states:fI P w K mg base 3 "sorts_of_states" b9:=by
  obtain ⟨f,fd,Fn,hm,bi⟩:=H_sorts_of_states
  exact pV Fn e8 rU (fun cdv A outer s H E hr=>qI T h_numbered h_parted hr) sS hm bi
 have h__law_plan:aGp P w K mg base 3 "_law_plan" dR:=by
  obtain ⟨f,fd,Fn,hm,bi⟩:=H__law_plan
  exact fnR Fn iU aAA (fun cdv A outer s H E hr=>yN T h__law_mix h__law_rows h__law_row hr) aBA hm bi
 have h_is_nexts:fI P w K mg base 4 "is_nexts" jT:=by
  obtain ⟨f,fd,Fn,hm,bi⟩:=H_is_nexts
  exact pV Fn wD aBT (fun cdv A outer s H E hr=>aAd T h_rows_of h_is_tuple_of h_are_between hr) aDy hm bi
 have h_worth_of:fI P w K mg base 4 "worth_of" iP:=by
  obtain ⟨f,fd,Fn,hm,bi⟩:=H_worth_of
  exact pV Fn lJ aB7 (fun cdv A outer s H E hr=>aAg T h_pays_of h_worth_of_pays hr) aC5 hm bi
 have h_lean:fI P w K mg base 4 "lean" jU:=by
  obtain ⟨f,fd,Fn,hm,bi⟩:=H_lean
  exact pV Fn nU aHd (fun cdv A outer s H E hr=>aFV T h_sorts_of_states h_renumbered hr) aI1 hm bi
 have h_is_state:fI P w K mg base 5 "is_state" jF:=by
  obtain ⟨f,fd,Fn,hm,bi⟩:=H_is_state
  exact pV Fn aCR aBx (fun cdv A outer s H E hr=>aAz T h_is_tuple_of h_is_row h_is_nexts hr) aCw hm bi
 have h_worths_from:fI P w K mg base 5 "worths_from" eY:=by
  obtain ⟨f,fd,Fn,hm,bi⟩:=H_worths_from
  exact pV Fn iO w4 (fun cdv A outer s H E hr=>vP T h_state_behind h_worth_of hr) xU hm bi
 have h_alike:fI P w K mg base 5 "alike" kD:=by
  obtain ⟨f,fd,Fn,hm,bi⟩:=H_alike
  exact pV Fn aIp aGL (fun cdv A outer s H E hr=>aEr T h_lean hr) aIr hm bi
 have h_is_plan:fI P w K mg base 6 "is_plan" j3:=by
  obtain ⟨f,fd,Fn,hm,bi⟩:=H_is_plan
  exact pV Fn aD7 aCx (fun cdv A outer s H E hr=>aCo T h_is_tuple_of h_is_state hr) aER hm bi
 have h_worths:fI P w K mg base 6 "worths" iK:=by
  obtain ⟨f,fd,Fn,hm,bi⟩:=H_worths
  exact pV Fn aGj aEb (fun cdv A outer s H E hr=>aDI T h_worths_from hr) aFO hm bi
 exact aNn FL lW aJb (fun cdv A outer s H E hr=>aHf T h__law_cell h__law_meeting h__law_cells h__law_plan h__law_doubled h_alike h__law_alike h_lean h__law_lean h_is_plan h__law_patience h_worths h_played hr) aKC
theorem aH3 {l:PySem.W.OpenLaw}{q:Program}{loose:List Str}{XP:(Str→Option Value)→Heap→Prop}{YP:World→Heap→Prop}{d:DefRec}{K:Params→PySem.W.Frag} (hn:l.most=some 63) (hdf:d.params.defaults=[]) (hY:∀ (w:World) (h:Heap),YP w h→(K w.params).In h)
  (F:∀ (w:World) (mg:Str→Option Value) (fa:Addr) (h:Heap),(K w.params).In h→h.Ns mainGlobals mg→mg d.name=some (.ref fa) →
   ∃ fd:FuncData,(∀ (s:Shared) (u:Value),BindsTo s fd ⟨[u],[]⟩ [("_law_script",u)])∧∀ base:Heap,(K w.params).In base→base.Ns mainGlobals mg→uT l.prog w (K w.params) mg base kK 7 fa fd ["_law_script"] (spR (K w.params) wF)) :
  PySem.W.WalkO q loose XP YP l.row.toRowW d [] (fun f vs=>PySem.call f vs):=
 aHE (n:=63) (k:=7) (x:="_law_script") (CX:=kK) (sp:=fun K=>spR K wF) hn (by decide) hdf ⟨rfl,by decide,by decide⟩ hY F (fun K H a ns _ _ hS=>⟨H,[.lst (ns.map D.int)],fun d=>d = .bl true,bY.refl _,.cons (bV.mpr ⟨a,ns.map V.int,rfl,hS,aBo ns⟩) .nil,by simp [wF,cP],fun d v C' H' hd _ nv=>by subst hd;exact c6.mp nv⟩) fun _ _ _ _ z=>z
theorem aK4 {K:PySem.W.Frag}{mg:Str→Option Value}{h:Heap} (X:K.In h) (G:h.Ns mainGlobals mg) (z_abs:PySem.W.nsIn K mainGlobals "abs"=some none) (z_all:PySem.W.nsIn K mainGlobals "all"=some none) (z_bool:PySem.W.nsIn K mainGlobals "bool"=some none) (z_enumerate:PySem.W.nsIn K mainGlobals "enumerate"=some none) (z_int:PySem.W.nsIn K mainGlobals "int"=some none) (z_isinstance:PySem.W.nsIn K mainGlobals "isinstance"=some none) (z_len:PySem.W.nsIn K mainGlobals "len"=some none) (z_list:PySem.W.nsIn K mainGlobals "list"=some none) (z_range:PySem.W.nsIn K mainGlobals "range"=some none) (z_reversed:PySem.W.nsIn K mainGlobals "reversed"=some none) (z_sorted:PySem.W.nsIn K mainGlobals "sorted"=some none) (z_tuple:PySem.W.nsIn K mainGlobals "tuple"=some none) (z_zip:PySem.W.nsIn K mainGlobals "zip"=some none) {t_MOST_STATES:Tok} (v_MOST_STATES:PySem.W.nsIn K mainGlobals "MOST_STATES"=some (some (.int (8) t_MOST_STATES))):m9 K mg:=
 ⟨PySem.W.mg_none_of X G z_abs,PySem.W.mg_none_of X G z_all,PySem.W.mg_none_of X G z_bool,PySem.W.mg_none_of X G z_enumerate,PySem.W.mg_none_of X G z_int,PySem.W.mg_none_of X G z_isinstance,PySem.W.mg_none_of X G z_len,PySem.W.mg_none_of X G z_list,PySem.W.mg_none_of X G z_range,PySem.W.mg_none_of X G z_reversed,PySem.W.mg_none_of X G z_sorted,PySem.W.mg_none_of X G z_tuple,PySem.W.mg_none_of X G z_zip,⟨_,PySem.W.mg_of X G v_MOST_STATES⟩⟩
theorem aKP {l:PySem.W.OpenLaw}{w:World}{K:PySem.W.Frag}{h:Heap}{mg:Str→Option Value}{fa f:Addr}{od an:Option Addr}{sl:Array (Option Value)}{oc kV dc pm cd ct:Value} (X:K.In h) (G:h.Ns mainGlobals mg) (hfa:mg "law"=some (.ref fa)) (T:m9 K mg) (H_is_whole:aP K mg "is_whole" jH ["thing"]) (H_common_divisor:aP K mg "common_divisor" dH ["one","other"]) (H_rows_of:aP K mg "rows_of" kW ["deeds"]) (H_place_of:aP K mg "place_of" jV ["row","deeds"]) (H_is_tuple_of:aP K mg "is_tuple_of" fQ ["thing","fewest","most"]) (H_now_and_later:aP K mg "now_and_later" eB ["pay","later","patience"]) (H_weighed:aP K mg "weighed" kP ["pays","patience"]) (H_renumbered:aP K mg "renumbered" fN ["part","sorts","numbers"]) (H_numbered:aP K mg "numbered" iI ["things"]) (H__law_cell:aP K mg "_law_cell" iM ["_law_script","_law_k"]) (H__law_mix:aP K mg "_law_mix" jR ["_law_cell_here","_law_prime","_law_many"]) (H__law_rows:aP K mg "_law_rows" gK ["_law_deeds"]) (H__law_alike:aP K mg "_law_alike" gS ["_law_one","_law_other"]) (H__law_from:aP K mg "_law_from" fM ["_law_plan_here","_law_state"]) (H__law_doubled:aP K mg "_law_doubled" c7 ["_law_plan_here"]) (H_lowest:aP K mg "lowest" mV ["upper","lower"]) (H_is_between:aP K mg "is_between" gQ ["thing","least","most"]) (H_paid:aP K mg "paid" tI ["meeting","row"]) (H_state_behind:aP K mg "state_behind" fA ["meeting","plan","state","row"]) (H_parted:aP K mg "parted" lE ["plan","sorts"]) (H__law_meeting:aP K mg "_law_meeting" cQ ["_law_cell_here"]) (H__law_patience:aP K mg "_law_patience" eC ["_law_cell_here"]) (H__law_row:aP K mg "_law_row" jL ["_law_meeting_here","_law_cell_here"]) (H__law_cells:aP K mg "_law_cells" fL ["_law_script","_law_k"]) (H__law_lean:aP K mg "_law_lean" gM ["_law_plan_here"]) (H_is_row:aP K mg "is_row" lK ["thing","deeds"]) (H_are_between:aP K mg "are_between" eR ["parts","least","most"]) (H_played:aP K mg "played" lI ["meeting","plan","many","strays"]) (H_pays_of:aP K mg "pays_of" j1 ["meeting","rows","hand"]) (H_worth_of_pays:aP K mg "worth_of_pays" d9 ["before","again","patience"]) (H_sorts_of_states:aP K mg "sorts_of_states" cI ["plan"]) (H__law_plan:aP K mg "_law_plan" gL ["_law_meeting_here","_law_cells_here","_law_most"]) (H_is_nexts:aP K mg "is_nexts" jQ ["thing","deeds","states"]) (H_worth_of:aP K mg "worth_of" jI ["meeting","rows","over","patience"]) (H_lean:aP K mg "lean" p9 ["plan"]) (H_is_state:aP K mg "is_state" jM ["thing","deeds","states"]) (H_worths_from:aP K mg "worths_from" eV ["meeting","plan","start","patience"]) (H_alike:aP K mg "alike" pL ["one","other"]) (H_is_plan:aP K mg "is_plan" jX ["thing","meeting"]) (H_worths:aP K mg "worths" lL ["meeting","plan","patience"])
  (a:PySem.W.nsIn K mainGlobals "law"=some (some (.ref f))) (ll:K.lookup f=some ⟨oc,od,.func (PySem.W.fnOf "law" "law" (nJ pU) (aW pU) (aD pU) .none kV dc pm an cd ct),sl⟩) (c:PySem.W.codeIn K cd "law"=true) (k:PySem.W.keepIn K (.ref f)=true) :
  ∃ fd:FuncData,(∀ (s:Shared) (v:Value),BindsTo s fd ⟨[v],[]⟩ [("_law_script",v)])∧∀ base:Heap,K.In base→base.Ns mainGlobals mg→uT l.prog w K mg base kK 7 fa fd ["_law_script"] (spR K wF):=by
 have e:=hfa.symm.trans (PySem.W.mg_of X G a)
 cases e
 exact ⟨PySem.W.fnOf "law" "law" (nJ pU) (aW pU) (aD pU) .none kV dc pm an cd ct,fun s v=>.of_eq rfl,fun base _ _=>aHc T H_is_whole H_common_divisor H_rows_of H_place_of H_is_tuple_of H_now_and_later H_weighed H_renumbered H_numbered H__law_cell H__law_mix H__law_rows H__law_alike H__law_from H__law_doubled H_lowest H_is_between H_paid H_state_behind H_parted H__law_meeting H__law_patience H__law_row H__law_cells H__law_lean H_is_row H_are_between H_played H_pays_of H_worth_of_pays H_sorts_of_states H__law_plan H_is_nexts H_worth_of H_lean H_is_state H_worths_from H_alike H_is_plan H_worths (aD3 (st:=pU) ll c k)⟩
end L2
def PySem.W.Fast.tw5831584677661575841:Nat:=0
def PySem.W.Fast.tw16155502343120760870:Nat:=0
def PySem.W.Fast.tw15337032288399115435:Nat:=0
def PySem.W.Fast.tw4252121907572355632:Nat:=0
def PySem.W.Fast.tw13221364594558822909:Nat:=0
def PySem.W.Fast.tw2164876407526538239:Nat:=0
def PySem.W.Fast.tw11896961591722040164:Nat:=0
def PySem.W.Fast.tw8194600228724118492:Nat:=0
def PySem.W.Fast.tw4164016042267194262:Nat:=0
def PySem.W.Fast.tw18417294873848243729:Nat:=0
def PySem.W.Fast.tw10224822113169414499:Nat:=0
def PySem.W.Fast.tw2312386553834915696:Nat:=0
def PySem.W.Fast.tw3359804125559501762:Nat:=0
def PySem.W.Fast.tw1037562894379352563:Nat:=0
set_option hygiene false in
local macro_rules | `(tactic| simp_all_arith! [$x:term]) => `(tactic| (dsimp only [L2.oB]; refine' L2.aHq KX G ?a ?l ?c ?k (fun _ _ _ _ _ _ => $x (by intros; rfl)); (case a => k_is); (case l => k_is); (case c => k_is); (case k => k_is)))
open PySem PySem.W PyProof.Rows
set_option maxRecDepth 100000 in
set_option maxHeartbeats 0 in
theorem PySem.Challenge.cw_pactkeep_k10_whole_plans_made_lean_holds : PySem.Challenge.rw_pactkeep_k10_whole_plans_made_lean.Holds := by
 w_on;o_law;k_head;(case hw=>w_witness2)
 k_fill
 refine L2.aH3 (l:=PySem.Challenge.rw_pactkeep_k10_whole_plans_made_lean) rfl rfl (fun w h Y=>PySem.W.kIn_of Y) ?F
 case F=>
  intro w mg fa h KX G hmg
  have T:L2.m9 (L2.oB KX) mg:=by
   dsimp only [L2.oB]
   refine' L2.aK4 KX G ?z_abs ?z_all ?z_bool ?z_enumerate ?z_int ?z_isinstance ?z_len ?z_list ?z_range ?z_reversed ?z_sorted ?z_tuple ?z_zip ?v_MOST_STATES
   (case z_abs=>k_is);(case z_all=>k_is);(case z_bool=>k_is);(case z_enumerate=>k_is);(case z_int=>k_is);(case z_isinstance=>k_is);(case z_len=>k_is);(case z_list=>k_is);(case z_range=>k_is);(case z_reversed=>k_is);(case z_sorted=>k_is);(case z_tuple=>k_is);(case z_zip=>k_is);(case v_MOST_STATES=>k_is)
  have H_is_whole:L2.aP (L2.oB KX) mg "is_whole" L2.jH ["thing"]:=by simp_all_arith! [L2.us1]
  have H_common_divisor:L2.aP (L2.oB KX) mg "common_divisor" L2.dH ["one","other"]:=by simp_all_arith! [L2.us2]
  have H_rows_of:L2.aP (L2.oB KX) mg "rows_of" L2.kW ["deeds"]:=by simp_all_arith! [L2.us1]
  have H_place_of:L2.aP (L2.oB KX) mg "place_of" L2.jV ["row","deeds"]:=by simp_all_arith! [L2.us2]
  have H_is_tuple_of:L2.aP (L2.oB KX) mg "is_tuple_of" L2.fQ ["thing","fewest","most"]:=by simp_all_arith! [L2.us3]
  have H_now_and_later:L2.aP (L2.oB KX) mg "now_and_later" L2.eB ["pay","later","patience"]:=by simp_all_arith! [L2.us3]
  have H_weighed:L2.aP (L2.oB KX) mg "weighed" L2.kP ["pays","patience"]:=by simp_all_arith! [L2.us2]
  have H_renumbered:L2.aP (L2.oB KX) mg "renumbered" L2.fN ["part","sorts","numbers"]:=by simp_all_arith! [L2.us3]
  have H_numbered:L2.aP (L2.oB KX) mg "numbered" L2.iI ["things"]:=by simp_all_arith! [L2.us1]
  have H__law_cell:L2.aP (L2.oB KX) mg "_law_cell" L2.iM ["_law_script","_law_k"]:=by simp_all_arith! [L2.us2]
  have H__law_mix:L2.aP (L2.oB KX) mg "_law_mix" L2.jR ["_law_cell_here","_law_prime","_law_many"]:=by simp_all_arith! [L2.us3]
  have H__law_rows:L2.aP (L2.oB KX) mg "_law_rows" L2.gK ["_law_deeds"]:=by simp_all_arith! [L2.us1]
  have H__law_alike:L2.aP (L2.oB KX) mg "_law_alike" L2.gS ["_law_one","_law_other"]:=by simp_all_arith! [L2.us2]
  have H__law_from:L2.aP (L2.oB KX) mg "_law_from" L2.fM ["_law_plan_here","_law_state"]:=by simp_all_arith! [L2.us2]
  have H__law_doubled:L2.aP (L2.oB KX) mg "_law_doubled" L2.c7 ["_law_plan_here"]:=by simp_all_arith! [L2.us1]
  have H_lowest:L2.aP (L2.oB KX) mg "lowest" L2.mV ["upper","lower"]:=by simp_all_arith! [L2.us2]
  have H_is_between:L2.aP (L2.oB KX) mg "is_between" L2.gQ ["thing","least","most"]:=by simp_all_arith! [L2.us3]
  have H_paid:L2.aP (L2.oB KX) mg "paid" L2.tI ["meeting","row"]:=by simp_all_arith! [L2.us2]
  have H_state_behind:L2.aP (L2.oB KX) mg "state_behind" L2.fA ["meeting","plan","state","row"]:=by simp_all_arith! [L2.us4]
  have H_parted:L2.aP (L2.oB KX) mg "parted" L2.lE ["plan","sorts"]:=by simp_all_arith! [L2.us2]
  have H__law_meeting:L2.aP (L2.oB KX) mg "_law_meeting" L2.cQ ["_law_cell_here"]:=by simp_all_arith! [L2.us1]
  have H__law_patience:L2.aP (L2.oB KX) mg "_law_patience" L2.eC ["_law_cell_here"]:=by simp_all_arith! [L2.us1]
  have H__law_row:L2.aP (L2.oB KX) mg "_law_row" L2.jL ["_law_meeting_here","_law_cell_here"]:=by simp_all_arith! [L2.us2]
  have H__law_cells:L2.aP (L2.oB KX) mg "_law_cells" L2.fL ["_law_script","_law_k"]:=by simp_all_arith! [L2.us2]
  have H__law_lean:L2.aP (L2.oB KX) mg "_law_lean" L2.gM ["_law_plan_here"]:=by simp_all_arith! [L2.us1]
  have H_is_row:L2.aP (L2.oB KX) mg "is_row" L2.lK ["thing","deeds"]:=by simp_all_arith! [L2.us2]
  have H_are_between:L2.aP (L2.oB KX) mg "are_between" L2.eR ["parts","least","most"]:=by simp_all_arith! [L2.us3]
  have H_played:L2.aP (L2.oB KX) mg "played" L2.lI ["meeting","plan","many","strays"]:=by simp_all_arith! [L2.us4]
  have H_pays_of:L2.aP (L2.oB KX) mg "pays_of" L2.j1 ["meeting","rows","hand"]:=by simp_all_arith! [L2.us3]
  have H_worth_of_pays:L2.aP (L2.oB KX) mg "worth_of_pays" L2.d9 ["before","again","patience"]:=by simp_all_arith! [L2.us3]
  have H_sorts_of_states:L2.aP (L2.oB KX) mg "sorts_of_states" L2.cI ["plan"]:=by simp_all_arith! [L2.us1]
  have H__law_plan:L2.aP (L2.oB KX) mg "_law_plan" L2.gL ["_law_meeting_here","_law_cells_here","_law_most"]:=by simp_all_arith! [L2.us3]
  have H_is_nexts:L2.aP (L2.oB KX) mg "is_nexts" L2.jQ ["thing","deeds","states"]:=by simp_all_arith! [L2.us3]
  have H_worth_of:L2.aP (L2.oB KX) mg "worth_of" L2.jI ["meeting","rows","over","patience"]:=by simp_all_arith! [L2.us4]
  have H_lean:L2.aP (L2.oB KX) mg "lean" L2.p9 ["plan"]:=by simp_all_arith! [L2.us1]
  have H_is_state:L2.aP (L2.oB KX) mg "is_state" L2.jM ["thing","deeds","states"]:=by simp_all_arith! [L2.us3]
  have H_worths_from:L2.aP (L2.oB KX) mg "worths_from" L2.eV ["meeting","plan","start","patience"]:=by simp_all_arith! [L2.us4]
  have H_alike:L2.aP (L2.oB KX) mg "alike" L2.pL ["one","other"]:=by simp_all_arith! [L2.us2]
  have H_is_plan:L2.aP (L2.oB KX) mg "is_plan" L2.jX ["thing","meeting"]:=by simp_all_arith! [L2.us2]
  have H_worths:L2.aP (L2.oB KX) mg "worths" L2.lL ["meeting","plan","patience"]:=by simp_all_arith! [L2.us3]
  refine' L2.aKP KX G hmg T H_is_whole H_common_divisor H_rows_of H_place_of H_is_tuple_of H_now_and_later H_weighed H_renumbered H_numbered H__law_cell H__law_mix H__law_rows H__law_alike H__law_from H__law_doubled H_lowest H_is_between H_paid H_state_behind H_parted H__law_meeting H__law_patience H__law_row H__law_cells H__law_lean H_is_row H_are_between H_played H_pays_of H_worth_of_pays H_sorts_of_states H__law_plan H_is_nexts H_worth_of H_lean H_is_state H_worths_from H_alike H_is_plan H_worths ?al ?ll ?cl ?kl
  (case al=>k_is);(case ll=>k_is);(case cl=>k_is);(case kl=>k_is)
