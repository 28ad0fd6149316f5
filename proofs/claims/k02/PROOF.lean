import PyProof.Rows.All
import Wide.All
import OpenK.AllK
import Wide.FinOn
import Lean
import PyProof.EqAt
import PyProof.EqKinds
import PyProof.TupleCall
import PyProof.NeKinds
import PyProof.ZipIter
import PyProof.Rows.SortShell
import PyProof.Rows.SortWalk
import PyProof.EnumMake
import PyProof.Rows.SumAny
import PyProof.Rows.SumGenD
import KE.KTryMore
import OpenK.KOwn
import PyProof.ExcArgsOwn
import PyProof.IsiTuple
import PyProof.ExcAttrAll.ValueError
import PyProof.FitsBits
import PySem.Challenge.RW_pactkeep_k02_whole_texts
set_option Elab.async false
set_option linter.all false
set_option maxRecDepth 100000
namespace L2
open PySem PySem.Spec PyProof.Rows
abbrev Key := Sum Int Str
def keyIs : Key → Value → Bool
  | .inl k, v => Value.isInt k v
  | .inr x, v => Value.isStrOf x v
def keyH (w : World) : Key → Int
  | .inl k => hashInt k
  | .inr x => hashStr w x
theorem keyIs_shape : ∀ {k : Key} {v : Value}, keyIs k v = true → (∃ i t, k = Sum.inl i ∧ v = Value.int i t) ∨ (∃ x t, k = Sum.inr x ∧ v = Value.str x t)
  | .inl i, v, h => by
    obtain ⟨t, e⟩ := Value.isInt_shape (k := i) (v := v) h
    exact .inl ⟨i, t, rfl, e⟩
  | .inr x, v, h => by
    obtain ⟨t, e⟩ := Value.isStrOf_shape (x := x) (v := v) h
    exact .inr ⟨x, t, rfl, e⟩
theorem key_ll (a b : Int) : decide ((Sum.inl a : Key) = Sum.inl b) = (a == b) := by
  by_cases e : a = b
  · subst e; simp
  · have h : ¬ (Sum.inl a : Key) = Sum.inl b := fun q => e (Sum.inl.inj q)
    rw [decide_eq_false h]
    exact (beq_eq_false_iff_ne.mpr e).symm
theorem key_rr (a b : Str) : decide ((Sum.inr a : Key) = Sum.inr b) = decide (a = b) := by
  by_cases e : a = b
  · subst e; simp
  · have h : ¬ (Sum.inr a : Key) = Sum.inr b := fun q => e (Sum.inr.inj q)
    rw [decide_eq_false h, decide_eq_false e]
theorem key_lr (a : Int) (b : Str) : decide ((Sum.inl a : Key) = Sum.inr b) = false := decide_eq_false (fun q => nomatch q)
theorem key_rl (a : Str) (b : Int) : decide ((Sum.inr a : Key) = Sum.inl b) = false := decide_eq_false (fun q => nomatch q)
def mixKind (prog : Program) (w : World) : PySem.KeyKind prog w Key where
  is := keyIs
  hash := keyH w
  inj := fun v a b ha hb => by
    rcases keyIs_shape ha with ⟨i, t, rfl, rfl⟩ | ⟨x, t, rfl, rfl⟩
    · rcases keyIs_shape hb with ⟨j, u, rfl, e⟩ | ⟨y, u, rfl, e⟩
      · injection e with e1 _; rw [e1]
      · exact nomatch e
    · rcases keyIs_shape hb with ⟨j, u, rfl, e⟩ | ⟨y, u, rfl, e⟩
      · exact nomatch e
      · injection e with e1 _; rw [e1]
  byValue := fun k v h => by
    rcases keyIs_shape h with ⟨i, t, rfl, rfl⟩ | ⟨x, t, rfl, rfl⟩ <;> rfl
  pyHash := fun hv h => by
    rcases keyIs_shape hv with ⟨i, t, rfl, rfl⟩ | ⟨x, t, rfl, rfl⟩
    · exact wpAny_pyHash_int h
    · exact wpAny_pyHash_str h
  eqBool := fun hu hv h => by
    rcases keyIs_shape hu with ⟨i, t, rfl, rfl⟩ | ⟨x, t, rfl, rfl⟩
    · rcases keyIs_shape hv with ⟨j, u, rfl, rfl⟩ | ⟨y, u, rfl, rfl⟩
      · rw [key_ll] at h; exact wpAny_eqBool_int h
      · rw [key_lr] at h; exact SeqAt.EqAt.int_str i t y u _ _ _ _ h
    · rcases keyIs_shape hv with ⟨j, u, rfl, rfl⟩ | ⟨y, u, rfl, rfl⟩
      · rw [key_rl] at h; exact SeqAt.EqAt.str_int x t j u _ _ _ _ h
      · rw [key_rr] at h; exact wpAny_eqBool_str h
  «strs» := fun k x t v h => by
    rcases keyIs_shape h with ⟨i, u, rfl, e⟩ | ⟨y, u, rfl, e⟩
    · exact nomatch e
    · injection e with e1 _
      subst e1
      cases v <;> rfl
theorem mixKind_is (prog : Program) (w : World) (k : Key) (v : Value) : (mixKind prog w).is k v = keyIs k v := rfl
end L2
namespace L2
open PySem PySem.Spec PyProof.Rows
inductive V where
  | non | bl (b : Bool) | int (i : Int) | str (x : Str) | byt (b : Array UInt8) | flt (b : UInt64) | ref (a : Addr) | ty (n : String)
  deriving DecidableEq
def RelV : V → Value → Prop
  | .non, u => u = Value.none
  | .bl b, u => u = Value.bool b
  | .int i, u => ∃ t, u = Value.int i t
  | .str x, u => ∃ t, u = Value.str x t
  | .byt b, u => ∃ t, u = Value.bytes b t
  | .flt b, u => ∃ t, u = Value.float b t
  | .ref a, u => u = Value.ref a
  | .ty n, u => u = Value.type n
abbrev Vals : List V → List Value → Prop := Paired RelV
theorem Vals.length {xs : List V} {us : List Value} (r : Vals xs us) : xs.length = us.length := Paired.length r
theorem Vals.get : ∀ {xs : List V} {us : List Value} {i : Nat} {x : V}, Vals xs us → xs[i]? = some x → ∃ u, us[i]? = some u ∧ RelV x u
  | _, _, _, _, .nil, e => by simp at e
  | _, _, 0, _, .cons r _, e => by simp at e; subst e; exact ⟨_, rfl, r⟩
  | _, _, i + 1, x, .cons _ t, e => by
    obtain ⟨u, h1, h2⟩ := Vals.get (i := i) (x := x) t (by simpa using e)
    exact ⟨u, by simpa using h1, h2⟩
theorem Vals.append : ∀ {xs ys : List V} {us ws : List Value}, Vals xs us → Vals ys ws → Vals (xs ++ ys) (us ++ ws)
  | _, _, _, _, .nil, s => s
  | _, _, _, _, .cons r t, s => .cons r (Vals.append t s)
theorem Vals.take : ∀ {xs : List V} {us : List Value} (n : Nat), Vals xs us → Vals (xs.take n) (us.take n)
  | _, _, 0, _ => .nil
  | _, _, _ + 1, .nil => .nil
  | _, _, n + 1, .cons r t => .cons r (Vals.take n t)
theorem Vals.drop : ∀ {xs : List V} {us : List Value} (n : Nat), Vals xs us → Vals (xs.drop n) (us.drop n)
  | _, _, 0, r => r
  | _, _, _ + 1, .nil => .nil
  | _, _, n + 1, .cons _ t => Vals.drop n t
def RelO : Option V → Option Value → Prop
  | some v, some u => RelV v u
  | none, none => True
  | _, _ => False
def KV {κ : Type} : List (κ × V) → List (κ × Value) → Prop := Paired fun (p : κ × V) (q : κ × Value) => p.1 = q.1 ∧ RelV p.2 q.2
def kV : Key → V
  | .inl i => .int i
  | .inr x => .str x
def Compat {α β : Type} : List (α ⊕ β) → List (α ⊕ β) → Prop
  | a :: x, b :: y => a.isLeft = b.isLeft ∧ Compat x y
  | _, _ => True
def conf {α β : Type} (f : Nat → Bool) : List (α ⊕ β) → Prop
  | [] => True
  | a :: x => a.isLeft = f 0 ∧ conf (fun i => f (i + 1)) x
theorem conf.compat {α β : Type} : ∀ {f : Nat → Bool} {x y : List (α ⊕ β)}, conf f x → conf f y → Compat x y
  | _, [], [], _, _ => trivial
  | _, [], _ :: _, _, _ => trivial
  | _, _ :: _, [], _, _ => trivial
  | f, a :: x, b :: y, h, q => ⟨(show _ ∧ _ from h).1.trans (show _ ∧ _ from q).1.symm, conf.compat (show _ ∧ _ from h).2 (show _ ∧ _ from q).2⟩
section
variable {prog : Program} {w : World} {K : Type} [DecidableEq K] (knd : KeyKind prog w K)
inductive NItems (h : Heap) : List (K ⊕ List K) → List Value → Prop
  | nil : NItems h [] []
  | one {k : K} {v : Value} {ks : List (K ⊕ List K)} {vs : List Value} : knd.is k v = true → NItems h ks vs → NItems h (.inl k :: ks) (v :: vs)
  | tup {k : List K} {b : Addr} {ks : List (K ⊕ List K)} {vs : List Value} : IsTupleKey knd h k b → NItems h ks vs → NItems h (.inr k :: ks) (.ref b :: vs)
def IsN (h : Heap) (ks : List (K ⊕ List K)) (a : Addr) : Prop := ∃ o items n, h.get? a = some o ∧ o.cls = .type "tuple" ∧ o.data = .seq items n ∧ NItems knd h ks items.toList
def hashN : K ⊕ List K → Int
  | .inl k => knd.hash k
  | .inr ks => tupleKeyHash knd ks
def drawN : K ⊕ List K → Nat
  | .inl _ => 1
  | .inr ks => ks.length + 1
variable {knd}
theorem not_ref {k : K} {b : Addr} (h : knd.is k (.ref b) = true) : False := by
  have := knd.byValue _ _ h
  simp [carriedByValue] at this
theorem NItems.inj {h : Heap} {x y : List (K ⊕ List K)} {vs : List Value} (hx : NItems knd h x vs) (hy : NItems knd h y vs) : x = y := by
  induction hx generalizing y with
  | nil => cases hy; rfl
  | one h1 _ ih =>
    cases hy with
    | one h2 t2 => rw [knd.inj _ _ _ h1 h2, ih t2]
    | tup h2 t2 => exact (not_ref h1).elim
  | tup h1 _ ih =>
    cases hy with
    | one h2 t2 => exact (not_ref h2).elim
    | tup h2 t2 => rw [h1.inj h2, ih t2]
theorem NItems.keeps {h h' : Heap} {ks : List (K ⊕ List K)} {vs : List Value} {d : Addr} {o : Obj} {es ep} (x : NItems knd h ks vs) (ho : h.get? d = some o) (hd : o.data = .dict es ep) (hs : Heap.SameBut d h h') : NItems knd h' ks vs := by
  induction x with
  | nil => exact .nil
  | one h1 _ ih => exact .one h1 ih
  | tup h1 _ ih => exact .tup (h1.keeps ho hd hs) ih
theorem IsN.typeIs {s : Shared} {ks : List (K ⊕ List K)} {a : Addr} (x : IsN knd s.heap ks a) : s.TypeIs (.ref a) "tuple" := let ⟨o, _, _, ho, hc, _⟩ := x; ⟨o, ho, hc⟩
theorem IsN.inj {h : Heap} {a : Addr} {x y : List (K ⊕ List K)} (hx : IsN knd h x a) (hy : IsN knd h y a) : x = y := by
  obtain ⟨o, items, n, ho, _, hd, hi⟩ := hx
  obtain ⟨o', items', n', ho', _, hd', hi'⟩ := hy
  obtain rfl : o = o' := Option.some.inj (ho.symm.trans ho')
  rw [hd] at hd'
  injection hd' with h1 _
  subst h1
  exact hi.inj hi'
theorem IsN.keeps {h h' : Heap} {ks : List (K ⊕ List K)} {a d : Addr} {o : Obj} {es ep} (x : IsN knd h ks a) (ho : h.get? d = some o) (hd : o.data = .dict es ep) (hs : Heap.SameBut d h h') : IsN knd h' ks a := by
  obtain ⟨o', items, n, ho', hc, hd', hi⟩ := x
  have hne : a ≠ d := by
    rintro rfl
    obtain rfl : o' = o := Option.some.inj (ho'.symm.trans ho)
    rw [hd] at hd'; exact nomatch hd'
  exact ⟨o', items, n, (hs.2 a hne).trans ho', hc, hd', hi.keeps ho hd hs⟩
variable {A : Around} {E : Value → Shared → Prop} {s : Shared}
theorem hash_n {ks : List (K ⊕ List K)} {a : Addr} {Q : Int → Shared → Prop} (hu : A.units + 40 < cLine) (hk : IsN knd s.heap ks a) (h : Q (reduceHash (Builtin.Tuple.tupleHashOf (ks.map (hashN knd)))) { s with toks := s.toks + ((ks.map (drawN (K := K))).sum + 1) }) :
    wpAny (model prog w) A (pyHash (.ref a)) Q E s := by
  have hT := hk.typeIs
  obtain ⟨o, items, n, ho, _, hd, hi⟩ := hk
  unfold pyHash
  first | unfold pyHashByItsType | skip
  first | refine wpAny_bind (wpAny_cRoomFor_or (.inr (by omega)) ?_) | skip
  refine wpAny_bind (wpAny_specialOf hT F.slot_tuple_hash.lookup ?_)
  show wpAny _ _ (if (some (Value.builtin "tuple.__hash__") == some Value.none) = true then _ else _) Q E s
  rw [if_neg (by rw [beq_builtin_none]; exact Bool.false_ne_true)]
  refine wpAny_bind (wpAny_specialOf hT F.slot_tuple_hash.lookup ?_)
  show wpAny _ _ (callSpecialIfBoundUnlessNone? (.ref a) "__hash__" _ >>= _) Q E s
  refine wpAny_bind (wpAny_callSpecialIfBoundUnlessNone?_slot hT F.slot_tuple_hash (wpAny_call_entry F.slot_tuple_hash hT F.entry_tuple_hash ?_ (F.args_tuple_hash_1 _)))
  show wpAny _ _ (Builtin.Tuple.tupleItemsOf (.ref a) >>= _) _ _ s
  refine wpAny_bind (wpAny_tupleItemsOf ho hd ?_)
  refine wpAny_bind ?_
  rw [← Array.forIn_toList]
  refine wpAny_forIn_list _
    (fun rest (b : Array Int) s' => ∃ done left, ks = done ++ left ∧ NItems knd s.heap left rest ∧ b.toList = done.map (hashN knd) ∧ s' = { s with toks := s.toks + (done.map (drawN (K := K))).sum })
    _ ?_ ?_ _ _ ⟨[], ks, rfl, hi, rfl, rfl⟩
  · rintro x rest b s' ⟨done, left, rfl, hl, hb, rfl⟩
    cases hl with
    | @one k _ ks' _ h1 hl' =>
      refine wpAny_bind (knd.pyHash h1 ?_)
      first
        | exact wpAny_pure ⟨done ++ [.inl k], ks', by simp, hl', by simp [hb, hashN], by simp [Nat.add_assoc, drawN]⟩
        | exact wpAny_bind (wpAny_pure (wpAny_pure ⟨done ++ [.inl k], ks', by simp, hl', by simp [hb, hashN], by simp [Nat.add_assoc, drawN]⟩))
    | @tup k _ ks' _ h1 hl' =>
      refine wpAny_bind (wpAny_pyHash_tuple (knd := knd) (ks := k) (show A.units + 1 < cLine by omega) h1 ?_)
      first
        | exact wpAny_pure ⟨done ++ [.inr k], ks', by simp, hl', by simp [hb, hashN], by simp [Nat.add_assoc, drawN]⟩
        | exact wpAny_bind (wpAny_pure (wpAny_pure ⟨done ++ [.inr k], ks', by simp, hl', by simp [hb, hashN], by simp [Nat.add_assoc, drawN]⟩))
  · rintro b s' ⟨done, left, rfl, hl, hb, rfl⟩
    cases hl
    rw [List.append_nil] at h
    show wpAny _ _ (retInt (Builtin.Tuple.tupleHashOf b.toList)) _ _ _
    rw [hb]
    refine wpAny_ret_mkInt ?_
    show wpAny _ _ (if (decide (-(2 : Int) ^ 63 ≤ Builtin.Tuple.tupleHashOf (done.map (hashN knd))) && decide (Builtin.Tuple.tupleHashOf (done.map (hashN knd)) < 2 ^ 63)) = true then _ else _) Q E _
    unfold reduceHash at h
    by_cases hr : (decide (-(2 : Int) ^ 63 ≤ Builtin.Tuple.tupleHashOf (done.map (hashN knd))) && decide (Builtin.Tuple.tupleHashOf (done.map (hashN knd)) < 2 ^ 63)) = true
    · rw [if_pos hr]
      rw [if_pos hr] at h
      exact wpAny_pure (by simpa [Nat.add_assoc] using h)
    · rw [if_neg hr]
      rw [if_neg hr] at h
      exact wpAny_bind (wpAny_rule (wpAny_pure (by simpa [Nat.add_assoc] using h)))
theorem eq_n_tree {x y : List (K ⊕ List K)} {a b : Addr} {P : Fin → Shared → Prop} (hu : A.units + 32 < cLine) (hx : IsN knd s.heap x a) (hy : IsN knd s.heap y b) (sh : Compat x y) (h : P (.done (.ret (.bool (decide (x = y))))) s) :
    wpAny (model prog w) A (Builtin.«tuple.__eq__» ⟨[.ref a, .ref b], []⟩) P E s := by
  have hTb := hy.typeIs
  obtain ⟨oa, xs, na, hoa, _, hda, hia⟩ := hx
  obtain ⟨ob, ys, nb, hob, _, hdb, hib⟩ := hy
  show wpAny _ _ (isInstance (.ref b) (.type "tuple") >>= _) _ _ s
  refine wpAny_bind (wpAny_isInstance hTb isSubtype_tuple_tuple ?_)
  simp only [Bool.not_true, Bool.false_eq_true, if_false]
  refine wpAny_bind (wpAny_tupleItemsOf hoa hda ?_)
  refine wpAny_bind (wpAny_tupleItemsOf hob hdb ?_)
  refine wpAny_bind ?_
  refine wpAny_forIn_list _
    (fun rest r s' => r.1 = none ∧ s' = s ∧ ∃ x' y' xs' ys', rest = List.zip xs' ys' ∧ NItems knd s.heap x' xs' ∧ NItems knd s.heap y' ys' ∧ Compat x' y' ∧ decide (x' = y') = decide (x = y) ∧ (xs'.length == ys'.length) = (xs.size == ys.size))
    _ ?_ ?_ _ _ ⟨rfl, rfl, x, y, xs.toList, ys.toList, rfl, hia, hib, sh, rfl, by simp⟩
  · rintro ⟨u, v⟩ rest r s' ⟨hr, rfl, x', y', xs', ys', hz, hx', hy', sh', hdec, hlen⟩
    have step : ∀ {k1 k2 : K ⊕ List K} {x'' y'' : List (K ⊕ List K)} {xs'' ys'' : List Value}, x' = k1 :: x'' → y' = k2 :: y'' → NItems knd s'.heap x'' xs'' → NItems knd s'.heap y'' ys'' → rest = List.zip xs'' ys'' → ((xs''.length == ys''.length) = (xs.size == ys.size)) →
        (k1 = k2 ∧ (∃ x' y' xs' ys', rest = List.zip xs' ys' ∧ NItems knd s'.heap x' xs' ∧ NItems knd s'.heap y' ys' ∧ Compat x' y' ∧ decide (x' = y') = decide (x = y) ∧ (xs'.length == ys'.length) = (xs.size == ys.size))) ∨ (k1 ≠ k2 ∧ decide (x = y) = false) := by
      intro k1 k2 x'' y'' xs'' ys'' e1 e2 n1 n2 hz hl
      subst e1 e2
      by_cases hk : k1 = k2
      · subst hk
        refine .inl ⟨rfl, x'', y'', xs'', ys'', hz, n1, n2, (show _ ∧ _ from sh').2, ?_, hl⟩
        rw [← hdec]
        by_cases hxy : x'' = y''
        · simp [hxy]
        · simp [hxy]
      · exact .inr ⟨hk, by rw [← hdec]; simp [hk]⟩
    cases hx' with
    | nil => simp at hz
    | @one k1 u' x'' xs'' h1 hx'' =>
      cases hy' with
      | nil => simp at hz
      | @one k2 v' y'' ys'' h2 hy'' =>
        simp only [List.zip_cons_cons, List.cons.injEq, Prod.mk.injEq] at hz
        obtain ⟨⟨rfl, rfl⟩, hz⟩ := hz
        refine wpAny_bind (knd.eqBool (a := k1) (b := k2) h1 h2 ?_)
        rcases step rfl rfl hx'' hy'' hz (by simpa using hlen) with ⟨hk, st⟩ | ⟨hk, hf⟩
        · rw [decide_eq_true (Sum.inl.inj hk)]
          simp only [Bool.not_true, Bool.false_eq_true, if_false]
          exact wpAny_pure ⟨rfl, rfl, st⟩
        · rw [decide_eq_false (fun z => hk (by rw [z]))]
          simp only [Bool.not_false, if_true]
          rw [hf] at h
          exact wpAny_bind (wpAny_pure (wpAny_pure (wpAny_pure h)))
      | tup h2 hy'' => simp [Compat] at sh'
    | @tup k1 u' x'' xs'' h1 hx'' =>
      cases hy' with
      | nil => simp at hz
      | one h2 hy'' => simp [Compat] at sh'
      | @tup k2 v' y'' ys'' h2 hy'' =>
        simp only [List.zip_cons_cons, List.cons.injEq, Prod.mk.injEq] at hz
        obtain ⟨⟨rfl, rfl⟩, hz⟩ := hz
        refine wpAny_bind (wpAny_eqBool_tuple (knd := knd) (by omega) h1 h2 ?_)
        rcases step rfl rfl hx'' hy'' hz (by simpa using hlen) with ⟨hk, st⟩ | ⟨hk, hf⟩
        · rw [decide_eq_true (Sum.inr.inj hk)]
          simp only [Bool.not_true, Bool.false_eq_true, if_false]
          exact wpAny_pure ⟨rfl, rfl, st⟩
        · rw [decide_eq_false (fun z => hk (by rw [z]))]
          simp only [Bool.not_false, if_true]
          rw [hf] at h
          exact wpAny_bind (wpAny_pure (wpAny_pure (wpAny_pure h)))
  · rintro ⟨r1, r2⟩ s' ⟨hr, rfl, x', y', xs', ys', hz, hx', hy', sh', hdec, hlen⟩
    simp only at hr
    subst hr
    refine wpAny_pure ?_
    have hfin : (xs.size == ys.size) = decide (x = y) := by
      rw [← hdec, ← hlen]
      cases hx' with
      | nil =>
        cases hy' with
        | nil => simp
        | one _ _ => simp
        | tup _ _ => simp
      | one _ _ =>
        cases hy' with
        | nil => simp
        | one _ _ => simp at hz
        | tup _ _ => simp at hz
      | tup _ _ =>
        cases hy' with
        | nil => simp
        | one _ _ => simp at hz
        | tup _ _ => simp at hz
    show P (.done (.ret (.bool (xs.size == ys.size)))) s'
    rw [hfin]; exact h
theorem eqBool_n {x y : List (K ⊕ List K)} {a b : Addr} {Q : Bool → Shared → Prop} (hu : A.units + 40 < cLine) (hx : IsN knd s.heap x a) (hy : IsN knd s.heap y b) (sh : Compat x y) (h : Q (decide (x = y)) s) :
    wpAny (model prog w) A (eqBool (.ref a) (.ref b)) Q E s := by
  unfold eqBool
  try with_reducible refine wpAny_holding ?_
  show wpAny _ _ (if (Value.ref a == Value.ref b) = true then _ else _) Q E s
  by_cases hab : (Value.ref a == Value.ref b) = true
  · rw [if_pos hab]
    have e : a = b := by have := eq_of_beq hab; injection this
    subst e
    obtain rfl := hx.inj hy
    exact wpAny_bind (wpAny_rule (wpAny_pure (by simpa using h)))
  · rw [if_neg hab]
    exact wpAny_bind (wpAny_richCompare_same_room (op := .Eq) hx.typeIs hy.typeIs F.slot_tuple_eq
      (wpAny_call_entry F.slot_tuple_eq hx.typeIs F.entry_tuple_eq (eq_n_tree (show A.units + 1 + 32 < cLine by omega) hx hy sh ⟨_, rfl, (fun e => nomatch e), wpAny_truthy_bool h⟩) (F.args_tuple_eq_2 _ _)) (by omega))
theorem quiet_t {n : Nat} {ks : List K} {a : Addr} {Q : Bool → Shared → Prop} (hk : IsTupleKey knd s.heap ks a) (h : Q true s) : wpAny (model prog w) A (eqIsQuiet (n + 1) (.ref a)) Q E s := by
  have hT := hk.typeIs
  obtain ⟨o, items, m, ho, _, hd, hi⟩ := hk
  unfold eqIsQuiet
  refine wpAny_bind (wpAny_specialOf hT F.slot_tuple_eq.lookup ?_)
  show wpAny _ _ (isInstance (.ref a) (.type "tuple") >>= _) _ _ s
  refine wpAny_bind (wpAny_isInstance hT isSubtype_tuple_tuple ?_)
  simp only [Bool.not_true, Bool.false_eq_true, if_false]
  refine wpAny_bind (wpAny_seqItems ho hd ?_)
  refine wpAny_bind ?_
  show wpAny _ _ (forIn items _ _) _ _ s
  rw [← Array.forIn_toList]
  refine wpAny_forIn_list _ (fun rest r s' => r.1 = none ∧ s' = s ∧ ∀ v ∈ rest, carriedByValue v = true) _ ?_ ?_ _ _ ⟨rfl, rfl, hi.byValue⟩
  · rintro v rest r s' ⟨hr, rfl, hall⟩
    rw [eqIsQuiet_byValue _ (hall v List.mem_cons_self)]
    refine wpAny_bind (wpAny_pure ?_)
    simp only [Bool.not_true, Bool.false_eq_true, if_false]
    exact wpAny_pure ⟨rfl, rfl, fun u hu' => hall u (List.mem_cons_of_mem _ hu')⟩
  · rintro ⟨r1, r2⟩ s' ⟨hr, rfl, _⟩
    simp only at hr
    subst hr
    exact wpAny_pure h
theorem quiet_n {n : Nat} {ks : List (K ⊕ List K)} {a : Addr} {Q : Bool → Shared → Prop} (hk : IsN knd s.heap ks a) (h : Q true s) : wpAny (model prog w) A (eqIsQuiet (n + 2) (.ref a)) Q E s := by
  have hT := hk.typeIs
  obtain ⟨o, items, m, ho, _, hd, hi⟩ := hk
  unfold eqIsQuiet
  refine wpAny_bind (wpAny_specialOf hT F.slot_tuple_eq.lookup ?_)
  show wpAny _ _ (isInstance (.ref a) (.type "tuple") >>= _) _ _ s
  refine wpAny_bind (wpAny_isInstance hT isSubtype_tuple_tuple ?_)
  simp only [Bool.not_true, Bool.false_eq_true, if_false]
  refine wpAny_bind (wpAny_seqItems ho hd ?_)
  refine wpAny_bind ?_
  show wpAny _ _ (forIn items _ _) _ _ s
  rw [← Array.forIn_toList]
  refine wpAny_forIn_list _ (fun rest r s' => r.1 = none ∧ s' = s ∧ ∃ ks, NItems knd s.heap ks rest) _ ?_ ?_ _ _ ⟨rfl, rfl, ks, hi⟩
  · rintro v rest r s' ⟨hr, rfl, ks', hall⟩
    cases hall with
    | one h1 t =>
      rw [eqIsQuiet_byValue _ (knd.byValue _ _ h1)]
      refine wpAny_bind (wpAny_pure ?_)
      simp only [Bool.not_true, Bool.false_eq_true, if_false]
      exact wpAny_pure ⟨rfl, rfl, _, t⟩
    | tup h1 t =>
      refine wpAny_bind (quiet_t h1 ?_)
      simp only [Bool.not_true, Bool.false_eq_true, if_false]
      exact wpAny_pure ⟨rfl, rfl, _, t⟩
  · rintro ⟨r1, r2⟩ s' ⟨hr, rfl, _⟩
    simp only at hr
    subst hr
    exact wpAny_pure h
end
def nKind {prog : Program} {w : World} {K : Type} [DecidableEq K] (f : Nat → Bool) (knd : KeyKind prog w K) : HeapKind prog w (List (K ⊕ List K)) where
  is := fun h ks a => IsN knd h ks a ∧ conf f ks
  hash := fun ks => reduceHash (Builtin.Tuple.tupleHashOf (ks.map (hashN knd)))
  draws := fun ks => (ks.map (drawN (K := K))).sum + 1
  room := fun A => A.units + 40 < cLine
  inj := fun hx hy => hx.1.inj hy.1
  keeps := fun x ho hd hs => ⟨x.1.keeps ho hd hs, x.2⟩
  pyHash := fun hu hk h => hash_n hu hk.1 h
  eqBool := fun hu hx hy h => eqBool_n hu hx.1 hy.1 (hx.2.compat hy.2) h
  quiet := fun hk h => quiet_n hk.1 h
abbrev NK := List (Key ⊕ List Key)
inductive HO where
  | lst (xs : List V)
  | tup (xs : List V)
  | dK (kvs : List (Key × V)) | dT (K : PySem.W.Frag) (f : Nat → Bool) (kvs : List (NK × V))
  | set (S : Int → Bool) (n : Nat)
  | ins (C dx : Addr) (fs : List (Str × V))
  | own (x : Addr)
  | xd (fs : List (Str × V))
  | met (f x : Addr)
  | rng (lo hi : Int)
  | frz (o : Obj) (u : HO)
  | tbl (ps : Array Value)
  | tab (l c : Value) (q : Str)
  | ext (φ : Heap → Prop)
abbrev Hp := Addr → Option HO
def upd (H : Hp) (a : Addr) (o : HO) : Hp := fun b => if b = a then some o else H b
theorem upd_same {H : Hp} {a : Addr} {o : HO} : upd H a o a = some o := by unfold upd; rw [if_pos rfl]
theorem upd_ne {H : Hp} {a b : Addr} {o : HO} (h : b ≠ a) : upd H a o b = H b := by unfold upd; rw [if_neg h]
theorem ne_of {H : Hp} {a b : Addr} {o u : HO} (h : H a = some o) (h' : H b = some u) (d : o ≠ u) : a ≠ b := by
  intro e; subst e; rw [h] at h'; exact d (Option.some.inj h')
theorem ne_of_none {H : Hp} {a b : Addr} {o : HO} (h : H a = some o) (h' : H b = none) : a ≠ b := by
  intro e; subst e; rw [h] at h'; cases h'
def TupAt (K : PySem.W.Frag) (H : Hp) (a : Addr) (xs : List V) : Prop :=
  (H a = some (.tup xs) ∨ ∃ o, H a = some (.frz o (.tup xs))) ∨
    ∃ (o : Obj) (its : Array Value) (n : Nat), K.lookup a = some o ∧ o.cls = .type "tuple" ∧ o.data = .seq its n ∧ its.size ≤ sizeLine ∧ Vals xs its.toList
theorem TupAt.mono {K : PySem.W.Frag} {H H' : Hp} {a : Addr} {xs : List V} (h : TupAt K H a xs) (ht : ∀ b xs, H b = some (.tup xs) → H' b = some (.tup xs)) (hz : ∀ b o u, H b = some (.frz o u) → H' b = some (.frz o u)) : TupAt K H' a xs := by
  rcases h with (h | ⟨o, h⟩) | h
  · exact .inl (.inl (ht _ _ h))
  · exact .inl (.inr ⟨o, hz _ _ _ h⟩)
  · exact .inr h
inductive NV (K : PySem.W.Frag) (H : Hp) : NK → List V → Prop
  | nil : NV K H [] []
  | one {k : Key} {ks : NK} {vs : List V} : NV K H ks vs → NV K H (.inl k :: ks) (kV k :: vs)
  | tup {k : List Key} {b : Addr} {ks : NK} {vs : List V} : TupAt K H b (k.map kV) → NV K H ks vs → NV K H (.inr k :: ks) (.ref b :: vs)
theorem NV.mono {K : PySem.W.Frag} {H H' : Hp} {ks : NK} {vs : List V} (h : NV K H ks vs) (ht : ∀ b xs, H b = some (.tup xs) → H' b = some (.tup xs)) (hz : ∀ b o u, H b = some (.frz o u) → H' b = some (.frz o u)) : NV K H' ks vs := by
  induction h with
  | nil => exact .nil
  | one _ ih => exact .one ih
  | tup t _ ih => exact .tup (t.mono ht hz) ih
def NKey (K : PySem.W.Frag) (H : Hp) (ks : NK) (b : Addr) : Prop := ∃ xs, TupAt K H b xs ∧ NV K H ks xs
theorem NKey.mono {K : PySem.W.Frag} {H H' : Hp} {ks : NK} {b : Addr} (h : NKey K H ks b) (ht : ∀ b xs, H b = some (.tup xs) → H' b = some (.tup xs)) (hz : ∀ b o u, H b = some (.frz o u) → H' b = some (.frz o u)) : NKey K H' ks b := by
  obtain ⟨xs, h1, h2⟩ := h
  exact ⟨xs, h1.mono ht hz, h2.mono ht hz⟩
section
variable (P : Program) (w : World)
def ObjOk (H : Hp) (h : Heap) (a : Addr) : HO → Prop
  | .lst xs => xs.length ≤ sizeLine ∧ ∃ (its : List Value) (n : Nat), Vals xs its ∧ h.get? a = some { cls := .type "list", data := .seq its.toArray n }
  | .tup xs => xs.length ≤ sizeLine ∧ ∃ its : List Value, Vals xs its ∧ IsTup h a its.toArray
  | .dK kvs => kvs.length ≤ sizeLine ∧ (a == sysModules) = false ∧ ∃ vs, KV kvs vs ∧ h.DictOf (mixKind P w) a vs
  | .dT K f kvs => kvs.length ≤ sizeLine ∧ (a == sysModules) = false ∧ ∃ xs : List (NK × Addr × Value),
      Paired (fun (p : NK × V) (q : NK × Addr × Value) => p.1 = q.1 ∧ conf f p.1 ∧ NKey K H p.1 q.2.1 ∧ RelV p.2 q.2.2) kvs xs ∧
      ∃ o es ep, h.get? a = some o ∧ o.ExactDict ∧ o.data = .dict es ep ∧ es.toList = xs.map (entryOfKey (nKind f (mixKind P w))) ∧ (xs.map (·.1)).Nodup
  | .set S n => h.SetOf (intKind P w) a S n
  | .ins C dx fs => H dx = some (.own a) ∧ fs.length ≤ 1000 ∧ dx ≠ a ∧ h.get? a = some (PySem.W.instObj C dx) ∧
      ∃ mA, h.Ns1 dx mA ∧ (∀ f, RelO (fs.lookup f) (mA f)) ∧ PySem.Within mA (fs.map (·.1))
  | .own _ => ∃ o, h.get? a = some o
  | .xd fs => ∃ mA, h.Ns1 a mA ∧ ∀ f, RelO (fs.lookup f) (mA f)
  | .rng lo hi => ∃ t u v, h.get? a = some { cls := .type "range", data := .fields #[.int lo t, .int hi u, .int 1 v] }
  | .frz o u => h.get? a = some o ∧ ObjOk H h a u
  | .tbl ps => h.get? a = some { cls := .none, data := .fields ps }
  | .tab l c q => ∃ ps : Array Value, h.get? a = some { cls := .none, data := .fields ps } ∧ (ps = #[] ∨ ∃ (d : Addr) (oc : Obj) (u : HO) (vs : Array Value) (t : Tok), ps = #[l, c, .ref d] ∧ H d = some (.frz oc u) ∧ oc.data = .fields vs ∧ vs[1]? = some (.str q t))
  | .met f x => h.get? a = some (PySem.W.methodObj (.ref f) (.ref x))
  | .ext φ => φ h ∧ (∃ o, h.get? a = some o) ∧ ∀ h1 h2 : Heap, φ h1 → (∀ o, h1.get? a = some o → h2.get? a = some o) → φ h2
def HOk (H : Hp) (h : Heap) : Prop := ∀ a o, H a = some o → ObjOk P w H h a o
end
section
variable {P : Program} {w : World} {H H' : Hp} {h h' : Heap} {a : Addr} {o : HO}
theorem ObjOk.lt (x : ObjOk P w H h a o) : a < h.objs.size := by
  cases o with
  | lst xs => obtain ⟨_, _, _, _, e⟩ := x; exact Heap.lt_size e
  | tup xs => obtain ⟨_, _, _, p⟩ := x; exact p.lt
  | dK kvs => obtain ⟨_, _, _, _, o, _, _, e, _⟩ := x; exact Heap.lt_size e
  | dT K f kvs => obtain ⟨_, _, _, _, o, _, _, e, _⟩ := x; exact Heap.lt_size e
  | set S n => obtain ⟨o, _, _, _, e, _⟩ := x; exact Heap.lt_size e
  | ins C dx fs => obtain ⟨_, _, _, e, _⟩ := x; exact Heap.lt_size e
  | own y => obtain ⟨_, e⟩ := x; exact Heap.lt_size e
  | xd fs => obtain ⟨_, ⟨_, _, _, e, _⟩, _⟩ := x; exact Heap.lt_size e
  | rng lo hi => obtain ⟨_, _, _, e⟩ := x; exact Heap.lt_size e
  | frz ob u => obtain ⟨e, _⟩ := x; exact Heap.lt_size e
  | tbl ps => exact Heap.lt_size (show h.get? a = some _ from x)
  | tab l c q => obtain ⟨_, e, _⟩ := x; exact Heap.lt_size e
  | met f y => exact Heap.lt_size (show h.get? a = some _ from x)
  | ext φ => obtain ⟨_, ⟨_, e⟩, _⟩ := x; exact Heap.lt_size e
theorem Paired.mapP {α β : Type} {F G : α → β → Prop} : ∀ {l₁ : List α} {l₂ : List β}, Paired F l₁ l₂ → (∀ a b, F a b → G a b) → Paired G l₁ l₂
  | _, _, .nil, _ => .nil
  | _, _, .cons r t, f => .cons (f _ _ r) (Paired.mapP t f)
theorem ObjOk.stay (x : ObjOk P w H h a o) (k : ∀ b u, (b = a ∨ H b = some (.own a)) → h.get? b = some u → h'.get? b = some u)
    (ho : ∀ b, H b = some (.own a) → H' b = some (.own a)) (ht : ∀ b xs, H b = some (.tup xs) → H' b = some (.tup xs)) (hz : ∀ b o u, H b = some (.frz o u) → H' b = some (.frz o u)) : ObjOk P w H' h' a o := by
  induction o with
  | lst xs => obtain ⟨z, its, n, r, e⟩ := x; exact ⟨z, its, n, r, k _ _ (.inl rfl) e⟩
  | tup xs => obtain ⟨z, its, r, ob, e, c⟩ := x; exact ⟨z, its, r, ob, k _ _ (.inl rfl) e, c⟩
  | dK kvs => obtain ⟨z, y, vs, r, ob, es, ep, e, c⟩ := x; exact ⟨z, y, vs, r, ob, es, ep, k _ _ (.inl rfl) e, c⟩
  | dT K f kvs =>
    obtain ⟨z, y, xs, r, ob, es, ep, e, c⟩ := x
    exact ⟨z, y, xs, Paired.mapP r fun p q z => ⟨z.1, z.2.1, z.2.2.1.mono ht hz, z.2.2.2⟩, ob, es, ep, k _ _ (.inl rfl) e, c⟩
  | set S n => obtain ⟨ob, es, ep, t, e, c⟩ := x; exact ⟨ob, es, ep, t, k _ _ (.inl rfl) e, c⟩
  | ins C dx fs =>
    obtain ⟨d, z, ne, e, mA, ⟨od, es, ep, e2, c⟩, r⟩ := x
    exact ⟨ho _ d, z, ne, k _ _ (.inl rfl) e, mA, ⟨od, es, ep, k _ _ (.inr d) e2, c⟩, r⟩
  | own y => obtain ⟨ob, e⟩ := x; exact ⟨ob, k _ _ (.inl rfl) e⟩
  | xd fs => obtain ⟨mA, ⟨od, es, ep, e, c⟩, r⟩ := x; exact ⟨mA, ⟨od, es, ep, k _ _ (.inl rfl) e, c⟩, r⟩
  | rng lo hi => obtain ⟨t, u, v, e⟩ := x; exact ⟨t, u, v, k _ _ (.inl rfl) e⟩
  | frz ob u ih => obtain ⟨e, q⟩ := x; exact ⟨k _ _ (.inl rfl) e, ih q⟩
  | tbl ps =>
    have e : h.get? a = some { cls := .none, data := .fields ps } := x
    show h'.get? a = some { cls := .none, data := .fields ps }
    exact k a _ (.inl rfl) e
  | tab l c q =>
    obtain ⟨ps, e, z⟩ := x
    refine ⟨ps, k _ _ (.inl rfl) e, ?_⟩
    rcases z with z | ⟨d, oc, u, vs, t, z1, z2, z3⟩
    · exact .inl z
    · exact .inr ⟨d, oc, u, vs, t, z1, hz _ _ _ z2, z3⟩
  | met f y =>
    have e : h.get? a = some (PySem.W.methodObj (.ref f) (.ref y)) := x
    show h'.get? a = some (PySem.W.methodObj (.ref f) (.ref y))
    exact k a _ (.inl rfl) e
  | ext φ => obtain ⟨p, ⟨o, e⟩, st⟩ := x; exact ⟨st _ _ p fun o q => k _ _ (.inl rfl) q, ⟨o, k _ _ (.inl rfl) e⟩, st⟩
theorem HOk.lt (x : HOk P w H h) (e : H a = some o) : a < h.objs.size := (x a o e).lt
theorem HOk.fresh (x : HOk P w H h) (e : h.objs.size ≤ a) : H a = none := by
  cases q : H a with
  | none => rfl
  | some u => exact absurd (Nat.lt_of_lt_of_le (x.lt q) e) (Nat.lt_irrefl _)
theorem HOk.kept (x : HOk P w H h) (k : ∀ b u, h.get? b = some u → h'.get? b = some u) : HOk P w H h' := fun a o e =>
  (x a o e).stay (fun b u _ q => k b u q) (fun _ q => q) (fun _ _ q => q) fun _ _ _ q => q
theorem HOk.laid (x : HOk P w H h) (k : ∀ b u, h.get? b = some u → h'.get? b = some u) (hp : h.objs.size ≤ a) (new : ObjOk P w (upd H a o) h' a o) : HOk P w (upd H a o) h' := fun b u e => by
  have hn := x.fresh hp
  by_cases hb : b = a
  · subst hb; rw [upd_same] at e; cases e; exact new
  · rw [upd_ne hb] at e
    exact (x b u e).stay (fun c v _ q => k c v q) (fun c q => by rw [upd_ne (ne_of_none q hn)]; exact q) (fun c xs q => by rw [upd_ne (ne_of_none q hn)]; exact q) fun c ob u q => by rw [upd_ne (ne_of_none q hn)]; exact q
end
def Rd (H : Hp) (a : Addr) (u : HO) : Prop := H a = some u ∨ ∃ o, H a = some (.frz o u)
theorem Rd.ok {P : Program} {w : World} {H : Hp} {h : Heap} {a : Addr} {u : HO} (r : Rd H a u) (x : HOk P w H h) : ObjOk P w H h a u := by
  rcases r with r | ⟨o, r⟩
  · exact x a u r
  · obtain ⟨_, q⟩ := x a _ r
    exact q
def Mut : Option HO → Prop
  | some (.lst _) => True
  | some (.dK _) => True
  | some (.dT _ _ _) => True
  | some (.set _ _) => True
  | some (.ins _ _ _) => True
  | some (.tab _ _ _) => True
  | some (.ext _) => True
  | _ => False
section
variable {P : Program} {w : World} {H : Hp} {h h' : Heap} {x e : Addr} {o' : HO}
theorem HOk.write (ok : HOk P w H h) (mu : Mut (H x)) (he : e = x ∨ H e = some (.own x)) (k : ∀ b u, b ≠ e → h.get? b = some u → h'.get? b = some u) (heo : ∃ u, h'.get? e = some u)
    (new : ObjOk P w (upd H x o') h' x o') : HOk P w (upd H x o') h' := fun b u q => by
  have nown : ∀ c y, H c = some (.own y) → c ≠ x := fun c y r z => by subst z; rw [r] at mu; exact mu
  have ntup : ∀ c xs, H c = some (.tup xs) → c ≠ x := fun c xs r z => by subst z; rw [r] at mu; exact mu
  by_cases hb : b = x
  · subst hb; rw [upd_same] at q; cases q; exact new
  · rw [upd_ne hb] at q
    by_cases hbe : b = e
    · have q' : H b = some (.own x) := by
        rcases he with z | z
        · exact absurd (hbe.trans z) hb
        · rw [hbe]; exact z
      rw [q] at q'; cases q'
      obtain ⟨v, hv⟩ := heo
      exact ⟨v, by rw [hbe]; exact hv⟩
    · refine (ok b u q).stay (fun c v hc r => k c v ?_ r) (fun c r => by rw [upd_ne (nown c b r)]; exact r) (fun c xs r => by rw [upd_ne (ntup c xs r)]; exact r) fun c ob u r => by rw [upd_ne (fun z => by subst z; rw [r] at mu; exact mu)]; exact r
      rcases hc with rfl | hc
      · exact hbe
      · rintro rfl
        rcases he with z | z
        · exact nown c b hc z
        · rw [hc] at z; cases z; exact hb rfl
end
structure Un (fs ex : List Addr) (H H' : Hp) (h h' : Heap) : Prop where
  keep : ∀ b o, h.get? b = some o → H b = none → b ∉ fs → b ∉ ex → h'.get? b = some o
  slot : ∀ b o, h.get? b = some o → H b = none → b ∈ fs → b ∉ ex → ∃ sl, h'.get? b = some { o with slots := sl }
  free : ∀ b o, h.get? b = some o → H b = none → b ∉ ex → H' b = none
  there : ∀ b o, h.get? b = some o → b ∉ ex → ∃ o', h'.get? b = some o'
  tups : ∀ b xs, H b = some (.tup xs) → H' b = some (.tup xs)
  frzs : ∀ b o u, H b = some (.frz o u) → H' b = some (.frz o u)
  tbls : ∀ b ps, H b = some (.tbl ps) → ∃ more, H' b = some (.tbl (ps ++ more))
section
variable {fs fs' ex ex' : List Addr} {H H1 H2 : Hp} {h h1 h2 h' : Heap} {a x e : Addr} {o : HO}
theorem Un.any (u : Un fs ex H H1 h h1) {b : Addr} {ob : Obj} (q : h.get? b = some ob) (n : H b = none) (hx : b ∉ ex) : ∃ sl, h1.get? b = some { ob with slots := sl } := by
  by_cases hb : b ∈ fs
  · exact u.slot b ob q n hb hx
  · exact ⟨ob.slots, u.keep b ob q n hb hx⟩
theorem Un.kept (k : ∀ b u, h.get? b = some u → h'.get? b = some u) : Un fs ex H H h h' :=
  ⟨fun b ob q _ _ _ => k b ob q, fun b ob q _ _ _ => ⟨ob.slots, k b ob q⟩, fun _ _ _ n _ => n, fun b ob q _ => ⟨ob, k b ob q⟩, fun _ _ q => q, fun _ _ _ q => q, fun _ ps q => ⟨#[], by rw [q]; simp⟩⟩
theorem Un.refl : Un fs ex H H h h := Un.kept fun _ _ q => q
theorem Un.laid (k : ∀ b u, h.get? b = some u → h'.get? b = some u) (hp : h.objs.size ≤ a) (hn : H a = none) : Un fs ex H (upd H a o) h h' where
  keep := fun b u q _ _ _ => k b u q
  slot := fun b u q _ _ _ => ⟨u.slots, k b u q⟩
  free := fun b u q n _ => by rw [upd_ne (Nat.ne_of_lt (Nat.lt_of_lt_of_le (Heap.lt_size q) hp))]; exact n
  there := fun b u q _ => ⟨u, k b u q⟩
  tups := fun b xs q => by rw [upd_ne (ne_of_none q hn)]; exact q
  frzs := fun b u xs q => by rw [upd_ne (ne_of_none q hn)]; exact q
  tbls := fun b ps q => ⟨#[], by rw [upd_ne (ne_of_none q hn), q]; simp⟩
theorem Un.write (mu : Mut (H x)) (he : e = x ∨ H e = some (.own x)) (k : ∀ b u, b ≠ e → h.get? b = some u → h'.get? b = some u) (heo : ∃ u, h'.get? e = some u) : Un fs ex H (upd H x o) h h' := by
  have hx : ∀ b, H b = none → b ≠ x := fun b n z => by subst z; rw [n] at mu; exact mu
  have hb : ∀ b, H b = none → b ≠ e := fun b n z => by
    subst z
    rcases he with r | r
    · exact hx b n r
    · rw [n] at r; cases r
  have hm : ∀ b u, H b = some u → ¬ Mut (some u) → b ≠ x := fun b u q nm z => by subst z; rw [q] at mu; exact nm mu
  refine ⟨fun b u q n _ _ => k b u (hb b n) q, fun b u q n _ _ => ⟨u.slots, k b u (hb b n) q⟩, fun b u q n _ => by rw [upd_ne (hx b n)]; exact n, fun b u q _ => ?_,
    fun b xs q => by rw [upd_ne (hm b _ q fun z => z)]; exact q, fun b u xs q => by rw [upd_ne (hm b _ q fun z => z)]; exact q, fun b ps q => ⟨#[], by rw [upd_ne (hm b _ q fun z => z), q]; simp⟩⟩
  by_cases hbe : b = e
  · subst hbe; exact heo
  · exact ⟨u, k b u hbe q⟩
end
def trk (h : Heap) (H : Hp) : List Addr := (List.range h.objs.size).filter fun a => (H a).isSome
def hidT (h : Heap) (H : Hp) : Heap := PySem.W.hideAll h (trk h H)
theorem hidT_size (h : Heap) (H : Hp) : (hidT h H).objs.size = h.objs.size := PySem.W.hideAll_size _ _
theorem hidT_get {h : Heap} {H : Hp} {b : Addr} {o : Obj} (e : h.get? b = some o) (n : H b = none) : (hidT h H).get? b = some o :=
  PySem.W.hideAll_get _ e fun hm => by
    have q : (H b).isSome = true := (List.mem_filter.mp hm).2
    rw [n] at q; simp at q
theorem of_hidT {h : Heap} {H : Hp} {b : Addr} {o : Obj} (e : (hidT h H).get? b = some o) : h.get? b = some o ∧ H b = none := by
  have e' : h.get? b = some o := PySem.W.of_hideAll (trk h H) e
  refine ⟨e', ?_⟩
  cases q : H b with
  | none => rfl
  | some x =>
    have hm : b ∈ trk h H := List.mem_filter.mpr ⟨List.mem_range.mpr (Heap.lt_size e'), by simp [q]⟩
    have z : (hidT h H).get? b = none := PySem.W.hideAll_none (trk h H) hm
    rw [z] at e; cases e
end L2
namespace L2
open PySem PySem.Spec PyProof.Rows
structure Mod (K : PySem.W.Frag) (mg : Str → Option Value) (base : Heap) : Prop where
  kin : K.In base
  glob : base.Ns mainGlobals mg
  blt : ∃ mb, base.Ns builtinsNs mb ∧ ∀ x : Str, x ≠ "__name__" → mb x = bootBuiltins x
  nolimit : base.NoLimit
structure Cx where
  prog : Program
  w : World
  K : PySem.W.Frag
  mg : Str → Option Value
  base : Heap
  A : Around
  N : List Str
  s₀ : Shared
  H₀ : Hp
  env : Env
  outer : List Env
  stack : List Env
  ex : List Addr
  fn : Str → Bool
  calm : Bool
  pn : List (Addr × Obj)
  xe : Value → Shared → Prop
def frs (l : List Env) : List Addr := l.filterMap (·.frame)
abbrev Cx.fs (X : Cx) : List Addr := frs X.outer
def Vis (sc : Scope) (x : Str) : Prop := sc.names.lookup x = some .local ∨ sc.names.lookup x = some .cell ∨ sc.names.lookup x = some .free
def Loc (sc : Scope) (x : Str) : Prop := sc.names.lookup x = some .local ∨ sc.names.lookup x = some .cell
def Look (env : Env) (h : Heap) (m : Str → Option Value) (x : Str) (u : Value) : Prop :=
  (env.kindOf x = some .local ∧ m x = some u) ∨ ((env.kindOf x = some .cell ∨ env.kindOf x = some .free) ∧ ∃ c, env.cells.lookup x = some c ∧ h.IsCell c (some u))
structure Cx.Ok (X : Cx) : Prop where
  mod : Mod X.K X.mg X.base
  kind : X.env.scope.kind = .function
  glob : X.env.globals = mainGlobals
  blt : X.env.builtins = builtinsNs
  above : X.s₀.heap.objs.size ≤ X.env.locals
  inj : ∀ x y c, X.env.cells.lookup x = some c → X.env.cells.lookup y = some c → x = y
  has : ∀ x, (X.env.kindOf x = some .cell ∨ X.env.kindOf x = some .free) → ∃ c, X.env.cells.lookup x = some c
  cab : ∀ x c, X.fn x = true → X.env.cells.lookup x = some c → X.s₀.heap.objs.size ≤ c
  hd : X.calm = true → X.A.handled = none
  frames : X.A.frames = some X.stack
  stk : X.stack = X.outer ∨ (X.stack = X.env :: X.outer ∧ X.env.frame = some X.env.locals)
  exf : ∀ b ∈ X.ex, b ≠ X.env.locals ∧ ∀ x c, X.env.cells.lookup x = some c → c ≠ b
  bs : ∀ b o, X.base.get? b = some o → X.s₀.heap.get? b = some o ∧ X.H₀ b = none
  bsz : X.base.objs.size ≤ X.s₀.heap.objs.size
  noex : ∀ b o, X.base.get? b = some o → b ∉ X.ex
  exfs : ∀ b ∈ X.ex, b ∉ X.fs
  funs : X.s₀.heap.FunFrames X.base X.outer
  frf : ∀ b ∈ X.fs, X.H₀ b = none
structure Inv (X : Cx) (pins : List (Addr × Obj)) (σ : List (Option V)) (H : Hp) (s : Shared) : Prop where
  ok : X.Ok
  os : s.os = X.s₀.os
  bare : AllBare s.gens
  base : Un X.fs X.ex X.H₀ H X.s₀.heap s.heap
  loc : ∃ m, s.heap.Ns X.env.locals m ∧ ∀ (i : Nat) (x : Str) (v : V), X.N[i]? = some x → σ[i]? = some (some v) → Vis X.env.scope x → ∃ u, RelV v u ∧ Look X.env s.heap m x u
  cell : ∀ x c, X.env.cells.lookup x = some c → ∃ v, s.heap.IsCell c v
  free : H X.env.locals = none
  freeC : ∀ x c, X.env.cells.lookup x = some c → H c = none
  pin : ∀ p ∈ X.pn ++ pins, s.heap.get? p.1 = some p.2 ∧ H p.1 = none ∧ p.1 ≠ X.env.locals ∧ p.1 ∉ X.fs ∧ ∀ v, p.2.data ≠ .cell v
  hok : HOk X.prog X.w H s.heap
  len : σ.length = X.N.length
section
variable {X : Cx} {pins : List (Addr × Obj)} {σ : List (Option V)} {H H' : Hp} {s : Shared} {h' : Heap}
theorem Cx.Ok.nofr (ok : X.Ok) {b : Addr} {o : Obj} (e : X.base.get? b = some o) : b ∉ X.fs := fun hb => by
  have := (ok.funs.mem hb).1
  rw [e] at this; cases this
theorem Inv.bs (I : Inv X pins σ H s) : ∀ b o, X.base.get? b = some o → s.heap.get? b = some o ∧ H b = none := fun b o e =>
  ⟨I.base.keep b o (I.ok.bs b o e).1 (I.ok.bs b o e).2 (I.ok.nofr e) (I.ok.noex b o e), I.base.free b o (I.ok.bs b o e).1 (I.ok.bs b o e).2 (I.ok.noex b o e)⟩
theorem Inv.bk (I : Inv X pins σ H s) : ∀ b o, X.base.get? b = some o → s.heap.get? b = some o := fun b o e => (I.bs b o e).1
theorem Inv.mod (I : Inv X pins σ H s) : Mod X.K X.mg X.base := I.ok.mod
theorem Inv.kIn (I : Inv X pins σ H s) : X.K.In s.heap := I.ok.mod.kin.keeps I.bk
theorem Inv.lt (I : Inv X pins σ H s) : X.env.locals < s.heap.objs.size := let ⟨_, hn, _⟩ := I.loc; hn.lt
theorem Inv.sz (I : Inv X pins σ H s) : X.s₀.heap.objs.size ≤ s.heap.objs.size := Nat.le_trans I.ok.above (Nat.le_of_lt I.lt)
theorem Inv.nofs (I : Inv X pins σ H s) {a : Addr} (h : s.heap.objs.size ≤ a) : a ∉ X.fs := fun hb => by
  obtain ⟨_, o, ho, _⟩ := I.ok.funs.mem hb
  exact absurd (Nat.lt_of_lt_of_le (Heap.lt_size ho) (Nat.le_trans I.sz h)) (Nat.lt_irrefl _)
theorem Inv.cne (I : Inv X pins σ H s) : ∀ x c, X.env.cells.lookup x = some c → c ≠ X.env.locals := fun x c e z => by
  obtain ⟨v, o, ho, hd⟩ := I.cell x c e
  obtain ⟨m, ⟨o', es, ep, ho', hd', _⟩, _⟩ := I.loc
  rw [z, ho'] at ho; cases ho; rw [hd'] at hd; cases hd
theorem Inv.funs (I : Inv X pins σ H s) : s.heap.FunFrames X.base X.outer := by
  have all : ∀ (l : List Env), (∀ b ∈ frs l, b ∈ X.fs) → X.s₀.heap.FunFrames X.base l → s.heap.FunFrames X.base l := by
    intro l
    induction l with
    | nil => intro _ _; trivial
    | cons env r ih =>
      intro hs hl
      obtain ⟨hk, ⟨L, o, hf, hn, ho, hd⟩, hr⟩ := hl
      have hL : L ∈ X.fs := hs L (by unfold frs; rw [List.filterMap_cons, hf]; exact List.mem_cons_self)
      obtain ⟨sl, e⟩ := I.base.slot L o ho (I.ok.frf L hL) hL fun z => I.ok.exfs L z hL
      exact ⟨hk, ⟨L, _, hf, hn, e, hd⟩, ih (fun b hb => hs b (by unfold frs; rw [List.filterMap_cons, hf]; exact List.mem_cons_of_mem _ hb)) hr⟩
  exact all X.outer (fun _ hb => hb) I.ok.funs
theorem Inv.stack (I : Inv X pins σ H s) : s.heap.FunFrames X.base X.stack := by
  rcases I.ok.stk with e | ⟨e, hf⟩
  · rw [e]; exact I.funs
  · rw [e]
    obtain ⟨m, hn, _⟩ := I.loc
    refine .cons (by rw [I.ok.kind]; decide) hf hn ?_ I.funs
    exact Heap.get?_none_of_le (Nat.le_trans I.ok.bsz I.ok.above)
theorem Inv.stkSub (I : Inv X pins σ H s) : ∀ b ∈ frs X.stack, b ∈ X.env.locals :: X.fs := fun b hb => by
  rcases I.ok.stk with e | ⟨e, hf⟩
  · rw [e] at hb; exact List.mem_cons_of_mem _ hb
  · rw [e] at hb
    unfold frs at hb
    rw [List.filterMap_cons, hf] at hb
    exact hb
theorem Inv.stkFree (I : Inv X pins σ H s) : ∀ b ∈ frs X.stack, H b = none := fun b hb => by
  rcases List.mem_cons.mp (I.stkSub b hb) with e | hb
  · rw [e]; exact I.free
  · obtain ⟨_, o, ho, _⟩ := I.ok.funs.mem hb
    exact I.base.free b o ho (I.ok.frf b hb) fun z => I.ok.exfs b z hb
theorem Inv.step {g' : Array GenState} {t' : Nat} {d' : Drawn} {ch : List Addr} (I : Inv X pins σ H s)
    (hch : ∀ b ∈ ch, (b ∈ X.ex ∨ X.s₀.heap.objs.size ≤ b) ∧ b ≠ X.env.locals ∧ (∀ x c, X.env.cells.lookup x = some c → c ≠ b) ∧ ∀ p ∈ X.pn ++ pins, p.1 ≠ b)
    (keep : ∀ b o, b ≠ X.env.locals → b ∉ X.fs → b ∉ ch → s.heap.get? b = some o → H b = none → h'.get? b = some o)
    (slot : ∀ b o, b ≠ X.env.locals → b ∈ X.fs → b ∉ ch → s.heap.get? b = some o → H b = none → ∃ sl, h'.get? b = some { o with slots := sl }) (free : ∀ b o, b ∉ ch → s.heap.get? b = some o → H b = none → H' b = none)
    (there : ∀ b o, b ∉ ch → s.heap.get? b = some o → ∃ o', h'.get? b = some o')
    (tups : ∀ b xs, H b = some (.tup xs) → H' b = some (.tup xs)) (frzs : ∀ b o u, H b = some (.frz o u) → H' b = some (.frz o u)) (tbls : ∀ b ps, H b = some (.tbl ps) → ∃ more, H' b = some (.tbl (ps ++ more)))
    (ns : ∀ m, s.heap.Ns X.env.locals m → h'.Ns X.env.locals m) (hok : HOk X.prog X.w H' h') (hg : AllBare g') :
    Inv X pins σ H' { s with heap := h', gens := g', drawn := d', toks := t' } := by
  have neL : ∀ b o, X.s₀.heap.get? b = some o → b ≠ X.env.locals := fun b o e => Nat.ne_of_lt (Nat.lt_of_lt_of_le (Heap.lt_size e) I.ok.above)
  have neC : ∀ b o, X.s₀.heap.get? b = some o → b ∉ X.ex → b ∉ ch := fun b o e hx hb => by
    rcases (hch b hb).1 with z | z
    · exact hx z
    · exact absurd (Nat.lt_of_lt_of_le (Heap.lt_size e) z) (Nat.lt_irrefl _)
  have cellK : ∀ x c, X.env.cells.lookup x = some c → ∀ v, s.heap.IsCell c v → h'.IsCell c v := fun x c e v ⟨o, ho, hd⟩ => by
    have nch : c ∉ ch := fun z => (hch c z).2.2.1 x c e rfl
    by_cases hc : c ∈ X.fs
    · obtain ⟨sl, q⟩ := slot c o (I.cne x c e) hc nch ho (I.freeC x c e)
      exact ⟨_, q, hd⟩
    · exact ⟨o, keep c o (I.cne x c e) hc nch ho (I.freeC x c e), hd⟩
  refine ⟨I.ok, I.os, hg, ⟨fun b o e n hb hx => ?_, fun b o e n hb hx => ?_, fun b o e n hx => ?_, fun b o e hx => ?_, fun b xs e => tups b xs (I.base.tups b xs e), fun b o xs e => frzs b o xs (I.base.frzs b o xs e), fun b ps e => ?_⟩, ?_, fun x c e => ?_, ?_, fun x c e => ?_, fun p hp => ?_, hok, I.len⟩
  · exact keep b o (neL b o e) hb (neC b o e hx) (I.base.keep b o e n hb hx) (I.base.free b o e n hx)
  · obtain ⟨sl, e1⟩ := I.base.slot b o e n hb hx
    obtain ⟨sl', e2⟩ := slot b _ (neL b o e) hb (neC b o e hx) e1 (I.base.free b o e n hx)
    exact ⟨sl', e2⟩
  · obtain ⟨o', e1⟩ := I.base.there b o e hx
    exact free b o' (neC b o e hx) e1 (I.base.free b o e n hx)
  · obtain ⟨o', e1⟩ := I.base.there b o e hx
    exact there b o' (neC b o e hx) e1
  · obtain ⟨m1, e1⟩ := I.base.tbls b ps e
    obtain ⟨m2, e2⟩ := tbls b _ e1
    exact ⟨m1 ++ m2, by rw [e2, Array.append_assoc]⟩
  · obtain ⟨m, hn, hl⟩ := I.loc
    refine ⟨m, ns m hn, fun i x v e1 e2 e3 => ?_⟩
    obtain ⟨u, r, l⟩ := hl i x v e1 e2 e3
    refine ⟨u, r, ?_⟩
    rcases l with l | ⟨k, c, e, z⟩
    · exact .inl l
    · exact .inr ⟨k, c, e, cellK x c e _ z⟩
  · obtain ⟨v, z⟩ := I.cell x c e
    exact ⟨v, cellK x c e v z⟩
  · obtain ⟨m, ⟨o, _, _, ho, _⟩, _⟩ := I.loc
    exact free _ o (fun z => (hch _ z).2.1 rfl) ho I.free
  · obtain ⟨v, o, ho, hd⟩ := I.cell x c e
    exact free c o (fun z => (hch c z).2.2.1 x c e rfl) ho (I.freeC x c e)
  · obtain ⟨e, n, ne, nf, d⟩ := I.pin p hp
    have nch : p.1 ∉ ch := fun z => (hch p.1 z).2.2.2 p hp rfl
    exact ⟨keep p.1 p.2 ne nf nch e n, free p.1 p.2 nch e n, ne, nf, d⟩
theorem Inv.un {t' : Nat} (I : Inv X pins σ H s) (u : Un X.fs [] H H' s.heap h') (hok : HOk X.prog X.w H' h') : Inv X pins σ H' { s with heap := h', toks := t' } := by
  obtain ⟨m, ⟨o, es, ep, ho, r⟩, _⟩ := id I.loc
  obtain ⟨sl, hL⟩ := u.any ho I.free (by simp)
  exact I.step (g' := s.gens) (d' := s.drawn) (ch := []) (fun _ z => nomatch z) (fun b o _ hb _ e n => u.keep b o e n hb (by simp)) (fun b o _ hb _ e n => u.slot b o e n hb (by simp)) (fun b o _ e n => u.free b o e n (by simp)) (fun b o _ e => u.there b o e (by simp)) u.tups u.frzs u.tbls (fun m' hm => by
    obtain ⟨o', es', ep', ho', r'⟩ := hm
    rw [ho] at ho'; cases ho'
    exact ⟨_, es', ep', hL, r'⟩) hok I.bare
theorem Inv.call {g' : Array GenState} {t' : Nat} {d' : Drawn} {ch : List Addr} (I : Inv X pins σ H s) (u : Un (frs X.stack) ch H H' s.heap h') (hok : HOk X.prog X.w H' h') (hg : AllBare g')
    (hch : ∀ b ∈ ch, (b ∈ X.ex ∨ X.s₀.heap.objs.size ≤ b) ∧ b ≠ X.env.locals ∧ (∀ x c, X.env.cells.lookup x = some c → c ≠ b) ∧ ∀ p ∈ X.pn ++ pins, p.1 ≠ b) :
    Inv X pins σ H' { s with heap := h', gens := g', drawn := d', toks := t' } := by
  obtain ⟨m, ⟨o, es, ep, ho, r⟩, _⟩ := id I.loc
  obtain ⟨sl, hL⟩ := u.any ho I.free fun z => (hch _ z).2.1 rfl
  exact I.step (ch := ch) hch (fun b o hL hb hc e n => u.keep b o e n (fun z => (List.mem_cons.mp (I.stkSub b z)).elim hL hb) hc) (fun b o _ _ hc e n => u.any e n hc) (fun b o hc e n => u.free b o e n hc) (fun b o hc e => u.there b o e hc) u.tups u.frzs u.tbls (fun m' hm => by
    obtain ⟨o', es', ep', ho', r'⟩ := hm
    rw [ho] at ho'; cases ho'
    exact ⟨_, es', ep', hL, r'⟩) hok hg
theorem Inv.turned {t' : Nat} {it : Addr} (I : Inv X pins σ H s) (k : ∀ b o, b ≠ it → s.heap.get? b = some o → h'.get? b = some o) (hn : H it = none) (hL : it ≠ X.env.locals)
    (h1 : it ∈ X.ex ∨ X.s₀.heap.objs.size ≤ it) (h2 : ∀ x c, X.env.cells.lookup x = some c → c ≠ it) (h3 : ∀ p ∈ X.pn ++ pins, p.1 ≠ it) : Inv X pins σ H { s with heap := h', toks := t' } := by
  have nit : ∀ b u, H b = some u → b ≠ it := fun b u e z => by rw [z, hn] at e; cases e
  refine I.step (g' := s.gens) (d' := s.drawn) (ch := [it]) (fun b hb => ?_) (fun b o _ _ hc e _ => k b o (fun z => hc (by simp [z])) e) (fun b o _ _ hc e _ => ⟨o.slots, k b o (fun z => hc (by simp [z])) e⟩) (fun _ _ _ _ n => n)
    (fun b o hc e => ⟨o, k b o (fun z => hc (by simp [z])) e⟩) (fun _ _ e => e) (fun _ _ _ e => e) (fun b ps e => ⟨#[], by rw [e]; simp⟩) (fun m hm => ?_) (fun b u e => ?_) I.bare
  · have e : b = it := by simpa using hb
    subst e
    exact ⟨h1, hL, h2, h3⟩
  · obtain ⟨o, es, ep, ho, r⟩ := hm
    exact ⟨o, es, ep, k _ o (Ne.symm hL) ho, r⟩
  · refine (I.hok b u e).stay (fun c v hc q => k c v ?_ q) (fun _ q => q) (fun _ _ q => q) fun _ _ _ q => q
    rcases hc with z | z
    · rw [z]; exact nit b u e
    · exact nit c _ z
theorem Inv.tok (I : Inv X pins σ H s) (t : Nat) : Inv X pins σ H { s with toks := t } := I.un (h' := s.heap) (t' := t) Un.refl I.hok
theorem Inv.kept {t' : Nat} (I : Inv X pins σ H s) (k : ∀ b u, s.heap.get? b = some u → h'.get? b = some u) : Inv X pins σ H { s with heap := h', toks := t' } := I.un (Un.kept k) (I.hok.kept k)
theorem Inv.laid {a : Addr} {o : HO} {t' : Nat} (I : Inv X pins σ H s) (k : ∀ b u, s.heap.get? b = some u → h'.get? b = some u) (hp : s.heap.objs.size ≤ a) (new : ObjOk X.prog X.w (upd H a o) h' a o) :
    Inv X pins σ (upd H a o) { s with heap := h', toks := t' } := I.un (Un.laid k hp (I.hok.fresh hp)) (I.hok.laid k hp new)
theorem Inv.write {x e : Addr} {o : HO} {t' : Nat} (I : Inv X pins σ H s) (mu : Mut (H x)) (he : e = x ∨ H e = some (.own x)) (k : ∀ b u, b ≠ e → s.heap.get? b = some u → h'.get? b = some u) (heo : ∃ u, h'.get? e = some u)
    (new : ObjOk X.prog X.w (upd H x o) h' x o) : Inv X pins σ (upd H x o) { s with heap := h', toks := t' } := I.un (Un.write mu he k heo) (I.hok.write mu he k heo new)
theorem Inv.weak {σ' : List (Option V)} (I : Inv X pins σ H s) (hl : σ'.length = σ.length) (w : ∀ (i : Nat) v, σ'[i]? = some (some v) → σ[i]? = some (some v)) : Inv X pins σ' H s :=
  ⟨I.ok, I.os, I.bare, I.base, let ⟨m, hn, hl'⟩ := I.loc; ⟨m, hn, fun i x v e1 e2 e3 => hl' i x v e1 (w i v e2) e3⟩, I.cell, I.free, I.freeC, I.pin, I.hok, hl.trans I.len⟩
theorem Inv.pins_of {pins' : List (Addr × Obj)} (I : Inv X pins σ H s) (h : ∀ p ∈ pins', s.heap.get? p.1 = some p.2 ∧ H p.1 = none ∧ p.1 ≠ X.env.locals ∧ p.1 ∉ X.fs ∧ ∀ v, p.2.data ≠ .cell v) : Inv X pins' σ H s :=
  ⟨I.ok, I.os, I.bare, I.base, I.loc, I.cell, I.free, I.freeC, fun p hp => (List.mem_append.mp hp).elim (fun z => I.pin p (List.mem_append_left _ z)) (h p), I.hok, I.len⟩
theorem nodup_ix {N : List Str} (hN : N.Nodup) {i j : Nat} {x : Str} (a : N[i]? = some x) (b : N[j]? = some x) : i = j := by
  obtain ⟨h1, e1⟩ := List.getElem?_eq_some_iff.mp a
  obtain ⟨h2, e2⟩ := List.getElem?_eq_some_iff.mp b
  exact (List.getElem_inj hN).mp (e1.trans e2.symm)
theorem store_ok2 {M : Model} {A : Around} {E : Value → Shared → Prop} {i : Nat} {x : Str} {v : V} {u : Value} {Q : Unit → Shared → Prop} (I : Inv X pins σ H s) (hN : X.N.Nodup) (hi : X.N[i]? = some x) (hx : Loc X.env.scope x) (r : RelV v u)
    (h : ∀ s', Inv X pins (σ.set i (some v)) H s' → (∃ a, Heap.SameBut a s.heap s'.heap ∧ (a = X.env.locals ∨ X.env.cells.lookup x = some a)) → Q () s') (hf : X.fn x = true ∨ X.env.scope.names.lookup x = some .local := by first | exact .inl rfl | exact .inr rfl | assumption) : wpAny M A (storeName X.env x u) Q E s := by
  obtain ⟨m, hn, hl⟩ := id I.loc
  have hcls : (X.env.scope.kind == .class || (X.env.scope.kind == .module && X.env.locals != X.env.globals)) = false := by rw [I.ok.kind]; rfl
  have hiσ : i < σ.length := by rw [I.len]; exact (List.getElem?_eq_some_iff.mp hi).1
  have cne := I.cne
  have tracked : ∀ {a : Addr} {h' : Heap}, (∃ o, s.heap.get? a = some o ∧ H a = none) → Heap.SameBut a s.heap h' → HOk X.prog X.w H h' := fun {a h'} ha hs b ob e => by
    obtain ⟨_, _, hfree⟩ := ha
    refine (I.hok b ob e).stay (fun c w' hc q => (hs.2 c ?_).trans q) (fun _ q => q) (fun _ _ q => q) fun _ _ _ q => q
    rintro rfl
    rcases hc with rfl | hc
    · rw [hfree] at e; cases e
    · rw [hfree] at hc; cases hc
  rcases hx with hk | hk
  · refine wpAny_storeName_local hk hn (fun h' hn' hs => ?_) hcls
    obtain ⟨oL, _, _, hoL, _⟩ := id hn
    refine h _ ⟨I.ok, I.os, I.bare, ⟨fun b o e n hb hx => ?_, fun b o e n hb hx => ?_, I.base.free, fun b o e hx => ?_, I.base.tups, I.base.frzs, I.base.tbls⟩, ⟨_, hn', fun j y v' e1 e2 e3 => ?_⟩, fun y c e => ?_, I.free, I.freeC, fun p hp => ?_, tracked ⟨oL, hoL, I.free⟩ hs, by simpa using I.len⟩ ⟨_, hs, .inl rfl⟩
    · exact (hs.2 b (Nat.ne_of_lt (Nat.lt_of_lt_of_le (Heap.lt_size e) I.ok.above))).trans (I.base.keep b o e n hb hx)
    · obtain ⟨sl, e1⟩ := I.base.slot b o e n hb hx
      exact ⟨sl, (hs.2 b (Nat.ne_of_lt (Nat.lt_of_lt_of_le (Heap.lt_size e) I.ok.above))).trans e1⟩
    · obtain ⟨o', e1⟩ := I.base.there b o e hx
      exact ⟨o', (hs.2 b (Nat.ne_of_lt (Nat.lt_of_lt_of_le (Heap.lt_size e) I.ok.above))).trans e1⟩
    · by_cases hj : j = i
      · subst hj
        rw [hi] at e1; cases e1
        rw [List.getElem?_set_self hiσ] at e2
        cases e2
        exact ⟨u, r, .inl ⟨hk, by simp⟩⟩
      · rw [List.getElem?_set_ne (Ne.symm hj)] at e2
        obtain ⟨u', r', q⟩ := hl j y v' e1 e2 e3
        refine ⟨u', r', ?_⟩
        rcases q with ⟨k, e⟩ | ⟨k, c, e, z⟩
        · refine .inl ⟨k, ?_⟩
          have : y ≠ x := fun e => hj (nodup_ix hN e1 (e ▸ hi))
          simp [this, e]
        · exact .inr ⟨k, c, e, z.sameBut hs (cne y c e)⟩
    · obtain ⟨w', z⟩ := I.cell y c e
      exact ⟨w', z.sameBut hs (cne y c e)⟩
    · obtain ⟨e, n, ne, nf, d⟩ := I.pin p hp
      exact ⟨(hs.2 p.1 ne).trans e, n, ne, nf, d⟩
  · have hfn : X.fn x = true := by
      rcases hf with z | z
      · exact z
      · rw [z] at hk; cases hk
    obtain ⟨c, hc⟩ := I.ok.has x (.inl hk)
    obtain ⟨w', z⟩ := I.cell x c hc
    refine wpAny_storeName_cell I.ok.kind hk hc z (fun h' hc' hs => ?_)
    obtain ⟨oc, hoc, hocd⟩ := id z
    refine h { s with heap := h' } ⟨I.ok, I.os, I.bare, ⟨fun b o e n hb hx => ?_, fun b o e n hb hx => ?_, I.base.free, fun b o e hx => ?_, I.base.tups, I.base.frzs, I.base.tbls⟩, ⟨m, hn.sameBut hs (Ne.symm (cne x c hc)), fun j y v' e1 e2 e3 => ?_⟩, fun y c' e => ?_, I.free, I.freeC, fun p hp => ?_, tracked ⟨oc, hoc, I.freeC x c hc⟩ hs, by simpa using I.len⟩ ⟨c, hs, .inr hc⟩
    · exact (hs.2 b (Nat.ne_of_lt (Nat.lt_of_lt_of_le (Heap.lt_size e) (I.ok.cab x c hfn hc)))).trans (I.base.keep b o e n hb hx)
    · obtain ⟨sl, e1⟩ := I.base.slot b o e n hb hx
      exact ⟨sl, (hs.2 b (Nat.ne_of_lt (Nat.lt_of_lt_of_le (Heap.lt_size e) (I.ok.cab x c hfn hc)))).trans e1⟩
    · obtain ⟨o', e1⟩ := I.base.there b o e hx
      exact ⟨o', (hs.2 b (Nat.ne_of_lt (Nat.lt_of_lt_of_le (Heap.lt_size e) (I.ok.cab x c hfn hc)))).trans e1⟩
    · by_cases hj : j = i
      · subst hj
        rw [hi] at e1; cases e1
        rw [List.getElem?_set_self hiσ] at e2
        cases e2
        exact ⟨u, r, .inr ⟨.inl hk, c, hc, hc'⟩⟩
      · rw [List.getElem?_set_ne (Ne.symm hj)] at e2
        obtain ⟨u', r', q⟩ := hl j y v' e1 e2 e3
        refine ⟨u', r', ?_⟩
        rcases q with q | ⟨k, c', e, z'⟩
        · exact .inl q
        · refine .inr ⟨k, c', e, z'.sameBut hs ?_⟩
          rintro rfl
          exact hj (nodup_ix hN e1 (I.ok.inj _ _ _ e hc ▸ hi))
    · by_cases hcc : c' = c
      · subst hcc; exact ⟨_, hc'⟩
      · obtain ⟨w2, z2⟩ := I.cell y c' e
        exact ⟨w2, z2.sameBut hs hcc⟩
    · obtain ⟨e, n, ne, nf, d⟩ := I.pin p hp
      refine ⟨(hs.2 p.1 ?_).trans e, n, ne, nf, d⟩
      intro q
      rw [q, hoc] at e
      have q' : oc = p.2 := Option.some.inj e
      exact d w' (by rw [← q']; exact hocd)
theorem store_ok {M : Model} {A : Around} {E : Value → Shared → Prop} {i : Nat} {x : Str} {v : V} {u : Value} {Q : Unit → Shared → Prop} (I : Inv X pins σ H s) (hN : X.N.Nodup) (hi : X.N[i]? = some x) (hx : Loc X.env.scope x) (r : RelV v u)
    (h : ∀ s', Inv X pins (σ.set i (some v)) H s' → Q () s') (hf : X.fn x = true ∨ X.env.scope.names.lookup x = some .local := by first | exact .inl rfl | exact .inr rfl | assumption) : wpAny M A (storeName X.env x u) Q E s :=
  store_ok2 I hN hi hx r (fun s' I' _ => h s' I') hf
theorem Inv.call' {s' : Shared} {ch : List Addr} (I : Inv X pins σ H s) (ho : s'.os = s.os) (u : Un (frs X.stack) ch H H' s.heap s'.heap) (hok : HOk X.prog X.w H' s'.heap) (hg : AllBare s'.gens)
    (hch : ∀ b ∈ ch, (b ∈ X.ex ∨ X.s₀.heap.objs.size ≤ b) ∧ b ≠ X.env.locals ∧ (∀ x c, X.env.cells.lookup x = some c → c ≠ b) ∧ ∀ p ∈ X.pn ++ pins, p.1 ≠ b) : Inv X pins σ H' s' := by
  obtain ⟨h', g', d', t', o'⟩ := s'
  have e : o' = s.os := ho
  subst e
  exact I.call (g' := g') (t' := t') (d' := d') u hok hg hch
end
abbrev XK := Value → Option Addr → Hp → Prop
abbrev St := List (Option V)
abbrev VK := V → Hp → Prop
abbrev TE := St → Hp → VK → Prop
abbrev TT := St → Hp → (Bool → Hp → Prop) → Prop
abbrev TA := St → Hp → (List V → Hp → Prop) → Prop
structure Ends where
  nx : St → Hp → Prop
  rt : VK
  bk : St → Hp → Prop := fun _ _ => False
  ct : St → Hp → Prop := fun _ _ => False
abbrev TS := Ends → St → Hp → Prop
def EP (X : Cx) (pins : List (Addr × Obj)) (σ : St) (Q : VK) (u : Value) (s' : Shared) : Prop := ∃ v H', Inv X pins σ H' s' ∧ RelV v u ∧ Q v H'
def TP (X : Cx) (pins : List (Addr × Obj)) (σ : St) (Q : Bool → Hp → Prop) (b : Bool) (s' : Shared) : Prop := ∃ H', Inv X pins σ H' s' ∧ Q b H'
def AP (X : Cx) (pins : List (Addr × Obj)) (σ : St) (Q : List V → Hp → Prop) (us : List Value) (s' : Shared) : Prop := ∃ vs H', Inv X pins σ H' s' ∧ Vals vs us ∧ Q vs H'
def SP (X : Cx) (pins : List (Addr × Obj)) (D : Ends) (f : Flow) (s' : Shared) : Prop :=
  match f with
  | .next => ∃ σ' H', Inv X pins σ' H' s' ∧ D.nx σ' H'
  | .brk => ∃ σ' H', Inv X pins σ' H' s' ∧ D.bk σ' H'
  | .cont => ∃ σ' H', Inv X pins σ' H' s' ∧ D.ct σ' H'
  | .ret u => ∃ v σ' H', Inv X pins σ' H' s' ∧ RelV v u ∧ D.rt v H'
def PE (X : Cx) (e : Expr) (t : TE) : Prop :=
  ∀ (pins : List (Addr × Obj)) (s : Shared) (σ : St) (H : Hp) (Q : VK), Inv X pins σ H s → t σ H Q → wpAny (model X.prog X.w) X.A (eval e X.env) (EP X pins σ Q) X.xe s
def PT (X : Cx) (e : Expr) (t : TT) : Prop :=
  ∀ (pins : List (Addr × Obj)) (s : Shared) (σ : St) (H : Hp) (Q : Bool → Hp → Prop), Inv X pins σ H s → t σ H Q → wpAny (model X.prog X.w) X.A (isTrue e X.env (eval e X.env)) (TP X pins σ Q) X.xe s
def PW (X : Cx) (e : Expr) (t : TT) : Prop :=
  ∀ (whole : Sem Value) (pins : List (Addr × Obj)) (s : Shared) (σ : St) (H : Hp) (Q : Bool → Hp → Prop), Inv X pins σ H s → t σ H Q → wpAny (model X.prog X.w) X.A (isTrue e X.env whole) (TP X pins σ Q) X.xe s
theorem PW.pt {X : Cx} {e : Expr} {t : TT} (h : PW X e t) : PT X e t := h _
def PA (X : Cx) (es : List Expr) (t : TA) : Prop :=
  ∀ (pos : Pos) (pins : List (Addr × Obj)) (s : Shared) (σ : St) (H : Hp) (Q : List V → Hp → Prop), Inv X pins σ H s → t σ H Q → wpAny (model X.prog X.w) X.A (spliced (backTo pos (starEach es X.env))) (AP X pins σ Q) X.xe s
def PS (X : Cx) (st : Stmt) (t : TS) : Prop :=
  ∀ (pins : List (Addr × Obj)) (s : Shared) (σ : St) (H : Hp) (D : Ends), Inv X pins σ H s → t D σ H → wpAny (model X.prog X.w) X.A (exec st X.env) (SP X pins D) X.xe s
def PSs (X : Cx) (st : List Stmt) (t : TS) : Prop :=
  ∀ (pins : List (Addr × Obj)) (s : Shared) (σ : St) (H : Hp) (D : Ends), Inv X pins σ H s → t D σ H → wpAny (model X.prog X.w) X.A (execs st X.env) (SP X pins D) X.xe s
theorem thn {α : Type} {t : Sem α} {Q Q' : α → Shared → Prop} {M : Model} {A : Around} {E : Value → Shared → Prop} {s : Shared} (h : wpAny M A t Q E s) (hQ : ∀ a s, Q a s → Q' a s) : wpAny M A t Q' E s := wpAny_mono h hQ fun _ _ x => x
end L2
namespace L2
open PySem PySem.Spec PyProof.Rows
section
variable {X : Cx}
def tVar (i : Nat) : TE := fun σ H Q => ∃ v, σ[i]? = some (some v) ∧ Q v H
def tC (v : V) : TE := fun _ H Q => Q v H
theorem pe_var {i : Nat} {x : Str} {pos : Pos} (hN : X.N[i]? = some x) (hv : Vis X.env.scope x) (hd : (x == ("__debug__" : Str)) = false := by decide) (hcd : (x == ("__classdict__" : Str)) = false := by decide) : PE X (.Name x pos) (tVar i) := by
  intro pins s σ H Q I h
  obtain ⟨v, e, h⟩ := h
  obtain ⟨m, hn, hl⟩ := I.loc
  obtain ⟨u, r, l⟩ := hl i x v hN e hv
  have fin : EP X pins σ Q u s := ⟨v, H, I, r, h⟩
  rcases l with ⟨hk, hm⟩ | ⟨hk, c, hc, hcell⟩
  · exact wpAny_Name (wpAny_loadName_local I.ok.kind hk hn hm fin) hd
  · rcases hk with hk | hk
    · exact wpAny_Name (wpAny_loadName_cell I.ok.kind hk hc hcell fin) hd
    · exact wpAny_Name (wpAny_loadName_free I.ok.kind hk hc hcell fin hcd) hd
theorem pe_int {i j pos} : PE X (.Constant (.int i) j pos) (tC (.int i)) := fun _ _ _ H _ I h => wpAny_Constant_int ⟨.int i, H, I.tok _, ⟨_, rfl⟩, h⟩
theorem pe_bl {b j pos} : PE X (.Constant (.bool b) j pos) (tC (.bl b)) := fun _ _ _ H _ I h => Constant_bool ⟨.bl b, H, I, rfl, h⟩
theorem pe_non {j pos} : PE X (.Constant .none j pos) (tC .non) := fun _ _ _ H _ I h => Constant_none ⟨.non, H, I, rfl, h⟩
theorem pe_str {x j pos} : PE X (.Constant (.str x) j pos) (tC (.str x)) := fun _ _ _ H _ I h => Calls.Constant_str ⟨.str x, H, I.tok _, ⟨_, rfl⟩, h⟩
def Gl (X : Cx) (x : Str) : Prop := X.env.kindOf x = some .globalImplicit
theorem ld_glob {E : Value → Shared → Prop} {pins : List (Addr × Obj)} {s : Shared} {σ : St} {H : Hp} {x : Str} {u : Value} {pos : Pos} {Q : Value → Shared → Prop} (I : Inv X pins σ H s) (hg : Gl X x) (hm : X.mg x = some u) (h : Q u s)
    (hd : (x == ("__debug__" : Str)) = false := by decide) : wpAny (model X.prog X.w) X.A (eval (.Name x pos) X.env) Q E s :=
  Calls.Name_function_global I.ok.kind hg (Calls.loadGlobal_global (by rw [I.ok.glob]; exact I.mod.glob.keeps I.bk) hm h) hd
theorem ld_blt {E : Value → Shared → Prop} {pins : List (Addr × Obj)} {s : Shared} {σ : St} {H : Hp} {x : Str} {u : Value} {pos : Pos} {Q : Value → Shared → Prop} (I : Inv X pins σ H s) (hg : Gl X x) (hm : X.mg x = none) (hv : bootBuiltins x = some u) (h : Q u s)
    (hn : x ≠ "__name__" := by decide) (hd : (x == ("__debug__" : Str)) = false := by decide) : wpAny (model X.prog X.w) X.A (eval (.Name x pos) X.env) Q E s := by
  obtain ⟨mb, h1, h2⟩ := I.mod.blt
  exact Calls.Name_function_global I.ok.kind hg (Calls.loadGlobal_builtin (by rw [I.ok.glob]; exact I.mod.glob.keeps I.bk) hm (by rw [I.ok.blt]; exact h1.keeps I.bk) ((h2 x hn).trans hv) h) hd
theorem pe_glob {x : Str} {v : V} {u : Value} {pos : Pos} (hg : Gl X x) (hm : X.mg x = some u) (r : RelV v u) (hd : (x == ("__debug__" : Str)) = false := by decide) : PE X (.Name x pos) (tC v) :=
  fun _ _ _ H _ I h => ld_glob I hg hm ⟨v, H, I, r, h⟩ hd
theorem pe_bltn {x : Str} {v : V} {u : Value} {pos : Pos} (hg : Gl X x) (hm : X.mg x = none) (hv : bootBuiltins x = some u) (r : RelV v u) (hn : x ≠ "__name__" := by decide) (hd : (x == ("__debug__" : Str)) = false := by decide) : PE X (.Name x pos) (tC v) :=
  fun _ _ _ H _ I h => ld_blt I hg hm hv ⟨v, H, I, r, h⟩ hn hd
variable {a b : Expr} {ta tb : TE} {pos : Pos}
def tB (t : TE) : TT := fun σ H Q => t σ H fun x H1 => ∃ c, x = .bl c ∧ Q c H1
theorem pt_val {e : Expr} {t : TE} (h : PE X e t) (he : ∀ whole, isTrue e X.env whole = (do let v ← whole; standAt e.pos; holding [v] (truthy v)) := by intro _; rfl) : PT X e (tB t) := by
  intro pins s σ H Q I hw
  refine isTrue_plain (thn (h pins s σ H _ I hw) fun v s1 ⟨x, H1, I1, r1, q1⟩ => ?_) (he _)
  obtain ⟨d, rfl, q⟩ := q1
  cases r1
  exact wpAny_truthy_bool ⟨H1, I1, q⟩
variable {tA tB' : TT} {rest : List Expr}
def tAnd (t u : TT) : TT := fun σ H Q => t σ H fun c H1 => if c = true then u σ H1 Q else Q false H1
def tOr (t u : TT) : TT := fun σ H Q => t σ H fun c H1 => if c = true then Q true H1 else u σ H1 Q
def tNot (t : TT) : TT := fun σ H Q => t σ H fun c H1 => Q (!c) H1
theorem pw_and1 (ha : PT X a tA) : PW X (.BoolOp .And [a] pos) tA := by
  intro wh pins s σ H Q I h
  refine isTrue_and (thn (ha pins s σ H Q I h) fun c s1 e => ?_)
  cases c with
  | true => exact isTrue_and_nil e
  | false => exact e
theorem pw_or1 (ha : PT X a tA) : PW X (.BoolOp .Or [a] pos) tA := by
  intro wh pins s σ H Q I h
  refine isTrue_or (thn (ha pins s σ H Q I h) fun c s1 e => ?_)
  cases c with
  | false => exact isTrue_or_nil e
  | true => exact e
theorem pw_and (ha : PT X a tA) (hb : PW X (.BoolOp .And (b :: rest) pos) tB') : PW X (.BoolOp .And (a :: b :: rest) pos) (tAnd tA tB') := by
  intro wh pins s σ H Q I h
  refine isTrue_and (thn (ha pins s σ H _ I h) fun c s1 ⟨H1, I1, q1⟩ => ?_)
  cases c with
  | true => exact hb wh pins s1 σ H1 Q I1 q1
  | false => exact ⟨H1, I1, q1⟩
theorem pw_or (ha : PT X a tA) (hb : PW X (.BoolOp .Or (b :: rest) pos) tB') : PW X (.BoolOp .Or (a :: b :: rest) pos) (tOr tA tB') := by
  intro wh pins s σ H Q I h
  refine isTrue_or (thn (ha pins s σ H _ I h) fun c s1 ⟨H1, I1, q1⟩ => ?_)
  cases c with
  | true => exact ⟨H1, I1, q1⟩
  | false => exact hb wh pins s1 σ H1 Q I1 q1
theorem pt_not (ha : PT X a tA) : PT X (.UnaryOp .Not a pos) (tNot tA) := by
  intro pins s σ H Q I h
  exact isTrue_not (ha pins s σ H (fun c H1 => Q (!c) H1) I h)
def tAndV (ta tb : TE) : TE := fun σ H Q => ta σ H fun x H1 => ∃ c, x = .bl c ∧ if c = true then tb σ H1 Q else Q (.bl false) H1
theorem pe_one {op} {t : TE} (h : PE X a t) : PE X (.BoolOp op [a] pos) t := fun pins s σ H Q I hw => BoolOp_one (h pins s σ H Q I hw)
theorem pe_and (ha : PE X a ta) (hb : PE X (.BoolOp .And (b :: rest) pos) tb) : PE X (.BoolOp .And (a :: b :: rest) pos) (tAndV ta tb) := by
  intro pins s σ H Q I h
  refine BoolOp_and (thn (ha pins s σ H _ I h) fun v s1 ⟨x, H1, I1, r1, q1⟩ => ?_)
  obtain ⟨c, rfl, q1⟩ := q1
  cases r1
  refine wpAny_truthy_bool ?_
  cases c with
  | true => exact hb pins s1 σ H1 Q I1 q1
  | false => exact ⟨.bl false, H1, I1, rfl, q1⟩
end
end L2
namespace L2
open PySem PySem.Spec PyProof.Rows
def SqL (K : PySem.W.Frag) (H : Hp) (a : Addr) (xs : List V) : Prop :=
  Rd H a (.lst xs) ∨
    ∃ (o : Obj) (its : Array Value) (n : Nat), K.lookup a = some o ∧ o.cls = .type "list" ∧ o.dict = none ∧ o.data = .seq its n ∧ its.size ≤ sizeLine ∧ Vals xs its.toList
def SqT (K : PySem.W.Frag) (H : Hp) (a : Addr) (xs : List V) : Prop :=
  Rd H a (.tup xs) ∨
    ∃ (o : Obj) (its : Array Value) (n : Nat), K.lookup a = some o ∧ o.cls = .type "tuple" ∧ o.data = .seq its n ∧ its.size ≤ sizeLine ∧ Vals xs its.toList
def absV : Value → Option V
  | .none => some .non
  | .bool b => some (.bl b)
  | .int i _ => some (.int i)
  | .str x _ => some (.str x)
  | .bytes b _ => some (.byt b)
  | .float b _ => some (.flt b)
  | .ref a => some (.ref a)
  | .type n => some (.ty n)
  | _ => none
theorem RelV.abs {x : V} {u : Value} (r : RelV x u) : absV u = some x := by
  cases x with
  | non => cases r; rfl
  | bl _ => cases r; rfl
  | int _ => obtain ⟨t, rfl⟩ := r; rfl
  | str _ => obtain ⟨t, rfl⟩ := r; rfl
  | byt _ => obtain ⟨t, rfl⟩ := r; rfl
  | flt _ => obtain ⟨t, rfl⟩ := r; rfl
  | ref _ => cases r; rfl
  | ty _ => cases r; rfl
theorem RelV.inj {x y : V} {u : Value} (r : RelV x u) (q : RelV y u) : x = y := Option.some.inj (r.abs.symm.trans q.abs)
theorem Vals.inj : ∀ {xs ys : List V} {us : List Value}, Vals xs us → Vals ys us → xs = ys
  | _, _, _, .nil, .nil => rfl
  | _, _, _, .cons r t, .cons r' t' => by rw [r.inj r', Vals.inj t t']
section
variable {X : Cx} {pins : List (Addr × Obj)} {σ : St} {H : Hp} {s : Shared} {a : Addr} {xs ys : List V}
theorem SqL.of {K : PySem.W.Frag} (h : H a = some (.lst xs)) : SqL K H a xs := .inl (.inl h)
theorem SqT.of {K : PySem.W.Frag} (h : H a = some (.tup xs)) : SqT K H a xs := .inl (.inl h)
theorem Inv.list (I : Inv X pins σ H s) (h : SqL X.K H a xs) : ∃ its : List Value, Vals xs its ∧ PlainL s.heap a its.toArray ∧ xs.length ≤ sizeLine := by
  rcases h with h | ⟨o, its, n, hk, hc, hd, hs, hz, r⟩
  · obtain ⟨z, its, n, r, e⟩ := h.ok I.hok
    exact ⟨its, r, ⟨_, n, e, rfl, rfl, rfl⟩, z⟩
  · refine ⟨its.toList, r, ⟨o, n, I.kIn a o hk, hc, hd, by simpa using hs⟩, ?_⟩
    have e := r.length
    simp only [Array.length_toList] at e
    omega
theorem Inv.tuple (I : Inv X pins σ H s) (h : SqT X.K H a xs) : ∃ its : List Value, Vals xs its ∧ IsTup s.heap a its.toArray ∧ xs.length ≤ sizeLine := by
  rcases h with h | ⟨o, its, n, hk, hc, hs, hz, r⟩
  · obtain ⟨z, its, r, p⟩ := h.ok I.hok
    exact ⟨its, r, p, z⟩
  · refine ⟨its.toList, r, ⟨o, I.kIn a o hk, hc, n, by simpa using hs⟩, ?_⟩
    have e := r.length
    simp only [Array.length_toList] at e
    omega
theorem Inv.list_inj (I : Inv X pins σ H s) (h : SqL X.K H a xs) (h' : SqL X.K H a ys) : xs = ys := by
  obtain ⟨its, r, ⟨o, n, e, _, _, d⟩, _⟩ := I.list h
  obtain ⟨its', r', ⟨o', n', e', _, _, d'⟩, _⟩ := I.list h'
  rw [e] at e'; cases e'
  rw [d] at d'
  injection d' with d1 _
  have : its = its' := by simpa using congrArg Array.toList d1
  subst this
  exact r.inj r'
theorem Inv.tuple_inj (I : Inv X pins σ H s) (h : SqT X.K H a xs) (h' : SqT X.K H a ys) : xs = ys := by
  obtain ⟨its, r, ⟨o, e, _, n, d⟩, _⟩ := I.tuple h
  obtain ⟨its', r', ⟨o', e', _, n', d'⟩, _⟩ := I.tuple h'
  rw [e] at e'; cases e'
  rw [d] at d'
  injection d' with d1 _
  have : its = its' := by simpa using congrArg Array.toList d1
  subst this
  exact r.inj r'
end
abbrev Cx.wish (X : Cx) (E : Value → Shared → Prop) : Cx := { X with xe := E }
abbrev Cx.nox (X : Cx) : Cx := X.wish fun _ _ => False
theorem Cx.Ok.wish {X : Cx} (ok : X.Ok) (E : Value → Shared → Prop) : (X.wish E).Ok :=
  ⟨ok.mod, ok.kind, ok.glob, ok.blt, ok.above, ok.inj, ok.has, ok.cab, ok.hd, ok.frames, ok.stk, ok.exf, ok.bs, ok.bsz, ok.noex, ok.exfs, ok.funs, ok.frf⟩
theorem Cx.Ok.unwish {X : Cx} {E : Value → Shared → Prop} (ok : (X.wish E).Ok) : X.Ok :=
  ⟨ok.mod, ok.kind, ok.glob, ok.blt, ok.above, ok.inj, ok.has, ok.cab, ok.hd, ok.frames, ok.stk, ok.exf, ok.bs, ok.bsz, ok.noex, ok.exfs, ok.funs, ok.frf⟩
section
variable {X : Cx} {pins : List (Addr × Obj)} {σ : St} {H : Hp} {s : Shared} {E : Value → Shared → Prop}
theorem Inv.wish (I : Inv X pins σ H s) (E : Value → Shared → Prop) : Inv (X.wish E) pins σ H s := ⟨I.ok.wish E, I.os, I.bare, I.base, I.loc, I.cell, I.free, I.freeC, I.pin, I.hok, I.len⟩
theorem Inv.unwish (I : Inv (X.wish E) pins σ H s) : Inv X pins σ H s := ⟨I.ok.unwish, I.os, I.bare, I.base, I.loc, I.cell, I.free, I.freeC, I.pin, I.hok, I.len⟩
theorem SP.unwish {D : Ends} {f : Flow} {s' : Shared} (h : SP (X.wish E) pins D f s') : SP X pins D f s' := by
  cases f with
  | next => obtain ⟨σ', H', I, q⟩ := h; exact ⟨σ', H', I.unwish, q⟩
  | brk => obtain ⟨σ', H', I, q⟩ := h; exact ⟨σ', H', I.unwish, q⟩
  | cont => obtain ⟨σ', H', I, q⟩ := h; exact ⟨σ', H', I.unwish, q⟩
  | ret u => obtain ⟨v, σ', H', I, r, q⟩ := h; exact ⟨v, σ', H', I.unwish, r, q⟩
theorem PSs.nox {st : List Stmt} {t : TS} (h : PSs X.nox st t) : PSs X st t := fun pins s σ H D I hw =>
  wpAny_mono (h pins s σ H D (I.wish _) hw) (fun _ _ q => q.unwish) fun _ _ z => False.elim z
end
section
variable {X : Cx} {st : Stmt} {rest : List Stmt} {t u : TS} {e : Expr} {te : TE} {pos : Pos}
def tNext : TS := fun D σ H => D.nx σ H
def tSeq (t u : TS) : TS := fun D σ H => t { D with nx := u D } σ H
theorem pss_nil : PSs X [] tNext := fun _ _ σ H _ I h => wpAny_execs_nil ⟨σ, H, I, h⟩
theorem pss_cons (h1 : PS X st t) (h2 : PSs X rest u) : PSs X (st :: rest) (tSeq t u) := by
  intro pins s σ H D I h
  refine wpAny_execs_cons (thn (h1 pins s σ H { D with nx := u D } I h) fun f s1 q => ?_)
  cases f with
  | next =>
    obtain ⟨σ', H', I', q⟩ := q
    exact h2 pins s1 σ' H' D I' q
  | ret v => exact q
  | brk => exact q
  | cont => exact q
theorem pss_one (h1 : PS X st t) : PSs X [st] t := by
  intro pins s σ H D I h
  refine wpAny_execs_cons (thn (h1 pins s σ H D I h) fun f s1 q => ?_)
  cases f with
  | next => exact wpAny_execs_nil q
  | ret v => exact q
  | brk => exact q
  | cont => exact q
theorem Inv.quiet {pins : List (Addr × Obj)} {σ : St} {H : Hp} {s : Shared} (I : Inv X pins σ H s) : interactive X.env = false := by simp [interactive, I.ok.kind]
def tDrop (te : TE) : TS := fun D σ H => te σ H fun _ H1 => D.nx σ H1
theorem ps_expr (he : PE X e te) (hs : swapsWith e none pos.line X.env = pure false := by rfl) : PS X (.Expr e pos) (tDrop te) := by
  intro pins s σ H D I h
  exact wpAny_Expr_any (thn (he pins s σ H _ I h) fun v s1 ⟨x, H1, I1, r1, q1⟩ => ⟨σ, H1, I1, q1⟩) I.quiet hs
def tRet (te : TE) : TS := fun D σ H => te σ H D.rt
theorem ps_ret (he : PE X e te) : PS X (.Return (some e) pos) (tRet te) := by
  intro pins s σ H D I h
  exact wpAny_Return_some (thn (he pins s σ H _ I h) fun v s1 ⟨x, H1, I1, r1, q1⟩ => ⟨x, σ, H1, I1, r1, q1⟩)
def tIfS (c : TT) (t u : TS) : TS := fun D σ H => c σ H fun b H1 => if b = true then t D σ H1 else u D σ H1
theorem ps_if {c : Expr} {a b : List Stmt} {tc : TT} (hc : PT X c tc) (ha : PSs X a t) (hb : PSs X b u) : PS X (.If c a b pos) (tIfS tc t u) := by
  intro pins s σ H D I h
  refine wpAny_If (thn (hc pins s σ H _ I h) fun d s1 ⟨H1, I1, q1⟩ => ?_)
  cases d with
  | true => exact ha pins s1 σ H1 D I1 q1
  | false => exact hb pins s1 σ H1 D I1 q1
end
abbrev TG := V → St → Hp → (St → Hp → Prop) → Prop
def PG (X : Cx) (target : Expr) (t : TG) : Prop :=
  ∀ (pins : List (Addr × Obj)) (s : Shared) (σ : St) (H : Hp) (v : V) (u : Value) (Q : St → Hp → Prop), Inv X pins σ H s → RelV v u → t v σ H Q →
    wpAny (model X.prog X.w) X.A (assign target X.env u) (fun _ s' => ∃ σ' H', Inv X pins σ' H' s' ∧ Q σ' H') X.xe s
section
variable {X : Cx} {pos : Pos}
def gName (i : Nat) : TG := fun v σ H Q => Q (σ.set i (some v)) H
theorem pg_name {i : Nat} {x : Str} (hN : X.N.Nodup) (hi : X.N[i]? = some x) (hx : Loc X.env.scope x) (hf : X.fn x = true ∨ X.env.scope.names.lookup x = some .local := by first | exact .inl rfl | exact .inr rfl | assumption) : PG X (.Name x pos) (gName i) := by
  intro pins s σ H v u Q I r h
  exact wpAny_assign_Name (store_ok I hN hi hx r (fun s' I' => ⟨_, H, I', h⟩) hf)
def tAsg (te : TE) (g : TG) : TS := fun D σ H => te σ H fun x H1 => g x σ H1 D.nx
theorem ps_asg {tg e : Expr} {te : TE} {g : TG} (he : PE X e te) (hg : PG X tg g) (hs : swapsWithSole [tg] e pos.line X.env = pure false := by rfl) (hw : swappedStores [tg] e X.env = pure none := by rfl)
    (h1 : (assignEach [tg] X.env).map (·.2) = [assign tg X.env] := by rfl) : PS X (.Assign [tg] e pos) (tAsg te g) := by
  intro pins s σ H D I h
  refine wpAny_Assign_stores (thn (he pins s σ H _ I h) fun v s1 ⟨x, H1, I1, r1, q1⟩ => ?_) hs hw
  rw [h1]
  exact thn (hg pins s1 σ H1 x v _ I1 r1 q1) fun _ s2 q => q
theorem ps_set {i : Nat} {x : Str} {e : Expr} {te : TE} {pos' : Pos} (hN : X.N.Nodup) (hi : X.N[i]? = some x) (hx : Loc X.env.scope x) (he : PE X e te) (hs : swapsWith e (some (.Name x pos')) pos.line X.env = pure false := by rfl) (hf : X.fn x = true ∨ X.env.scope.names.lookup x = some .local := by first | exact .inl rfl | exact .inr rfl | assumption) :
    PS X (.Assign [.Name x pos'] e pos) (tAsg te (gName i)) := by
  intro pins s σ H D I h
  refine wpAny_Assign_Name (thn (he pins s σ H _ I h) fun v s1 ⟨y, H1, I1, r1, q1⟩ => ?_) hs
  exact store_ok I1 hN hi hx r1 (fun s2 I2 => ⟨_, H1, I2, q1⟩) hf
end
section
variable {X : Cx} {pos : Pos}
end
structure It where
  go : Nat → Hp → Prop
  yld : Nat → Hp → V → Hp → Prop
  stop : Nat → Hp → Prop
def FpOk (X : Cx) (pins : List (Addr × Obj)) (H : Hp) (b : Addr) : Prop :=
  H b = none ∧ b ≠ X.env.locals ∧ b ∉ X.fs ∧ (b ∈ X.ex ∨ X.s₀.heap.objs.size ≤ b) ∧ (∀ x c, X.env.cells.lookup x = some c → c ≠ b) ∧ ∀ p ∈ X.pn ++ pins, p.1 ≠ b
theorem Inv.fpOk {X : Cx} {pins : List (Addr × Obj)} {σ : St} {H H' : Hp} {s : Shared} {b : Addr} (I : Inv X pins σ H s) (hb : s.heap.objs.size ≤ b) (hn : H' b = none) : FpOk X pins H' b := by
  refine ⟨hn, Nat.ne_of_gt (Nat.lt_of_lt_of_le I.lt hb), I.nofs hb, .inr (Nat.le_trans I.sz hb), fun x c e z => ?_, fun p hp z => ?_⟩
  · obtain ⟨v, q⟩ := I.cell x c e
    exact absurd (Nat.lt_of_lt_of_le q.lt (by rw [z]; exact hb)) (Nat.lt_irrefl _)
  · exact absurd (Nat.lt_of_lt_of_le (Heap.lt_size (I.pin p hp).1) (by rw [z]; exact hb)) (Nat.lt_irrefl _)
structure Turn (P : Program) (w : World) (K : PySem.W.Frag) (tg : Expr) (J : It) (fp : List Addr) (it : Addr) (tn : Nat → Heap → Prop) : Prop where
  mem : it ∈ fp
  obj : ∀ i h, tn i h → ∀ b ∈ fp, ∃ o, h.get? b = some o ∧ ∀ v, o.data ≠ .cell v
  keep : ∀ i h h', tn i h → (∀ b ∈ fp, ∀ o, h.get? b = some o → h'.get? b = some o) → tn i h'
  item : ∀ (X : Cx), X.prog = P → X.w = w → X.K = K → X.calm = true → ∀ (i : Nat) (pins : List (Addr × Obj)) (s : Shared) (σ : St) (H : Hp) (E : Value → Shared → Prop), Inv X pins σ H s → (∀ b ∈ fp, FpOk X pins H b) → tn i s.heap → J.go i H →
    wpAny (model P w) X.A (pyNext (.ref it)) (fun r s1 => ∃ u, r = some u ∧
      wpAny (model P w) X.A (letOwnedTupleGo tg (.ref it) u) (fun _ s2 => ∃ x H', Inv X pins σ H' s2 ∧ RelV x u ∧ J.yld i H x H' ∧ tn (i + 1) s2.heap ∧ ∀ b ∈ fp, H' b = none) E s1) E s
  done : ∀ (X : Cx), X.prog = P → X.w = w → X.K = K → X.calm = true → ∀ (i : Nat) (pins : List (Addr × Obj)) (s : Shared) (σ : St) (H : Hp) (E : Value → Shared → Prop), Inv X pins σ H s → (∀ b ∈ fp, FpOk X pins H b) → tn i s.heap → J.stop i H →
    wpAny (model P w) X.A (pyNext (.ref it)) (fun r s1 => r = none ∧ Inv X pins σ H s1) E s
  self : ∀ (A : Around) (i : Nat) (s : Shared) (Q : Value → Shared → Prop) (E : Value → Shared → Prop), tn i s.heap → Q (.ref it) s → wpAny (model P w) A (pyIter (.ref it)) Q E s
abbrev TI := St → Hp → (It → Hp → Prop) → Prop
def PIE (X : Cx) (pins : List (Addr × Obj)) (σ : St) (tg : Expr) (R : It → Hp → Prop) (itv : Value) (s2 : Shared) : Prop :=
  ∃ (it : Addr) (fp : List Addr) (tn : Nat → Heap → Prop) (J : It) (H' : Hp), itv = .ref it ∧ Inv X pins σ H' s2 ∧ Turn X.prog X.w X.K tg J fp it tn ∧ tn 0 s2.heap ∧ (∀ b ∈ fp, FpOk X pins H' b) ∧ R J H'
def PI (X : Cx) (tg iter : Expr) (wi : TI) : Prop :=
  ∀ (pins : List (Addr × Obj)) (s : Shared) (σ : St) (H : Hp) (R : It → Hp → Prop), Inv X pins σ H s → wi σ H R →
    wpAny (model X.prog X.w) X.A (eval iter X.env) (fun v s1 => wpAny (model X.prog X.w) X.A (pyIter v) (PIE X pins σ tg R) X.xe s1) X.xe s
theorem go_of {M : Model} {A : Around} {E : Value → Shared → Prop} {s : Shared} {tg : Expr} {it : Addr} {u : Value} {o : Obj} {n : String} {vs : Array Value} {Q : Unit → Shared → Prop} (ho : s.heap.get? it = some o) (hc : o.cls = .type n) (hd : o.data = .fields vs)
    (hn : ["enumerate", "zip", "dict_itemiterator", "dict_reverseitemiterator", "odict_iterator", "itertools.zip_longest", "itertools.pairwise"].contains n = false) (hQ : Q () s) : wpAny M A (letOwnedTupleGo tg (.ref it) u) Q E s := by
  unfold letOwnedTupleGo
  cases tg <;> first
    | exact wpAny_pure hQ
    | (cases u <;> first
        | exact wpAny_pure hQ
        | (refine wpAny_bind (wpAny_load ho ?_)
           rw [hc, hd]
           show wpAny M A (if (["enumerate", "zip", "dict_itemiterator", "dict_reverseitemiterator", "odict_iterator", "itertools.zip_longest", "itertools.pairwise"].contains n && vs[0]? == some (rawInt _)) = true then _ else _) Q E s
           rw [if_neg (by intro h; rw [hn, Bool.false_and] at h; cases h)]
           exact wpAny_pure hQ))
def Itl (K : PySem.W.Frag) (a : Addr) : It :=
  ⟨fun i H => ∃ xs x, SqL K H a xs ∧ xs[i]? = some x, fun i H x H' => H' = H ∧ ∀ xs, SqL K H a xs → xs[i]? = some x, fun i H => ∃ xs, SqL K H a xs ∧ xs.length ≤ i⟩
def Itt (K : PySem.W.Frag) (a : Addr) : It :=
  ⟨fun i H => ∃ xs x, SqT K H a xs ∧ xs[i]? = some x, fun i H x H' => H' = H ∧ ∀ xs, SqT K H a xs → xs[i]? = some x, fun i H => ∃ xs, SqT K H a xs ∧ xs.length ≤ i⟩
def Itr (lo : Int) (n : Nat) : It := ⟨fun i _ => i < n, fun i H x H' => H' = H ∧ x = .int (lo + i), fun i _ => n ≤ i⟩
theorem turn_list {P : Program} {w : World} {K : PySem.W.Frag} {tg : Expr} (a it : Addr) : Turn P w K tg (Itl K a) [it] it (fun i h => h.IsListIter it a i) where
  mem := by simp
  obj := fun i h st b hb => by
    have e : b = it := by simpa using hb
    subst e
    obtain ⟨o, e, c, d⟩ := st
    exact ⟨o, e, fun v z => by rw [d] at z; cases z⟩
  keep := fun i h h' st k => st.at fun o e => k it (by simp) o e
  item := by
    intro X hP hw hK hc i pins s σ H E I hf st hg
    subst hP hw hK
    obtain ⟨xs, x, hq, hx⟩ := hg
    obtain ⟨its, rv, p, hz⟩ := I.list hq
    obtain ⟨u, hu, ru⟩ := rv.get hx
    obtain ⟨f0, f1, f2, f3, f4, f5⟩ := hf it (by simp)
    refine wpAny_pyNext_list_item st p.isList (x := u) (by simpa using hu) fun h' st' sb => ?_
    have I1 : Inv X pins σ H { s with heap := h' } := I.turned (t' := s.toks) (fun b o hb e => (sb.2 b hb).trans e) f0 f1 f3 f4 f5
    obtain ⟨o, e, c, d⟩ := id st'
    exact ⟨u, rfl, go_of (s := { s with heap := h' }) e c d (by decide) ⟨x, H, I1, ru, ⟨rfl, fun ys hy => by rw [I.list_inj hy hq]; exact hx⟩, st', fun b hb => (hf b hb).1⟩⟩
  done := by
    intro X hP hw hK hc i pins s σ H E I hf st hg
    subst hP hw hK
    obtain ⟨xs, hq, hx⟩ := hg
    obtain ⟨its, rv, p, hz⟩ := I.list hq
    obtain ⟨f0, f1, f2, f3, f4, f5⟩ := hf it (by simp)
    have hl := rv.length
    exact wpAny_pyNext_list_end (I.ok.hd hc) st p.isList (by simp; omega) fun h' eb => ⟨rfl, I.turned (t' := s.toks) (fun b o hb e => eb b o hb e) f0 f1 f3 f4 f5⟩
  self := fun _ _ _ _ _ st h => wpAny_pyIter_listiter st h
theorem turn_tuple {P : Program} {w : World} {K : PySem.W.Frag} {tg : Expr} (a it : Addr) : Turn P w K tg (Itt K a) [it] it (fun i h => h.IsTupleIter it a i) where
  mem := by simp
  obj := fun i h st b hb => by
    have e : b = it := by simpa using hb
    subst e
    obtain ⟨o, e, c, d⟩ := st
    exact ⟨o, e, fun v z => by rw [d] at z; cases z⟩
  keep := fun i h h' st k => st.at fun o e => k it (by simp) o e
  item := by
    intro X hP hw hK hc i pins s σ H E I hf st hg
    subst hP hw hK
    obtain ⟨xs, x, hq, hx⟩ := hg
    obtain ⟨its, rv, p, hz⟩ := I.tuple hq
    obtain ⟨u, hu, ru⟩ := rv.get hx
    obtain ⟨f0, f1, f2, f3, f4, f5⟩ := hf it (by simp)
    refine wpAny_pyNext_tuple_item st (show s.heap.IsTuple a its.toArray from p) (x := u) (by simpa using hu) fun h' st' sb => ?_
    have I1 : Inv X pins σ H { s with heap := h' } := I.turned (t' := s.toks) (fun b o hb e => (sb.2 b hb).trans e) f0 f1 f3 f4 f5
    obtain ⟨o, e, c, d⟩ := id st'
    exact ⟨u, rfl, go_of (s := { s with heap := h' }) e c d (by decide) ⟨x, H, I1, ru, ⟨rfl, fun ys hy => by rw [I.tuple_inj hy hq]; exact hx⟩, st', fun b hb => (hf b hb).1⟩⟩
  done := by
    intro X hP hw hK hc i pins s σ H E I hf st hg
    subst hP hw hK
    obtain ⟨xs, hq, hx⟩ := hg
    obtain ⟨its, rv, p, hz⟩ := I.tuple hq
    obtain ⟨f0, f1, f2, f3, f4, f5⟩ := hf it (by simp)
    have hl := rv.length
    exact wpAny_pyNext_tuple_end (I.ok.hd hc) st (show s.heap.IsTuple a its.toArray from p) (by simp; omega) fun h' eb => ⟨rfl, I.turned (t' := s.toks) (fun b o hb e => eb b o hb e) f0 f1 f3 f4 f5⟩
  self := fun _ _ _ _ _ st h => wpAny_pyIter_tupleiter st h
theorem turn_range {P : Program} {w : World} {K : PySem.W.Frag} {tg : Expr} (it : Addr) (lo : Int) (n : Nat) : Turn P w K tg (Itr lo n) [it] it (fun i h => IsRangeIter h it (lo + (i : Nat) * 1) ((n : Int) - (i : Nat)) 1) where
  mem := by simp
  obj := fun i h st b hb => by
    have e : b = it := by simpa using hb
    subst e
    exact ⟨_, st, fun v z => by
      have z' : Data.fields _ = Data.cell v := z
      cases z'⟩
  keep := fun i h h' st k => k it (by simp) _ st
  item := by
    intro X hP hw hK hc i pins s σ H E I hf st hg
    subst hP hw hK
    obtain ⟨f0, f1, f2, f3, f4, f5⟩ := hf it (by simp)
    have W := Walks.range (prog := X.prog) (w := X.w) (I.ok.hd hc) it lo 1 n
    refine W.item i s _ _ hg st fun v h' tk hv st' kk => ?_
    obtain ⟨t, rfl⟩ := hv
    have I1 : Inv X pins σ H { s with heap := h', toks := tk } := I.turned (fun b o hb e => kk b o (by simpa using hb) e) f0 f1 f3 f4 f5
    refine ⟨_, rfl, go_of (s := { s with heap := h', toks := tk }) (n := "range_iterator") st' rfl rfl (by decide) ⟨.int (lo + i), H, I1, ⟨t, ?_⟩, ⟨rfl, rfl⟩, st', fun b hb => (hf b hb).1⟩⟩
    rw [Int.mul_one]
  done := by
    intro X hP hw hK hc i pins s σ H E I hf st hg
    subst hP hw hK
    obtain ⟨f0, f1, f2, f3, f4, f5⟩ := hf it (by simp)
    exact wpAny_pyNext_range_end (I.ok.hd hc) st (by have : n ≤ i := hg; omega) fun h' eb => ⟨rfl, I.turned (t' := s.toks) (fun b o hb e => eb b o hb e) f0 f1 f3 f4 f5⟩
  self := fun _ _ _ _ _ st h => wpAny_pyIter_rangeiter st h
end L2
namespace L2
open PySem PySem.Spec PyProof.Rows
section
variable {X : Cx} {tg : Expr}
def iList (K : PySem.W.Frag) (tl : TE) : TI := fun σ H R => tl σ H fun x H1 => ∃ a, x = .ref a ∧ (∃ xs, SqL K H1 a xs) ∧ R (Itl K a) H1
def iTup (K : PySem.W.Frag) (tl : TE) : TI := fun σ H R => tl σ H fun x H1 => ∃ a, x = .ref a ∧ (∃ xs, SqT K H1 a xs) ∧ R (Itt K a) H1
theorem pi_list {l : Expr} {tl : TE} (hl : PE X l tl) : PI X tg l (iList X.K tl) := by
  intro pins s σ H R I h
  refine thn (hl pins s σ H _ I h) fun v s1 ⟨x, H1, I1, r1, q1⟩ => ?_
  obtain ⟨a, e, ⟨xs, hq⟩, q⟩ := q1
  subst e
  cases r1
  obtain ⟨its, rv, p, hz⟩ := I1.list hq
  refine wpAny_pyIter_list p.isList ?_
  refine ⟨s1.heap.objs.size, [s1.heap.objs.size], _, _, H1, rfl, I1.kept (t' := s1.toks) fun b o e => Heap.get?_push_of_some _ e, turn_list a _, ⟨_, Heap.get?_push_size _ rfl, rfl, rfl⟩, fun b hb => ?_, q⟩
  have e : b = s1.heap.objs.size := by simpa using hb
  subst e
  exact I1.fpOk (Nat.le_refl _) (I1.hok.fresh (Nat.le_refl _))
theorem pi_tup {l : Expr} {tl : TE} (hl : PE X l tl) : PI X tg l (iTup X.K tl) := by
  intro pins s σ H R I h
  refine thn (hl pins s σ H _ I h) fun v s1 ⟨x, H1, I1, r1, q1⟩ => ?_
  obtain ⟨a, e, ⟨xs, hq⟩, q⟩ := q1
  subst e
  cases r1
  obtain ⟨its, rv, p, hz⟩ := I1.tuple hq
  refine wpAny_pyIter_tuple (show s1.heap.IsTuple a its.toArray from p) ?_
  refine ⟨s1.heap.objs.size, [s1.heap.objs.size], _, _, H1, rfl, I1.kept (t' := s1.toks) fun b o e => Heap.get?_push_of_some _ e, turn_tuple a _, ⟨_, Heap.get?_push_size _ rfl, rfl, rfl⟩, fun b hb => ?_, q⟩
  have e : b = s1.heap.objs.size := by simpa using hb
  subst e
  exact I1.fpOk (Nat.le_refl _) (I1.hok.fresh (Nat.le_refl _))
theorem range_it {pins : List (Addr × Obj)} {σ : St} {H : Hp} {s : Shared} {R : It → Hp → Prop} {E : Value → Shared → Prop} {lo hi : Int} {t u v : Tok} {tk : Nat} (I : Inv X pins σ H s) (h1 : -(2 ^ 62) ≤ lo) (h2 : lo < 2 ^ 62) (h3 : -(2 ^ 62) ≤ hi) (h4 : hi < 2 ^ 62)
    (q : R (Itr lo (hi - lo).toNat) H) : wpAny (model X.prog X.w) X.A (pyIter (.ref s.heap.objs.size)) (PIE X pins σ tg R) E { s with heap := s.heap.push { cls := .type "range", data := .fields #[.int lo t, .int hi u, .int 1 v] }, toks := tk } := by
  refine wpAny_pyIter_range (IsRange.new ..) (small_one h1 h2 h3 h4) ?_
  have I1 : Inv X pins σ H { s with heap := s.heap.push { cls := .type "range", data := .fields #[.int lo t, .int hi u, .int 1 v] }, toks := tk } := I.kept fun b o e => Heap.get?_push_of_some _ e
  refine ⟨(s.heap.push { cls := .type "range", data := .fields #[.int lo t, .int hi u, .int 1 v] }).objs.size, [(s.heap.push { cls := .type "range", data := .fields #[.int lo t, .int hi u, .int 1 v] }).objs.size], _, _, H, rfl,
    I1.kept (t' := tk) fun b o e => Heap.get?_push_of_some _ e, turn_range _ lo (hi - lo).toNat, ?_, fun b hb => ?_, q⟩
  · have e1 : lo + ((0 : Nat) : Int) * 1 = lo := by simp
    have e2 : (((hi - lo).toNat : Nat) : Int) - ((0 : Nat) : Int) = Builtin.Range.rangeSize lo hi 1 := by rw [rangeSize_one]; split <;> omega
    show IsRangeIter _ _ (lo + ((0 : Nat) : Int) * 1) ((((hi - lo).toNat : Nat) : Int) - ((0 : Nat) : Int)) 1
    rw [e1, e2]
    exact Heap.get?_push_size _ rfl
  · have e : b = (s.heap.push { cls := .type "range", data := .fields #[.int lo t, .int hi u, .int 1 v] }).objs.size := by simpa using hb
    subst e
    exact I1.fpOk (Nat.le_refl _) (I1.hok.fresh (Nat.le_refl _))
def iRng1 (ta : TA) : TI := fun σ H R => ta σ H fun vs H1 => ∃ j : Int, vs = [.int j] ∧ -(2 ^ 62) ≤ j ∧ j < 2 ^ 62 ∧ R (Itr 0 j.toNat) H1
def iRng2 (ta : TA) : TI := fun σ H R => ta σ H fun vs H1 => ∃ i j : Int, vs = [.int i, .int j] ∧ (-(2 ^ 62) ≤ i ∧ i < 2 ^ 62 ∧ -(2 ^ 62) ≤ j ∧ j < 2 ^ 62) ∧ R (Itr i (j - i).toNat) H1
theorem pi_range1 {a : Expr} {ta : TA} {p pos : Pos} (hg : Gl X "range") (hm : X.mg "range" = none) (ha : PA X [a] ta) (hs : starEach [a] X.env = [(false, eval a X.env)] := by rfl) : PI X tg (.Call (.Name "range" p) [a] [] pos) (iRng1 ta) := by
  intro pins s σ H R I h
  refine Call_ (ld_blt I hg hm boot_range (PyProof.Rows.callWith_type1 (thn (ha pos pins s σ H _ I h) fun us s1 ⟨vs, H1, I1, r1, q1⟩ => ?_) hs rfl))
  obtain ⟨j, e, q1, q2, q⟩ := q1
  subst e
  cases r1 with
  | cons r rr =>
    cases rr
    obtain ⟨t, rfl⟩ := r
    exact call_range_1 (range_it I1 (by omega) (by omega) q1 q2 (by simpa using q))
theorem pi_range2 {a b : Expr} {ta : TA} {p pos : Pos} (hg : Gl X "range") (hm : X.mg "range" = none) (ha : PA X [a, b] ta) (hs : starEach [a, b] X.env = [(false, eval a X.env), (false, eval b X.env)] := by rfl) (hs2 : starEach [b] X.env = [(false, eval b X.env)] := by rfl) :
    PI X tg (.Call (.Name "range" p) [a, b] [] pos) (iRng2 ta) := by
  intro pins s σ H R I h
  refine Call_ (ld_blt I hg hm boot_range (PyProof.Rows.callWith_type1 (thn (ha pos pins s σ H _ I h) fun us s1 ⟨vs, H1, I1, r1, q1⟩ => ?_) (by rw [hs, hs2]) (by rw [hs2]; rfl)))
  obtain ⟨i, j, e, ⟨q1, q2, q3, q4⟩, q⟩ := q1
  subst e
  cases r1 with
  | cons r rr =>
    cases rr with
    | cons r' rr =>
      cases rr
      obtain ⟨t, rfl⟩ := r
      obtain ⟨t', rfl⟩ := r'
      exact call_range_2 (range_it I1 q1 q2 q3 q4 q)
def tFor (wi : TI) (g : TG) (tb : TS) : TS := fun D σ H => wi σ H fun J H1 => ∃ W : Nat → Nat → St → Hp → Prop, (∃ m, W 0 m σ H1) ∧ ∀ i m σ H, W i m σ H →
  (J.stop i H ∧ D.nx σ H) ∨ (J.go i H ∧ ∃ N : St → Hp → Prop, (∀ σ' H', N σ' H' → ∃ m', m' < m ∧ W (i + 1) m' σ' H') ∧ ∀ x H', J.yld i H x H' → g x σ H' fun σ2 H2 => tb { D with nx := N, ct := N, bk := D.nx } σ2 H2)
def pinsAt (fp : List Addr) (h : Heap) : List (Addr × Obj) := fp.filterMap fun b => (h.get? b).map fun o => (b, o)
theorem mem_pinsAt {fp : List Addr} {h : Heap} {b : Addr} {o : Obj} (hb : b ∈ fp) (e : h.get? b = some o) : (b, o) ∈ pinsAt fp h := List.mem_filterMap.mpr ⟨b, hb, by rw [e]; rfl⟩
theorem of_pinsAt {fp : List Addr} {h : Heap} {p : Addr × Obj} (hp : p ∈ pinsAt fp h) : p.1 ∈ fp ∧ h.get? p.1 = some p.2 := by
  obtain ⟨b, hb, e⟩ := List.mem_filterMap.mp hp
  cases q : h.get? b with
  | none => rw [q] at e; cases e
  | some o =>
    rw [q] at e
    have e' : (b, o) = p := Option.some.inj e
    subst e'
    exact ⟨hb, q⟩
theorem Inv.pinned {pins : List (Addr × Obj)} {σ : St} {H : Hp} {s : Shared} {fp : List Addr} (I : Inv X pins σ H s) (hf : ∀ b ∈ fp, FpOk X pins H b) (ho : ∀ b ∈ fp, ∃ o, s.heap.get? b = some o ∧ ∀ v, o.data ≠ .cell v) : Inv X (pins ++ pinsAt fp s.heap) σ H s :=
  I.pins_of fun p hp => (List.mem_append.mp hp).elim (fun z => I.pin p (List.mem_append_right _ z)) fun z => by
    obtain ⟨hb, e⟩ := of_pinsAt z
    obtain ⟨f0, f1, f2, _⟩ := hf p.1 hb
    obtain ⟨o, e', d⟩ := ho p.1 hb
    rw [e] at e'; cases e'
    exact ⟨e, f0, f1, f2, d⟩
theorem Inv.unpinned {pins pl : List (Addr × Obj)} {σ : St} {H : Hp} {s : Shared} (I : Inv X (pins ++ pl) σ H s) : Inv X pins σ H s := I.pins_of fun p hp => I.pin p (List.mem_append_right _ (List.mem_append_left _ hp))
theorem ps_for {iter : Expr} {body : List Stmt} {wi : TI} {g : TG} {tb : TS} {pos : Pos} (hp : PassesOwn (model X.prog X.w) X.A X.env X.xe) (hc : X.calm = true) (hi : PI X tg iter wi) (hg : PG X tg g) (hb : PSs X body tb)
    (hs : ∀ x, foldedSetIterable iter X.env x = pure x := by intro _; rfl) : PS X (.For tg iter body [] pos) (tFor wi g tb) := by
  intro pins s σ H D I h
  refine wpAny_For (thn (hi pins s σ H _ I h) fun v s1 h1 => thn h1 fun itv s2 h2 => ?_) hs
  obtain ⟨it, fp, tn, J, H2, e, I2, T, st2, f2, W, ⟨m0, w0⟩, turn⟩ := h2
  subst e
  have stat : ∀ {H' : Hp}, (∀ b ∈ fp, H' b = none) → ∀ b ∈ fp, FpOk X pins H' b := fun hn b hb => ⟨hn b hb, (f2 b hb).2⟩
  refine codeAny_forLoop_any (fun n s' => ∃ i σ' H', Inv X pins σ' H' s' ∧ tn i s'.heap ∧ (∀ b ∈ fp, H' b = none) ∧ W i n σ' H') ?_ m0 ⟨0, σ, H2, I2, st2, fun b hb => (f2 b hb).1, w0⟩
  rintro n s3 ⟨i, σ3, H3, I3, st3, fr3, w3⟩
  rcases turn i n σ3 H3 w3 with ⟨stop, qn⟩ | ⟨go, N, hN, step⟩
  · refine wpAny_passesOwn hp (thn (T.done X rfl rfl rfl hc i pins s3 σ3 H3 X.xe I3 (stat fr3) st3 stop) fun r s4 ⟨hr, I4⟩ => ?_)
    subst hr
    exact wpAny_execs_nil ⟨σ3, H3, I4, qn⟩
  · refine wpAny_passesOwn hp (thn (T.item X rfl rfl rfl hc i pins s3 σ3 H3 X.xe I3 (stat fr3) st3 go) fun r s4 ⟨u, hr, h4⟩ => ?_)
    subst hr
    refine wpAny_passesOwn hp (thn h4 fun _ s5 ⟨x, H5, I5, r5, y5, st5, fr5⟩ => ?_)
    have I5' := I5.pinned (stat fr5) (T.obj _ _ st5)
    refine wpAny_passesOwn hp (thn (hg _ s5 σ3 H5 x u _ I5' r5 (step x H5 y5)) fun _ s6 ⟨σ6, H6, I6, q6⟩ => ?_)
    refine wpAny_passesOwn hp (thn (hb _ s6 σ6 H6 _ I6 q6) fun f s7 q7 => ?_)
    have again : ∀ {σ7 : St} {H7 : Hp}, Inv X (pins ++ pinsAt fp s5.heap) σ7 H7 s7 → N σ7 H7 → ∃ m, m < n ∧ ∃ i σ' H', Inv X pins σ' H' s7 ∧ tn i s7.heap ∧ (∀ b ∈ fp, H' b = none) ∧ W i m σ' H' := fun {σ7 H7} I7 n7 => by
      obtain ⟨m', hm, w7⟩ := hN σ7 H7 n7
      refine ⟨m', hm, i + 1, σ7, H7, I7.unpinned, T.keep _ _ _ st5 fun b hb o e => (I7.pin (b, o) (List.mem_append_right _ (List.mem_append_right _ (mem_pinsAt hb e)))).1, fun b hb => ?_, w7⟩
      obtain ⟨o, e, d⟩ := T.obj _ _ st5 b hb
      exact (I7.pin (b, o) (List.mem_append_right _ (List.mem_append_right _ (mem_pinsAt hb e)))).2.1
    cases f with
    | next => obtain ⟨σ7, H7, I7, n7⟩ := q7; exact again I7 n7
    | cont => obtain ⟨σ7, H7, I7, n7⟩ := q7; exact again I7 n7
    | brk => obtain ⟨σ7, H7, I7, q7⟩ := q7; exact ⟨σ7, H7, I7.unpinned, q7⟩
    | ret v => obtain ⟨x7, σ7, H7, I7, r7, q7⟩ := q7; exact ⟨x7, σ7, H7, I7.unpinned, r7, q7⟩
end
end L2
namespace L2
open PySem PySem.Spec PyProof.Rows
abbrev R2 := V → V → Hp → VK → Prop
def OpR (X : Cx) (f : Value → Value → Sem Value) (r : R2) : Prop :=
  ∀ (pins : List (Addr × Obj)) (s : Shared) (σ : St) (H : Hp) (x y : V) (v u : Value) (Q : VK), Inv X pins σ H s → RelV x v → RelV y u → r x y H Q →
    wpAny (model X.prog X.w) X.A (f v u) (EP X pins σ Q) X.xe s
def UnR (X : Cx) (f : Value → Sem Value) (r : V → Hp → VK → Prop) : Prop :=
  ∀ (pins : List (Addr × Obj)) (s : Shared) (σ : St) (H : Hp) (x : V) (v : Value) (Q : VK), Inv X pins σ H s → RelV x v → r x H Q →
    wpAny (model X.prog X.w) X.A (f v) (EP X pins σ Q) X.xe s
def CallR (X : Cx) (f : Value) (r : List V → Hp → VK → Prop) : Prop :=
  ∀ (pins : List (Addr × Obj)) (s : Shared) (σ : St) (H : Hp) (xs : List V) (us : List Value) (Q : VK), Inv X pins σ H s → Vals xs us → r xs H Q →
    wpAny (model X.prog X.w) X.A (call f us) (EP X pins σ Q) X.xe s
def TruR (X : Cx) (r : V → Hp → (Bool → Hp → Prop) → Prop) : Prop :=
  ∀ (pins : List (Addr × Obj)) (s : Shared) (σ : St) (H : Hp) (x : V) (v : Value) (Q : Bool → Hp → Prop), Inv X pins σ H s → RelV x v → r x H Q →
    wpAny (model X.prog X.w) X.A (truthy v) (TP X pins σ Q) X.xe s
def tOp (r : R2) (ta tb : TE) : TE := fun σ H Q => ta σ H fun x H1 => tb σ H1 fun y H2 => r x y H2 Q
def tUn (r : V → Hp → VK → Prop) (ta : TE) : TE := fun σ H Q => ta σ H fun x H1 => r x H1 Q
def rI (C : Int → Int → Prop) (g : Int → Int → V) : R2 := fun x y H Q => ∃ i j, x = .int i ∧ y = .int j ∧ C i j ∧ Q (g i j) H
def rI0 (g : Int → Int → V) : R2 := fun x y H Q => ∃ i j, x = .int i ∧ y = .int j ∧ Q (g i j) H
def rU (g : Int → V) : V → Hp → VK → Prop := fun x H Q => ∃ i, x = .int i ∧ Q (g i) H
section
variable {X : Cx} {a b c : Expr} {ta tb tc : TE} {pos : Pos}
theorem binT (ha : PE X a ta) (hb : PE X b tb) {pins : List (Addr × Obj)} {s : Shared} {σ : St} {H : Hp} {R : V → V → Hp → Prop} (I : Inv X pins σ H s)
    (h : ta σ H fun x H1 => tb σ H1 fun y H2 => R x y H2) {Q : Value → Shared → Prop} {f : Value → Value → Sem Value}
    (hf : ∀ v u s2 x y H2, Inv X pins σ H2 s2 → RelV x v → RelV y u → R x y H2 → wpAny (model X.prog X.w) X.A (f v u) Q X.xe s2) :
    wpAny (model X.prog X.w) X.A (eval a X.env) (fun v s₁ => wpAny (model X.prog X.w) X.A (eval b X.env) (fun u s₂ => wpAny (model X.prog X.w) X.A (f v u) Q X.xe s₂) X.xe s₁) X.xe s := by
  refine thn (ha pins s σ H _ I h) fun v s1 ⟨x, H1, I1, r1, q1⟩ => ?_
  refine thn (hb pins s1 σ H1 _ I1 q1) fun u s2 ⟨y, H2, I2, r2, q2⟩ => ?_
  exact hf v u s2 x y H2 I2 r1 r2 q2
theorem pe_op {op : Operator} {r : R2} (ho : OpR X (binaryOp op) r) (ha : PE X a ta) (hb : PE X b tb) : PE X (.BinOp a op b pos) (tOp r ta tb) := by
  intro pins s σ H Q I h
  exact wpAny_BinOp (binT ha hb I h fun v u s2 x y H2 I2 rx ry q => ho pins s2 σ H2 x y v u Q I2 rx ry q)
theorem pe_un {op : UnaryOp} {r : V → Hp → VK → Prop} (ho : UnR X (unaryOp op) r) (ha : PE X a ta) : PE X (.UnaryOp op a pos) (tUn r ta) := by
  intro pins s σ H Q I h
  exact UnaryOp_ (thn (ha pins s σ H _ I h) fun v s1 ⟨x, H1, I1, r1, q1⟩ => ho pins s1 σ H1 x v Q I1 r1 q1)
theorem opI {f : Value → Value → Sem Value} {C : Int → Int → Prop} {g : Int → Int → Int}
    (rule : ∀ (i j : Int) (t u : Tok) (s : Shared) (Q : Value → Shared → Prop) (E : Value → Shared → Prop), C i j → Q (.int (g i j) s.toks) { s with toks := s.toks + 1 } → wpAny (model X.prog X.w) X.A (f (.int i t) (.int j u)) Q E s) :
    OpR X f (rI C fun i j => .int (g i j)) := by
  intro pins s σ H x y v u Q I rx ry h
  obtain ⟨i, j, rfl, rfl, hc, q⟩ := h
  obtain ⟨t, rfl⟩ := rx
  obtain ⟨t', rfl⟩ := ry
  exact rule i j t t' s _ _ hc ⟨.int (g i j), H, I.tok _, ⟨_, rfl⟩, q⟩
theorem opI0 {f : Value → Value → Sem Value} {g : Int → Int → Int}
    (rule : ∀ (i j : Int) (t u : Tok) (s : Shared) (Q : Value → Shared → Prop) (E : Value → Shared → Prop), Q (.int (g i j) s.toks) { s with toks := s.toks + 1 } → wpAny (model X.prog X.w) X.A (f (.int i t) (.int j u)) Q E s) :
    OpR X f (rI0 fun i j => .int (g i j)) := by
  intro pins s σ H x y v u Q I rx ry h
  obtain ⟨i, j, rfl, rfl, q⟩ := h
  obtain ⟨t, rfl⟩ := rx
  obtain ⟨t', rfl⟩ := ry
  exact rule i j t t' s _ _ ⟨.int (g i j), H, I.tok _, ⟨_, rfl⟩, q⟩
theorem opB0 {f : Value → Value → Sem Value} {g : Int → Int → Bool}
    (rule : ∀ (i j : Int) (t u : Tok) (s : Shared) (Q : Value → Shared → Prop) (E : Value → Shared → Prop), Q (.bool (g i j)) s → wpAny (model X.prog X.w) X.A (f (.int i t) (.int j u)) Q E s) :
    OpR X f (rI0 fun i j => .bl (g i j)) := by
  intro pins s σ H x y v u Q I rx ry h
  obtain ⟨i, j, rfl, rfl, q⟩ := h
  obtain ⟨t, rfl⟩ := rx
  obtain ⟨t', rfl⟩ := ry
  exact rule i j t t' s _ _ ⟨.bl (g i j), H, I, rfl, q⟩
def CDiv (i j : Int) : Prop := 0 < j ∧ j < 1073741824
def CMul (i j : Int) : Prop := (-(2 ^ 64) < i ∧ i < 2 ^ 64) ∨ (-(2 ^ 64) < j ∧ j < 2 ^ 64)
theorem CMul.ok {i j : Int} (h : CMul i j) : IntMulOk i j := by
  rcases h with ⟨h1, h2⟩ | ⟨h1, h2⟩
  · exact .of_left (intBits_le_64 h1 h2)
  · exact .of_right (intBits_le_64 h1 h2)
theorem op_add : OpR X (binaryOp .Add) (rI0 fun i j => .int (i + j)) := opI0 fun _ _ _ _ _ _ _ q => add_int q
theorem op_sub : OpR X (binaryOp .Sub) (rI0 fun i j => .int (i - j)) := opI0 fun _ _ _ _ _ _ _ q => sub_int q
theorem op_mul : OpR X (binaryOp .Mult) (rI CMul fun i j => .int (i * j)) := opI fun _ _ _ _ _ _ _ hc q => mul_int q hc.ok
theorem op_fdiv : OpR X (binaryOp .FloorDiv) (rI CDiv fun i j => .int (i / j)) := opI fun i j _ _ _ _ _ hc q => by
  have h1 : (0 : Int) < j := hc.1
  have h2 : j < 1073741824 := hc.2
  exact floordiv_int (by omega) (by rw [Int.fdiv_eq_ediv_of_nonneg i (by omega)]; exact q) (.inl (PyProof.noPylong_small (by omega)))
theorem op_mod : OpR X (binaryOp .Mod) (rI (fun _ j => 0 < j) fun i j => .int (i % j)) := opI fun i j _ _ _ _ _ hc q => by
  have h1 : (0 : Int) < j := hc
  exact mod_int' (by omega) (by rw [Int.fmod_eq_emod_of_nonneg i (by omega)]; exact q)
theorem unI {f : Value → Sem Value} {g : Int → Int}
    (rule : ∀ (i : Int) (t : Tok) (s : Shared) (Q : Value → Shared → Prop) (E : Value → Shared → Prop), Q (.int (g i) s.toks) { s with toks := s.toks + 1 } → wpAny (model X.prog X.w) X.A (f (.int i t)) Q E s) :
    UnR X f (rU fun i => .int (g i)) := by
  intro pins s σ H x v Q I rx h
  obtain ⟨i, rfl, q⟩ := h
  obtain ⟨t, rfl⟩ := rx
  exact rule i t s _ _ ⟨.int (g i), H, I.tok _, ⟨_, rfl⟩, q⟩
theorem un_neg : UnR X (unaryOp .USub) (rU fun i => .int (-i)) := unI fun _ _ _ _ _ q => neg_int q
end
section
variable {X : Cx} {a b c : Expr} {ta tb tc : TE} {pos : Pos}
theorem fin_bl {pins : List (Addr × Obj)} {σ : St} {H : Hp} {s : Shared} {Q : VK} {k k' : Bool} (I : Inv X pins σ H s) (q : Q (.bl k) H) (e : k = k') : EP X pins σ Q (.bool k') s := by
  subst e
  exact ⟨.bl k, H, I, rfl, q⟩
theorem op_le : OpR X (compareOp .LtE) (rI0 fun i j => .bl (decide (i ≤ j))) := opB0 fun _ _ _ _ _ _ _ q => le_int q
theorem op_notN : OpR X (compareOp .IsNot) (fun x y H Q => y = .non ∧ Q (.bl (!decide (x = .non))) H) := by
  intro pins s σ H x y v u Q I rx ry h
  obtain ⟨rfl, q⟩ := h
  cases ry
  refine isnot_none_gen (fin_bl I q ?_)
  cases x <;> first
    | (cases rx; rfl)
    | (obtain ⟨t, rfl⟩ := rx; rfl)
theorem OpR.or {f : Value → Value → Sem Value} {r r' : R2} (h : OpR X f r) (h' : OpR X f r') : OpR X f (fun x y H Q => r x y H Q ∨ r' x y H Q) := by
  intro pins s σ H x y v u Q I rx ry q
  rcases q with q | q
  · exact h pins s σ H x y v u Q I rx ry q
  · exact h' pins s σ H x y v u Q I rx ry q
theorem nomark (b : Expr) {op : CmpOp} (h : op ≠ .In := by decide) (h2 : op ≠ .NotIn := by decide) : behindInMarks op b = false := by
  have e1 : (op == CmpOp.In) = false := by cases op <;> first | rfl | exact absurd rfl h
  have e2 : (op == CmpOp.NotIn) = false := by cases op <;> first | rfl | exact absurd rfl h2
  cases b <;> simp [behindInMarks, e1, e2]
theorem pe_cmpR {op : CmpOp} {r : R2} (ho : OpR X (compareOp op) r) (ha : PE X a ta) (hb : PE X b tb) (hm : behindInMarks op b = false) : PE X (.Compare a [op] [b] pos) (tOp r ta tb) := by
  intro pins s σ H Q I h
  exact wpAny_Compare1 (binT ha hb I h fun v u s2 x y H2 I2 rx ry q => ho pins s2 σ H2 x y v u Q I2 rx ry q) hm
def tTest (t : TE) : TT := fun σ H Q => t σ H fun x H' => ∃ k, x = .bl k ∧ Q k H'
theorem pt_cmpR {op : CmpOp} {r : R2} (ho : OpR X (compareOp op) r) (ha : PE X a ta) (hb : PE X b tb) (hm : behindInMarks op b = false) : PT X (.Compare a [op] [b] pos) (tTest (tOp r ta tb)) := by
  intro pins s σ H Q I h
  refine wpAny_isTrue_Compare1 (thn (ha pins s σ H _ I h) fun v s1 ⟨x, H1, I1, r1, q1⟩ => thn (hb pins s1 σ H1 _ I1 q1) fun u s2 ⟨y, H2, I2, r2, q2⟩ =>
    thn (ho pins s2 σ H2 x y v u _ I2 r1 r2 q2) fun c s3 ⟨z, H3, I3, r3, k, e, q3⟩ => ?_) hm
  subst e
  cases r3
  exact wpAny_truthy_bool ⟨H3, I3, q3⟩
def tChain (r r' : R2) (ta tb tc : TE) : TE := fun σ H Q => ta σ H fun x H1 => tb σ H1 fun y H2 => r x y H2 fun z H3 => ∃ k, z = .bl k ∧
  (if k = true then tc σ H3 fun w' H4 => r' y w' H4 Q else Q (.bl false) H3)
theorem pe_chain {op op' : CmpOp} {r r' : R2} (ho : OpR X (compareOp op) r) (ho' : OpR X (compareOp op') r') (ha : PE X a ta) (hb : PE X b tb) (hc : PE X c tc)
    (hm : lastMarks [op, op'] [b, c] = false := by with_unfolding_all rfl) : PE X (.Compare a [op, op'] [b, c] pos) (tChain r r' ta tb tc) := by
  intro pins s σ H Q I h
  refine Compare_chain (thn (ha pins s σ H _ I h) fun v s1 ⟨x, H1, I1, r1, q1⟩ => chain_link (thn (hb pins s1 σ H1 _ I1 q1) fun u s2 ⟨y, H2, I2, r2, q2⟩ =>
    thn (ho pins s2 σ H2 x y v u _ I2 r1 r2 q2) fun d s3 ⟨z, H3, I3, r3, k, e, q3⟩ => ?_)) hm
  subst e
  cases r3
  refine wpAny_truthy_bool ?_
  cases k with
  | false => exact ite_ff ⟨.bl false, H3, I3, rfl, q3⟩
  | true => exact ite_tt (chain_last (thn (hc pins s3 σ H3 _ I3 q3) fun w' s4 ⟨z', H4, I4, r4, q4⟩ => ho' pins s4 σ H4 y z' u w' Q I4 r2 r4 q4))
def TruV (K : PySem.W.Frag) (x : V) (H : Hp) (k : Bool) : Prop :=
  match x with
  | .non => k = false
  | .bl b => k = b
  | .int i => k = (i != 0)
  | .str y => y.length ≤ sizeLine ∧ k = ((y.length : Int) != 0)
  | .byt y => y.size ≤ sizeLine ∧ k = ((y.size : Int) != 0)
  | .ref p => (∃ xs, SqL K H p xs ∧ k = !xs.isEmpty) ∨ (∃ xs, SqT K H p xs ∧ k = !xs.isEmpty) ∨ ∃ kvs, H p = some (.dK kvs) ∧ k = !kvs.isEmpty
  | _ => False
theorem isEmpty_kv {κ : Type} {kvs : List (κ × V)} {vs : List (κ × Value)} (r : KV kvs vs) : (!vs.isEmpty) = !kvs.isEmpty := by
  cases r <;> rfl
theorem isEmpty_of {xs : List V} {its : List Value} (r : Vals xs its) : (!its.toArray.isEmpty) = !xs.isEmpty := by
  cases r <;> simp
theorem line63 : (sizeLine : Nat) < 2 ^ 63 := by rw [sizeLine_eq]; decide
theorem tru_ok : TruR X (fun x H Q => ∃ k, TruV X.K x H k ∧ Q k H) := by
  intro pins s σ H x v Q I rx h
  obtain ⟨k, e, q⟩ := h
  have hl := line63
  have hs : sizeLine = 16777216 := sizeLine_eq
  cases x with
  | non =>
    cases rx
    have e' : k = false := e
    subst e'
    exact truthy_none ⟨H, I, q⟩
  | bl b =>
    cases rx
    have e' : k = b := e
    subst e'
    exact wpAny_truthy_bool ⟨H, I, q⟩
  | int i =>
    obtain ⟨t, rfl⟩ := rx
    have e' : k = (i != 0) := e
    subst e'
    exact PySem.P.truthy_int ⟨H, I, q⟩
  | str y =>
    obtain ⟨t, rfl⟩ := rx
    obtain ⟨hy, e'⟩ : y.length ≤ sizeLine ∧ k = ((y.length : Int) != 0) := e
    subst e'
    exact PySem.P.truthy_str (by omega) ⟨H, I.tok _, q⟩
  | byt y =>
    obtain ⟨t, rfl⟩ := rx
    obtain ⟨hy, e'⟩ : y.size ≤ sizeLine ∧ k = ((y.size : Int) != 0) := e
    subst e'
    exact PySem.W.truthy_bytes (by omega) ⟨H, I.tok _, q⟩
  | ref p =>
    cases rx
    have e' : (∃ xs, SqL X.K H p xs ∧ k = !xs.isEmpty) ∨ (∃ xs, SqT X.K H p xs ∧ k = !xs.isEmpty) ∨ ∃ kvs, H p = some (.dK kvs) ∧ k = !kvs.isEmpty := e
    rcases e' with ⟨xs, hx, e'⟩ | ⟨xs, hx, e'⟩ | ⟨kvs, hx, e'⟩
    · subst e'
      obtain ⟨its, r, pl, hz⟩ := I.list hx
      have hlen := r.length
      exact wpAny_truthy_list pl.isList (by simp only [List.size_toArray]; omega) ⟨H, I.tok _, by rw [isEmpty_of r]; exact q⟩
    · subst e'
      obtain ⟨its, r, pl, hz⟩ := I.tuple hx
      have hlen := r.length
      exact truthy_tuple pl (by simp only [List.size_toArray]; omega) ⟨H, I.tok _, by rw [isEmpty_of r]; exact q⟩
    · subst e'
      obtain ⟨hz, hS, vs, r, m⟩ : kvs.length ≤ sizeLine ∧ (p == sysModules) = false ∧ ∃ vs, KV kvs vs ∧ s.heap.DictOf (mixKind X.prog X.w) p vs := I.hok p _ hx
      have hlen : kvs.length = vs.length := Paired.length r
      exact wpAny_truthy_dict hS m (by omega) ⟨H, I.tok _, by rw [isEmpty_kv r]; exact q⟩
  | _ => exact (show False from e).elim
theorem pt_truth (ha : PE X a ta) (he : ∀ whole, isTrue a X.env whole = (do let v ← whole; standAt a.pos; holding [v] (truthy v))) :
    PT X a (fun σ H Q => ta σ H fun x H' => ∃ k, TruV X.K x H' k ∧ Q k H') := by
  intro pins s σ H Q I h
  exact isTrue_plain (thn (ha pins s σ H _ I h) fun v s1 ⟨x, H1, I1, r1, q1⟩ => tru_ok pins s1 σ H1 x v Q I1 r1 q1) (he _)
theorem op_add_str : OpR X (binaryOp .Add) (fun x y H Q => ∃ i j, x = .str i ∧ y = .str j ∧ i.length + j.length ≤ sizeLine ∧ Q (.str (i ++ j)) H) := by
  intro pins s σ H x y v u Q I rx ry h
  obtain ⟨i, j, rfl, rfl, hz, q⟩ := h
  obtain ⟨t, rfl⟩ := rx
  obtain ⟨t', rfl⟩ := ry
  exact add_str (fun t' tk => ⟨.str (i ++ j), H, I.tok _, ⟨_, rfl⟩, q⟩) hz
theorem vals1 {x : V} {us : List Value} (r : Vals [x] us) : ∃ u, us = [u] ∧ RelV x u := by
  cases r with
  | cons r1 r2 => cases r2; exact ⟨_, rfl, r1⟩
theorem vals2 {x y : V} {us : List Value} (r : Vals [x, y] us) : ∃ u w', us = [u, w'] ∧ RelV x u ∧ RelV y w' := by
  cases r with
  | cons r1 r2 =>
    cases r2 with
    | cons r3 r4 => cases r4; exact ⟨_, _, rfl, r1, r3⟩
theorem call_str_int : CallR X (.type "str") (fun xs H Q => ∃ i, xs = [.int i] ∧ i.natAbs.log2 < 1920 ∧ Q (.str (toString i)) H) := by
  intro pins s σ H xs us Q I r h
  obtain ⟨i, rfl, hz, q⟩ := h
  obtain ⟨u, rfl, t, rfl⟩ := vals1 r
  exact PySem.P.str_of_int hz ⟨.str _, H, I.tok _, ⟨_, rfl⟩, q⟩
end
end L2
namespace L2
open PySem PySem.Spec PyProof.Rows
structure ObjM (h : Heap) (x dx C : Addr) (mA : Str → Option Value) : Prop where
  obj : h.get? x = some (PySem.W.instObj C dx)
  ns : h.Ns1 dx mA
  ne : dx ≠ x
theorem lookIn_ns {h : Heap} {dx : Addr} {mA : Str → Option Value} (n : h.Ns1 dx mA) : ∃ od, h.get? dx = some od ∧ ∀ name, PySem.W.lookIn name od = some (mA name) := by
  obtain ⟨o, es, ep, ho, hd, hk, _, hm⟩ := n
  refine ⟨o, ho, fun name => ?_⟩
  have e := hm name
  unfold nsFind findBy at e
  rw [← Array.find?_toList] at e
  unfold PySem.W.lookIn
  rw [hd]
  dsimp only
  split
  · rename_i y q
    rw [q] at e
    exact congrArg some e
  · rename_i q
    rw [q] at e
    have a : es.toList.any (·.refKey) = false := by
      rw [List.any_eq_false]
      intro y hy
      obtain ⟨z, t, hkey⟩ := hk y (Array.mem_toList_iff.mp hy)
      simp [DictEntry.refKey, hkey]
    have a' : ¬ es.toList.any (·.refKey) = true := by rw [a]; exact Bool.false_ne_true
    rw [if_neg a']
    exact congrArg some e
theorem ObjM.look {h : Heap} {x dx C : Addr} {mA : Str → Option Value} (I : ObjM h x dx C mA) : ∃ od, PySem.W.InstAt h x (PySem.W.instObj C dx) C (some od) ∧ ∀ name, PySem.W.lookIn name od = some (mA name) :=
  let ⟨od, ho, hl⟩ := lookIn_ns I.ns
  ⟨od, ⟨I.obj, rfl, rfl, ho⟩, hl⟩
section
variable {prog : Program} {w : World} {A : Around} {E : Value → Shared → Prop} {s : Shared} {K : PySem.W.Frag} {x dx C f : Addr} {mA : Str → Option Value} {name : Str} {v : Value}
end
section
variable {P : Program} {w : World} {H H' : Hp} {h h' : Heap} {a C dx : Addr} {fs fs' : List (Str × V)}
theorem ins_get (hok : HOk P w H h) (e : H a = some (.ins C dx fs)) : ∃ mA, ObjM h a dx C mA ∧ (∀ f, RelO (fs.lookup f) (mA f)) ∧ PySem.Within mA (fs.map (·.1)) ∧ fs.length ≤ 1000 ∧ H dx = some (.own a) := by
  obtain ⟨d, z, ne, ob, mA, n, r, q⟩ := (show ObjOk P w H h a (.ins C dx fs) from hok a _ e)
  exact ⟨mA, ⟨ob, n, ne⟩, r, q, z, d⟩
end
structure Cls (K : PySem.W.Frag) (C : Addr) : Prop where
  pg : PySem.W.plainGet K C Str.empty = true
  hd : PySem.W.hasDictIn K C = true
  po : PySem.W.plainOver K C = true
  sa : PySem.W.findIn K (.ref C) "__setattr__" = some (some (.builtin "object.__setattr__"))
theorem Cls.get {K : PySem.W.Frag} {C : Addr} (c : Cls K C) (f : Str) : PySem.W.plainGet K C f = true := c.pg
section
variable {X : Cx} {pins : List (Addr × Obj)} {σ : St} {H : Hp} {s : Shared} {a C dx : Addr} {fs : List (Str × V)} {f : Str} {v : V} {A : Around} {E : Value → Shared → Prop}
end
section
variable {X : Cx} {o e value : Expr} {f : Str} {pos pos' tpos : Pos} {ta tv : TE}
end
section
variable {X : Cx} {pins : List (Addr × Obj)} {σ : St} {H : Hp} {s : Shared} {A : Around} {E : Value → Shared → Prop} {Q : Value → Shared → Prop} {c : Value} {b : Bool}
inductive TyOf (K : PySem.W.Frag) (H : Hp) : V → Value → Prop where
  | non : TyOf K H .non (.type "NoneType")
  | bl (x : Bool) : TyOf K H (.bl x) (.type "bool")
  | int (i : Int) : TyOf K H (.int i) (.type "int")
  | str (x : Str) : TyOf K H (.str x) (.type "str")
  | flt (x : UInt64) : TyOf K H (.flt x) (.type "float")
  | lst {a : Addr} {xs : List V} (e : H a = some (.lst xs)) : TyOf K H (.ref a) (.type "list")
  | frz {a : Addr} {o : Obj} {xs : List V} (e : H a = some (.frz o (.lst xs))) : TyOf K H (.ref a) (.type "list")
  | tup {a : Addr} {xs : List V} (e : H a = some (.tup xs)) : TyOf K H (.ref a) (.type "tuple")
  | dK {a : Addr} {kvs : List (Key × V)} (e : H a = some (.dK kvs)) : TyOf K H (.ref a) (.type "dict")
  | dT {a : Addr} {K' : PySem.W.Frag} {f : Nat → Bool} {kvs : List (NK × V)} (e : H a = some (.dT K' f kvs)) : TyOf K H (.ref a) (.type "dict")
  | ins {a C dx : Addr} {fs : List (Str × V)} (e : H a = some (.ins C dx fs)) (cl : Cls K C) (ha : PySem.W.findIn K (.ref C) "__class__" = some (some (.builtin "object.__class__")))
      (hn : PySem.W.specialIn K (.builtin "object.__class__") "__get__" = some (some (.builtin "getset_descriptor.__get__"))) (htk : PySem.W.takesIn K (.builtin "object.__class__") = some true)
      (hm : PySem.W.mroIn K C (.type "object") = some true) : TyOf K H (.ref a) (.ref C)
theorem isinst_ok {x : V} {u t : Value} (I : Inv X pins σ H s) (rx : RelV x u) (ty : TyOf X.K H x t) (e : PySem.W.kitOne X.K t c = some b) (h : ∀ tk, Q (.bool b) { s with toks := tk }) :
    wpAny (model X.prog X.w) A (call (.builtin "isinstance") [u, c]) Q E s := by
  cases ty with
  | non => cases (show u = Value.none from rx); exact PySem.W.kia_one PySem.W.kitx_none I.kIn True.intro e (fun z => nomatch z) h
  | bl y => cases (show u = Value.bool y from rx); exact PySem.W.kia_one PySem.W.kitx_bool I.kIn True.intro e (fun z => nomatch z) h
  | int i => obtain ⟨t, q⟩ := (show ∃ t, u = Value.int i t from rx); cases q; exact PySem.W.kia_one PySem.W.kitx_int I.kIn True.intro e (fun z => nomatch z) h
  | str y => obtain ⟨t, q⟩ := (show ∃ t, u = Value.str y t from rx); cases q; exact PySem.W.kia_one PySem.W.kitx_str I.kIn True.intro e (fun z => nomatch z) h
  | flt y => obtain ⟨t, q⟩ := (show ∃ t, u = Value.float y t from rx); cases q; exact PySem.W.kia_one PySem.W.kitx_float I.kIn True.intro e (fun z => nomatch z) h
  | @lst a xs ea =>
    cases (show u = Value.ref a from rx)
    obtain ⟨_, _, n, _, h1⟩ := (show ObjOk X.prog X.w H s.heap a (.lst xs) from I.hok a _ ea)
    exact PySem.W.kia_one PySem.W.kitx_list I.kIn ⟨_, h1, rfl⟩ e (fun z => nomatch z) h
  | @frz a ob xs ea =>
    cases (show u = Value.ref a from rx)
    obtain ⟨_, _, _, n, _, h1⟩ := (show ObjOk X.prog X.w H s.heap a (.frz ob (.lst xs)) from I.hok a _ ea)
    exact PySem.W.kia_one PySem.W.kitx_list I.kIn ⟨_, h1, rfl⟩ e (fun z => nomatch z) h
  | @tup a xs ea =>
    cases (show u = Value.ref a from rx)
    obtain ⟨_, _, _, p⟩ := (show ObjOk X.prog X.w H s.heap a (.tup xs) from I.hok a _ ea)
    obtain ⟨o, h1, h2, _⟩ := p
    exact PySem.W.kia_one PySem.W.kitx_tuple I.kIn ⟨o, h1, h2⟩ e (fun z => nomatch z) h
  | @dK a kvs ea =>
    cases (show u = Value.ref a from rx)
    obtain ⟨_, _, vs, _, p⟩ := (show ObjOk X.prog X.w H s.heap a (.dK kvs) from I.hok a _ ea)
    obtain ⟨o, es, ep, h1, h2, _⟩ := p
    exact PySem.W.kia_one PySem.W.kitx_dict I.kIn ⟨o, h1, h2.1⟩ e (fun z => nomatch z) h
  | @dT a K' f kvs ea =>
    cases (show u = Value.ref a from rx)
    obtain ⟨_, _, xs, _, o, es, ep, h1, h2, _⟩ := (show ObjOk X.prog X.w H s.heap a (.dT K' f kvs) from I.hok a _ ea)
    exact PySem.W.kia_one PySem.W.kitx_dict I.kIn ⟨o, h1, h2.1⟩ e (fun z => nomatch z) h
  | @ins a C dx fs ea cl ha hn htk hm =>
    cases (show u = Value.ref a from rx)
    obtain ⟨mA, O, _⟩ := ins_get I.hok ea
    obtain ⟨od, J, _⟩ := O.look
    exact PySem.W.kia_one (PySem.W.kitx_own (cl.get _) cl.hd ha hn htk hm) I.kIn J e (fun z => nomatch z) h
end
end L2
namespace L2
open PySem PySem.Spec PyProof.Rows
structure Room (k : Nat) (A : Around) : Prop where
  hd : A.handled = none
  dp : A.depth + 3 * k + 5 < recursionLimit
  un : A.units + 16 * k + 200 < cLine
theorem Room.mono {j k : Nat} {A : Around} (r : Room k A) (h : j ≤ k) : Room j A := ⟨r.hd, by have := r.dp; omega, by have := r.un; omega⟩
theorem Room.deeper {k : Nat} {A : Around} (r : Room (k + 1) A) (env : Env) : Room k (A.deeper env) :=
  ⟨r.hd, by have := r.dp; show A.depth + 1 + 3 * k + 5 < _; omega, by have := r.un; show A.units + 3 + 16 * k + 200 < _; omega⟩
theorem Room.depth {k : Nat} {A : Around} (r : Room k A) : A.depth < recursionLimit := by have := r.dp; omega
theorem Room.units {k : Nat} {A : Around} (r : Room k A) : A.units + 64 < cLine := by have := r.un; omega
def tNil : TA := fun _ H Q => Q [] H
def tCons (ta : TE) (tr : TA) : TA := fun σ H Q => ta σ H fun x H1 => tr σ H1 fun xs H2 => Q (x :: xs) H2
section
variable {X : Cx} {e : Expr} {es : List Expr} {te : TE} {t : TA} {pos : Pos}
theorem pa_nil : PA X [] tNil := fun _ _ _ _ H Q I h => Calls.spliced_nil ⟨[], H, I, .nil, h⟩
theorem pa_cons (ha : PE X e te) (hr : PA X es t) (hs : starEach (e :: es) X.env = (false, eval e X.env) :: starEach es X.env := by rfl) : PA X (e :: es) (tCons te t) := by
  intro pos pins s σ H Q I h
  rw [hs]
  show wpAny _ _ (spliced ((false, eval e X.env) :: backTo pos (starEach es X.env))) _ _ s
  refine Calls.spliced_cons (thn (ha pins s σ H _ I h) fun u s1 ⟨x, H1, I1, r1, q1⟩ => ?_)
  exact thn (hr pos pins s1 σ H1 _ I1 q1) fun us s2 ⟨xs, H2, I2, r2, q2⟩ => ⟨x :: xs, H2, I2, .cons r1 r2, q2⟩
def tTup (t : TA) : TE := fun σ H Q => t σ H fun xs H1 => xs.length ≤ sizeLine ∧ ∀ p, H1 p = none → Q (.ref p) (upd H1 p (.tup xs))
def tLst (t : TA) : TE := fun σ H Q => t σ H fun xs H1 => xs.length ≤ sizeLine ∧ ∀ p, H1 p = none → Q (.ref p) (upd H1 p (.lst xs))
theorem pe_tup {x1} (h : PA X es t) : PE X (.Tuple es x1 pos) (tTup t) := by
  intro pins s σ H Q I hq
  refine wpAny_Tuple_spliced (thn (h pos pins s σ H _ I hq) fun us s1 ⟨xs, H1, I1, r, z, q⟩ => ⟨by rw [← r.length]; exact z, ?_⟩)
  have hf : H1 s1.heap.objs.size = none := I1.hok.fresh (Nat.le_refl _)
  refine ⟨.ref s1.heap.objs.size, upd H1 s1.heap.objs.size (.tup xs), I1.laid (t' := s1.toks) (fun b u e => Heap.get?_push_of_some _ e) (Nat.le_refl _) ?_, rfl, q _ hf⟩
  exact ⟨z, us, r, ⟨_, Heap.get?_push_size _ rfl, rfl, _, rfl⟩⟩
theorem pe_lst (h : PA X es t) : PE X (.List es pos) (tLst t) := by
  intro pins s σ H Q I hq
  refine wpAny_List_spliced (thn (h pos pins s σ H _ I hq) fun us s1 ⟨xs, H1, I1, r, z, q⟩ => ⟨by rw [← r.length]; exact z, ?_⟩)
  have hf : H1 s1.heap.objs.size = none := I1.hok.fresh (Nat.le_refl _)
  refine ⟨.ref s1.heap.objs.size, upd H1 s1.heap.objs.size (.lst xs), I1.laid (t' := s1.toks) (fun b u e => Heap.get?_push_of_some _ e) (Nat.le_refl _) ?_, rfl, q _ hf⟩
  exact ⟨z, us, 0, r, Heap.get?_push_size _ rfl⟩
end
abbrev Sp := List V → Hp → VK → XK → Prop
abbrev CXT := List Env → Hp → Shared → XK → Value → Shared → Prop
structure Env0 (P : Program) (w : World) (K : PySem.W.Frag) (mg : Str → Option Value) (base : Heap) (A : Around) (outer : List Env) (s : Shared) (H : Hp) : Prop where
  frames : A.frames = some outer
  mod : Mod K mg base
  bs : ∀ b o, base.get? b = some o → s.heap.get? b = some o ∧ H b = none
  bsz : base.objs.size ≤ s.heap.objs.size
  funs : s.heap.FunFrames base outer
  frf : ∀ b ∈ frs outer, H b = none
  hok : HOk P w H s.heap
  bare : AllBare s.gens
def CE (outer : List Env) (P : Program) (w : World) (H : Hp) (s : Shared) (Q : VK) (u : Value) (s' : Shared) : Prop :=
  ∃ v H', s'.os = s.os ∧ AllBare s'.gens ∧ Un (frs outer) [] H H' s.heap s'.heap ∧ HOk P w H' s'.heap ∧ RelV v u ∧ Q v H'
def CR (CX : CXT) (outer : List Env) (P : Program) (w : World) (H : Hp) (s : Shared) (Q : VK) (E : XK) (r : Result) (s' : Shared) : Prop :=
  match r with
  | .ok (.ret u) => CE outer P w H s Q u s'
  | .ok _ => False
  | .error e => CX outer H s E e s'
structure FnOk (P : Program) (w : World) (K : PySem.W.Frag) (mg : Str → Option Value) (base : Heap) (CX : CXT) (k : Nat) (f : Addr) (fd : FuncData) (ps : List Str) (sp : Sp) : Prop where
  len : ∀ vs H Q E, sp vs H Q E → vs.length = ps.length
  run : ∀ (A : Around) (outer : List Env) (s : Shared) (H : Hp) (args : Args) (us : List Value) (vs : List V) (Q : VK) (E : XK), Room k A → Env0 P w K mg base A outer s H → BindsTo s fd args (ps.zip us) → Vals vs us → sp vs H Q E →
    codeAny (model P w) A (.call (.ref f) args) (CR CX outer P w H s Q E) s
section
variable {X : Cx} {pins : List (Addr × Obj)} {σ : St} {H : Hp} {s s' : Shared}
theorem Inv.env0 (I : Inv X pins σ H s) : Env0 X.prog X.w X.K X.mg X.base X.A X.stack s H :=
  ⟨I.ok.frames, I.ok.mod, I.bs, Nat.le_trans I.ok.bsz I.sz, I.stack, I.stkFree, I.hok, I.bare⟩
theorem Inv.after {Q : VK} {u : Value} (I : Inv X pins σ H s) (h : CE X.stack X.prog X.w H s Q u s') : EP X pins σ Q u s' := by
  obtain ⟨v, H', os, bare, un, hok, r, q⟩ := h
  obtain ⟨hh, g, d, t, os'⟩ := s'
  obtain rfl : os' = s.os := os
  exact ⟨v, H', I.call (h' := hh) (g' := g) (d' := d) (t' := t) (ch := []) un hok bare (fun b z => absurd z (by simp)), r, q⟩
end
def tCall (sp : Sp) (dvs : List V) (E : XK) (t : TA) : TE := fun σ H Q => t σ H fun vs H1 => sp (vs ++ dvs) H1 Q E
def Binds (K : PySem.W.Frag) (fd : FuncData) (ps : List Str) (ds : List Value) : Prop :=
  ∀ (s : Shared) (us : List Value), K.In s.heap → (us ++ ds).length = ps.length → BindsTo s fd ⟨us, []⟩ (ps.zip (us ++ ds))
theorem Binds.all {K : PySem.W.Frag} {fd : FuncData} {ps : List Str} (h : ∀ us : List Value, us.length = ps.length → bindArgs fd ⟨us, []⟩ = pure (ps.zip us)) : Binds K fd ps [] := fun s us _ hl => by
  rw [List.append_nil] at hl ⊢
  exact .of_eq (h us hl)
def Passes (CX : CXT) (X : Cx) (E : XK) : Prop := ∀ (pins : List (Addr × Obj)) (σ : St) (H : Hp) (s : Shared) (e : Value) (s' : Shared), Inv X pins σ H s → CX X.stack H s E e s' → X.xe e s'
section
variable {X : Cx} {CX : CXT} {k : Nat} {f C : Addr} {fd : FuncData} {ps : List Str} {sp : Sp} {dvs : List V} {ds : List Value} {E : XK} {x m : Str} {p pos apos : Pos} {e o : Expr} {es : List Expr} {ta : TE} {t : TA}
theorem run_fn {pins : List (Addr × Obj)} {σ : St} {H : Hp} {s : Shared} {Q : VK} {us : List Value} {vs : List V} (F : FnOk X.prog X.w X.K X.mg X.base CX k f fd ps sp) (hr : Room k X.A) (hb : Binds X.K fd ps ds) (hd : Vals dvs ds) (hx : Passes CX X E)
    (I : Inv X pins σ H s) (r : Vals vs us) (h : sp (vs ++ dvs) H Q E) : wpAny (model X.prog X.w) X.A (call (.ref f) us) (EP X pins σ Q) X.xe s := by
  have r2 : Vals (vs ++ dvs) (us ++ ds) := r.append hd
  have hl : (us ++ ds).length = ps.length := by rw [← r2.length]; exact F.len _ _ _ _ h
  refine wpAny_call (codeAny_mono (F.run X.A X.stack s H ⟨us, []⟩ (us ++ ds) (vs ++ dvs) Q E hr I.env0 (hb s us I.kIn hl) r2 h) fun r s' hq => ?_)
  cases r with
  | error e => exact hx pins σ H s e s' I hq
  | ok fl =>
    cases fl with
    | ret u => exact I.after hq
    | next => exact False.elim hq
    | brk => exact False.elim hq
    | cont => exact False.elim hq
theorem pe_call (F : FnOk X.prog X.w X.K X.mg X.base CX k f fd ps sp) (hr : Room k X.A) (hg : Gl X x) (hm : X.mg x = some (.ref f)) (hk : PySem.W.keepIn X.K (.ref f) = true) (hb : Binds X.K fd ps ds) (hd : Vals dvs ds) (hx : Passes CX X E)
    (ha : PA X (e :: es) t) (hdb : (x == ("__debug__" : Str)) = false := by decide) (he : starEach (e :: es) X.env = (false, eval e X.env) :: starEach es X.env := by rfl) (hpl : (backTo pos (starEach es X.env)).any (·.1) = false := by rfl) :
    PE X (.Call (.Name x p) (e :: es) [] pos) (tCall sp dvs E t) := by
  intro pins s σ H Q I h
  refine wpAny_Call_Name_kw (ld_glob I hg hm ?_ hdb)
  refine PySem.W.callWith_K (h₀ := X.base) I.ok.mod.kin hk (thn (ha pos pins s σ H _ I h) fun us s1 ⟨vs, H1, I1, r, q⟩ => ⟨I1.kIn, ?_⟩) he hpl
  exact run_fn F hr hb hd hx I1 r q
end
section
variable {X : Cx} {CX : CXT} {k : Nat} {f C : Addr} {fd : FuncData} {ps ks : List Str} {sp : Sp} {E : XK} {x m : Str} {p pos apos kpos : Pos} {e o : Expr} {es : List Expr} {kws : List Keyword} {te ta : TE} {t tk : TA} {nm : Option Str}
variable {g : List Value → List Value → List Value} {gV : List V → List V → List V}
end
structure FnScope (N P : List Str) (sc : Scope) : Prop where
  kind : sc.kind = .function
  co : sc.isCoroutine = false
  gen : sc.isGenerator = false
  nd : N.Nodup
  pre : N.take P.length = P
  par : ∀ x ∈ P, sc.names.lookup x = some .local ∨ sc.names.lookup x = some .cell
  nofree : ∀ y ∈ sc.names, y.2 ≠ .free
theorem bindL_out {kindOf : Str → Option NameKind} {x : Str} : ∀ {binds : List (Str × Value)} {m : Str → Option Value}, (∀ v, (x, v) ∉ binds) → bindL kindOf binds m x = m x
  | [], _, _ => rfl
  | (n, v) :: r, m, h => by
    unfold bindL
    rw [bindL_out fun w hw => h w (List.mem_cons_of_mem _ hw)]
    split
    · have : x ≠ n := by rintro rfl; exact h v List.mem_cons_self
      simp [this]
    · rfl
theorem bindC_out {kindOf : Str → Option NameKind} {x : Str} : ∀ {binds : List (Str × Value)} {m : Str → Option Value}, (∀ v, (x, v) ∉ binds) → bindC kindOf binds m x = m x
  | [], _, _ => rfl
  | (n, v) :: r, m, h => by
    unfold bindC
    rw [bindC_out fun w hw => h w (List.mem_cons_of_mem _ hw)]
    split
    · rfl
    · have : x ≠ n := by rintro rfl; exact h v List.mem_cons_self
      simp [this]
theorem bindL_get {kindOf : Str → Option NameKind} {x : Str} {v : Value} : ∀ {P : List Str} {vs : List Value} {i : Nat} {m : Str → Option Value}, P.Nodup → P[i]? = some x → vs[i]? = some v → kindOf x = some .local →
    bindL kindOf (P.zip vs) m x = some v
  | [], _, _, _, _, h, _, _ => by simp at h
  | _ :: _, [], _, _, _, _, h, _ => by simp at h
  | p :: P, w :: vs, 0, m, nd, h1, h2, hk => by
    simp at h1 h2; subst h1; subst h2
    show bindL kindOf ((p, w) :: P.zip vs) m p = _
    unfold bindL
    rw [bindL_out fun v hv => (List.nodup_cons.mp nd).1 (List.of_mem_zip hv).1, if_pos hk]
    simp
  | p :: P, w :: vs, i + 1, m, nd, h1, h2, hk => by
    show bindL kindOf ((p, w) :: P.zip vs) m x = _
    unfold bindL
    exact bindL_get (i := i) (List.nodup_cons.mp nd).2 (by simpa using h1) (by simpa using h2) hk
theorem bindC_get {kindOf : Str → Option NameKind} {x : Str} {v : Value} : ∀ {P : List Str} {vs : List Value} {i : Nat} {m : Str → Option Value}, P.Nodup → P[i]? = some x → vs[i]? = some v → kindOf x ≠ some .local →
    bindC kindOf (P.zip vs) m x = some v
  | [], _, _, _, _, h, _, _ => by simp at h
  | _ :: _, [], _, _, _, _, h, _ => by simp at h
  | p :: P, w :: vs, 0, m, nd, h1, h2, hk => by
    simp at h1 h2; subst h1; subst h2
    show bindC kindOf ((p, w) :: P.zip vs) m p = _
    unfold bindC
    rw [bindC_out fun v hv => (List.nodup_cons.mp nd).1 (List.of_mem_zip hv).1, if_neg hk]
    simp
  | p :: P, w :: vs, i + 1, m, nd, h1, h2, hk => by
    show bindC kindOf ((p, w) :: P.zip vs) m x = _
    unfold bindC
    exact bindC_get (i := i) (List.nodup_cons.mp nd).2 (by simpa using h1) (by simpa using h2) hk
def start (N : List Str) (vs : List V) : St := vs.map some ++ List.replicate (N.length - vs.length) none
def cxOf (CX : CXT) (P : Program) (w : World) (K : PySem.W.Frag) (mg : Str → Option Value) (base : Heap) (N : List Str) (qual : Str) (scope : Scope) (f : Addr) (cd : Value) (A : Around) (outer : List Env) (s : Shared) (H : Hp) (E : XK) : Cx where
  prog := P
  w := w
  K := K
  mg := mg
  base := base
  A := A.deeper (envOfC qual scope s.heap.objs.size f cd)
  N := N
  s₀ := s
  H₀ := H
  env := envOfC qual scope s.heap.objs.size f cd
  outer := outer
  stack := envOfC qual scope s.heap.objs.size f cd :: outer
  ex := []
  calm := true
  fn := fun _ => true
  pn := []
  xe := fun e s' => wpAny (model P w) (A.deeper (envOfC qual scope s.heap.objs.size f cd)) (leaving (envOfC qual scope s.heap.objs.size f cd) e) (fun _ s'' => CX outer H s E e s'') (fun e' s'' => CX outer H s E e' s'') s'
theorem cell_has {sc : Scope} {n : Nat} {x : Str} (h : sc.names.lookup x = some .cell) : ∃ c, (cellsFrom n sc.names []).lookup x = some c := by
  have q := PySem.W.cellsFrom_some sc.names n [] (.inl h)
  exact Option.isSome_iff_exists.mp q
theorem inv_start {CX : CXT} {P : Program} {w : World} {K : PySem.W.Frag} {mg : Str → Option Value} {base : Heap} {N ps : List Str} {qual : Str} {scope : Scope} {f : Addr} {cd : Value} {A : Around} {outer : List Env} {s s1 : Shared} {H : Hp} {E : XK} {us : List Value} {vs : List V}
    (S : FnScope N ps scope) (hd : A.handled = none) (e0 : Env0 P w K mg base A outer s H) (hl : vs.length = ps.length) (r : Vals vs us)
    (x : InCallC s s.heap.objs.size (bindL (envOfC qual scope s.heap.objs.size f cd).kindOf (ps.zip us) fun _ => none) (cellsFrom (s.heap.objs.size + 1) scope.names []) (bindC (envOfC qual scope s.heap.objs.size f cd).kindOf (ps.zip us) fun _ => none) s1) :
    Inv (cxOf CX P w K mg base N qual scope f cd A outer s H E) [] (start N vs) H s1 := by
  have hpl : ps.length ≤ N.length := by have := congrArg List.length S.pre; rw [List.length_take] at this; omega
  obtain ⟨h1, tk, rfl, hk⟩ := x.done
  have noA : ∀ b : Addr, b ∉ (cxOf CX P w K mg base N qual scope f cd A outer s H E).ex := fun b z => absurd (show b ∈ ([] : List Addr) from z) (by simp)
  refine ⟨⟨e0.mod, S.kind, rfl, rfl, Nat.le_refl _, fun y z c h1 h2 => ?_, fun y hy => ?_, fun y c _ h => ?_, fun _ => hd, Around.frames_deeper e0.frames, .inr ⟨rfl, rfl⟩, fun b z => absurd z (noA b), e0.bs, e0.bsz, fun b _ _ => noA b, fun b z => absurd z (noA b), e0.funs, e0.frf⟩,
    rfl, e0.bare, Un.kept hk, ⟨_, x.toInCall.ns, fun i y v h1 h2 h3 => ?_⟩, fun y c h => ⟨_, x.cell y c h⟩, e0.hok.fresh (Nat.le_refl _), fun y c h => ?_, fun p hp => absurd (show p ∈ ([] : List (Addr × Obj)) from hp) (by simp), e0.hok.kept hk, ?_⟩
  · exact name_of_addr x.apart (PySem.mem_of_lookup h1) (PySem.mem_of_lookup h2)
  · have hy : scope.names.lookup y = some .cell ∨ scope.names.lookup y = some .free := hy
    rcases hy with hy | hy
    · exact cell_has hy
    · exact absurd rfl (S.nofree _ (PySem.mem_of_lookup hy))
  · exact Nat.le_of_lt (x.above y c (PySem.mem_of_lookup h))
  · have hi : i < vs.length := by
      unfold start at h2
      by_cases hi : i < vs.length
      · exact hi
      · rw [List.getElem?_append_right (by simpa using hi)] at h2
        rw [List.getElem?_replicate] at h2
        split at h2 <;> cases h2
    have ha : vs[i]? = some v := by
      unfold start at h2
      rw [List.getElem?_append_left (by simpa using hi), List.getElem?_map] at h2
      cases e : vs[i]? with
      | none => rw [e] at h2; cases h2
      | some a => rw [e] at h2; cases h2; rfl
    obtain ⟨u, hu, rv⟩ := r.get ha
    have hp : ps[i]? = some y := by
      rw [← S.pre, List.getElem?_take_of_lt (by omega)]; exact h1
    have ndP : ps.Nodup := by rw [← S.pre]; exact S.nd.sublist (List.take_sublist _ _)
    refine ⟨u, rv, ?_⟩
    rcases S.par y (List.mem_of_getElem? hp) with k | k
    · exact .inl ⟨k, bindL_get ndP hp hu k⟩
    · obtain ⟨c, e⟩ := cell_has (n := s.heap.objs.size + 1) k
      refine .inr ⟨.inl k, c, e, ?_⟩
      have q := x.cell y c e
      rw [bindC_get ndP hp hu (by show scope.names.lookup y ≠ _; rw [k]; decide)] at q
      exact q
  · exact e0.hok.fresh (Nat.le_of_lt (x.above y c (PySem.mem_of_lookup h)))
  · unfold start
    show _ = N.length
    rw [List.length_append, List.length_map, List.length_replicate]
    omega
theorem fn_of {CX : CXT} {P : Program} {w : World} {K : PySem.W.Frag} {mg : Str → Option Value} {base : Heap} {k : Nat} {f : Addr} {name qual : Str} {params : Arguments} {body : List Stmt} {scope : Scope} {dV kV doc pm cdv ct oc : Value} {an od : Option Addr}
    {osl : Array (Option Value)} {N ps : List Str} {sp : Sp} (lk : K.lookup f = some ⟨oc, od, .func (PySem.W.fnOf name qual params body scope dV kV doc pm an cdv ct), osl⟩) (hcd : PySem.W.codeIn K cdv qual = true) (S : FnScope N ps scope)
    (len : ∀ vs H Q E, sp vs H Q E → vs.length = ps.length)
    (hbody : ∀ (A : Around) (outer : List Env) (s : Shared) (H : Hp) (vs : List V) (Q : VK) (E : XK), Room k (A.deeper (envOfC qual scope s.heap.objs.size f cdv)) → sp vs H Q E →
      ∃ t, PSs (cxOf CX P w K mg base N qual scope f cdv A outer s H E) body t ∧ t { nx := fun _ H' => Q .non H', rt := Q } (start N vs) H) :
    FnOk P w K mg base CX (k + 1) f (PySem.W.fnOf name qual params body scope dV kV doc pm an cdv ct) ps sp := by
  refine ⟨len, fun A outer s H args us vs Q E hr e0 hb r hsp => ?_⟩
  have hl := len _ _ _ _ hsp
  have KX : K.In s.heap := e0.mod.kin.keeps fun b o e => (e0.bs b o e).1
  have lim : s.heap.NoLimit := e0.mod.nolimit.keeps fun b o e => (e0.bs b o e).1
  have hkind : ∀ y ∈ ps.zip us, scope.names.lookup y.1 = some .local ∨ (scope.names.lookup y.1 = some .cell ∧ ((cellsFrom (s.heap.objs.size + 1) scope.names []).lookup y.1).isSome = true) := fun ⟨n, v⟩ hy => by
    rcases S.par n (List.of_mem_zip hy).1 with q | q
    · exact .inl q
    · exact .inr ⟨q, PySem.W.cellsFrom_some _ _ _ (.inl q)⟩
  refine codeAny_call_function hr.depth (KX _ _ lk) rfl S.co S.gen rfl (PySem.W.codeRec_of KX hcd) (hb _ _ _ _ ?_)
  refine wpAny_newFunctionEnv_cells S.kind hkind fun env he s1 x => ?_
  subst he
  refine ⟨lim.keeps x.toInCall.keep, codeAny_func ?_⟩
  obtain ⟨t, ht, hq⟩ := hbody A outer s H vs Q E (hr.deeper _) hsp
  have I : Inv (cxOf CX P w K mg base N qual scope f cdv A outer s H E) [] (start N vs) H s1 := inv_start S hr.hd e0 hl r x
  refine wpAny_mono (ht [] s1 (start N vs) H _ I hq) (fun fl s' hs => ?_) fun e s' hs => hs
  have fin : ∀ {σ' : St} {H' : Hp} {v : V} {u : Value}, Inv (cxOf CX P w K mg base N qual scope f cdv A outer s H E) [] σ' H' s' → RelV v u → Q v H' → CE outer P w H s Q u s' :=
    fun {σ' H' v u} J rv q => ⟨v, H', J.os, J.bare, J.base, J.hok, rv, q⟩
  cases fl with
  | ret u =>
    obtain ⟨v, σ', H', J, rv, q⟩ := hs
    exact fin J rv q
  | next =>
    obtain ⟨σ', H', J, q⟩ := hs
    exact fin (v := V.non) (u := Value.none) J rfl q
  | brk =>
    obtain ⟨_, _, _, q⟩ := hs
    exact False.elim q
  | cont =>
    obtain ⟨_, _, _, q⟩ := hs
    exact False.elim q
end L2
namespace L2
open PySem PySem.Spec PyProof.Rows
section
variable {X : Cx} {x : Str} {p pos : Pos} {e : Expr} {es : List Expr} {t : TA} {id T : String} {r : List V → Hp → VK → Prop}
def tCB (r : List V → Hp → VK → Prop) (t : TA) : TE := fun σ H Q => t σ H fun vs H1 => r vs H1 Q
theorem pe_callB (hc : CallR X (.builtin id) r) (hg : Gl X x) (hm : X.mg x = none) (hv : bootBuiltins x = some (.builtin id)) (ha : PA X (e :: es) t) (hn : x ≠ "__name__" := by decide) (hdb : (x == ("__debug__" : Str)) = false := by decide)
    (he : starEach (e :: es) X.env = (false, eval e X.env) :: starEach es X.env := by rfl) (hpl : (backTo pos (starEach es X.env)).any (·.1) = false := by rfl) : PE X (.Call (.Name x p) (e :: es) [] pos) (tCB r t) := by
  intro pins s σ H Q I h
  refine wpAny_Call_Name_kw (ld_blt I hg hm hv ?_ hn hdb)
  exact PyProof.Rows.callWith_builtin1 (thn (ha pos pins s σ H _ I h) fun us s1 ⟨vs, H1, I1, r1, q1⟩ => hc pins s1 σ H1 vs us Q I1 r1 q1) he hpl
theorem pe_callTy (hc : CallR X (.type T) r) (hg : Gl X x) (hm : X.mg x = none) (hv : bootBuiltins x = some (.type T)) (ha : PA X (e :: es) t) (hn : x ≠ "__name__" := by decide) (hdb : (x == ("__debug__" : Str)) = false := by decide)
    (he : starEach (e :: es) X.env = (false, eval e X.env) :: starEach es X.env := by rfl) (hpl : (backTo pos (starEach es X.env)).any (·.1) = false := by rfl) : PE X (.Call (.Name x p) (e :: es) [] pos) (tCB r t) := by
  intro pins s σ H Q I h
  refine wpAny_Call_Name_kw (ld_blt I hg hm hv ?_ hn hdb)
  exact PyProof.Rows.callWith_type1 (thn (ha pos pins s σ H _ I h) fun us s1 ⟨vs, H1, I1, r1, q1⟩ => hc pins s1 σ H1 vs us Q I1 r1 q1) he hpl
end
end L2
namespace HT
open PySem PyProof.Rows
section
open PySem.SeqAt
open PySem.AutoSeq1 (wpAny_loadPart')
open PySem.MeetsSeq PySem.MeetsSeq2 PySem.MeetsSeq3
end
section
variable {prog : Program} {w : World} {A : Around} {E : Value → Shared → Prop} {s : Shared}
theorem cat_tup {t b : Addr} {vs ws : List Value} {Q : Value → Shared → Prop} (ht : IsTup s.heap t vs.toArray) (hb : IsTup s.heap b ws.toArray) (hv : vs ≠ [])
    (h1 : ws = [] → Q (.ref t) s) (h2 : ws ≠ [] → Q (.ref s.heap.objs.size) { s with heap := s.heap.push { cls := .type "tuple", data := .seq (vs ++ ws).toArray } })
    (hsz : vs.length + ws.length ≤ sizeLine) : wpAny (model prog w) A (binaryOp .Add (.ref t) (.ref b)) Q E s := by
  obtain ⟨⟨cls, dd, data, sl⟩, ho, hc, n, hd⟩ := id ht
  obtain ⟨⟨cls2, dd2, data2, sl2⟩, ho2, hc2, n2, hd2⟩ := id hb
  simp only at hc hd hc2 hd2
  subst hc hd hc2 hd2
  have e : vs.toArray ++ ws.toArray = (vs ++ ws).toArray := by simp
  by_cases hw : ws = []
  · exact concat_meets ⟨_, ho, rfl⟩ ⟨_, ho2, rfl⟩ noFill_tuple_add seq_tuple_add PySem.F.slot_tuple_add PySem.F.entry_tuple_add (PySem.F.args_tuple_add_2 _ _)
      (tuple_addW1 t b vs.toArray ws.toArray n n2 dd dd2 sl sl2 (by simpa using hv) (by simp [hw])) ⟨ho, ho2, h1 hw⟩
  · refine concat_meets ⟨_, ho, rfl⟩ ⟨_, ho2, rfl⟩ noFill_tuple_add seq_tuple_add PySem.F.slot_tuple_add PySem.F.entry_tuple_add (PySem.F.args_tuple_add_2 _ _)
      (tuple_addW2 t b vs.toArray ws.toArray n n2 dd dd2 sl sl2 (by simpa using hv) (by simpa using hw) (by rw [List.size_toArray, List.size_toArray]; exact hsz)) ⟨ho, ho2, ?_⟩
    rw [e]
    exact h2 hw
def sIx (n d : Nat) : Option Int → Nat
  | none => d
  | some v => if v < 0 then (v + (n : Int)).toNat else min v.toNat n
theorem sIx_none (n d : Nat) : sIx n d none = d := rfl
theorem sIx_nat (n d k : Nat) : sIx n d (some (k : Int)) = min k n := by
  show (if (k : Int) < 0 then ((k : Int) + (n : Int)).toNat else min (k : Int).toNat n) = min k n
  rw [if_neg (by omega), Int.toNat_natCast]
end
end HT
namespace L2
open PySem PySem.Spec PyProof.Rows
abbrev TO := St → Hp → (Option Int → Hp → Prop) → Prop
def PO (X : Cx) (e : Option Expr) (t : TO) : Prop :=
  ∀ (pins : List (Addr × Obj)) (s : Shared) (σ : St) (H : Hp) (Q : Option Int → Hp → Prop), Inv X pins σ H s → t σ H Q →
    wpAny (model X.prog X.w) X.A (evalPart e X.env) (fun u s' => ∃ o H', Inv X pins σ H' s' ∧ IsPart u o ∧ Q o H') X.xe s
def tNoPart : TO := fun _ H Q => Q none H
def tPart (t : TE) : TO := fun σ H Q => t σ H fun x H1 => ∃ i, x = .int i ∧ Q (some i) H1
theorem intsAre_of {ns : List Int} : ∀ {us : List Value}, Vals (ns.map V.int) us → IntsAre us ns := by
  induction ns with
  | nil => intro us r; rw [List.map_nil] at r; cases r; exact .nil
  | cons n ns ih =>
    intro us r
    rw [List.map_cons] at r
    cases r with
    | cons r1 r2 =>
      obtain ⟨t, e⟩ := r1
      subst e
      exact .cons n t (ih r2)
section
variable {X : Cx} {e : Expr} {te : TE} {lo hi : Option Expr} {tl th : TO} {pos p2 : Pos}
theorem po_none : PO X none tNoPart := by
  intro pins s σ H Q I h
  rw [evalPart_none]
  exact wpAny_pure ⟨none, H, I, .none, h⟩
theorem po_some (h : PE X e te) : PO X (some e) (tPart te) := by
  intro pins s σ H Q I hw
  rw [evalPart_some]
  refine thn (h pins s σ H _ I hw) fun u s1 ⟨x, H1, I1, r1, q1⟩ => ?_
  obtain ⟨i, rfl, q⟩ := q1
  obtain ⟨t, rfl⟩ := r1
  exact ⟨some i, H1, I1, .int i t, q⟩
def SlR (X : Cx) (r : V → Option Int → Option Int → Hp → VK → Prop) : Prop :=
  ∀ (pins : List (Addr × Obj)) (s : Shared) (σ : St) (H : Hp) (x : V) (v vl vu : Value) (lo hi : Option Int) (sl : Addr) (Q : VK), Inv X pins σ H s → RelV x v → s.heap.IsSliceOf sl vl vu .none → IsPart vl lo → IsPart vu hi → r x lo hi H Q →
    ∃ T id, typeLookup (.type T) "__getitem__" = pure (some (.builtin id)) ∧ s.TypeIs v T ∧ wpAny (model X.prog X.w) X.A (getItem v (.ref sl)) (EP X pins σ Q) X.xe s
def tSl (r : V → Option Int → Option Int → Hp → VK → Prop) (te : TE) (tl th : TO) : TE := fun σ H Q => te σ H fun x H1 => tl σ H1 fun l H2 => th σ H2 fun u H3 => r x l u H3 Q
theorem pe_slice {r : V → Option Int → Option Int → Hp → VK → Prop} (hr : SlR X r) (he : PE X e te) (hl : PO X lo tl) (hu : PO X hi th) : PE X (.Subscript e (.Slice lo hi none p2) pos) (tSl r te tl th) := by
  intro pins s σ H Q I h
  refine Subscript_ (thn (he pins s σ H _ I h) fun v s1 ⟨x, H1, I1, r1, q1⟩ => ?_)
  refine wpAny_Slice (thn (hl pins s1 σ H1 _ I1 q1) fun vl s2 ⟨l, H2, I2, pl, q2⟩ => thn (hu pins s2 σ H2 _ I2 q2) fun vu s3 ⟨u, H3, I3, pu, q3⟩ => ?_)
  rw [evalPart_none]
  refine wpAny_pure ?_
  have I4 : Inv X pins σ H3 { s3 with heap := s3.heap.push { cls := .type "slice", data := .fields #[vl, vu, .none] } } := I3.kept (t' := s3.toks) fun b ob q => Heap.get?_push_of_some _ q
  obtain ⟨T, id, hT, ht, hg⟩ := hr pins { s3 with heap := s3.heap.push { cls := .type "slice", data := .fields #[vl, vu, .none] } } σ H3 x v vl vu l u s3.heap.objs.size Q I4 r1 (Heap.IsSliceOf.new ..) pl pu q3
  show wpAny (model X.prog X.w) X.A (subscriptTail e (.Slice lo hi none p2) v (.ref s3.heap.objs.size)) (EP X pins σ Q) X.xe { s3 with heap := s3.heap.push { cls := .type "slice", data := .fields #[vl, vu, .none] } }
  exact tail_any (ops := [.ref s3.heap.objs.size, v]) ht hT hg (by with_unfolding_all rfl)
def cutV (xs : List V) (lo hi : Option Int) : List V := (xs.drop (HT.sIx xs.length 0 lo)).take (HT.sIx xs.length xs.length hi - HT.sIx xs.length 0 lo)
theorem cutV_length (xs : List V) (lo hi : Option Int) : (cutV xs lo hi).length ≤ xs.length := by
  unfold cutV
  rw [List.length_take, List.length_drop]
  omega
def rCatT (K : PySem.W.Frag) : R2 := fun x y H Q => ∃ a b xs ys, x = .ref a ∧ y = .ref b ∧ SqT K H a xs ∧ SqT K H b ys ∧ xs ≠ [] ∧ xs.length + ys.length ≤ sizeLine ∧
  (ys = [] → Q (.ref a) H) ∧ (ys ≠ [] → ∀ p, H p = none → Q (.ref p) (upd H p (.tup (xs ++ ys))))
theorem Vals.nil_iff {xs : List V} {us : List Value} (r : Vals xs us) : us = [] ↔ xs = [] := by
  cases r with
  | nil => simp
  | cons _ _ => simp
theorem op_catT : OpR X (binaryOp .Add) (rCatT X.K) := by
  intro pins s σ H x y v u Q I rx ry h
  obtain ⟨a, b, xs, ys, rfl, rfl, ha, hb, hx, hz, q1, q2⟩ := h
  cases rx
  cases ry
  obtain ⟨its, r1, p1, _⟩ := I.tuple ha
  obtain ⟨its2, r2, p2, _⟩ := I.tuple hb
  refine HT.cat_tup p1 p2 (fun z => hx (r1.nil_iff.mp z)) (fun z => ⟨.ref a, H, I, rfl, q1 (r2.nil_iff.mp z)⟩) (fun z => ?_) (by rw [← r1.length, ← r2.length]; exact hz)
  refine ⟨.ref s.heap.objs.size, _, I.laid (t' := s.toks) (o := .tup (xs ++ ys)) (fun b ob q => Heap.get?_push_of_some _ q) (Nat.le_refl _) ?_, rfl, q2 (fun w => z (r2.nil_iff.mpr w)) _ (I.hok.fresh (Nat.le_refl _))⟩
  exact ⟨by rw [List.length_append]; exact hz, _, r1.append r2, IsTup.new _ _⟩
end
end L2
namespace L2
open PySem PySem.Spec PyProof.Rows
def ixN (n : Nat) (i : Int) : Option Nat := if 0 ≤ i then (if i < n then some i.toNat else none) else if -(n : Int) ≤ i then some (i + n).toNat else none
def atI {α : Type} (xs : List α) (i : Int) : Option α := (ixN xs.length i).bind fun j => xs[j]?
theorem ixN_seq {n : Nat} {i : Int} {j : Nat} (h : ixN n i = some j) : seqIndex? i n = some j ∧ j < n ∧ -(n : Int) ≤ i ∧ i < n := by
  unfold ixN at h
  by_cases h0 : 0 ≤ i
  · rw [if_pos h0] at h
    by_cases h1 : i < n
    · rw [if_pos h1] at h
      have e : i.toNat = j := Option.some.inj h
      exact ⟨by rw [seqIndex_of h0 h1, e], by omega, by omega, h1⟩
    · rw [if_neg h1] at h; cases h
  · rw [if_neg h0] at h
    by_cases h1 : -(n : Int) ≤ i
    · rw [if_pos h1] at h
      have e : (i + n).toNat = j := Option.some.inj h
      exact ⟨by rw [seqIndex_neg (by omega) h1, e], by omega, h1, by omega⟩
    · rw [if_neg h1] at h; cases h
theorem atI_get {α : Type} {xs : List α} {i : Int} {v : α} (h : atI xs i = some v) : ∃ j, seqIndex? i xs.length = some j ∧ xs[j]? = some v ∧ j < xs.length ∧ -(xs.length : Int) ≤ i ∧ i < xs.length := by
  unfold atI at h
  cases e : ixN xs.length i with
  | none => rw [e] at h; cases h
  | some j =>
    rw [e] at h
    obtain ⟨h1, h2, h3, h4⟩ := ixN_seq e
    exact ⟨j, h1, h, h2, h3, h4⟩
theorem atI_nat {α : Type} {xs : List α} {j : Nat} {v : α} (h : xs[j]? = some v) : atI xs (j : Int) = some v := by
  have hj : j < xs.length := (List.getElem?_eq_some_iff.mp h).1
  have e : ixN xs.length (j : Int) = some j := by
    unfold ixN
    rw [if_pos (by omega), if_pos (by omega)]; simp
  unfold atI; rw [e]; exact h
def PlainIx (b : Expr) : Prop := ∀ o i, subscripted b false o i = operate [o, i] (getItem o i)
def IxR (X : Cx) (r : R2) : Prop :=
  ∀ (value slice : Expr) (pins : List (Addr × Obj)) (s : Shared) (σ : St) (H : Hp) (x y : V) (v u : Value) (Q : VK), Inv X pins σ H s → RelV x v → RelV y u → r x y H Q →
    subscripted slice false v u = operate [v, u] (getItem v u) → wpAny (model X.prog X.w) X.A (subscriptTail value slice v u) (EP X pins σ Q) X.xe s
def MtR (X : Cx) (id : String) (r : V → List V → Hp → VK → Prop) : Prop :=
  ∀ (pins : List (Addr × Obj)) (s : Shared) (σ : St) (H : Hp) (x : V) (xs : List V) (v : Value) (us : List Value) (Q : VK), Inv X pins σ H s → RelV x v → Vals xs us → r x xs H Q →
    wpAny (model X.prog X.w) X.A (call (.builtin id) (v :: us)) (EP X pins σ Q) X.xe s
section
variable {X : Cx} {a b : Expr} {ta tb : TE} {pos : Pos}
theorem IxR.or {r r' : R2} (h : IxR X r) (h' : IxR X r') : IxR X (fun x y H Q => r x y H Q ∨ r' x y H Q) := by
  intro value slice pins s σ H x y v u Q I rx ry q hs
  rcases q with q | q
  · exact h value slice pins s σ H x y v u Q I rx ry q hs
  · exact h' value slice pins s σ H x y v u Q I rx ry q hs
theorem pe_ix {r : R2} (hr : IxR X r) (ha : PE X a ta) (hb : PE X b tb) (hs : PlainIx b) : PE X (.Subscript a b pos) (tOp r ta tb) := by
  intro pins s σ H Q I h
  exact Subscript_ (binT ha hb I h fun v u s2 x y H2 I2 rx ry q => hr a b pins s2 σ H2 x y v u Q I2 rx ry q (hs _ _))
def rIxL (K : PySem.W.Frag) : R2 := fun x y H Q => ∃ p xs i v, x = .ref p ∧ y = .int i ∧ SqL K H p xs ∧ atI xs i = some v ∧ Q v H
def rIxT (K : PySem.W.Frag) : R2 := fun x y H Q => ∃ p xs i v, x = .ref p ∧ y = .int i ∧ SqT K H p xs ∧ atI xs i = some v ∧ Q v H
def rIxS : R2 := fun x y H Q => ∃ z i c, x = .str z ∧ y = .int i ∧ z.length ≤ sizeLine ∧ atI z.cps.toList i = some c ∧ Q (.str ⟨#[c]⟩) H
theorem ix_list : IxR X (rIxL X.K) := by
  intro value slice pins s σ H x y v u Q I rx ry h hs
  obtain ⟨p, xs, i, z, rfl, rfl, hq, he, q⟩ := h
  cases rx
  obtain ⟨t, rfl⟩ := ry
  obtain ⟨its, r, pl, hz⟩ := I.list hq
  obtain ⟨j, h1, h2, h3, h4, h5⟩ := atI_get he
  obtain ⟨w, ew, rw'⟩ := r.get h2
  have hl := r.length
  have hn := line63
  have fin : EP X pins σ Q w s := ⟨z, H, I, rw', q⟩
  by_cases h0 : 0 ≤ i
  · have hj : i.toNat = j := by
      rw [seqIndex_of h0 h5] at h1
      exact Option.some.inj h1
    exact item_listR pl.isList h0 (by omega) (by rw [hj]; simpa using ew) fin hs
  · have hj : (i + (its.toArray.size : Int)).toNat = j := by
      rw [seqIndex_neg (by omega) h4] at h1
      rw [List.size_toArray, ← hl]
      exact Option.some.inj h1
    exact subscriptTail_builtinR (x := w) pl.isList.typeIs slot_list_getitem.lookup
      (wpAny_getItem_list_neg (Q := fun r s' => r = w ∧ EP X pins σ Q r s') pl.isList (by omega) (by rw [List.size_toArray] <;> omega) (by omega) (by rw [hj]; simpa using ew) ⟨rfl, fin⟩) hs
theorem ix_tup : IxR X (rIxT X.K) := by
  intro value slice pins s σ H x y v u Q I rx ry h hs
  obtain ⟨p, xs, i, z, rfl, rfl, hq, he, q⟩ := h
  cases rx
  obtain ⟨t, rfl⟩ := ry
  obtain ⟨its, r, pl, hz⟩ := I.tuple hq
  obtain ⟨j, h1, h2, h3, h4, h5⟩ := atI_get he
  obtain ⟨w, ew, rw'⟩ := r.get h2
  have hl := r.length
  have hn := line63
  have fin : EP X pins σ Q w s := ⟨z, H, I, rw', q⟩
  exact subscriptTail_builtinR (x := w) pl.typeIs slot_tuple_getitem.lookup
    (getItem_tuple (j := j) (Q := fun r s' => r = w ∧ EP X pins σ Q r s') pl (by omega) (by omega) (by rw [List.size_toArray, ← hl]; exact h1) (by simpa using ew) ⟨rfl, fin⟩) hs
theorem ix_str : IxR X rIxS := by
  intro value slice pins s σ H x y v u Q I rx ry h hs
  obtain ⟨z, i, c, rfl, rfl, hz, he, q⟩ := h
  obtain ⟨t, rfl⟩ := rx
  obtain ⟨t', rfl⟩ := ry
  obtain ⟨j, h1, h2, h3, h4, h5⟩ := atI_get he
  have hl : z.cps.toList.length = z.length := by simp [Str.length]
  rw [hl] at h1 h4 h5
  have hn := line63
  exact tail_any (typeIs_str s z t) slot_str_getitem.lookup (getItem_str (c := c) (by
    have e1 : decide (i < -(2 ^ 63 : Int)) = false := decide_eq_false (by omega)
    have e2 : decide (i ≥ 2 ^ 63) = false := decide_eq_false (by omega)
    rw [e1, e2, Bool.or_false]) (by rw [h1]; simpa using h2) ⟨.str ⟨#[c]⟩, H, I.tok _, ⟨_, rfl⟩, q⟩) hs
def rIx (K : PySem.W.Frag) : R2 := fun x y H Q => rIxL K x y H Q ∨ rIxT K x y H Q ∨ rIxS x y H Q
theorem ix_seq : IxR X (rIx X.K) := ix_list.or (ix_tup.or ix_str)
theorem slice_bounds (lo hi : Option Int) (n : Nat) : (sliceBounds lo hi none n).1 = ((HT.sIx n 0 lo : Nat) : Int) ∧ (sliceBounds lo hi none n).2.1 = ((HT.sIx n n hi : Nat) : Int) ∧ (sliceBounds lo hi none n).2.2 = 1 := by
  refine ⟨?_, ?_, rfl⟩
  · cases lo with
    | none => simp [sliceBounds, HT.sIx]
    | some i =>
      simp only [sliceBounds, HT.sIx, Option.getD_none, show (1 : Int) > 0 by decide, if_true]
      by_cases h : i < 0
      · simp only [h, if_true] <;> omega
      · simp only [h, if_false] <;> omega
  · cases hi with
    | none => simp [sliceBounds, HT.sIx]
    | some i =>
      simp only [sliceBounds, HT.sIx, Option.getD_none, show (1 : Int) > 0 by decide, if_true]
      by_cases h : i < 0
      · simp only [h, if_true] <;> omega
      · simp only [h, if_false] <;> omega
theorem slicePick_cut (its : List Value) (lo hi : Option Int) : slicePick its.toArray lo hi none = ((its.drop (HT.sIx its.length 0 lo)).take (HT.sIx its.length its.length hi - HT.sIx its.length 0 lo)).toArray := by
  obtain ⟨h1, h2, h3⟩ := slice_bounds lo hi its.toArray.size
  unfold slicePick
  rw [h1, h2, h3]
  simp only [sliceRange_one, pick_run, List.size_toArray] <;> rfl
def rSlL (K : PySem.W.Frag) : V → Option Int → Option Int → Hp → VK → Prop := fun x lo hi H Q => ∃ a xs, x = .ref a ∧ SqL K H a xs ∧ ∀ p, H p = none → Q (.ref p) (upd H p (.lst (cutV xs lo hi)))
theorem sl_list : SlR X (rSlL X.K) := by
  intro pins s σ H x v vl vu lo hi sl Q I rx hs pl pu h
  obtain ⟨a, xs, rfl, hx, q⟩ := h
  cases rx
  obtain ⟨its, r, ht, hz⟩ := I.list hx
  have hlen := r.length
  refine ⟨"list", _, slot_list_getitem.lookup, ht.isList.typeIs, ?_⟩
  refine wpAny_getItem_list_slice ht.isList hs pl pu .none (by simp) ?_ (by rw [List.size_toArray] <;> omega)
  rw [slicePick_cut, ← hlen]
  refine ⟨.ref s.heap.objs.size, _, I.laid (t' := s.toks) (o := .lst (cutV xs lo hi)) (fun b ob q => Heap.get?_push_of_some _ q) (Nat.le_refl _) ?_, rfl, q _ (I.hok.fresh (Nat.le_refl _))⟩
  exact ⟨Nat.le_trans (cutV_length xs lo hi) hz, _, 0, (r.drop (HT.sIx xs.length 0 lo)).take (HT.sIx xs.length xs.length hi - HT.sIx xs.length 0 lo), Heap.get?_push_size _ rfl⟩
theorem call_len_seq : CallR X (.builtin "len") (fun xs H Q => ∃ p ys, xs = [.ref p] ∧ (SqL X.K H p ys ∨ SqT X.K H p ys) ∧ Q (.int ys.length) H) := by
  intro pins s σ H xs us Q I r h
  obtain ⟨p, ys, rfl, hq, q⟩ := h
  obtain ⟨u, rfl, rx⟩ := vals1 r
  cases rx
  have hn := line63
  rcases hq with hq | hq
  · obtain ⟨its, r', pl, hz⟩ := I.list hq
    have hlen := r'.length
    exact Calls.call_len_list pl.isList (by simp only [List.size_toArray] <;> omega) ⟨.int ys.length, H, I.tok _, ⟨s.toks + 1, by rw [List.size_toArray, hlen]⟩, q⟩
  · obtain ⟨its, r', pl, hz⟩ := I.tuple hq
    have hlen := r'.length
    exact len_tuple pl (by simp only [List.size_toArray] <;> omega) ⟨.int ys.length, H, I.tok _, ⟨s.toks + 1, by rw [List.size_toArray, hlen]⟩, q⟩
theorem call_len_str : CallR X (.builtin "len") (fun xs H Q => ∃ z, xs = [.str z] ∧ z.length ≤ sizeLine ∧ Q (.int z.length) H) := by
  intro pins s σ H xs us Q I r h
  obtain ⟨z, rfl, hz, q⟩ := h
  obtain ⟨u, rfl, t, rfl⟩ := vals1 r
  have hn := line63
  exact len_str (by omega) ⟨.int z.length, H, I.tok _, ⟨_, rfl⟩, q⟩
theorem call_tuple_of : CallR X (.type "tuple") (fun xs H Q => ∃ p ys, xs = [.ref p] ∧ ((SqL X.K H p ys ∧ ∀ l, H l = none → Q (.ref l) (upd H l (.tup ys))) ∨ (SqT X.K H p ys ∧ Q (.ref p) H))) := by
  intro pins s σ H xs us Q I r h
  obtain ⟨p, ys, rfl, h⟩ := h
  obtain ⟨u, rfl, rx⟩ := vals1 r
  cases rx
  rcases h with ⟨hq, q⟩ | ⟨hq, q⟩
  · obtain ⟨its, r', pl, hz⟩ := I.list hq
    have hlen := r'.length
    refine call_tuple_list pl.isList (fun h' kp => ?_) (by simp only [List.size_toArray] <;> omega)
    have I1 : Inv X pins σ H { s with heap := h' } := I.kept (t' := s.toks) kp
    have I2 : Inv X pins σ (upd H h'.objs.size (.tup ys)) { s with heap := h'.push { cls := .type "tuple", data := .seq its.toArray } } :=
      I1.laid (t' := s.toks) (fun b o e => Heap.get?_push_of_some _ e) (Nat.le_refl _) (show ObjOk X.prog X.w _ _ _ (.tup ys) from ⟨hz, its, r', IsTup.new _ _⟩)
    exact ⟨.ref h'.objs.size, _, I2, rfl, q _ (I1.hok.fresh (Nat.le_refl _))⟩
  · obtain ⟨its, r', pl, hz⟩ := I.tuple hq
    exact call_tuple_same pl ⟨.ref p, H, I, rfl, q⟩
def tyV (K : PySem.W.Frag) (T : String) (x : V) (H : Hp) : Prop := match x with
  | .str _ => T = "str"
  | .int _ => T = "int"
  | .ref p => (T = "list" ∧ ∃ xs, SqL K H p xs) ∨ (T = "tuple" ∧ ∃ o, K.lookup p = some o ∧ o.cls = .type "tuple" ∧ o.dict = none) ∨
      (T = "dict" ∧ ((∃ kvs, H p = some (.dK kvs)) ∨ ∃ K' f kvs, H p = some (.dT K' f kvs))) ∨ (T = "set" ∧ ∃ S n, H p = some (.set S n))
  | _ => False
theorem tyV_is {pins : List (Addr × Obj)} {σ : St} {H : Hp} {s : Shared} {T : String} {x : V} {v : Value} (I : Inv X pins σ H s) (r : RelV x v) (ty : tyV X.K T x H) :
    s.TypeIs v T ∧ ∀ a, v = .ref a → ∃ ob, s.heap.get? a = some ob ∧ ob.dict = none := by
  cases x with
  | str z =>
    obtain ⟨t, rfl⟩ := r
    cases (show T = "str" from ty)
    exact ⟨typeIs_str s z t, fun _ e => nomatch e⟩
  | int i =>
    obtain ⟨t, rfl⟩ := r
    cases (show T = "int" from ty)
    exact ⟨typeIs_int s i t, fun _ e => nomatch e⟩
  | ref p =>
    cases r
    rcases ty with ⟨rfl, xs, hq⟩ | ⟨rfl, o, hk, hc, hd⟩ | ⟨rfl, hk⟩ | ⟨rfl, S, n, hk⟩
    · obtain ⟨its, _, pl, _⟩ := I.list hq
      refine ⟨pl.isList.typeIs, fun a e => ?_⟩
      cases e
      obtain ⟨o, n, e, c, hd, _⟩ := pl
      exact ⟨o, e, hd⟩
    · refine ⟨⟨o, I.kIn p o hk, hc⟩, fun a e => ?_⟩
      cases e
      exact ⟨o, I.kIn _ o hk, hd⟩
    · have z : ∃ o, s.heap.get? p = some o ∧ o.ExactDict := by
        rcases hk with ⟨kvs, hk⟩ | ⟨_, _, kvs, hk⟩
        · obtain ⟨_, _, _, _, o, _, _, e, ex, _⟩ := I.hok p _ hk
          exact ⟨o, e, ex⟩
        · obtain ⟨_, _, _, _, o, _, _, e, ex, _⟩ := I.hok p _ hk
          exact ⟨o, e, ex⟩
      obtain ⟨o, e, ex⟩ := z
      refine ⟨⟨o, e, ex.1⟩, fun a e2 => ?_⟩
      cases e2
      exact ⟨o, e, ex.2.1⟩
    · obtain ⟨o, _, _, _, e, ex, _⟩ := I.hok p _ hk
      refine ⟨⟨o, e, ex.1⟩, fun a e2 => ?_⟩
      cases e2
      exact ⟨o, e, ex.2.1⟩
  | _ => exact False.elim ty
def tBM (K : PySem.W.Frag) (T : String) (r : V → List V → Hp → VK → Prop) (to : TE) (t : TA) : TE := fun σ H Q => to σ H fun x H1 => tyV K T x H1 ∧ t σ H1 fun xs H2 => r x xs H2 Q
variable {o e : Expr} {es : List Expr} {to : TE} {t : TA} {name : Str} {apos cpos : Pos} {T id : String} {r : V → List V → Hp → VK → Prop}
theorem pe_bm (pa : PlainAttrs T) (slot : Slot T name id) (hty : typeOf (.builtin id) = pure (.type "method_descriptor")) (hm : MtR X id r) (ho : PE X o to) (ha : PA X (e :: es) t)
    (hbase : attributeBase o name X.env (eval o X.env) = eval o X.env := by rfl)
    (hfew : ((backTo cpos (starEach (e :: es) X.env)).all (fun x => !x.1) && (backToKw cpos (keywordEach [] X.env)).all (fun x => x.1.isSome)
      && decide ((e :: es).length + ([] : List Keyword).length + (if ([] : List Keyword).isEmpty then 0 else 1) < 30)) = true := by rfl)
    (hline : (apos.endLine == cpos.line) = true := by rfl) (hs : starEach (e :: es) X.env = (false, eval e X.env) :: starEach es X.env := by rfl) (hplain : (backTo cpos (starEach es X.env)).any (·.1) = false := by rfl) :
    PE X (.Call (.Attribute o name apos) (e :: es) [] cpos) (tBM X.K T r to t) := by
  intro pins s σ H Q I h
  refine wpAny_Call_method_late hbase hfew hline rfl (thn (ho pins s σ H _ I h) fun v s1 ⟨x, H1, I1, r1, ty, q1⟩ => ?_)
  obtain ⟨h1, h2⟩ := tyV_is I1 r1 ty
  refine ⟨T, id, pa, slot, hty, h1, h2, ?_⟩
  have hA := ha cpos pins s1 σ H1 _ I1 q1
  rw [hs] at hA ⊢
  refine Calls.callWith_builtin (by show (false || (backTo cpos (starEach es X.env)).any (·.1)) = false; rw [hplain] <;> rfl) (Calls.evalArgs_plain ?_)
  exact thn hA fun us s2 ⟨vs, H2, I2, r2, q2⟩ => hm pins s2 σ H2 x vs v us Q I2 r1 r2 q2
/- xs.append(e), list.index on a module's tuple .. are MtR facts of 06m -/
end
end L2
namespace L2
open PySem PySem.Spec PyProof.Rows
def MtM (X : Cx) (id : String) (r : V → List V → Hp → VK → Prop) : Prop :=
  ∀ (pins : List (Addr × Obj)) (s : Shared) (σ : St) (H : Hp) (x : V) (xs : List V) (v : Value) (us : List Value) (Q : VK), Inv X pins σ H s → RelV x v → Vals xs us → r x xs H Q →
    wpAny (model X.prog X.w) X.A (call (.builtin id) (v :: us)) (EP X pins σ Q) X.xe s
theorem Vals.one : ∀ {x : V} {us : List Value}, Vals [x] us → ∃ u, us = [u] ∧ RelV x u
  | _, _, .cons r .nil => ⟨_, rfl, r⟩
theorem Vals.rep {xs : List V} {us : List Value} (h : Vals xs us) : ∀ k : Nat, Vals (List.replicate k xs).flatten (List.replicate k us).flatten
  | 0 => .nil
  | k + 1 => by
    rw [List.replicate_succ, List.replicate_succ, List.flatten_cons, List.flatten_cons]
    exact Vals.append h (Vals.rep h k)
theorem foldl_rep (its : List Value) : ∀ (k : Nat) (acc : List Value),
    List.foldl (fun x1 x2 => x1 ++ x2) acc.toArray (List.replicate k its.toArray) = (acc ++ (List.replicate k its).flatten).toArray
  | 0, acc => by simp
  | k + 1, acc => by
    have e : acc.toArray ++ its.toArray = (acc ++ its).toArray := by simp
    have e2 : (acc ++ its) ++ (List.replicate k its).flatten = acc ++ (List.replicate (k + 1) its).flatten := by
      rw [List.replicate_succ, List.flatten_cons, List.append_assoc]
    rw [← e2, ← foldl_rep its k (acc ++ its), ← e, List.replicate_succ, List.foldl_cons]
section
variable {X : Cx} {pins : List (Addr × Obj)} {σ : St} {H : Hp} {s : Shared} {l b : Addr} {xs ys zs : List V}
theorem Inv.lset {its its' : List Value} {n : Nat} {f : Array Value → Array Value} {t' : Nat} (I : Inv X pins σ H s) (hH : H l = some (.lst xs))
    (e : s.heap.get? l = some { cls := .type "list", data := .seq its.toArray n }) (hf : f its.toArray = its'.toArray) (hv : Vals ys its') (hz : ys.length ≤ sizeLine) :
    Inv X pins σ (upd H l (.lst ys)) { s with heap := s.heap.update l (Obj.mapSeq f), toks := t' } := by
  have q := PySem.IsL.update e f
  rw [hf] at q
  refine I.write (x := l) (e := l) (by rw [hH]; exact trivial) (.inl rfl) (fun b' u hb hu => (Heap.get?_update_other s.heap (Obj.mapSeq f) (Ne.symm hb)).trans hu) ⟨_, q⟩ ?_
  exact ⟨hz, its', _, hv, q⟩
theorem Inv.lnew {its : List Value} {t' : Nat} (I : Inv X pins σ H s) (hv : Vals ys its) (hz : ys.length ≤ sizeLine) :
    Inv X pins σ (upd H s.heap.objs.size (.lst ys)) { s with heap := s.heap.push { cls := .type "list", data := .seq its.toArray }, toks := t' } :=
  I.laid (fun _ _ q => Heap.get?_push_of_some _ q) (Nat.le_refl _) ⟨hz, its, 0, hv, Heap.get?_push_size _ rfl⟩
theorem Inv.fresh (I : Inv X pins σ H s) : H s.heap.objs.size = none := I.hok.fresh (Nat.le_refl _)
theorem Inv.lstM (I : Inv X pins σ H s) (hH : H l = some (.lst xs)) : xs.length ≤ sizeLine ∧ ∃ (its : List Value) (n : Nat), Vals xs its ∧ xs.length = its.length ∧ s.heap.get? l = some { cls := .type "list", data := .seq its.toArray n } := by
  obtain ⟨z, its, n, r, e⟩ := I.hok l _ hH
  exact ⟨z, its, n, r, r.length, e⟩
theorem notLongL {n : Nat} (h : n ≤ sizeLine) : Builtin.List.listTooLong n = false := by
  unfold Builtin.List.listTooLong
  exact decide_eq_false (by omega)
end
section
variable {X : Cx}
def rAppend : V → List V → Hp → VK → Prop := fun x vs H Q => ∃ l xs y, x = .ref l ∧ vs = [y] ∧ H l = some (.lst xs) ∧ xs.length < sizeLine ∧ Q .non (upd H l (.lst (xs ++ [y])))
theorem mt_append : MtM X "list.append" rAppend := by
  intro pins s σ H x vs v us Q I rx rv h
  obtain ⟨l, xs, y, rfl, rfl, hH, hz, q⟩ := h
  cases rx
  obtain ⟨u, rfl, ru⟩ := rv.one
  obtain ⟨z, its, n, r, hl, e⟩ := I.lstM hH
  refine call_meets F.slot_list_append ⟨_, e, rfl⟩ F.entry_list_append (F.args_list_append_2 _ _) (PySem.list_append l its.toArray n u (by rw [List.size_toArray]; omega)) ⟨e, ?_⟩
  refine ⟨.non, _, I.lset (its' := its ++ [u]) hH e (by simp) (r.append (.cons ru .nil)) ?_, rfl, q⟩
  rw [List.length_append, List.length_singleton]
  omega
def rExtend : V → List V → Hp → VK → Prop := fun x vs H Q => ∃ l b xs zs, x = .ref l ∧ vs = [.ref b] ∧ H l = some (.lst xs) ∧ H b = some (.lst zs) ∧ xs.length + zs.length ≤ sizeLine ∧ Q .non (upd H l (.lst (xs ++ zs)))
theorem mt_extend : MtM X "list.extend" rExtend := by
  intro pins s σ H x vs v us Q I rx rv h
  obtain ⟨l, b, xs, zs, rfl, rfl, hH, hB, hz, q⟩ := h
  cases rx
  obtain ⟨u, rfl, ru⟩ := rv.one
  cases ru
  obtain ⟨z, its, n, r, hl, e⟩ := I.lstM hH
  obtain ⟨z2, its2, n2, r2, hl2, e2⟩ := I.lstM hB
  have hsz : its.toArray.size + its2.toArray.size ≤ sizeLine := by rw [List.size_toArray, List.size_toArray]; omega
  have hlong : ¬ (!its.toArray.isEmpty && Builtin.List.listTooLong (its.toArray.size + its2.toArray.size)) = true := by
    rw [notLongL hsz, Bool.and_false]
    exact Bool.false_ne_true
  refine call_meets F.slot_list_extend ⟨_, e, rfl⟩ F.entry_list_extend (F.args_list_extend_2 _ _)
    (AutoSeq1.list_extend_list_list_0 l its.toArray n b its2.toArray n2 hlong (by rw [List.size_toArray]; omega) (by omega)) ⟨e, e2, ?_⟩
  refine ⟨.non, _, I.lset (its' := its ++ its2) hH e (by simp) (r.append r2) ?_, rfl, q⟩
  rw [List.length_append]
  omega
theorem len_rep {α : Type} (xs : List α) (k : Nat) : (List.replicate k xs).flatten.length = k * xs.length := by
  induction k with
  | zero => simp
  | succ k ih => rw [List.replicate_succ, List.flatten_cons, List.length_append, ih, Nat.succ_mul, Nat.add_comm]
end
section
variable {prog : Program} {w : World} {A : Around} {E : Value → Shared → Prop} {s : Shared}
end
section
variable {X : Cx}
end
end L2
namespace Att
open PySem PySem.W PySem.Calls PyProof.Rows
theorem ints_of_wellAll {P : Params} {h : Heap} : ∀ (ns : List Int) (vs : List Value), WellAll P h vs (ns.map WData.int) → IntsAre vs ns := by
  intro ns
  induction ns with
  | nil =>
    intro vs w
    rw [List.map_nil] at w
    cases w
    exact .nil
  | cons n ns ih =>
    intro vs w
    rw [List.map_cons] at w
    cases w with
    | cons a b =>
      cases a
      exact .cons _ _ (ih _ b)
theorem script_of {l : OpenLaw} {n : Nat} (hn : l.most = some n) {P : Params} {h : Heap} {args : List WData} {vals : List Value}
    (hpre : l.row.toRowW.claim.pre args = true) (hwl : WellAll P h vals args) :
    ∃ a vs ns, vals = [Value.ref a] ∧ args = [WData.list (ns.map WData.int)] ∧ h.get? a = some { cls := .type "list", data := .seq vs.toArray } ∧ IntsAre vs ns ∧ ns.length ≤ n := by
  have hsh : WShape.hasAll [] args [.list .int] = true := (pre_splitW hpre).1
  have hc : l.pre.holds [] { args := args } = true := (pre_splitW hpre).2
  obtain ⟨d, r, rfl, h1, h2⟩ := hasAllW_cons hsh
  obtain rfl := hasAllW_nil h2
  obtain ⟨xs, rfl, h3⟩ := hasW_list h1
  obtain ⟨ns, rfl⟩ := items_int h3
  have hlen : ns.length ≤ n := by
    unfold OpenLaw.pre at hc
    have h4 : (WTm.not (.lt (.lit (.int (n : Int))) (.len (.arg 0)))).holds [] { args := [.list (ns.map .int)] } = true := by
      have h4 := (holds_andW hc).1
      rw [hn] at h4
      exact h4
    have h5 := condW_of h4 (w_not (w_lt w_lit (w_len_list (w_arg rfl))))
    rw [List.length_map] at h5
    refine Nat.le_of_not_lt fun q => ?_
    have q' : (n : Int) < ((ns.length : Nat) : Int) := by omega
    first
      | (rw [decide_eq_true q'] at h5; exact absurd h5 (by decide))
      | (simp at h5; omega)
  cases hwl with
  | cons w1 w2 =>
    cases w2
    cases w1 with
    | list ho hall => exact ⟨_, _, ns, rfl, rfl, ho, ints_of_wellAll ns _ hall, hlen⟩
theorem post_true (l : OpenLaw) (args : List WData) : l.row.toRowW.claim.post args (.bool true) args = true :=
  postW_of (r := l.row.toRowW) (X := (true == true))
    (show WShape.has [] (.bool true) .bool = true by first | rfl | decide | simp [WShape.has, WShape.arms, WShape.armsAll])
    (show (WTm.eq .res (.lit (.bool true))).value [] { args := args, res := some (.bool true), after := args } = some (.bool (true == true)) from w_eq_bool (w_res rfl) w_lit) rfl
theorem attach_call {l : OpenLaw} {n : Nat} {q : Program} {loose : List Str} {XP : (Str → Option Value) → Heap → Prop} {YP : World → Heap → Prop} {d : DefRec}
    (hn : l.most = some n) (hdf : d.params.defaults = [])
    (call : ∀ (w : World) (s₀ s₁ : Shared) (mg mb : Str → Option Value) (fa : Addr) (o : Obj) (pm cd doc : Value) (a : Addr) (vs : List Value) (ns : List Int),
      Ground q loose [] XP w s₀ mg mb s₁.heap → YP w s₁.heap →
      s₁.heap.get? fa = some o → o.data = .func (docDef d.name d.params d.body d.scope pm cd doc) → s₁.heap.CodeRec cd d.name → mg d.name = some (.ref fa) →
      s₁.heap.get? a = some { cls := .type "list", data := .seq vs.toArray } → IntsAre vs ns → ns.length ≤ n → s₁.gens = #[] →
      codeAny (model l.prog w) callerA (.call (.ref fa) ⟨[.ref a], []⟩) (fun r s' => r = .ok (.ret (.bool true)) ∧ OldK s₁.heap s'.heap ∧ s'.os = s₁.os ∧ AllBare s'.gens) s₁) :
    WalkO q loose XP YP l.row.toRowW d [] (fun f vs => PySem.call f vs) := by
  intro w s₀ s₁ mg mb G Y fa o pm cd doc dV kV ho hd hcd hD hmg hg args vals as hpre hlay hrd hwl hlo
  obtain rfl : dV = .none := Dflts.none hD hdf
  obtain rfl : kV = .none := Dflts.noKw hD
  obtain ⟨a, vs, ns, rfl, rfl, hobj, hints, hlen⟩ := script_of hn hpre hwl
  refine enter_call (codeAny_mono (call w s₀ s₁ mg mb fa o pm cd doc a vs ns G Y ho (fd_plain hd) hcd hmg hobj hints hlen hg) fun r s' hq => ?_)
  obtain ⟨rfl, h2, h3, h4⟩ := hq
  exact ⟨.inl ⟨.bool true, .bool true, [], rfl, fun _ => rfl, .bool true, post_true l _, fun _ => ⟨List.Pairwise.nil, fun _ hm => (nomatch hm)⟩⟩, h2, h3, h4⟩
section
variable {prog : Program} {w : World} {A : Around} {E : Value → Shared → Prop} {s : Shared} {K : Frag}
end
end Att
namespace L2
open PySem PySem.Spec PyProof.Rows
theorem vals_ints : ∀ {vs : List Value} {ns : List Int}, IntsAre vs ns → Vals (ns.map V.int) vs
  | _, _, .nil => .nil
  | _, _, .cons n t h => .cons ⟨t, rfl⟩ (vals_ints h)
def Only (H : Hp) : Prop := ∀ b, H b = none ∨ ∃ o xs, H b = some (.frz o (.lst xs))
theorem law_call {P : Program} {w : World} {K : PySem.W.Frag} {mg mb : Str → Option Value} {CX : CXT} {k : Nat} {fa a : Addr} {fd : FuncData} {x : Str} {sp : Sp} {s₁ : Shared} {vs : List Value} {ns : List Int}
    (KX : K.In s₁.heap) (hns : s₁.heap.Ns mainGlobals mg) (hb : s₁.heap.Ns builtinsNs mb) (hbb : ∀ x : Str, x ≠ "__name__" → mb x = bootBuiltins x) (hlim : s₁.heap.NoLimit) (hg : s₁.gens = #[])
    (ha : s₁.heap.get? a = some { cls := .type "list", data := .seq vs.toArray }) (hi : IntsAre vs ns) (hl : ns.length ≤ sizeLine) (hr : Room k callerA)
    (F : ∀ base : Heap, K.In base → base.Ns mainGlobals mg → FnOk P w K mg base CX k fa fd [x] sp) (hbind : ∀ (s : Shared) (u : Value), BindsTo s fd ⟨[u], []⟩ [(x, u)])
    (hsp : ∀ H : Hp, Only H → SqL K H a (ns.map V.int) → sp [.ref a] H (fun v _ => v = .bl true) fun _ _ _ => False)
    (hCX : ∀ H e s', CX [] H s₁ (fun _ _ _ => False) e s' → False) :
    codeAny (model P w) callerA (.call (.ref fa) ⟨[.ref a], []⟩) (fun r s' => r = .ok (.ret (.bool true)) ∧ OldK s₁.heap s'.heap ∧ s'.os = s₁.os ∧ AllBare s'.gens) s₁ := by
  have rv := vals_ints hi
  have lenV := hi.length
  have core : ∀ H : Hp, Only H → SqL K H a (ns.map V.int) → HOk P w H s₁.heap → (∀ b, H b ≠ none → b = a) → (H a ≠ none → K.lookup a = none) →
      codeAny (model P w) callerA (.call (.ref fa) ⟨[.ref a], []⟩) (fun r s' => r = .ok (.ret (.bool true)) ∧ OldK s₁.heap s'.heap ∧ s'.os = s₁.os ∧ AllBare s'.gens) s₁ := by
    intro H hO hS hok hA hK
    have base_of : ∀ {b : Addr} {o : Obj}, s₁.heap.get? b = some o → H b = none → (hidT s₁.heap H).get? b = some o := fun e n => hidT_get e n
    have noA : ∀ {b : Addr} {o : Obj} {es : Array DictEntry} {ep : Nat}, s₁.heap.get? b = some o → o.data = .dict es ep → H b = none := fun {b o es ep} e d => by
      cases q : H b with
      | none => rfl
      | some u =>
        have e' : b = a := hA b (by rw [q]; simp)
        subst e'
        rw [ha] at e; cases e
        have d' : Data.seq vs.toArray _ = Data.dict es ep := d
        cases d'
    have nsK : ∀ {b : Addr} {m : Str → Option Value}, s₁.heap.Ns b m → (hidT s₁.heap H).Ns b m := fun {b m} ⟨o, es, ep, e, d, r⟩ => ⟨o, es, ep, base_of e (noA e d), d, r⟩
    have hKb : K.In (hidT s₁.heap H) := fun b o e => base_of (KX b o e) (by
      cases q : H b with
      | none => rfl
      | some u =>
        have e' : b = a := hA b (by rw [q]; simp)
        subst e'
        rw [hK (by rw [q]; simp)] at e; cases e)
    have hM : Mod K mg (hidT s₁.heap H) := ⟨hKb, nsK hns, ⟨mb, nsK hb, hbb⟩, let ⟨mc, h1, h2⟩ := hlim; ⟨mc, nsK h1, h2⟩⟩
    have e0 : Env0 P w K mg (hidT s₁.heap H) callerA [] s₁ H := ⟨rfl, hM, fun b o e => of_hidT e, Nat.le_of_eq (hidT_size _ _), trivial, fun b hb => absurd (show b ∈ ([] : List Addr) from hb) (by simp), hok, .of_eq hg⟩
    refine codeAny_mono ((F _ hKb (nsK hns)).run callerA [] s₁ H ⟨[.ref a], []⟩ [.ref a] [.ref a] _ _ hr e0 (hbind s₁ (.ref a)) (.cons rfl .nil) (hsp H hO hS)) fun r s' h => ?_
    cases r with
    | error e => exact (hCX H e s' h).elim
    | ok fl =>
      cases fl with
      | next => exact False.elim h
      | brk => exact False.elim h
      | cont => exact False.elim h
      | ret u =>
        obtain ⟨v, H', os, bare, un, hok', r', q⟩ := h
        have q' : v = .bl true := q
        subst q'
        obtain rfl : u = Value.bool true := r'
        refine ⟨rfl, OldK.of_keep fun b o e => ?_, os, bare⟩
        cases q : H b with
        | none => exact un.keep b o e q (by intro z; exact absurd (show b ∈ ([] : List Addr) from z) (by simp)) (by simp)
        | some u =>
          rcases hO b with z | ⟨ob, xs, z⟩
          · rw [q] at z; cases z
          · have z2 := un.frzs b ob _ z
            obtain ⟨e1, _⟩ := hok b _ z
            obtain ⟨e2, _⟩ := hok' b _ z2
            rw [e] at e1; cases e1
            exact e2
  cases hk : K.lookup a with
  | some o =>
    have e := KX a o hk
    rw [ha] at e
    cases e
    refine core (fun _ => none) (fun _ => .inl rfl) (.inr ⟨_, vs.toArray, _, hk, rfl, rfl, rfl, by rw [List.size_toArray, lenV]; exact hl, by simpa using rv⟩) (fun b u z => by have z' : (none : Option HO) = some u := z; cases z') (fun b z => absurd rfl z) fun z => absurd rfl z
  | none =>
    refine core (fun b => if b = a then some (.frz { cls := .type "list", data := .seq vs.toArray } (.lst (ns.map V.int))) else none) (fun b => ?_) (.inl (.inr ⟨{ cls := .type "list", data := .seq vs.toArray }, if_pos rfl⟩)) (fun b u z => ?_) (fun b z => ?_) fun _ => hk
    · by_cases hb : b = a
      · exact .inr ⟨_, _, if_pos hb⟩
      · exact .inl (if_neg hb)
    · by_cases hb : b = a
      · have z' := (if_pos hb).symm.trans z
        cases z'
        subst hb
        exact ⟨ha, by rw [List.length_map]; exact hl, vs, _, rv, ha⟩
      · have z' := (if_neg hb).symm.trans z
        cases z'
    · by_cases hb : b = a
      · exact hb
      · exact absurd (if_neg hb) z
end L2
namespace L2
open PySem PySem.Spec PyProof.Rows
abbrev KOf {K : PySem.W.Frag} {h : Heap} (_ : K.In h) : PySem.W.Frag := K
theorem walk_of {l : PySem.W.OpenLaw} {n k : Nat} {q : Program} {loose : List Str} {XP : (Str → Option Value) → Heap → Prop} {YP : World → Heap → Prop} {d : DefRec} {K : Params → PySem.W.Frag} {CX : World → CXT} {sp : World → Sp} {x : Str}
    (hn : l.most = some n) (hn2 : n ≤ sizeLine) (hdf : d.params.defaults = []) (hr : Room k callerA)
    (hY : ∀ (w : World) (h : Heap), YP w h → (K w.params).In h)
    (F : ∀ (w : World) (mg : Str → Option Value) (fa : Addr) (h : Heap), (K w.params).In h → h.Ns mainGlobals mg → mg d.name = some (.ref fa) →
      ∃ fd : FuncData, (∀ (s : Shared) (u : Value), BindsTo s fd ⟨[u], []⟩ [(x, u)]) ∧
        ∀ base : Heap, (K w.params).In base → base.Ns mainGlobals mg → FnOk l.prog w (K w.params) mg base (CX w) k fa fd [x] (sp w))
    (hsp : ∀ (w : World) (H : Hp) (a : Addr) (ns : List Int), ns.length ≤ n → Only H → SqL (K w.params) H a (ns.map V.int) → sp w [.ref a] H (fun v _ => v = .bl true) fun _ _ _ => False)
    (hCX : ∀ (w : World) (H : Hp) (s : Shared) (e : Value) (s' : Shared), CX w [] H s (fun _ _ _ => False) e s' → False) :
    PySem.W.WalkO q loose XP YP l.row.toRowW d [] (fun f vs => PySem.call f vs) := by
  refine Att.attach_call hn hdf fun w s₀ s₁ mg mb fa o pm cd doc a vs ns G Y ho hd hcd hmg hobj hints hlen hg => ?_
  have KX := hY w _ Y
  obtain ⟨fd, hb, hF⟩ := F w mg fa _ KX G.T.g hmg
  exact law_call KX G.T.g G.T.b G.T.builtins G.T.nolimit hg hobj hints (Nat.le_trans hlen hn2) hr hF hb (fun H hO hS => hsp w H a ns hlen hO hS) fun H e s' => hCX w H s₁ e s'
theorem walk_ofK {l : PySem.W.OpenLaw} {n k : Nat} {q : Program} {loose : List Str} {XP : (Str → Option Value) → Heap → Prop} {YP : World → Heap → Prop} {d : DefRec} {K : Params → PySem.W.Frag} {CX : CXT} {sp : PySem.W.Frag → Sp} {x : Str}
    (hn : l.most = some n) (hn2 : n ≤ sizeLine) (hdf : d.params.defaults = []) (hr : Room k callerA)
    (hY : ∀ (w : World) (h : Heap), YP w h → (K w.params).In h)
    (F : ∀ (w : World) (mg : Str → Option Value) (fa : Addr) (h : Heap), (K w.params).In h → h.Ns mainGlobals mg → mg d.name = some (.ref fa) →
      ∃ fd : FuncData, (∀ (s : Shared) (u : Value), BindsTo s fd ⟨[u], []⟩ [(x, u)]) ∧
        ∀ base : Heap, (K w.params).In base → base.Ns mainGlobals mg → FnOk l.prog w (K w.params) mg base CX k fa fd [x] (sp (K w.params)))
    (hsp : ∀ (K : PySem.W.Frag) (H : Hp) (a : Addr) (ns : List Int), ns.length ≤ n → Only H → SqL K H a (ns.map V.int) → sp K [.ref a] H (fun v _ => v = .bl true) fun _ _ _ => False)
    (hCX : ∀ (H : Hp) (s : Shared) (e : Value) (s' : Shared), CX [] H s (fun _ _ _ => False) e s' → False) :
    PySem.W.WalkO q loose XP YP l.row.toRowW d [] (fun f vs => PySem.call f vs) :=
  walk_of (K := K) (CX := fun _ => CX) (sp := fun w => sp (K w.params)) hn hn2 hdf hr hY F (fun w H a ns h1 h2 h3 => hsp (K w.params) H a ns h1 h2 h3) fun _ H s e s' => hCX H s e s'
end L2
/- THE LAST THEOREM (shape; LID, My.* are yours):
   My.Adr: a structure of the addresses that your layer names (classes, functions); My.Txt K t: a structure (Prop) of the equations over K;
   My.txt_mk : {K} {implicit addresses ..} (e1 : nsIn K mainGlobals "law" = some (some (.ref f))) (e2 : K.lookup f = some ⟨oc, od, .func (fnOf "law" "law" params body scope dV kV doc pm an cdv ct), sl⟩) (e3 : codeIn K cdv "law" = true) .. : ∃ t, My.Txt K t
set_option maxRecDepth 100000 in
set_option maxHeartbeats 0 in
theorem PySem.Challenge.cw_LID_holds : PySem.Challenge.rw_LID.Holds := by
  w_on; o_law; k_head; (case hw => w_witness2)
  k_fill
  refine L2.walk_of (l := PySem.Challenge.rw_LID) (n := 63) (k := 40) (x := "script") (CX := fun w => ..) (sp := fun _ => My.sp_law) rfl (by decide) rfl ⟨rfl, by decide, by decide⟩ (fun w h Y => PySem.W.kIn_of Y) ?F ?S ?C
  case F =>
    intro w mg fa h KX G hmg
    have T : ∃ t, My.Txt (L2.KOf KX) t := by
      dsimp only [L2.KOf]                          -- K must stand as «<heap const> w.params» for k_is
      refine' My.txt_mk ?e1 ?e2 ?e3 ..
      (case e1 => PySem.W.k_is)                    -- in the order: a name -> its address -> its object -> its parts
      (case e2 => PySem.W.k_is)
      ..
    obtain ⟨t, T⟩ := T
    have e0 := hmg.symm.trans (PySem.W.mg_of KX G T.law)
    cases e0                                       -- fa is the law's own address
    exact ⟨_, fun s u => .of_eq rfl, fun base kb nb => My.law_fn T kb nb⟩     -- if «.of_eq rfl» comes too early: refine' ⟨_, ?b, fun base kb nb => My.law_fn T kb nb⟩; exact fun s u => .of_eq rfl
  case S => exact fun w H a ns hl hO hS => ..
  case C => exact ..
(the tactic k_is has no namespace: write k_is) -/
namespace L2
open PySem PySem.Spec PyProof.Rows
def defArgs (s : Stmt) : Arguments := match s with
  | .FunctionDef _ a _ _ _ _ _ _ _ _ => a
  | _ => { posonlyargs := [], args := [], vararg := none, kwonlyargs := [], kw_defaults := [], kwarg := none, defaults := [] }
def defBody (s : Stmt) : List Stmt := match s with
  | .FunctionDef _ _ b _ _ _ _ _ _ _ => b
  | _ => []
def defScope (s : Stmt) : Scope := match s with
  | .FunctionDef _ _ _ _ _ _ sc _ _ _ => sc
  | _ => { kind := .function, names := [], isGenerator := false, isCoroutine := false }
abbrev CX0 : CXT := fun _ _ _ _ _ _ => False
abbrev E0 : XK := fun _ _ _ => False
theorem pass0 {X : Cx} : Passes CX0 X E0 := fun _ _ _ _ _ _ _ h => h.elim
structure Fun (K : PySem.W.Frag) (x qual : Str) (st : Stmt) (f : Addr) (fd : FuncData) : Prop where
  ex : ∃ (oc : Value) (od : Option Addr) (kV doc pm : Value) (an : Option Addr) (cdv ct : Value) (osl : Array (Option Value)),
    fd = PySem.W.fnOf x qual (defArgs st) (defBody st) (defScope st) .none kV doc pm an cdv ct ∧ K.lookup f = some ⟨oc, od, .func fd, osl⟩ ∧ PySem.W.codeIn K cdv qual = true
  kp : PySem.W.keepIn K (.ref f) = true
section
variable {P : Program} {w : World} {K : PySem.W.Frag} {mg : Str → Option Value} {base : Heap}
theorem Fun.ok {x qual : Str} {st : Stmt} {f : Addr} {fd : FuncData} {N ps : List Str} {k : Nat} {sp : Sp} (F : Fun K x qual st f fd) (S : FnScope N ps (defScope st)) (len : ∀ vs H Q E, sp vs H Q E → vs.length = ps.length)
    (hbody : ∀ (cdv : Value) (A : Around) (outer : List Env) (s : Shared) (H : Hp) (vs : List V) (Q : VK) (E : XK), Room k (A.deeper (envOfC qual (defScope st) s.heap.objs.size f cdv)) → sp vs H Q E →
      ∃ t, PSs (cxOf CX0 P w K mg base N qual (defScope st) f cdv A outer s H E).nox (defBody st) t ∧ t { nx := fun _ H' => Q .non H', rt := Q } (start N vs) H) : FnOk P w K mg base CX0 (k + 1) f fd ps sp := by
  obtain ⟨oc, od, kV, doc, pm, an, cdv, ct, osl, rfl, lk, hcd⟩ := F.ex
  refine fn_of lk hcd S len fun A outer s H vs Q E hr hsp => ?_
  obtain ⟨t, h, q⟩ := hbody cdv A outer s H vs Q E hr hsp
  exact ⟨t, h.nox, q⟩
theorem Fun.binds {x qual : Str} {st : Stmt} {f : Addr} {fd : FuncData} {ps : List Str} (F : Fun K x qual st f fd)
    (h : ∀ (kV doc pm : Value) (an : Option Addr) (cdv ct : Value) (us : List Value), us.length = ps.length → bindArgs (PySem.W.fnOf x qual (defArgs st) (defBody st) (defScope st) .none kV doc pm an cdv ct) ⟨us, []⟩ = pure (ps.zip us)) : Binds K fd ps [] := by
  obtain ⟨oc, od, kV, doc, pm, an, cdv, ct, osl, rfl, lk, hcd⟩ := F.ex
  exact .all (h kV doc pm an cdv ct)
theorem fun_mk {x qual : Str} {st : Stmt} {f : Addr} {oc : Value} {od an : Option Addr} {osl : Array (Option Value)} {kV doc pm cdv ct : Value} (l : K.lookup f = some ⟨oc, od, .func (PySem.W.fnOf x qual (defArgs st) (defBody st) (defScope st) .none kV doc pm an cdv ct), osl⟩)
    (c : PySem.W.codeIn K cdv qual = true) (k : PySem.W.keepIn K (.ref f) = true) : Fun K x qual st f (PySem.W.fnOf x qual (defArgs st) (defBody st) (defScope st) .none kV doc pm an cdv ct) := ⟨⟨oc, od, kV, doc, pm, an, cdv, ct, osl, rfl, l, c⟩, k⟩
end
theorem small1000 {n : Nat} (h : n ≤ 1000) : n < sizeLine := Nat.lt_of_le_of_lt h (by decide)
section
variable {X : Cx}
theorem pv (i : Nat) {x : Str} {pos : Pos} (hN : X.N[i]? = some x := by rfl) (hv : Vis X.env.scope x := by first | exact Or.inl rfl | exact Or.inr (Or.inl rfl) | exact Or.inr (Or.inr rfl)) (hd : (x == ("__debug__" : Str)) = false := by decide)
    (hcd : (x == ("__classdict__" : Str)) = false := by decide) : PE X (.Name x pos) (tVar i) := pe_var hN hv hd hcd
end
theorem iteF {A B : Prop} (h : B) : if false = true then A else B := by
  rw [if_neg Bool.false_ne_true]
  exact h
theorem iteT {A B : Prop} (h : A) : if true = true then A else B := by
  rw [if_pos rfl]
  exact h
def Same (H H' : Hp) : Prop := ∀ b o, H b = some o → H' b = some o
theorem Same.refl (H : Hp) : Same H H := fun _ _ h => h
theorem Same.trans {H H1 H2 : Hp} (a : Same H H1) (b : Same H1 H2) : Same H H2 := fun c o h => b c o (a c o h)
theorem Same.free {H H' : Hp} (e : Same H H') {l : Addr} (h : H' l = Option.none) : H l = Option.none := by
  cases q : H l with
  | none => rfl
  | some o =>
    rw [e l o q] at h
    cases h
theorem Same.seq {K : PySem.W.Frag} {H H' : Hp} {a : Addr} {xs : List V} (e : Same H H') (h : SqL K H a xs) : SqL K H' a xs := by
  rcases h with (h | ⟨o, h⟩) | h
  · exact .inl (.inl (e _ _ h))
  · exact .inl (.inr ⟨o, e _ _ h⟩)
  · exact .inr h
end L2
namespace L2
open PySem PySem.Spec PyProof.Rows
def clOf (env : Env) (names : List (Str × NameKind)) (acc : List (Str × Addr)) : List (Str × Addr) :=
  match names with
  | [] => acc
  | x :: r => clOf env r (if x.2 == .free then (x.1, (env.cells.lookup x.1).getD 0) :: acc else acc)
theorem cl_forIn (env : Env) : ∀ (names : List (Str × NameKind)) (acc : List (Str × Addr)), (∀ x ∈ names, x.2 = .free → ∃ c, env.cells.lookup x.1 = some c) →
    (forIn names acc (fun (x : Str × NameKind) (cs : List (Str × Addr)) => (if x.2 == .free then (do
      let c ← cellOf env x.1
      pure (ForInStep.yield ((x.1, c) :: cs))) else pure (ForInStep.yield cs) : Sem (ForInStep (List (Str × Addr)))))) = (pure (clOf env names acc) : Sem _) := by
  intro names
  induction names with
  | nil => intro acc _; rw [List.forIn_nil]; rfl
  | cons x r ih =>
    intro acc h
    rw [List.forIn_cons]
    have hr := fun y hy => h y (List.mem_cons_of_mem _ hy)
    show _ = (pure (clOf env r (if x.2 == .free then (x.1, (env.cells.lookup x.1).getD 0) :: acc else acc)) : Sem _)
    by_cases hf : x.2 = .free
    · obtain ⟨c, e⟩ := h x List.mem_cons_self hf
      have e1 : cellOf env x.1 = pure c := by unfold cellOf; rw [e]
      have e2 : (x.2 == NameKind.free) = true := by rw [hf]; rfl
      simp only [e2, if_true, e1, pure_bind]
      rw [ih _ hr]
      simp only [e, Option.getD_some]
    · have e2 : (x.2 == NameKind.free) = false := by simpa using hf
      simp only [e2, Bool.false_eq_true, if_false, pure_bind]
      exact ih _ hr
theorem closureFor_some {scope : Scope} {env : Env} (h : ∀ x ∈ scope.names, x.2 = .free → ∃ c, env.cells.lookup x.1 = some c) : closureFor scope env = pure (clOf env scope.names []) := by
  have q := cl_forIn env scope.names [] h
  unfold closureFor
  simp only [bind_pure]
  exact q
theorem clOf_lookup (env : Env) (x : Str) : ∀ (names : List (Str × NameKind)) (acc : List (Str × Addr)),
    (clOf env names acc).lookup x = if (x, NameKind.free) ∈ names then some ((env.cells.lookup x).getD 0) else acc.lookup x := by
  intro names
  induction names with
  | nil => intro acc; rfl
  | cons y r ih =>
    intro acc
    obtain ⟨n, k⟩ := y
    show (clOf env r (if k == .free then (n, (env.cells.lookup n).getD 0) :: acc else acc)).lookup x = _
    rw [ih]
    by_cases h1 : (x, NameKind.free) ∈ r
    · rw [if_pos h1, if_pos (List.mem_cons_of_mem _ h1)]
    · rw [if_neg h1]
      by_cases hk : k = .free
      · subst hk
        rw [if_pos (by rfl), List.lookup_cons]
        by_cases hx : x = n
        · subst hx
          simp
        · have : (x == n) = false := by simpa using hx
          rw [this, if_neg]
          intro z
          rcases List.mem_cons.mp z with z | z
          · exact hx (Prod.mk.inj z).1
          · exact h1 z
      · have : (k == NameKind.free) = false := by simpa using hk
        rw [this, if_neg (by simp), if_neg]
        intro z
        rcases List.mem_cons.mp z with z | z
        · exact hk (Prod.mk.inj z).2.symm
        · exact h1 z
theorem lookup_mapk (f : Str → NameKind → NameKind) (x : Str) : ∀ names : List (Str × NameKind), (names.map fun y => (y.1, f y.1 y.2)).lookup x = (names.lookup x).map (f x)
  | [] => rfl
  | (n, k) :: r => by
    rw [List.map_cons, List.lookup_cons, List.lookup_cons, lookup_mapk f x r]
    by_cases hx : x = n
    · subst hx; simp
    · have : (x == n) = false := by simpa using hx
      simp [this]
theorem lookup_relabel (scope : Scope) (env : Env) (x : Str) : (relabel scope env).names.lookup x =
    (scope.names.lookup x).map fun k => if (k == .free && env.scope.kind == .function && env.kindOf x == some .cell) then .cell else k := by
  have q := lookup_mapk (fun n k => if (k == .free && env.scope.kind == .function && env.kindOf n == some .cell) then .cell else k) x scope.names
  rw [← q]
  unfold relabel
  dsimp only
  congr 1
  refine List.map_congr_left fun y _ => ?_
  obtain ⟨n, k⟩ := y
  dsimp only
  split <;> rfl
def compOk (sc cs : Scope) (N Nc : List Str) (fr : List (Option Nat)) : Bool :=
  cs.kind == .function && cs.names.all (fun x => (x.2 != .cell || cs.names.lookup x.1 == some .cell) && (x.2 != .local || cs.names.lookup x.1 == some .local) && (x.2 != .free || sc.names.lookup x.1 == some .cell || sc.names.lookup x.1 == some .free))
    && fr.length == Nc.length && (fr.zip Nc).all (fun y => match y.1 with
      | none => true
      | some j => N[j]? == some y.2 && cs.names.lookup y.2 == some .free)
structure CompOk (sc cs : Scope) (N Nc : List Str) (fr : List (Option Nat)) : Prop where
  kind : cs.kind = .function
  cel : ∀ x ∈ cs.names, x.2 = .cell → cs.names.lookup x.1 = some .cell
  nms : ∀ x ∈ cs.names, x.2 = .local → cs.names.lookup x.1 = some .local
  fre : ∀ x ∈ cs.names, x.2 = .free → sc.names.lookup x.1 = some .cell ∨ sc.names.lookup x.1 = some .free
  len : fr.length = Nc.length
  frs : ∀ (i j : Nat), fr[i]? = some (some j) → ∃ x, Nc[i]? = some x ∧ N[j]? = some x ∧ cs.names.lookup x = some .free
theorem CompOk.of {sc cs : Scope} {N Nc : List Str} {fr : List (Option Nat)} (h : compOk sc cs N Nc fr = true) : CompOk sc cs N Nc fr := by
  unfold compOk at h
  rw [Bool.and_eq_true, Bool.and_eq_true, Bool.and_eq_true] at h
  obtain ⟨⟨⟨h1, h2⟩, h3⟩, h4⟩ := h
  rw [List.all_eq_true] at h2 h4
  refine ⟨by simpa using h1, fun x hx hk => ?_, fun x hx hk => ?_, fun x hx hk => ?_, by simpa using h3, fun i j e => ?_⟩
  · have q := h2 x hx
    simp only [Bool.and_eq_true] at q
    have q2 := q.1.1
    rw [hk] at q2
    simpa using q2
  · have q := h2 x hx
    simp only [Bool.and_eq_true] at q
    have q2 := q.1.2
    rw [hk] at q2
    simpa using q2
  · have q := h2 x hx
    simp only [Bool.and_eq_true] at q
    have q2 := q.2
    rw [hk] at q2
    simp at q2
    rcases q2 with a | a
    · exact .inl a
    · exact .inr a
  · have hl : fr.length = Nc.length := by simpa using h3
    obtain ⟨hi, ei⟩ := List.getElem?_eq_some_iff.mp e
    have hi' : i < Nc.length := by omega
    have hm : (fr[i], Nc[i]) ∈ fr.zip Nc := by
      have : (fr.zip Nc)[i]'(by simp; omega) = (fr[i], Nc[i]) := by simp
      rw [← this]
      exact List.getElem_mem _
    have q := h4 _ hm
    rw [ei] at q
    simp only [Bool.and_eq_true] at q
    exact ⟨Nc[i], by simp [hi'], by simpa using q.1, by simpa using q.2⟩
theorem cellsFrom_app : ∀ (names : List (Str × NameKind)) (n : Nat) (acc : List (Str × Addr)), cellsFrom n names acc = cellsFrom n names [] ++ acc
  | [], _, _ => rfl
  | (name, kind) :: r, n, acc => by
    unfold cellsFrom
    split
    · rw [cellsFrom_app r (n + 1) ((name, n) :: acc), cellsFrom_app r (n + 1) [(name, n)], List.append_assoc]
      rfl
    · exact cellsFrom_app r n acc
theorem cellsFrom_mem : ∀ (names : List (Str × NameKind)) (n : Nat) (acc : List (Str × Addr)) (x : Str) (c : Addr), (x, c) ∈ cellsFrom n names acc → (x, c) ∈ acc ∨ (x, NameKind.cell) ∈ names
  | [], _, _, _, _, h => .inl h
  | (name, kind) :: r, n, acc, x, c, h => by
    unfold cellsFrom at h
    split at h
    · rename_i hk
      rcases cellsFrom_mem r _ _ x c h with z | z
      · rcases List.mem_cons.mp z with z | z
        · refine .inr ?_
          have e := (Prod.mk.inj z).1
          have k' : kind = NameKind.cell := by simpa using hk
          rw [e, k']
          exact List.mem_cons_self
        · exact .inl z
      · exact .inr (List.mem_cons_of_mem _ z)
    · rcases cellsFrom_mem r _ _ x c h with z | z
      · exact .inl z
      · exact .inr (List.mem_cons_of_mem _ z)
theorem cellsFrom_has : ∀ (names : List (Str × NameKind)) (n : Nat) (acc : List (Str × Addr)) (x : Str), ((x, NameKind.cell) ∈ names ∨ ∃ c, acc.lookup x = some c) → ∃ c, (cellsFrom n names acc).lookup x = some c
  | [], _, _, _, h => by
    rcases h with h | h
    · cases h
    · exact h
  | (name, kind) :: r, n, acc, x, h => by
    unfold cellsFrom
    split
    · rename_i hk
      refine cellsFrom_has r _ _ x ?_
      rcases h with h | ⟨c, h⟩
      · rcases List.mem_cons.mp h with z | z
        · refine .inr ⟨n, ?_⟩
          rw [(Prod.mk.inj z).1, List.lookup_cons]
          simp
        · exact .inl z
      · by_cases hx : x = name
        · exact .inr ⟨n, by rw [hx, List.lookup_cons]; simp⟩
        · refine .inr ⟨c, ?_⟩
          have : (x == name) = false := by simpa using hx
          rw [List.lookup_cons, this]
          exact h
    · rename_i hk
      refine cellsFrom_has r _ _ x ?_
      rcases h with h | h
      · rcases List.mem_cons.mp h with z | z
        · exact absurd (by rw [← (Prod.mk.inj z).2]; rfl) hk
        · exact .inl z
      · exact .inr h
theorem wp_newEnvC {M : Model} {A : Around} {E : Value → Shared → Prop} {s : Shared} {scope : Scope} {globals : Addr} {closure : List (Str × Addr)} {qual : Str} {func : Option Addr} {code : Value} {env : Env} {builtins : Addr} {Q : Env → Shared → Prop}
    (h : Q (newEnv scope s.heap.objs.size globals (cellsFrom (s.heap.objs.size + 1) scope.names closure) qual func code (some env) builtins) { s with heap := pushCells (s.heap.push { cls := .type "dict", data := .dict #[] }) scope.names }) :
    wpAny M A (newFunctionEnv scope globals closure [] qual func code (some env) builtins) Q E s := by
  simp only [newFunctionEnv, Option.isSome_some, if_true]
  refine wpAny_bind (wpAny_alloc ?_)
  refine wpAny_bind (wpAny_layCells _ (fun name kind cells => by cases hkc : kind == NameKind.cell <;> simp [hkc]) _ _ _ _ ?_)
  rw [show ({ s with heap := s.heap.push { cls := .type "dict", data := .dict #[] } } : Shared).heap.objs.size = s.heap.objs.size + 1 from Heap.size_push ..]
  rw [List.forIn_nil]
  exact wpAny_bind (wpAny_pure (wpAny_pure h))
def cxC (X : Cx) (scope : Scope) (Nc : List Str) (Cc : Addr) (pins : List (Addr × Obj)) (fp : List Addr) (s3 : Shared) (H3 : Hp) : Cx :=
  { X with N := Nc, s₀ := s3, H₀ := H3, env := compEnvC scope (cellsFrom (Cc + 1) scope.names (clOf X.env scope.names [])) Cc X.env, outer := X.stack, stack := X.stack, ex := fp, fn := fun x => scope.names.lookup x == some .cell, pn := X.pn ++ pins, xe := fun _ _ => False }
def σc (fr : List (Option Nat)) (σ : St) : St := fr.map fun o => o.bind fun j => (σ[j]?).bind id
def Fwd (σ' σ : St) : Prop := σ'.length = σ.length ∧ ∀ (i : Nat) v, σ[i]? = some (some v) → σ'[i]? = some (some v)
def PIfs (X : Cx) (ifs : List Expr) (t : TT) : Prop :=
  ∀ (pins : List (Addr × Obj)) (s : Shared) (σ : St) (H : Hp) (Q : Bool → Hp → Prop), Inv X pins σ H s → t σ H Q →
    wpAny (model X.prog X.w) X.A (forIn ifs true fun c r => if r = true then do
      let ok ← isTrue c X.env (eval c X.env)
      pure (ForInStep.yield ok) else pure (ForInStep.yield r)) (TP X pins σ Q) X.xe s
def tTrue : TT := fun _ H Q => Q true H
theorem pifs_nil {X : Cx} : PIfs X [] tTrue := fun _ _ _ H _ I h => wpAny_tests_nil ⟨H, I, h⟩
section
variable {prog : Program} {w : World} {A : Around} {R : Result → Shared → Prop} {s : Shared}
theorem comp_loop {elt target iter : Expr} {ifs : List Expr} {scope : Scope} {pos : Pos} {it acc : Value} {env : Env} (I : Nat → Shared → Prop)
    (turn : ∀ n s, I n s → wpAny (model prog w) A (pyNext it) (fun r s₁ => match r with
      | none => R (.ok .next) s₁
      | some v => wpAny (model prog w) A (letOwnedTupleGo target it v) (fun _ s₂ => wpAny (model prog w) A (assign target env v) (fun _ s₃ =>
          wpAny (model prog w) A (forIn ifs true fun c r => if r = true then do
            let ok ← isTrue c env (eval c env)
            pure (ForInStep.yield ok) else pure (ForInStep.yield r)) (fun ok s₄ =>
            if ok = true then wpAny (model prog w) A (eval elt env) (fun x s₅ =>
              wpAny (model prog w) A (call (.builtin "list.append") [acc, x]) (fun _ s₆ => ∃ m, m < n ∧ I m s₆) (fun _ _ => False) s₅) (fun _ _ => False) s₄
            else ∃ m, m < n ∧ I m s₄) (fun _ _ => False) s₃) (fun _ _ => False) s₂) (fun _ _ => False) s₁) (fun _ _ => False) s)
    (n : Nat) (h : I n s) :
    codeAny (model prog w) A (.compLoop (.ListComp elt [⟨target, iter, ifs, 0⟩] scope pos) 0 it acc env) R s := by
  refine codeAny_loop rfl I (fun n s hI => ?_) n h
  refine wpAny_noted (m := compTurn (.ListComp elt [⟨target, iter, ifs, 0⟩] scope pos) 0 it acc env) (env := env) ?_
  rw [compTurn_list]
  have no : ∀ {E : Value → Shared → Prop} (e : Value) (s : Shared), False → E e s := fun _ _ f => f.elim
  refine wpAny_bind (wpAny_standAt (wpAny_bind (wpAny_mono (turn n s hI) (fun r s₁ h₁ => ?_) no)))
  cases r with
  | none => exact wpAny_pure h₁
  | some v =>
    refine wpAny_bind (wpAny_mono h₁ (fun _ s₂ h₂ => ?_) no)
    refine wpAny_bind (wpAny_mono h₂ (fun _ s₃ h₃ => ?_) no)
    refine wpAny_bind (wpAny_mono h₃ (fun ok s₄ h₄ => ?_) no)
    cases ok with
    | false => exact wpAny_pure ⟨rfl, h₄⟩
    | true =>
      refine wpAny_bind (wpAny_bind (wpAny_mono h₄ (fun x s₅ h₅ => ?_) no))
      exact wpAny_bind (wpAny_mono h₅ (fun _ s₆ h₆ => wpAny_pure (wpAny_pure ⟨rfl, h₆⟩)) no)
end
end L2
namespace L2
open PySem PySem.Spec PyProof.Rows
theorem cl_fact {env : Env} {names : List (Str × NameKind)} {x : Str} {c : Addr} (hf : ∀ y ∈ names, y.2 = .free → ∃ c, env.cells.lookup y.1 = some c) (h : (clOf env names []).lookup x = some c) : (x, NameKind.free) ∈ names ∧ env.cells.lookup x = some c := by
  rw [clOf_lookup] at h
  by_cases hm : (x, NameKind.free) ∈ names
  · rw [if_pos hm] at h
    obtain ⟨c', e⟩ := hf _ hm rfl
    rw [e] at h
    exact ⟨hm, by rw [e]; exact h⟩
  · rw [if_neg hm] at h
    cases h
theorem cl_some {env : Env} {names : List (Str × NameKind)} {x : Str} {c : Addr} (hm : (x, NameKind.free) ∈ names) (h : env.cells.lookup x = some c) : (clOf env names []).lookup x = some c := by
  rw [clOf_lookup, if_pos hm, h]
  rfl
structure CellsC (scope : Scope) (cl : List (Str × Addr)) (n : Nat) (h : Heap) : Prop where
  has : ∀ x, (x, NameKind.cell) ∈ scope.names → ∃ c, (cellsFrom (n + 1) scope.names cl).lookup x = some c ∧ n < c
  off : ∀ x c, (x, NameKind.cell) ∉ scope.names → cl.lookup x = some c → (cellsFrom (n + 1) scope.names cl).lookup x = some c
  two : ∀ x c, (cellsFrom (n + 1) scope.names cl).lookup x = some c → ((x, NameKind.cell) ∈ scope.names ∧ n < c ∧ h.IsCell c none) ∨ cl.lookup x = some c
  inj : ∀ x y c, (cellsFrom (n + 1) scope.names cl).lookup x = some c → (cellsFrom (n + 1) scope.names cl).lookup y = some c → n < c → (∀ z d, cl.lookup z = some d → d ≤ n) → x = y
theorem cellsC (scope : Scope) (cl : List (Str × Addr)) (h0 : Heap) (o : Obj) : CellsC scope cl h0.objs.size (pushCells (h0.push o) scope.names) := by
  have ok := cellsFrom_ok scope.names (h0.push o) (h0.objs.size + 1) [] ⟨fun _ _ hm => (nomatch hm), List.Pairwise.nil⟩ (by rw [Heap.size_push]; exact Nat.le_refl _)
  rw [Heap.size_push] at ok
  have lk : ∀ x, (cellsFrom (h0.objs.size + 1) scope.names cl).lookup x = ((cellsFrom (h0.objs.size + 1) scope.names []).lookup x).or (cl.lookup x) := fun x => by
    rw [cellsFrom_app, List.lookup_append]
  have two : ∀ x c, (cellsFrom (h0.objs.size + 1) scope.names cl).lookup x = some c → ((x, c) ∈ cellsFrom (h0.objs.size + 1) scope.names []) ∨ cl.lookup x = some c := fun x c e => by
    rw [lk] at e
    cases e1 : (cellsFrom (h0.objs.size + 1) scope.names []).lookup x with
    | none => rw [e1] at e; exact .inr e
    | some d => rw [e1] at e; cases e; exact .inl (PySem.mem_of_lookup e1)
  refine ⟨fun x hx => ?_, fun x c hx e => ?_, fun x c e => ?_, fun x y c e1 e2 hc hcl => ?_⟩
  · obtain ⟨c, e⟩ := cellsFrom_has scope.names (h0.objs.size + 1) [] x (.inl hx)
    exact ⟨c, by rw [lk, e]; rfl, (ok.empty x c (PySem.mem_of_lookup e)).2⟩
  · rw [lk]
    cases e1 : (cellsFrom (h0.objs.size + 1) scope.names []).lookup x with
    | none => exact e
    | some d =>
      rcases cellsFrom_mem _ _ _ _ _ (PySem.mem_of_lookup e1) with z | z
      · cases z
      · exact absurd z hx
  · rcases two x c e with z | z
    · refine .inl ⟨?_, (ok.empty x c z).2, (ok.empty x c z).1⟩
      rcases cellsFrom_mem _ _ _ _ _ z with q | q
      · cases q
      · exact q
    · exact .inr z
  · rcases two x c e1 with z1 | z1
    · rcases two y c e2 with z2 | z2
      · exact name_of_addr ok.apart z1 z2
      · exact absurd (hcl _ _ z2) (Nat.not_le.mpr hc)
    · exact absurd (hcl _ _ z1) (Nat.not_le.mpr hc)
section
variable {X : Cx} {scope : Scope} {Nc : List Str} {fr : List (Option Nat)} {pins : List (Addr × Obj)} {σ : St} {H : Hp} {s : Shared} {fp : List Addr}
theorem comp_cells (ok : CompOk X.env.scope scope X.N Nc fr) (I : Inv X pins σ H s) : ∀ y ∈ scope.names, y.2 = .free → ∃ c, X.env.cells.lookup y.1 = some c := fun y hy hk => by
  rcases ok.fre y hy hk with z | z
  · exact I.ok.has y.1 (.inl z)
  · exact I.ok.has y.1 (.inr z)
theorem comp_start (ok : CompOk X.env.scope scope X.N Nc fr) (I : Inv X pins σ H s) (hf : ∀ b ∈ fp, FpOk X pins H b) (hlt : ∀ b ∈ fp, b < s.heap.objs.size) {h1 : Heap} {m1 : Str → Option Value}
    (hn : h1.Ns s.heap.objs.size m1) (up : ∀ b o, s.heap.get? b = some o → h1.get? b = some o) (cs : CellsC scope (clOf X.env scope.names []) s.heap.objs.size h1) :
    Inv (cxC X scope Nc s.heap.objs.size pins fp s H) [] (σc fr σ) H { s with heap := h1 } := by
  have hcell := comp_cells ok I
  have stk : ∀ b, b ∈ frs X.stack → b ∈ X.env.locals :: X.fs := I.stkSub
  have clt : ∀ x c, X.env.cells.lookup x = some c → c < s.heap.objs.size := fun x c e => by
    obtain ⟨v, q⟩ := I.cell x c e
    exact q.lt
  have cll : ∀ x c, (clOf X.env scope.names []).lookup x = some c → c ≤ s.heap.objs.size := fun x c e => Nat.le_of_lt (clt x c (cl_fact hcell e).2)
  have kw : ∀ x, (relabel scope X.env).names.lookup x = some .cell ∨ (relabel scope X.env).names.lookup x = some .free → scope.names.lookup x = some .free ∨ scope.names.lookup x = some .cell := fun x h => by
    rw [lookup_relabel] at h
    cases e : scope.names.lookup x with
    | none => rw [e] at h; rcases h with h | h <;> cases h
    | some k =>
      rw [e] at h
      by_cases hk : k = .free
      · rw [hk]; exact .inl rfl
      · have : (k == NameKind.free) = false := by simpa using hk
        simp only [Option.map_some, this, Bool.false_and, Bool.false_eq_true, if_false] at h
        rcases h with h | h
        · exact .inr h
        · exact absurd (Option.some.inj h) hk
  refine ⟨⟨I.ok.mod, ok.kind, I.ok.glob, I.ok.blt, Nat.le_refl _, fun x y c h1 h2 => ?_, fun x hx => ?_, fun x c h e => ?_, I.ok.hd, I.ok.frames, .inl rfl, fun b hb => ⟨?_, fun x c e => ?_⟩, I.bs, Nat.le_trans I.ok.bsz I.sz, fun b o e hb => ?_, fun b hb hb' => ?_, I.stack, I.stkFree⟩,
    rfl, I.bare, Un.kept up, ⟨m1, hn, fun i x v e1 e2 e3 => ?_⟩, fun x c e => ?_, I.hok.fresh (Nat.le_refl _), fun x c e => ?_, fun p hp => ?_, I.hok.kept up, ?_⟩
  · rcases cs.two x c h1 with ⟨_, z, _⟩ | z1
    · exact cs.inj x y c h1 h2 z cll
    · rcases cs.two y c h2 with ⟨_, z, _⟩ | z2
      · exact cs.inj x y c h1 h2 z cll
      · exact I.ok.inj x y c (cl_fact hcell z1).2 (cl_fact hcell z2).2
  · rcases kw x hx with q | q
    · have hm : (x, NameKind.free) ∈ scope.names := PySem.mem_of_lookup q
      obtain ⟨c, e⟩ := hcell _ hm rfl
      have nc : (x, NameKind.cell) ∉ scope.names := fun z => by
        have := ok.cel _ z rfl
        rw [q] at this
        cases this
      exact ⟨c, cs.off x c nc (cl_some hm e)⟩
    · obtain ⟨c, e, _⟩ := cs.has x (PySem.mem_of_lookup q)
      exact ⟨c, e⟩
  · have q : scope.names.lookup x = some .cell := by
      have h' : (scope.names.lookup x == some NameKind.cell) = true := h
      simpa using h'
    obtain ⟨c', e', l⟩ := cs.has x (PySem.mem_of_lookup q)
    have e2 : (cellsFrom (s.heap.objs.size + 1) scope.names (clOf X.env scope.names [])).lookup x = some c := e
    rw [e'] at e2
    cases e2
    exact Nat.le_of_lt l
  · exact Nat.ne_of_lt (hlt b hb)
  · rcases cs.two x c e with ⟨_, z, _⟩ | z
    · exact Nat.ne_of_gt (Nat.lt_trans (hlt b hb) z)
    · exact (hf b hb).2.2.2.2.1 x c (cl_fact hcell z).2
  · rcases (hf b hb).2.2.2.1 with z | z
    · exact I.ok.noex b o e z
    · exact absurd (Nat.lt_of_lt_of_le (Heap.lt_size e) (Nat.le_trans I.ok.bsz z)) (Nat.lt_irrefl _)
  · have q := hf b hb
    rcases List.mem_cons.mp (stk b hb') with z | z
    · exact q.2.1 z
    · exact q.2.2.1 z
  · have e2' : (σc fr σ)[i]? = some (some v) := e2
    unfold σc at e2'
    rw [List.getElem?_map] at e2'
    cases ef : fr[i]? with
    | none => rw [ef] at e2'; cases e2'
    | some o =>
      rw [ef] at e2'
      cases o with
      | none => cases e2'
      | some j =>
        obtain ⟨y, a1, a2, a3⟩ := ok.frs i j ef
        have a1' : (cxC X scope Nc s.heap.objs.size pins fp s H).N[i]? = some y := a1
        rw [a1'] at e1
        obtain rfl : y = x := Option.some.inj e1
        have ej : σ[j]? = some (some v) := by
          have e2'' : (σ[j]?).bind id = some v := Option.some.inj e2'
          cases es : σ[j]? with
          | none => rw [es] at e2''; cases e2''
          | some z => rw [es] at e2''; cases z with
            | none => cases e2''
            | some z' => exact congrArg some e2''
        have hm : (y, NameKind.free) ∈ scope.names := PySem.mem_of_lookup a3
        have kc := ok.fre _ hm rfl
        obtain ⟨m, hn', hl⟩ := I.loc
        obtain ⟨u, r, l⟩ := hl j y v a2 ej (.inr kc)
        refine ⟨u, r, .inr ?_⟩
        rcases l with ⟨k, _⟩ | ⟨k, c, e, z⟩
        · exfalso
          have k' : X.env.scope.names.lookup y = some .local := k
          rcases kc with q | q <;> (rw [q] at k'; cases k')
        · have nc : (y, NameKind.cell) ∉ scope.names := fun z => by
            have := ok.cel _ z rfl
            rw [a3] at this
            cases this
          refine ⟨?_, c, cs.off y c nc (cl_some hm e), ?_⟩
          · show (relabel scope X.env).names.lookup y = some .cell ∨ (relabel scope X.env).names.lookup y = some .free
            rw [lookup_relabel, a3]
            show some (if _ then _ else _) = _ ∨ some (if _ then _ else _) = _
            split
            · exact .inl rfl
            · exact .inr rfl
          · obtain ⟨oc, ho, hd⟩ := z
            exact ⟨oc, up _ _ ho, hd⟩
  · rcases cs.two x c e with ⟨_, _, z⟩ | z
    · exact ⟨none, z⟩
    · obtain ⟨v, oc, ho, hd⟩ := I.cell x c (cl_fact hcell z).2
      exact ⟨v, oc, up _ _ ho, hd⟩
  · rcases cs.two x c e with ⟨_, z, _⟩ | z
    · exact I.hok.fresh (Nat.le_of_lt z)
    · exact I.freeC x c (cl_fact hcell z).2
  · have hp' : p ∈ X.pn ++ pins := by
      rcases List.mem_append.mp hp with z | z
      · exact z
      · exact absurd z (by simp)
    obtain ⟨e, n, ne, nf, d⟩ := I.pin p hp'
    refine ⟨up _ _ e, n, Nat.ne_of_lt (Heap.lt_size e), fun z => ?_, d⟩
    rcases List.mem_cons.mp (stk _ z) with z | z
    · exact ne z
    · exact nf z
  · unfold σc
    rw [List.length_map]
    exact ok.len
end
end L2
namespace L2
open PySem PySem.Spec PyProof.Rows
def tTurns (J : It) (σ₀ : St) (g : TG) (tt : TT) (te : TE) (D : Addr) (H1 : Hp) (Q : VK) : Prop :=
  ∃ W : Nat → Nat → List V → Hp → Prop, (∃ m, W 0 m [] (upd H1 D (.lst []))) ∧ ∀ i m ys H, W i m ys H →
    (J.stop i H ∧ Q (.ref D) H) ∨ (J.go i H ∧ ∀ x H', J.yld i H x H' → g x σ₀ H' fun σ2 H2 => Fwd σ2 σ₀ ∧ tt σ2 H2 fun b H3 =>
      if b = true then te σ2 H3 fun y H4 => H4 D = some (.lst ys) ∧ ys.length < sizeLine ∧ ∃ m', m' < m ∧ W (i + 1) m' (ys ++ [y]) (upd H4 D (.lst (ys ++ [y])))
      else ∃ m', m' < m ∧ W (i + 1) m' ys H3)
def CompEndR (X : Cx) (pins : List (Addr × Obj)) (σ : St) (Q : VK) (acc : Value) (C : Addr) (r : Result) (s' : Shared) : Prop :=
  ∃ D H', acc = .ref D ∧ r = .ok .next ∧ Inv X pins σ H' s' ∧ FpOk X pins H' C ∧ (∃ m, s'.heap.Ns C m) ∧ Q (.ref D) H'
section
variable {X : Cx} {scope : Scope} {Nc : List Str} {fr : List (Option Nat)} {pins : List (Addr × Obj)} {σ : St} {H : Hp} {s : Shared} {fp : List Addr}
theorem comp_core {tg elt iter : Expr} {ifs : List Expr} {pos : Pos} {g : TG} {tt : TT} {te : TE} {J : It} {it : Addr} {tn : Nat → Heap → Prop} {Q : VK} {E : Value → Shared → Prop} (ok : CompOk X.env.scope scope X.N Nc fr) (hc : X.calm = true)
    (hg : ∀ Cc pins fp s3 H3, PG (cxC X scope Nc Cc pins fp s3 H3) tg g) (ht : ∀ Cc pins fp s3 H3, PIfs (cxC X scope Nc Cc pins fp s3 H3) ifs tt) (he : ∀ Cc pins fp s3 H3, PE (cxC X scope Nc Cc pins fp s3 H3) elt te)
    (I : Inv X pins σ H s) (T : Turn X.prog X.w X.K tg J fp it tn) (st : tn 0 s.heap) (hf : ∀ b ∈ fp, FpOk X pins H b) (w : ∀ D, H D = none → tTurns J (σc fr σ) g tt te D H Q) :
    wpAny (model X.prog X.w) X.A (newList []) (fun acc s₃ => wpAny (model X.prog X.w) X.A (newFunctionEnv scope X.env.globals (clOf X.env scope.names []) [] X.env.qual none .none (some X.env)) (fun cenv s₄ =>
      codeAny (model X.prog X.w) X.A (.compStart (.ListComp elt [⟨tg, iter, ifs, 0⟩] scope pos) 0 (.ref it) acc { cenv with scope := relabel scope X.env }) (CompEndR X pins σ Q acc cenv.locals) s₄) E s₃) E s := by
  have flt : ∀ b ∈ fp, b < s.heap.objs.size := fun b hb => by
    obtain ⟨o, e, _⟩ := T.obj 0 _ st b hb
    exact Heap.lt_size e
  refine wpAny_newList ?_ (by show 0 ≤ sizeLine; exact Nat.zero_le _)
  have I3 := I.lnew (ys := []) (its := []) (t' := s.toks) .nil (Nat.zero_le _)
  have st3 : tn 0 (s.heap.push { cls := .type "list", data := .seq ([] : List Value).toArray }) := T.keep 0 _ _ st fun b _ o e => Heap.get?_push_of_some _ e
  obtain ⟨W, ⟨m0, w0⟩, turn⟩ := w s.heap.objs.size I.fresh
  have hf3 : ∀ b ∈ fp, FpOk X pins (upd H s.heap.objs.size (.lst [])) b := fun b hb => ⟨by rw [upd_ne (Nat.ne_of_lt (flt b hb))]; exact (hf b hb).1, (hf b hb).2⟩
  generalize hD : s.heap.objs.size = D at *
  generalize hs3 : ({ s with heap := s.heap.push { cls := .type "list", data := .seq ([] : List Value).toArray } } : Shared) = s3
  have I3' : Inv X pins σ (upd H D (.lst [])) s3 := hs3 ▸ I3
  have st3' : tn 0 s3.heap := by rw [← hs3]; exact st3
  have flt3 : ∀ b ∈ fp, b < s3.heap.objs.size := fun b hb => by
    obtain ⟨o, e, _⟩ := T.obj 0 _ st3' b hb
    exact Heap.lt_size e
  refine wp_newEnvC ?_
  generalize hh1 : pushCells (s3.heap.push { cls := .type "dict", data := .dict #[] }) scope.names = h1
  have hn1 : h1.Ns s3.heap.objs.size (fun _ => none) := hh1 ▸ (Heap.Ns.new s3.heap (.type "dict")).keeps (pushCells_keeps _ _)
  have up : ∀ b o, s3.heap.get? b = some o → h1.get? b = some o := fun b o e => hh1 ▸ pushCells_keeps _ _ b o (Heap.get?_push_of_some _ e)
  have cs1 : CellsC scope (clOf X.env scope.names []) s3.heap.objs.size h1 := hh1 ▸ cellsC scope (clOf X.env scope.names []) s3.heap _
  have I4 : Inv (cxC X scope Nc s3.heap.objs.size pins fp s3 (upd H D (.lst []))) [] (σc fr σ) (upd H D (.lst [])) { s3 with heap := h1 } := comp_start ok I3' hf3 flt3 hn1 up cs1
  have st4 : tn 0 h1 := T.keep 0 _ _ st3' fun b _ o e => up b o e
  generalize hXc : cxC X scope Nc s3.heap.objs.size pins fp s3 (upd H D (.lst [])) = Xc at I4
  have hg' : PG Xc tg g := hXc ▸ hg _ _ _ _ _
  have ht' : PIfs Xc ifs tt := hXc ▸ ht _ _ _ _ _
  have he' : PE Xc elt te := hXc ▸ he _ _ _ _ _
  have eP : Xc.prog = X.prog := by rw [← hXc]; rfl
  have ew : Xc.w = X.w := by rw [← hXc]; rfl
  have eK : Xc.K = X.K := by rw [← hXc]; rfl
  have eA : Xc.A = X.A := by rw [← hXc]; rfl
  have ec : Xc.calm = true := by rw [← hXc]; exact hc
  have ex : Xc.xe = fun _ _ => False := by rw [← hXc]; rfl
  have ee : Xc.env = compEnvC scope (cellsFrom (s3.heap.objs.size + 1) scope.names (clOf X.env scope.names [])) s3.heap.objs.size X.env := by rw [← hXc]; rfl
  have elo : Xc.env.locals = s3.heap.objs.size := by rw [ee]; rfl
  have stat : ∀ {H' : Hp}, (∀ b ∈ fp, H' b = none) → ∀ b ∈ fp, FpOk Xc [] H' b := fun {H'} hn b hb => by
    have q := hf b hb
    refine ⟨hn b hb, by rw [elo]; exact Nat.ne_of_lt (flt3 b hb), fun z => ?_, .inl (by rw [← hXc]; exact hb), fun x c e => ?_, fun p hp => ?_⟩
    · have z' : b ∈ frs X.stack := by rw [← hXc] at z; exact z
      rcases List.mem_cons.mp (I.stkSub b z') with z | z
      · exact q.2.1 z
      · exact q.2.2.1 z
    · have e' : (cellsFrom (s3.heap.objs.size + 1) scope.names (clOf X.env scope.names [])).lookup x = some c := by rw [ee] at e; exact e
      rcases cs1.two x c e' with ⟨_, z, _⟩ | z
      · exact Nat.ne_of_gt (Nat.lt_trans (flt3 b hb) z)
      · exact q.2.2.2.2.1 x c (cl_fact (comp_cells ok I) z).2
    · have hp' : p ∈ (X.pn ++ pins) ++ [] := by rw [← hXc] at hp; exact hp
      rw [List.append_nil] at hp'
      exact q.2.2.2.2.2 p hp'
  have loop : codeAny (model X.prog X.w) X.A (.compLoop (.ListComp elt [⟨tg, iter, ifs, 0⟩] scope pos) 0 (.ref it) (.ref D) Xc.env) (CompEndR X pins σ Q (.ref D) s3.heap.objs.size) { s3 with heap := h1 } := by
    refine comp_loop (fun n s' => ∃ i ys H', Inv Xc [] (σc fr σ) H' s' ∧ tn i s'.heap ∧ (∀ b ∈ fp, H' b = none) ∧ W i n ys H') ?_ m0 ⟨0, [], _, I4, st4, fun b hb => (hf3 b hb).1, w0⟩
    rintro n s5 ⟨i, ys, H5, I5, st5, fr5, w5⟩
    rcases turn i n ys H5 w5 with ⟨stop, qn⟩ | ⟨go, step⟩
    · have q := T.done Xc eP ew eK ec i [] s5 (σc fr σ) H5 (fun _ _ => False) I5 (stat fr5) st5 stop
      rw [eA] at q
      refine thn q fun r s6 ⟨hr, I6⟩ => ?_
      subst hr
      obtain ⟨m6, hn6, _⟩ := I6.loc
      have fC : H5 s3.heap.objs.size = none := by have := I6.free; rwa [elo] at this
      have bs := I6.base
      have os := I6.os
      have hk := I6.hok
      rw [← hXc] at bs os hk
      refine ⟨D, H5, rfl, rfl, I3'.call' os bs hk I6.bare fun b hb => ?_, I3'.fpOk (Nat.le_refl _) fC, ⟨m6, by rw [elo] at hn6; exact hn6⟩, qn⟩
      have q := hf b hb
      exact ⟨q.2.2.2.1, q.2.1, q.2.2.2.2.1, q.2.2.2.2.2⟩
    · have q := T.item Xc eP ew eK ec i [] s5 (σc fr σ) H5 (fun _ _ => False) I5 (stat fr5) st5 go
      rw [eA] at q
      refine thn q fun r s6 ⟨u, hr, h6⟩ => ?_
      subst hr
      refine thn h6 fun _ s7 ⟨x, H7, I7, r7, y7, st7, fr7⟩ => ?_
      have I7' := I7.pinned (stat fr7) (T.obj _ _ st7)
      have q8 := hg' _ s7 _ H7 x u _ I7' r7 (step x H7 y7)
      rw [eP, ew, eA, ex] at q8
      refine thn q8 fun _ s8 ⟨σ8, H8, I8, fw8, q8⟩ => ?_
      have q9 := ht' _ s8 σ8 H8 _ I8 q8
      rw [eP, ew, eA, ex] at q9
      refine thn q9 fun b s9 ⟨H9, I9, q9⟩ => ?_
      have again : ∀ {H' : Hp} {ys' : List V} {s' : Shared}, Inv Xc ([] ++ pinsAt fp s7.heap) σ8 H' s' → (∃ m', m' < n ∧ W (i + 1) m' ys' H') → ∃ m, m < n ∧ ∃ i ys H', Inv Xc [] (σc fr σ) H' s' ∧ tn i s'.heap ∧ (∀ b ∈ fp, H' b = none) ∧ W i m ys H' := fun {H' ys' s'} J' ⟨m', hm, w'⟩ => by
        refine ⟨m', hm, i + 1, ys', H', (J'.unpinned).weak fw8.1.symm fw8.2, T.keep _ _ _ st7 fun b hb o e => (J'.pin (b, o) (List.mem_append_right _ (List.mem_append_right _ (mem_pinsAt hb e)))).1, fun b hb => ?_, w'⟩
        obtain ⟨o, e, d⟩ := T.obj _ _ st7 b hb
        exact (J'.pin (b, o) (List.mem_append_right _ (List.mem_append_right _ (mem_pinsAt hb e)))).2.1
      cases b with
      | false =>
        rw [if_neg (by simp)]
        exact again I9 q9
      | true =>
        rw [if_pos rfl]
        have q9' : te σ8 H9 fun y H4 => H4 D = some (.lst ys) ∧ ys.length < sizeLine ∧ ∃ m', m' < n ∧ W (i + 1) m' (ys ++ [y]) (upd H4 D (.lst (ys ++ [y]))) := q9
        have q10 := he' _ s9 σ8 H9 _ I9 q9'
        rw [eP, ew, eA, ex] at q10
        refine thn q10 fun y s10 ⟨z, H10, I10, r10, e10, l10, w10⟩ => ?_
        have q11 := mt_append (X := Xc) _ s10 σ8 H10 (.ref D) [z] (.ref D) [y] (fun v H' => ∃ m', m' < n ∧ W (i + 1) m' (ys ++ [z]) H') I10 rfl (.cons r10 .nil) ⟨D, ys, z, rfl, rfl, e10, l10, w10⟩
        rw [eP, ew, eA, ex] at q11
        exact thn q11 fun _ s11 ⟨_, H11, I11, _, w11⟩ => again I11 w11
  have loop' := loop
  rw [ee] at loop'
  exact codeAny_compStart_list loop' (T.self X.A 0 _ _ _ st4 loop')
def tComp (fr : List (Option Nat)) (wi : TI) (g : TG) (tt : TT) (te : TE) : TE := fun σ H Q => wi σ H fun J H1 => ∀ D, H1 D = none → tTurns J (σc fr σ) g tt te D H1 Q
theorem comp_after {C : Addr} {H' : Hp} {s' : Shared} {h' : Heap} (I : Inv X pins σ H' s') (f : FpOk X pins H' C) (hs : Heap.SameBut C s'.heap h') : Inv X pins σ H' { s' with heap := h' } :=
  I.turned (t' := s'.toks) (fun b o hb e => (hs.2 b hb).trans e) f.1 f.2.1 f.2.2.2.1 f.2.2.2.2.1 f.2.2.2.2.2
theorem pe_comp {tg elt iter : Expr} {ifs : List Expr} {pos : Pos} {g : TG} {tt : TT} {te : TE} {wi : TI} (ok : compOk X.env.scope scope X.N Nc fr = true) (hc : X.calm = true) (hi : PI X tg iter wi)
    (hg : ∀ Cc pins fp s3 H3, PG (cxC X scope Nc Cc pins fp s3 H3) tg g) (ht : ∀ Cc pins fp s3 H3, PIfs (cxC X scope Nc Cc pins fp s3 H3) ifs tt) (he : ∀ Cc pins fp s3 H3, PE (cxC X scope Nc Cc pins fp s3 H3) elt te)
    (hs : ∀ x, foldedSetIterable iter X.env x = pure x := by intro _; rfl) :
    PE X (.ListComp elt [⟨tg, iter, ifs, 0⟩] scope pos) (tComp fr wi g tt te) := by
  have ok := CompOk.of ok
  intro pins s σ H Q I h
  rw [eval_ListComp]
  refine wpAny_comprehension_free (use := none) rfl hs (closureFor_some (comp_cells ok I)) ok.kind ok.nms (thn (hi pins s σ H _ I h) fun v s1 h1 => thn h1 fun itv s2 h2 => ?_)
  obtain ⟨it, fp, tn, J, H2, e, I2, T, st2, f2, w⟩ := h2
  subst e
  refine thn (comp_core ok hc hg ht he I2 T st2 f2 w) fun acc s3 h3 => thn h3 fun cenv s4 h4 => codeAny_mono h4 fun r s5 h5 => ?_
  obtain ⟨D, H5, rfl, rfl, I5, f5, ⟨m5, n5⟩, q5⟩ := h5
  exact ⟨m5, n5, fun h' sb => ⟨.ref D, H5, comp_after I5 f5 sb, rfl, q5⟩⟩
theorem ps_comp {tg elt iter : Expr} {ifs : List Expr} {pos pos' pos'' : Pos} {g : TG} {tt : TT} {te : TE} {wi : TI} {i : Nat} {x : Str} (ok : compOk X.env.scope scope X.N Nc fr = true) (hc : X.calm = true) (hN : X.N.Nodup) (hi : X.N[i]? = some x) (hx : Loc X.env.scope x) (hit : PI X tg iter wi)
    (hg : ∀ Cc pins fp s3 H3, PG (cxC X scope Nc Cc pins fp s3 H3) tg g) (ht : ∀ Cc pins fp s3 H3, PIfs (cxC X scope Nc Cc pins fp s3 H3) ifs tt) (he : ∀ Cc pins fp s3 H3, PE (cxC X scope Nc Cc pins fp s3 H3) elt te)
    (hsw : swapsWith (.ListComp elt [⟨tg, iter, ifs, 0⟩] scope pos) (some (.Name x pos')) pos''.line X.env = pure true)
    (hs : ∀ x, foldedSetIterable iter X.env x = pure x := by intro _; rfl) (hf : X.fn x = true ∨ X.env.scope.names.lookup x = some .local := by first | exact .inl rfl | exact .inr rfl | assumption) :
    PS X (.Assign [.Name x pos'] (.ListComp elt [⟨tg, iter, ifs, 0⟩] scope pos) pos'') (tAsg (tComp fr wi g tt te) (gName i)) := by
  have ok := CompOk.of ok
  intro pins s σ H Dn I h
  rw [exec_Assign_Name_used _ _ _ _ hsw]
  refine wpAny_bind (wpAny_standAt (wpAny_bind ?_))
  refine wpAny_bind (m := comprehension (.ListComp elt [⟨tg, iter, ifs, 0⟩] scope pos) scope X.env (firstIterPos [⟨tg, iter, ifs, 0⟩] pos) (newList []) false (eval iter X.env) (some (assign (.Name x pos') X.env))) ?_
  refine thn (wpAny_comprehension_free (use := some (assign (.Name x pos') X.env)) (Q := fun _ s' => SP X pins Dn .next s') rfl hs (closureFor_some (comp_cells ok I)) ok.kind ok.nms (thn (hit pins s σ H _ I h) fun v s1 h1 => thn h1 fun itv s2 h2 => ?_)) fun _ s' q => wpAny_pure (wpAny_pure q)
  obtain ⟨it, fp, tn, J, H2, e, I2, T, st2, f2, w⟩ := h2
  subst e
  refine thn (comp_core ok hc hg ht he I2 T st2 f2 w) fun acc s3 h3 => thn h3 fun cenv s4 h4 => codeAny_mono h4 fun r s5 h5 => ?_
  obtain ⟨D, H5, rfl, rfl, I5, f5, ⟨m5, n5⟩, q5⟩ := h5
  refine wpAny_assign_Name (store_ok2 (v := .ref D) I5 hN hi hx rfl (fun s6 I6 ⟨a, sb, ha⟩ => ?_) hf)
  have nC : cenv.locals ≠ a := by
    rcases ha with ha | ha
    · rw [ha]; exact f5.2.1
    · exact Ne.symm (f5.2.2.2.2.1 x a ha)
  refine ⟨m5, n5.sameBut sb nC, fun h' sb' => ⟨_, H5, comp_after I6 f5 sb', q5⟩⟩
end
end L2
namespace L2
open PySem PySem.Spec PyProof.Rows
section
variable {X : Cx}
theorem op_isnotB : OpR X (compareOp .IsNot) (fun x y H Q => ∃ c d, x = .bl c ∧ y = .bl d ∧ Q (.bl (c != d)) H) := by
  intro pins s σ H x y v u Q I rx ry h
  obtain ⟨c, d, rfl, rfl, q⟩ := h
  cases rx
  cases ry
  exact isnot_bool (fin_bl I q rfl)
def rCat0 (K : PySem.W.Frag) : R2 := fun x y H Q => ∃ a b ys, x = .ref a ∧ y = .ref b ∧ SqT K H a [] ∧ SqT K H b ys ∧ Q (.ref b) H
theorem op_cat0 : OpR X (binaryOp .Add) (rCat0 X.K) := by
  intro pins s σ H x y v u Q I rx ry h
  obtain ⟨a, b, ys, rfl, rfl, ha, hb, q⟩ := h
  cases rx
  cases ry
  obtain ⟨its, r1, p1, _⟩ := I.tuple ha
  obtain ⟨its2, r2, p2, _⟩ := I.tuple hb
  have e : its = [] := r1.nil_iff.mpr rfl
  subst e
  obtain ⟨⟨cls, dd, data, sl⟩, ho, hc, n, hd⟩ := id p1
  obtain ⟨⟨cls2, dd2, data2, sl2⟩, ho2, hc2, n2, hd2⟩ := id p2
  simp only at hc hd hc2 hd2
  subst hc hd hc2 hd2
  exact concat_meets ⟨_, ho, rfl⟩ ⟨_, ho2, rfl⟩ noFill_tuple_add seq_tuple_add PySem.F.slot_tuple_add PySem.F.entry_tuple_add (PySem.F.args_tuple_add_2 _ _)
    (tuple_addW0 a b [].toArray its2.toArray n n2 dd dd2 sl sl2 (by simp)) ⟨ho, ho2, ⟨.ref b, H, I, rfl, q⟩⟩
theorem noFill_tuple_mul : fillsNumberSlot (.type "tuple") "mul" = pure false :=
  PySem.fillsNumberSlot_seq (id := "tuple.__mul__") (r := some (.builtin "tuple.__rmul__")) F.slot_tuple_mul.lookup (by decide +kernel) F.slot_tuple_rmul.lookup (by decide +kernel)
theorem repeat_tuple : seqRepeat? (.type "tuple") = pure (some (.builtin "tuple.__mul__")) := by
  unfold seqRepeat?
  have e1   := PySem.seqSlot_of (T := "tuple") (name := "__mul__") (id := "tuple.__mul__") F.slot_tuple_mul.lookup (by decide +kernel)
  have e2   := PySem.seqSlot_of (T := "tuple") (name := "__rmul__") (id := "tuple.__rmul__") F.slot_tuple_rmul.lookup (by decide +kernel)
  rw [e1, e2]
  rfl
theorem rmul_int_tuple (a : Int) (t : Tok) (l : Addr) (items : Array Value) (n : Nat) (dd : Option Addr) (sl : Array (Option Value)) :
    Meets (Builtin.«int.__rmul__» ⟨[.int a t, .ref l], []⟩) (fun _ R s => s.heap.get? l = some { cls := .type "tuple", dict := dd, data := .seq items n, slots := sl } ∧ R (.ok (.ret Value.notImplemented)) s) :=
  .of_wp fun prog w A R s h => by
    obtain ⟨hp, g, d, tk, os⟩ := s
    obtain ⟨hl, h⟩ := h
    wp_walk
    exact ⟨_, rfl, h⟩
theorem tuple_mulW (l : Addr) (items : Array Value) (n : Nat) (dd : Option Addr) (sl : Array (Option Value)) (x : Int) (u : Tok) (h1 : 1 < x) (h2 : x < 2 ^ 63) (h3 : items.isEmpty = false) (h4 : items.size * x ≤ sizeLine) :
    Meets (Builtin.«tuple.__mul__» ⟨[.ref l, .int x u], []⟩) (fun _ R s => s.heap.get? l = some { cls := .type "tuple", dict := dd, data := .seq items n, slots := sl } ∧
      R (.ok (.ret (Value.ref s.heap.objs.size))) { s with heap := s.heap.push { cls := Value.type "tuple", data := Data.seq (List.foldl (fun x1 x2 => x1 ++ x2) #[] (List.replicate x.toNat items)) } }) :=
  .of_wp fun prog w A R s h => by
    obtain ⟨hl, h⟩ := h
    have hT : s.TypeIs (.ref l) "tuple" := ⟨_, hl, rfl⟩
    have hI : IsTup s.heap l items := ⟨_, hl, rfl, n, rfl⟩
    have f1 := AutoSeq1.idx_int
    unfold Builtin.«tuple.__mul__»
    obtain ⟨hp, g, d, tk, os⟩ := s
    wp_walk using wpAny_loadPart' hl
    rw [if_neg (by simp; omega)]
    refine wpAny_bind (tupleItemsOf_ hI ?_)
    dsimp only
    have hx1 : (x == 1) = false := by
      have : x ≠ 1 := by omega
      simpa using this
    have e0 : ¬ (items.isEmpty || x == 1) = true := by
      rw [h3, hx1]
      simp
    have e1 : ¬ (decide (x ≤ 0) || items.isEmpty) = true := by
      have : ¬ x ≤ 0 := by omega
      rw [h3]
      simpa using this
    have hl9 : (sizeLine : Int) ≤ (2 ^ 63 - 1) / 8 := by decide
    have e2 : ¬ ((items.size : Int) * x > (2 ^ 63 - 1) / 8) := by omega
    have e3 : ¬ Builtin.Tuple.tupleTooMany ((items.size : Int) * x) = true := by
      unfold Builtin.Tuple.tupleTooMany
      simpa using h4
    rw [if_neg e0, if_neg e1, if_neg e2, if_neg e3]
    have hsz : (List.foldl (fun x1 x2 => x1 ++ x2) #[] (List.replicate x.toNat items)).size ≤ sizeLine := by
      have q := foldl_rep items.toList x.toNat []
      have q2 : List.foldl (fun x1 x2 => x1 ++ x2) #[] (List.replicate x.toNat items) = (List.replicate x.toNat items.toList).flatten.toArray := by
        simpa using q
      rw [q2, List.size_toArray, len_rep, Array.length_toList]
      have e : ((x.toNat : Nat) : Int) = x := by omega
      have : ((x.toNat * items.size : Nat) : Int) ≤ (sizeLine : Int) := by
        rw [Int.natCast_mul, e, Int.mul_comm]
        exact h4
      omega
    exact wpAny_bind (m := Builtin.Tuple.tupleExact _) (wpAny_newObj_type (wpAny_pure ⟨_, rfl, h⟩) hsz)
def rRepT (K : PySem.W.Frag) : R2 := fun x y H Q => ∃ l k xs, x = .ref l ∧ y = .int k ∧ SqT K H l xs ∧ 1 < k ∧ k < 2 ^ 63 ∧ xs ≠ [] ∧ (xs.length : Int) * k ≤ sizeLine ∧
  ∀ p, H p = none → Q (.ref p) (upd H p (.tup (List.replicate k.toNat xs).flatten))
theorem op_repT : OpR X (binaryOp .Mult) (rRepT X.K) := by
  intro pins s σ H x y v u Q I rx ry h
  obtain ⟨l, k, xs, rfl, rfl, hH, h1, h2, hne, hz, q⟩ := h
  cases rx
  obtain ⟨t, rfl⟩ := ry
  obtain ⟨its, r, ht, hzz⟩ := I.tuple hH
  have hl := r.length
  obtain ⟨⟨cls, dd, data, sl⟩, ho, hc, n, hd⟩ := id ht
  simp only at hc hd
  subst hc hd
  have hnew : List.foldl (fun x1 x2 => x1 ++ x2) #[] (List.replicate k.toNat its.toArray) = (List.replicate k.toNat its).flatten.toArray := by
    have := foldl_rep its k.toNat []
    rw [List.nil_append] at this
    exact this
  have h3 : its.toArray.isEmpty = false := by
    cases its with
    | nil => exact absurd (r.nil_iff.mp rfl) hne
    | cons a b => rfl
  have h4 : (its.toArray.size : Int) * k ≤ sizeLine := by rw [List.size_toArray, ← hl]; exact hz
  refine wpAny_binaryOp_repeat_ref (T := "tuple") (U := "int") (by decide) ⟨_, ho, rfl⟩ (fun s' => typeIs_int s' k t) noFill_tuple_mul F.fills_int_mul F.slot_int_rmul repeat_tuple F.slot_int_index.lookup
    (call_meets F.slot_int_rmul (typeIs_int s k t) F.entry_int_rmul (F.args_int_rmul_2 _ _) (rmul_int_tuple k t l its.toArray n dd sl)
      ⟨ho, rfl, ⟨_, ho, rfl⟩, call_meets F.slot_tuple_mul ⟨_, ho, rfl⟩ F.entry_tuple_mul (F.args_tuple_mul_2 _ _) (tuple_mulW l its.toArray n dd sl k t h1 h2 h3 h4) ⟨ho, ?_⟩⟩)
  rw [hnew]
  have hln : (List.replicate k.toNat xs).flatten.length ≤ sizeLine := by
    rw [len_rep]
    have e : ((k.toNat : Nat) : Int) = k := by omega
    have : ((k.toNat * xs.length : Nat) : Int) ≤ (sizeLine : Int) := by
      rw [Int.natCast_mul, e, Int.mul_comm]
      exact hz
    omega
  refine ⟨.ref s.heap.objs.size, _, I.laid (t' := s.toks) (o := .tup (List.replicate k.toNat xs).flatten) (fun b ob q => Heap.get?_push_of_some _ q) (Nat.le_refl _) ⟨hln, _, r.rep k.toNat, IsTup.new _ _⟩, rfl, q _ I.fresh⟩
theorem boolsAre_of {bs : List Bool} : ∀ {us : List Value}, Vals (bs.map V.bl) us → PyProof.Rows.LSm.BoolsAre us bs := by
  induction bs with
  | nil => intro us r; cases r; exact .nil
  | cons b bs ih =>
    intro us r
    cases r with
    | cons a t => cases a; exact .cons _ (ih t)
end
end L2
namespace L2
open PySem PySem.Spec PyProof.Rows
section
variable {X : Cx}
theorem iter_up {s : Shared} {h' : Heap} {o : Obj} (hk : ∀ b x, b ∉ [s.heap.objs.size] → (s.heap.push o).get? b = some x → h'.get? b = some x) : ∀ b x, s.heap.get? b = some x → h'.get? b = some x :=
  fun b x e => hk b x (fun hm => by
    rw [List.mem_singleton.mp hm] at e
    exact Nat.lt_irrefl _ (Heap.lt_size e)) (Heap.get?_push_of_some _ e)
theorem all_of (bs : List Bool) : ((List.range bs.length).all fun i => (bs[i]?).getD true) = bs.all id := by
  rw [Bool.eq_iff_iff]
  simp only [List.all_eq_true, List.mem_range, id]
  constructor
  · intro h b hb
    obtain ⟨i, hi, rfl⟩ := List.mem_iff_getElem.mp hb
    have := h i hi
    simpa [hi] using this
  · intro h i hi
    simp only [List.getElem?_eq_getElem hi, Option.getD_some]
    exact h _ (List.getElem_mem hi)
theorem call_all (hc : X.calm = true) : CallR X (.builtin "all") (fun xs H Q => ∃ (p : Addr) (bs : List Bool), xs = [.ref p] ∧ SqL X.K H p (bs.map V.bl) ∧ Q (.bl (bs.all id)) H) := by
  intro pins s σ H xs us Q I r h
  obtain ⟨p, bs, rfl, hq, q⟩ := h
  obtain ⟨u, rfl, rx⟩ := vals1 r
  cases rx
  obtain ⟨its, r', pl, hz⟩ := I.list hq
  have hb := boolsAre_of r'
  have hl := pl.isList
  have hlt : p < s.heap.objs.size := by obtain ⟨_, e, _⟩ := hl; exact Heap.lt_size e
  refine call_all_walk (wpAny_pyIter_list hl ?_)
  refine ⟨s.heap.objs.size, [s.heap.objs.size, p], [s.heap.objs.size], its.toArray.size, _, _, fun i => (bs[i]?).getD true, rfl, Walks.list (A := X.A.in1) (I.ok.hd hc) _ p (Nat.ne_of_lt hlt) its.toArray,
    ⟨⟨_, Heap.get?_push_size _ rfl, rfl, rfl⟩, hl.push _⟩, fun i v s' Q' E' hP hQ => ?_, fun h' tk hk => ?_⟩
  · obtain ⟨b, e, rfl⟩ := hb.get i v (by simpa using hP)
    simp only [e, Option.getD_some] at hQ
    exact wpAny_truthy_bool hQ
  · have e : its.toArray.size = bs.length := by
      have := r'.length
      rw [List.length_map] at this
      rw [List.size_toArray, ← this]
    rw [e, all_of]
    exact ⟨.bl (bs.all id), H, I.kept (iter_up hk), rfl, q⟩
def tyName (K : PySem.W.Frag) (H : Hp) (x : V) (n : String) : Prop := match x with
  | .non => n = "NoneType"
  | .bl _ => n = "bool"
  | .int _ => n = "int"
  | .str _ => n = "str"
  | .ref a => (n = "list" ∧ ∃ xs, SqL K H a xs) ∨ (n = "tuple" ∧ ∃ xs, SqT K H a xs)
  | _ => False
theorem inst_ok {pins : List (Addr × Obj)} {σ : St} {H : Hp} {s : Shared} {A : Around} {E : Value → Shared → Prop} {Q : Value → Shared → Prop} {c : Value} {b : Bool} {x : V} {u : Value} {n : String} (I : Inv X pins σ H s) (rx : RelV x u) (ty : tyName X.K H x n)
    (e : PySem.W.kitOne X.K (.type n) c = some b) (h : ∀ tk, Q (.bool b) { s with toks := tk }) : wpAny (model X.prog X.w) A (call (.builtin "isinstance") [u, c]) Q E s := by
  cases x with
  | non => cases (show n = _ from ty); exact isinst_ok I rx .non e h
  | bl y => cases (show n = _ from ty); exact isinst_ok I rx (.bl y) e h
  | int i => cases (show n = _ from ty); exact isinst_ok I rx (.int i) e h
  | str y => cases (show n = _ from ty); exact isinst_ok I rx (.str y) e h
  | ref a =>
    cases (show u = Value.ref a from rx)
    rcases (show (n = "list" ∧ ∃ xs, SqL X.K H a xs) ∨ (n = "tuple" ∧ ∃ xs, SqT X.K H a xs) from ty) with ⟨rfl, xs, hx⟩ | ⟨rfl, xs, hx⟩
    · obtain ⟨its, _, pl, _⟩ := I.list hx
      obtain ⟨o, h1, h2, _⟩ := pl.isList
      exact PySem.W.kia_one PySem.W.kitx_list I.kIn ⟨o, h1, h2⟩ e (fun z => nomatch z) h
    · obtain ⟨its, _, pl, _⟩ := I.tuple hx
      obtain ⟨o, h1, h2, _⟩ := pl
      exact PySem.W.kia_one PySem.W.kitx_tuple I.kIn ⟨o, h1, h2⟩ e (fun z => nomatch z) h
  | _ => exact False.elim ty
def isSub (n c : String) : Bool := n == c || (n == "bool" && c == "int")
theorem kit_tab (K : PySem.W.Frag) {n c : String} (hn : n = "NoneType" ∨ n = "bool" ∨ n = "int" ∨ n = "str" ∨ n = "list" ∨ n = "tuple") (hc : c = "int" ∨ c = "bool" ∨ c = "str" ∨ c = "list" ∨ c = "tuple") : PySem.W.kitOne K (.type n) (.type c) = some (isSub n c) := by
  rcases hn with rfl | rfl | rfl | rfl | rfl | rfl <;> rcases hc with rfl | rfl | rfl | rfl | rfl <;> first | rfl | (unfold PySem.W.kitOne; rfl) | trace_state
theorem call_isinst : CallR X (.builtin "isinstance") (fun xs H Q => ∃ x c n, xs = [x, .ty c] ∧ (c = "int" ∨ c = "bool" ∨ c = "str" ∨ c = "list" ∨ c = "tuple") ∧ tyName X.K H x n ∧ Q (.bl (isSub n c)) H) := by
  intro pins s σ H xs us Q I r h
  obtain ⟨x, c, n, rfl, hc, ty, q⟩ := h
  obtain ⟨u, u2, rfl, rx, rc⟩ := vals2 r
  cases rc
  have hn : n = "NoneType" ∨ n = "bool" ∨ n = "int" ∨ n = "str" ∨ n = "list" ∨ n = "tuple" := by
    cases x with
    | non => exact .inl ty
    | bl y => exact .inr (.inl ty)
    | int i => exact .inr (.inr (.inl ty))
    | str y => exact .inr (.inr (.inr (.inl ty)))
    | ref a =>
      rcases (show (n = "list" ∧ ∃ xs, SqL X.K H a xs) ∨ (n = "tuple" ∧ ∃ xs, SqT X.K H a xs) from ty) with z | z
      · exact .inr (.inr (.inr (.inr (.inl z.1))))
      · exact .inr (.inr (.inr (.inr (.inr z.1))))
    | _ => exact False.elim ty
  exact inst_ok I rx ty (kit_tab X.K hn hc) fun tk => ⟨.bl (isSub n c), H, I.tok tk, rfl, q⟩
end
end L2
namespace L2
open PySem PySem.Spec PyProof.Rows
inductive D where
  | int (i : Int) | bl (b : Bool) | non | str (x : Str) | tup (ds : List D) | lst (ds : List D)
  deriving Inhabited
mutual
def Den (K : PySem.W.Frag) (C : Hp) (v : V) : D → Prop
  | .int i => v = .int i
  | .bl b => v = .bl b
  | .non => v = .non
  | .str x => v = .str x
  | .tup ds => ∃ a xs, v = .ref a ∧ SqT K C a xs ∧ Dens K C xs ds
  | .lst ds => ∃ a xs, v = .ref a ∧ SqL K C a xs ∧ Dens K C xs ds
def Dens (K : PySem.W.Frag) (C : Hp) (vs : List V) : List D → Prop
  | [] => vs = []
  | d :: ds => ∃ x xs, vs = x :: xs ∧ Den K C x d ∧ Dens K C xs ds
end
theorem Same.seqT {K : PySem.W.Frag} {H H' : Hp} {a : Addr} {xs : List V} (e : Same H H') (h : SqT K H a xs) : SqT K H' a xs := by
  rcases h with h | h
  · rcases h with h | ⟨o, h⟩
    · exact .inl (.inl (e _ _ h))
    · exact .inl (.inr ⟨o, e _ _ h⟩)
  · exact .inr h
mutual
theorem Den.mono {K : PySem.W.Frag} {C C' : Hp} (e : Same C C') : ∀ {v : V} (d : D), Den K C v d → Den K C' v d
  | v, .int i, h => by unfold Den at h ⊢; exact h
  | v, .bl i, h => by unfold Den at h ⊢; exact h
  | v, .non, h => by unfold Den at h ⊢; exact h
  | v, .str i, h => by unfold Den at h ⊢; exact h
  | v, .tup ds, h => by
    unfold Den at h ⊢
    obtain ⟨a, xs, r, q, t⟩ := h
    exact ⟨a, xs, r, e.seqT q, Dens.mono e ds t⟩
  | v, .lst ds, h => by
    unfold Den at h ⊢
    obtain ⟨a, xs, r, q, t⟩ := h
    exact ⟨a, xs, r, e.seq q, Dens.mono e ds t⟩
theorem Dens.mono {K : PySem.W.Frag} {C C' : Hp} (e : Same C C') : ∀ {vs : List V} (ds : List D), Dens K C vs ds → Dens K C' vs ds
  | vs, [], h => by unfold Dens at h ⊢; exact h
  | vs, d :: ds, h => by
    unfold Dens at h ⊢
    obtain ⟨x, xs, r, q, t⟩ := h
    exact ⟨x, xs, r, Den.mono e d q, Dens.mono e ds t⟩
end
section
variable {K : PySem.W.Frag} {C : Hp}
theorem den_int {v : V} {i : Int} : Den K C v (.int i) ↔ v = .int i := by unfold Den; exact Iff.rfl
theorem den_bl {v : V} {i : Bool} : Den K C v (.bl i) ↔ v = .bl i := by unfold Den; exact Iff.rfl
theorem den_non {v : V} : Den K C v .non ↔ v = .non := by unfold Den; exact Iff.rfl
theorem den_str {v : V} {i : Str} : Den K C v (.str i) ↔ v = .str i := by unfold Den; exact Iff.rfl
theorem den_tup {v : V} {ds : List D} : Den K C v (.tup ds) ↔ ∃ a xs, v = .ref a ∧ SqT K C a xs ∧ Dens K C xs ds := by rw [Den]
theorem den_lst {v : V} {ds : List D} : Den K C v (.lst ds) ↔ ∃ a xs, v = .ref a ∧ SqL K C a xs ∧ Dens K C xs ds := by rw [Den]
theorem dens_nil {vs : List V} : Dens K C vs [] ↔ vs = [] := by rw [Dens]
theorem dens_cons {vs : List V} {d : D} {ds : List D} : Dens K C vs (d :: ds) ↔ ∃ x xs, vs = x :: xs ∧ Den K C x d ∧ Dens K C xs ds := by rw [Dens]
theorem Dens.cons {v : V} {vs : List V} {d : D} {ds : List D} (h : Den K C v d) (t : Dens K C vs ds) : Dens K C (v :: vs) (d :: ds) := dens_cons.mpr ⟨v, vs, rfl, h, t⟩
theorem Dens.nil : Dens K C [] [] := dens_nil.mpr rfl
theorem Dens.length : ∀ {vs : List V} {ds : List D}, Dens K C vs ds → vs.length = ds.length
  | vs, [], h => by
    rw [dens_nil.mp h]
    rfl
  | vs, d :: ds, h => by
    obtain ⟨x, xs, rfl, _, t⟩ := dens_cons.mp h
    simp [Dens.length t]
theorem Dens.append : ∀ {vs us : List V} {ds es : List D}, Dens K C vs ds → Dens K C us es → Dens K C (vs ++ us) (ds ++ es)
  | vs, us, [], es, h, q => by rw [dens_nil.mp h]; exact q
  | vs, us, d :: ds, es, h, q => by
    obtain ⟨x, xs, rfl, a, t⟩ := dens_cons.mp h
    exact Dens.cons a (Dens.append t q)
theorem Dens.drop : ∀ {vs : List V} {ds : List D} (n : Nat), Dens K C vs ds → Dens K C (vs.drop n) (ds.drop n)
  | vs, ds, 0, h => h
  | vs, [], n + 1, h => by rw [dens_nil.mp h]; exact .nil
  | vs, d :: ds, n + 1, h => by
    obtain ⟨x, xs, rfl, a, t⟩ := dens_cons.mp h
    exact Dens.drop n t
theorem Dens.take : ∀ {vs : List V} {ds : List D} (n : Nat), Dens K C vs ds → Dens K C (vs.take n) (ds.take n)
  | vs, ds, 0, h => by simp; exact .nil
  | vs, [], n + 1, h => by rw [dens_nil.mp h]; exact .nil
  | vs, d :: ds, n + 1, h => by
    obtain ⟨x, xs, rfl, a, t⟩ := dens_cons.mp h
    exact Dens.cons a (Dens.take n t)
theorem Dens.get : ∀ {vs : List V} {ds : List D} {i : Nat} {d : D}, Dens K C vs ds → ds[i]? = some d → ∃ v, vs[i]? = some v ∧ Den K C v d
  | vs, [], i, d, h, e => by cases e
  | vs, c :: ds, 0, d, h, e => by
    obtain ⟨x, xs, rfl, a, t⟩ := dens_cons.mp h
    cases e
    exact ⟨x, rfl, a⟩
  | vs, c :: ds, i + 1, d, h, e => by
    obtain ⟨x, xs, rfl, a, t⟩ := dens_cons.mp h
    exact Dens.get (i := i) t e
theorem Dens.rep {vs : List V} {ds : List D} (h : Dens K C vs ds) : ∀ k : Nat, Dens K C (List.replicate k vs).flatten (List.replicate k ds).flatten
  | 0 => .nil
  | k + 1 => by
    rw [List.replicate_succ, List.flatten_cons, List.replicate_succ, List.flatten_cons]
    exact h.append (Dens.rep h k)
theorem Dens.ints {vs : List V} : ∀ {ns : List Int}, Dens K C vs (ns.map D.int) → vs = ns.map V.int := by
  intro ns
  induction ns generalizing vs with
  | nil => intro h; exact dens_nil.mp h
  | cons n ns ih =>
    intro h
    obtain ⟨x, xs, rfl, a, t⟩ := dens_cons.mp h
    rw [den_int.mp a, ih t]
    rfl
theorem Dens.bools {vs : List V} : ∀ {ns : List Bool}, Dens K C vs (ns.map D.bl) → vs = ns.map V.bl := by
  intro ns
  induction ns generalizing vs with
  | nil => intro h; exact dens_nil.mp h
  | cons n ns ih =>
    intro h
    obtain ⟨x, xs, rfl, a, t⟩ := dens_cons.mp h
    rw [den_bl.mp a, ih t]
    rfl
end
structure Ext (C H C1 H1 : Hp) : Prop where
  hh : Same H H1
  cc : Same C C1
  ch : Same C1 H1
  ow : ∀ b, C b = none → H b ≠ none → C1 b = none
theorem Ext.refl {C H : Hp} (h : Same C H) : Ext C H C H := ⟨Same.refl _, Same.refl _, h, fun _ e _ => e⟩
theorem Ext.trans {C H C1 H1 C2 H2 : Hp} (a : Ext C H C1 H1) (b : Ext C1 H1 C2 H2) : Ext C H C2 H2 :=
  ⟨a.hh.trans b.hh, a.cc.trans b.cc, b.ch, fun c e n => b.ow c (a.ow c e n) fun z => n (a.hh.free z)⟩
theorem Same.upd {H : Hp} {p : Addr} {o : HO} (h : H p = none) : Same H (upd H p o) := fun b u e => by rw [upd_ne (ne_of_none e h)]; exact e
theorem Ext.new {C H : Hp} {p : Addr} {o : HO} (h : Same C H) (hp : H p = none) : Ext C H (upd C p o) (upd H p o) := by
  refine ⟨Same.upd hp, Same.upd (h.free hp), fun b u e => ?_, fun b e n => ?_⟩
  · by_cases hb : b = p
    · subst hb; rw [upd_same] at e ⊢; exact e
    · rw [upd_ne hb] at e ⊢; exact h b u e
  · rw [upd_ne (fun z => n (by rw [z]; exact hp))]; exact e
theorem Ext.newO {C H : Hp} {p : Addr} {o : HO} (h : Same C H) (hp : H p = none) : Ext C H C (upd H p o) :=
  ⟨Same.upd hp, Same.refl _, h.trans (Same.upd hp), fun b e n => e⟩
inductive DM where
  | k (kvs : List (Int × Int)) | t (kvs : List (List Int × Int)) | p (kvs : List ((Int × List Int) × Int))
def nkT (r : List Int) : NK := r.map fun i => Sum.inl (Sum.inl i)
def nkP (p : Int × List Int) : NK := [Sum.inl (Sum.inl p.1), Sum.inr (p.2.map Sum.inl)]
def shT : Nat → Bool := fun _ => true
def shP : Nat → Bool := fun i => i == 0
def hoM (K : PySem.W.Frag) : DM → HO
  | .k kvs => .dK (kvs.map fun p => (Sum.inl p.1, .int p.2))
  | .t kvs => .dT K shT (kvs.map fun p => (nkT p.1, .int p.2))
  | .p kvs => .dT K shP (kvs.map fun p => (nkP p.1, .int p.2))
theorem hoM_lst {K : PySem.W.Frag} {m : DM} {xs : List V} : hoM K m ≠ .lst xs := by cases m <;> intro z <;> cases z
inductive Sl where
  | un | im (d : D) | ow (ds : List D) | od (m : DM) | fd (m : DM)
abbrev DS := List Sl
structure Dcs (K : PySem.W.Frag) (H0 : Hp) (δ : DS) (σ : St) (C H : Hp) : Prop where
  od : ∀ (i : Nat) m, δ[i]? = some (.od m) → ∃ l, σ[i]? = some (some (.ref l)) ∧ C l = none ∧ H0 l = none ∧ H l = some (hoM K m)
  fd : ∀ (i : Nat) m, δ[i]? = some (.fd m) → ∃ l o, σ[i]? = some (some (.ref l)) ∧ C l = some (.frz o (hoM K m))
  ap : ∀ (i j : Nat) m n l, i ≠ j → δ[i]? = some (.od m) → δ[j]? = some (.od n) → σ[i]? = some (some (.ref l)) → σ[j]? ≠ some (some (.ref l))
def Sl.isD : Sl → Bool
  | .od _ => true
  | .fd _ => true
  | _ => false
theorem getE_set0 {α : Type} {l : List α} {i j : Nat} {x y : α} (h : (l.set i x)[j]? = some y) : (j = i ∧ x = y ∧ i < l.length) ∨ (j ≠ i ∧ l[j]? = some y) := by
  by_cases e : j = i
  · subst e
    have hl : j < l.length := by
      have := (List.getElem?_eq_some_iff.mp h).1
      simpa using this
    rw [List.getElem?_set_self hl] at h
    exact .inl ⟨rfl, Option.some.inj h, hl⟩
  · rw [List.getElem?_set_ne (Ne.symm e)] at h
    exact .inr ⟨e, h⟩
section
variable {K : PySem.W.Frag} {H0 C H C1 H1 : Hp} {δ : DS} {σ : St}
theorem Dcs.grow (D : Dcs K H0 δ σ C H) (e : Ext C H C1 H1) : Dcs K H0 δ σ C1 H1 := by
  refine ⟨fun i m h => ?_, fun i m h => ?_, D.ap⟩
  · obtain ⟨l, a, b, c, d⟩ := D.od i m h
    exact ⟨l, a, e.ow l b (by rw [d]; simp), c, e.hh _ _ d⟩
  · obtain ⟨l, o, a, b⟩ := D.fd i m h
    exact ⟨l, o, a, e.cc _ _ b⟩
theorem Dcs.weak (D : Dcs K H0 δ σ C H) {δ' : DS} (h : ∀ (i : Nat) x, δ'[i]? = some x → x.isD = true → δ[i]? = some x) : Dcs K H0 δ' σ C H :=
  ⟨fun i m e => D.od i m (h i _ e rfl), fun i m e => D.fd i m (h i _ e rfl), fun i j m n l hij e1 e2 => D.ap i j m n l hij (h i _ e1 rfl) (h j _ e2 rfl)⟩
theorem Dcs.set1 (D : Dcs K H0 δ σ C H) {i : Nat} {x : Sl} (hx : x.isD = false) : Dcs K H0 (δ.set i x) σ C H := D.weak fun j y e hy => by
  rcases getE_set0 e with ⟨_, z, _⟩ | ⟨_, e⟩
  · rw [← z, hx] at hy; cases hy
  · exact e
theorem Dcs.set2 (D : Dcs K H0 δ σ C H) {i : Nat} {x : Sl} {o : Option V} (hx : x.isD = false) : Dcs K H0 (δ.set i x) (σ.set i o) C H := by
  have key : ∀ (j : Nat) y, (δ.set i x)[j]? = some y → y.isD = true → j ≠ i ∧ δ[j]? = some y := fun j y e hy => by
    rcases getE_set0 e with ⟨_, z, _⟩ | ⟨hj, e⟩
    · rw [← z, hx] at hy; cases hy
    · exact ⟨hj, e⟩
  refine ⟨fun j m e => ?_, fun j m e => ?_, fun j k m n l hjk e1 e2 e3 => ?_⟩
  · obtain ⟨hj, e⟩ := key j _ e rfl
    rw [List.getElem?_set_ne (Ne.symm hj)]
    exact D.od j m e
  · obtain ⟨hj, e⟩ := key j _ e rfl
    rw [List.getElem?_set_ne (Ne.symm hj)]
    exact D.fd j m e
  · obtain ⟨hj, e1⟩ := key j _ e1 rfl
    obtain ⟨hk, e2⟩ := key k _ e2 rfl
    rw [List.getElem?_set_ne (Ne.symm hj)] at e3
    rw [List.getElem?_set_ne (Ne.symm hk)]
    exact D.ap j k m n l hjk e1 e2 e3
theorem Dcs.frzL (D : Dcs K H0 δ σ C H) {l : Addr} {xs : List V} (hc : C l = none) (hl : H l = some (.lst xs)) : Dcs K H0 δ σ (upd C l (.lst xs)) H := by
  refine ⟨fun i m e => ?_, fun i m e => ?_, D.ap⟩
  · obtain ⟨k, a, b, c, d⟩ := D.od i m e
    exact ⟨k, a, by rw [upd_ne (ne_of d hl hoM_lst)]; exact b, c, d⟩
  · obtain ⟨k, o, a, b⟩ := D.fd i m e
    exact ⟨k, o, a, Same.upd hc _ _ b⟩
theorem Dcs.updL (D : Dcs K H0 δ σ C H) {l : Addr} {xs ys : List V} (hl : H l = some (.lst xs)) : Dcs K H0 δ σ C (upd H l (.lst ys)) := by
  refine ⟨fun i m e => ?_, D.fd, D.ap⟩
  obtain ⟨k, a, b, c, d⟩ := D.od i m e
  exact ⟨k, a, b, c, by rw [upd_ne (ne_of d hl hoM_lst)]; exact d⟩
theorem Dcs.none (h : ∀ (i : Nat) x, δ[i]? = some x → x.isD = false) : Dcs K H0 δ σ C H := by
  refine ⟨fun i m e => ?_, fun i m e => ?_, fun i j m n l _ e => ?_⟩
  · have := h i _ e
    cases this
  · have := h i _ e
    cases this
  · have := h i _ e
    cases this
end
structure Rep (K : PySem.W.Frag) (C0 H0 : Hp) (δ : DS) (σ : St) (C H : Hp) : Prop where
  len : σ.length = δ.length
  ext : Ext C0 H0 C H
  im : ∀ (i : Nat) d, δ[i]? = some (.im d) → ∃ v, σ[i]? = some (some v) ∧ Den K C v d
  ow : ∀ (i : Nat) ds, δ[i]? = some (.ow ds) → ∃ l xs, σ[i]? = some (some (.ref l)) ∧ C l = none ∧ H0 l = none ∧ H l = some (.lst xs) ∧ Dens K C xs ds
  ap : ∀ (i j : Nat) ds es l, i ≠ j → δ[i]? = some (.ow ds) → δ[j]? = some (.ow es) → σ[i]? = some (some (.ref l)) → σ[j]? ≠ some (some (.ref l))
  dc : Dcs K H0 δ σ C H
section
variable {K : PySem.W.Frag} {C0 H0 C H C1 H1 : Hp} {δ : DS} {σ : St}
theorem Rep.grow (R : Rep K C0 H0 δ σ C H) (e : Ext C H C1 H1) : Rep K C0 H0 δ σ C1 H1 := by
  refine ⟨R.len, R.ext.trans e, fun i d h => ?_, fun i ds h => ?_, R.ap, R.dc.grow e⟩
  · obtain ⟨v, a, b⟩ := R.im i d h
    exact ⟨v, a, b.mono e.cc⟩
  · obtain ⟨l, xs, a, b, c, d, f⟩ := R.ow i ds h
    exact ⟨l, xs, a, e.ow l b (by rw [d]; simp), c, e.hh _ _ d, f.mono e.cc⟩
theorem Rep.ch (R : Rep K C0 H0 δ σ C H) : Same C H := R.ext.ch
theorem getE_set {α : Type} {l : List α} {i j : Nat} {x y : α} (h : (l.set i x)[j]? = some y) : (j = i ∧ x = y ∧ i < l.length) ∨ (j ≠ i ∧ l[j]? = some y) := by
  by_cases e : j = i
  · subst e
    have hl : j < l.length := by
      have := (List.getElem?_eq_some_iff.mp h).1
      simpa using this
    rw [List.getElem?_set_self hl] at h
    exact .inl ⟨rfl, Option.some.inj h, hl⟩
  · rw [List.getElem?_set_ne (Ne.symm e)] at h
    exact .inr ⟨e, h⟩
theorem Rep.setI (R : Rep K C0 H0 δ σ C H) {i : Nat} {v : V} {d : D} (h : Den K C v d) : Rep K C0 H0 (δ.set i (.im d)) (σ.set i (some v)) C H := by
  refine ⟨by simp [R.len], R.ext, fun j e h' => ?_, fun j ds h' => ?_, fun j k ds es l hjk h1 h2 h3 => ?_, R.dc.set2 rfl⟩
  · rcases getE_set h' with ⟨rfl, e1, hl⟩ | ⟨hj, h'⟩
    · cases e1
      exact ⟨v, by rw [List.getElem?_set_self (by rw [R.len]; exact hl)], h⟩
    · obtain ⟨u, a, b⟩ := R.im j e h'
      exact ⟨u, by rw [List.getElem?_set_ne (Ne.symm hj)]; exact a, b⟩
  · rcases getE_set h' with ⟨_, e1, _⟩ | ⟨hj, h'⟩
    · cases e1
    · obtain ⟨l, xs, a, b⟩ := R.ow j ds h'
      exact ⟨l, xs, by rw [List.getElem?_set_ne (Ne.symm hj)]; exact a, b⟩
  · rcases getE_set h1 with ⟨_, e1, _⟩ | ⟨hj, h1⟩
    · cases e1
    · rcases getE_set h2 with ⟨_, e1, _⟩ | ⟨hk, h2⟩
      · cases e1
      · rw [List.getElem?_set_ne (Ne.symm hj)] at h3
        rw [List.getElem?_set_ne (Ne.symm hk)]
        exact R.ap j k ds es l hjk h1 h2 h3
theorem Rep.setO (R : Rep K C0 H0 δ σ C H) {i : Nat} {l : Addr} {xs : List V} {ds : List D} (h0 : H0 l = none) (hc : C l = none) (hn : ∀ (j : Nat) es, j ≠ i → δ[j]? = some (.ow es) → σ[j]? ≠ some (some (.ref l))) (hl : H l = some (.lst xs)) (h : Dens K C xs ds) :
    Rep K C0 H0 (δ.set i (.ow ds)) (σ.set i (some (.ref l))) C H := by
  refine ⟨by simp [R.len], R.ext, fun j e h' => ?_, fun j es h' => ?_, fun j k es fs m hjk h1 h2 h3 => ?_, R.dc.set2 rfl⟩
  · rcases getE_set h' with ⟨_, e1, _⟩ | ⟨hj, h'⟩
    · cases e1
    · obtain ⟨u, a, b⟩ := R.im j e h'
      exact ⟨u, by rw [List.getElem?_set_ne (Ne.symm hj)]; exact a, b⟩
  · rcases getE_set h' with ⟨rfl, e1, hl'⟩ | ⟨hj, h'⟩
    · cases e1
      exact ⟨l, xs, by rw [List.getElem?_set_self (by rw [R.len]; exact hl')], hc, h0, hl, h⟩
    · obtain ⟨m, ys, a, b⟩ := R.ow j es h'
      exact ⟨m, ys, by rw [List.getElem?_set_ne (Ne.symm hj)]; exact a, b⟩
  · rcases getE_set h1 with ⟨rfl, e1, hl1⟩ | ⟨hj, g1⟩
    · cases e1
      rw [List.getElem?_set_self (by rw [R.len]; exact hl1)] at h3
      cases h3
      rcases getE_set h2 with ⟨z, _⟩ | ⟨hk, h2⟩
      · exact absurd z.symm hjk
      · rw [List.getElem?_set_ne (Ne.symm hk)]
        exact hn k fs hk h2
    · rw [List.getElem?_set_ne (Ne.symm hj)] at h3
      rcases getE_set h2 with ⟨rfl, e1, hl1⟩ | ⟨hk, h2⟩
      · rw [List.getElem?_set_self (by rw [R.len]; exact hl1)]
        intro z
        cases z
        exact hn j es hj g1 h3
      · rw [List.getElem?_set_ne (Ne.symm hk)]
        exact R.ap j k es fs m hjk g1 h2 h3
theorem Rep.freeze' (R : Rep K C0 H0 δ σ C H) {i : Nat} {ds : List D} (h : δ[i]? = some (.ow ds)) : ∃ C1, Rep K C0 H0 (δ.set i (.im (.lst ds))) σ C1 H := by
  obtain ⟨l, xs, a, b, c, d, f⟩ := R.ow i ds h
  have hl : i < δ.length := (List.getElem?_eq_some_iff.mp h).1
  have up : Same C (upd C l (.lst xs)) := Same.upd b
  have ch : Same (upd C l (.lst xs)) H := fun z u e => by
    by_cases hz : z = l
    · subst hz; rw [upd_same] at e; cases e; exact d
    · rw [upd_ne hz] at e; exact R.ch z u e
  refine ⟨upd C l (.lst xs), by simp [R.len], ⟨R.ext.hh, R.ext.cc.trans up, ch, fun z e n => ?_⟩, fun j e h' => ?_, fun j es h' => ?_, fun j k es fs m hjk h1 h2 h3 => ?_, (R.dc.frzL b d).set1 rfl⟩
  · rw [upd_ne (fun q => n (by rw [q]; exact c))]
    exact R.ext.ow z e n
  · rcases getE_set h' with ⟨rfl, e1, hl'⟩ | ⟨hj, h'⟩
    · cases e1
      exact ⟨.ref l, a, den_lst.mpr ⟨l, xs, rfl, SqL.of upd_same, f.mono up⟩⟩
    · obtain ⟨u, a', b'⟩ := R.im j e h'
      exact ⟨u, a', b'.mono up⟩
  · rcases getE_set h' with ⟨_, e1, _⟩ | ⟨hj, h'⟩
    · cases e1
    · obtain ⟨m, ys, a', b', c', d', f'⟩ := R.ow j es h'
      refine ⟨m, ys, a', ?_, c', d', f'.mono up⟩
      rw [upd_ne]
      · exact b'
      · intro z
        subst z
        exact R.ap i j ds es m (Ne.symm hj) h h' a a'
  · rcases getE_set h1 with ⟨_, e1, _⟩ | ⟨hj, h1⟩
    · cases e1
    · rcases getE_set h2 with ⟨_, e1, _⟩ | ⟨hk, h2⟩
      · cases e1
      · exact R.ap j k es fs m hjk h1 h2 h3
theorem Rep.change (R : Rep K C0 H0 δ σ C H) {i : Nat} {ds es : List D} {l : Addr} {ys : List V} (h : δ[i]? = some (.ow ds)) (hs : σ[i]? = some (some (.ref l))) (hd : Dens K C ys es) :
    Rep K C0 H0 (δ.set i (.ow es)) σ C (upd H l (.lst ys)) := by
  obtain ⟨l', xs, a, b, c, d, f⟩ := R.ow i ds h
  rw [hs] at a
  cases a
  have hl : i < δ.length := (List.getElem?_eq_some_iff.mp h).1
  have ne : ∀ z u, C z = some u → z ≠ l := fun z u e q => by rw [q, b] at e; cases e
  refine ⟨by simp [R.len], ⟨fun z u e => ?_, R.ext.cc, fun z u e => ?_, R.ext.ow⟩, fun j e h' => ?_, fun j fs h' => ?_, fun j k fs gs m hjk h1 h2 h3 => ?_, (R.dc.updL d).set1 rfl⟩
  · rw [upd_ne (ne_of_none e c)]; exact R.ext.hh z u e
  · rw [upd_ne (ne z u e)]; exact R.ch z u e
  · rcases getE_set h' with ⟨_, e1, _⟩ | ⟨hj, h'⟩
    · cases e1
    · exact R.im j e h'
  · rcases getE_set h' with ⟨rfl, e1, hl'⟩ | ⟨hj, h'⟩
    · cases e1
      exact ⟨l, ys, hs, b, c, upd_same, hd⟩
    · obtain ⟨m, zs, a', b', c', d', f'⟩ := R.ow j fs h'
      refine ⟨m, zs, a', b', c', ?_, f'⟩
      rw [upd_ne]
      · exact d'
      · intro z
        subst z
        exact R.ap i j ds fs m (Ne.symm hj) h h' hs a'
  · have g1 : ∃ fs', δ[j]? = some (.ow fs') := by
      rcases getE_set h1 with ⟨rfl, _, _⟩ | ⟨_, h1⟩
      · exact ⟨_, h⟩
      · exact ⟨_, h1⟩
    have g2 : ∃ fs', δ[k]? = some (.ow fs') := by
      rcases getE_set h2 with ⟨rfl, _, _⟩ | ⟨_, h2⟩
      · exact ⟨_, h⟩
      · exact ⟨_, h2⟩
    obtain ⟨_, g1⟩ := g1
    obtain ⟨_, g2⟩ := g2
    exact R.ap j k _ _ m hjk g1 g2 h3
end
end L2
namespace L2
open PySem PySem.Spec PyProof.Rows
section
variable {X : Cx} {a b c e : Expr} {ta tb tc td : TE} {pos : Pos}
end
abbrev GE := DS → (D → Prop) → Prop
abbrev GF := DS → (List D → Prop) → Prop
abbrev GT := DS → (Bool → Prop) → Prop
def DE (X : Cx) (e : Expr) (g : GE) : Prop := ∃ t, PE X e t ∧ ∀ C0 H0 δ σ C H (Q : D → Prop) (R : VK), Rep X.K C0 H0 δ σ C H → g δ Q → (∀ d v C1 H1, Q d → Ext C H C1 H1 → Den X.K C1 v d → R v H1) → t σ H R
def DF (X : Cx) (e : Expr) (g : GF) : Prop := ∃ t, PE X e t ∧ ∀ C0 H0 δ σ C H (Q : List D → Prop) (R : VK), Rep X.K C0 H0 δ σ C H → g δ Q →
  (∀ ds p xs C1 H1, Q ds → Ext C H C1 H1 → C1 p = none → H p = none → H1 p = some (.lst xs) → Dens X.K C1 xs ds → R (.ref p) H1) → t σ H R
def DT (X : Cx) (e : Expr) (g : GT) : Prop := ∃ t, PT X e t ∧ ∀ C0 H0 δ σ C H (Q : Bool → Prop) (R : Bool → Hp → Prop), Rep X.K C0 H0 δ σ C H → g δ Q → (∀ b C1 H1, Q b → Ext C H C1 H1 → R b H1) → t σ H R
def DW (X : Cx) (e : Expr) (g : GT) : Prop := ∃ t, PW X e t ∧ ∀ C0 H0 δ σ C H (Q : Bool → Prop) (R : Bool → Hp → Prop), Rep X.K C0 H0 δ σ C H → g δ Q → (∀ b C1 H1, Q b → Ext C H C1 H1 → R b H1) → t σ H R
def DA (X : Cx) (es : List Expr) (g : GF) : Prop := ∃ t, PA X es t ∧ ∀ C0 H0 δ σ C H (Q : List D → Prop) (R : List V → Hp → Prop), Rep X.K C0 H0 δ σ C H → g δ Q → (∀ ds vs C1 H1, Q ds → Ext C H C1 H1 → Dens X.K C1 vs ds → R vs H1) → t σ H R
abbrev GO := D → D → (D → Prop) → Prop
def DOp (X : Cx) (f : Value → Value → Sem Value) (g : GO) : Prop := ∃ r, OpR X f r ∧ ∀ x y dx dy C H (Q : D → Prop) (R : VK), Same C H → Den X.K C x dx → Den X.K C y dy → g dx dy Q → (∀ d v C1 H1, Q d → Ext C H C1 H1 → Den X.K C1 v d → R v H1) → r x y H R
def DCall (X : Cx) (f : Value) (g : List D → (D → Prop) → Prop) : Prop := ∃ r, CallR X f r ∧ ∀ xs ds C H (Q : D → Prop) (R : VK), Same C H → Dens X.K C xs ds → g ds Q → (∀ d v C1 H1, Q d → Ext C H C1 H1 → Den X.K C1 v d → R v H1) → r xs H R
def DCallF (X : Cx) (f : Value) (g : List D → (List D → Prop) → Prop) : Prop := ∃ r, CallR X f r ∧ ∀ xs ds C H (Q : List D → Prop) (R : VK), Same C H → Dens X.K C xs ds → g ds Q →
  (∀ es p ys C1 H1, Q es → Ext C H C1 H1 → C1 p = none → H p = none → H1 p = some (.lst ys) → Dens X.K C1 ys es → R (.ref p) H1) → r xs H R
theorem ext_frz {C H C1 H1 : Hp} {p : Addr} {o : HO} (e : Ext C H C1 H1) (hc : C1 p = none) (hn : H p = none) (h1 : H1 p = some o) : Ext C H (upd C1 p o) H1 := by
  refine ⟨e.hh, e.cc.trans (Same.upd hc), fun b u q => ?_, fun b q n => ?_⟩
  · by_cases hb : b = p
    · subst hb; rw [upd_same] at q; cases q; exact h1
    · rw [upd_ne hb] at q; exact e.ch b u q
  · rw [upd_ne (fun z => n (by rw [z]; exact hn))]; exact e.ow b q n
section
variable {X : Cx} {a b c e : Expr} {es : List Expr} {pos : Pos} {ga gb gc gd : GE} {gf : GF} {ta tb : GT}
abbrev gF (g : GF) : GE := fun δ Q => g δ fun ds => Q (.lst ds)
theorem DF.toE (h : DF X e gf) : DE X e (gF gf) := by
  obtain ⟨t, p, h⟩ := h
  refine ⟨t, p, fun C0 H0 δ σ C H Q R rp g k => h C0 H0 δ σ C H _ R rp g fun ds p xs C1 H1 q ex hc hn hl hd => ?_⟩
  exact k (.lst ds) _ (upd C1 p (.lst xs)) H1 q (ext_frz ex hc hn hl) (den_lst.mpr ⟨p, xs, rfl, SqL.of upd_same, hd.mono (Same.upd hc)⟩)
def gVar (i : Nat) : GE := fun δ Q => match δ[i]? with
  | some (.im d) => Q d
  | _ => False
theorem de_var {i : Nat} {x : Str} (h : PE X (.Name x pos) (tVar i)) : DE X (.Name x pos) (gVar i) := by
  refine ⟨_, h, fun C0 H0 δ σ C H Q R rp g k => ?_⟩
  unfold gVar at g
  split at g
  · rename_i d e
    obtain ⟨v, a1, a2⟩ := rp.im i d e
    exact ⟨v, a1, k d v C H g (Ext.refl rp.ch) a2⟩
  · exact g.elim
abbrev gC (d : D) : GE := fun _ Q => Q d
theorem de_int {i j} : DE X (.Constant (.int i) j pos) (gC (.int i)) := ⟨_, pe_int, fun C0 H0 δ σ C H Q R rp g k => k _ _ C H g (Ext.refl rp.ch) (den_int.mpr rfl)⟩
theorem de_bl {i j} : DE X (.Constant (.bool i) j pos) (gC (.bl i)) := ⟨_, pe_bl, fun C0 H0 δ σ C H Q R rp g k => k _ _ C H g (Ext.refl rp.ch) (den_bl.mpr rfl)⟩
theorem de_non {j} : DE X (.Constant .none j pos) (gC .non) := ⟨_, pe_non, fun C0 H0 δ σ C H Q R rp g k => k _ _ C H g (Ext.refl rp.ch) (den_non.mpr rfl)⟩
theorem de_str {i j} : DE X (.Constant (.str i) j pos) (gC (.str i)) := ⟨_, pe_str, fun C0 H0 δ σ C H Q R rp g k => k _ _ C H g (Ext.refl rp.ch) (den_str.mpr rfl)⟩
theorem de_globI {x : Str} {i : Int} {t : Tok} (hg : Gl X x) (hm : X.mg x = some (.int i t)) (hd : (x == ("__debug__" : Str)) = false := by decide) : DE X (.Name x pos) (gC (.int i)) :=
  ⟨_, pe_glob (v := .int i) hg hm ⟨t, rfl⟩ hd, fun C0 H0 δ σ C H Q R rp g k => k _ _ C H g (Ext.refl rp.ch) (den_int.mpr rfl)⟩
def gOp (o : GO) (ga gb : GE) : GE := fun δ Q => ga δ fun x => gb δ fun y => o x y Q
theorem de_op {op : Operator} {o : GO} (ho : DOp X (binaryOp op) o) (ha : DE X a ga) (hb : DE X b gb) : DE X (.BinOp a op b pos) (gOp o ga gb) := by
  obtain ⟨r, pr, hr⟩ := ho
  obtain ⟨t1, p1, h1⟩ := ha
  obtain ⟨t2, p2, h2⟩ := hb
  refine ⟨_, pe_op pr p1 p2, fun C0 H0 δ σ C H Q R rp g k => ?_⟩
  refine h1 C0 H0 δ σ C H _ _ rp g fun d v C1 H1 q e1 n1 => h2 C0 H0 δ σ C1 H1 _ _ (rp.grow e1) q fun d2 v2 C2 H2 q2 e2 n2 => ?_
  exact hr v v2 d d2 C2 H2 Q R e2.ch (n1.mono e2.cc) n2 q2 fun d3 v3 C3 H3 q3 e3 n3 => k d3 v3 C3 H3 q3 (e1.trans (e2.trans e3)) n3
theorem de_cmp {op : CmpOp} {o : GO} (ho : DOp X (compareOp op) o) (ha : DE X a ga) (hb : DE X b gb) (hm : behindInMarks op b = false := by first | exact nomark _ | with_unfolding_all rfl) : DE X (.Compare a [op] [b] pos) (gOp o ga gb) := by
  obtain ⟨r, pr, hr⟩ := ho
  obtain ⟨t1, p1, h1⟩ := ha
  obtain ⟨t2, p2, h2⟩ := hb
  refine ⟨_, pe_cmpR pr p1 p2 hm, fun C0 H0 δ σ C H Q R rp g k => ?_⟩
  refine h1 C0 H0 δ σ C H _ _ rp g fun d v C1 H1 q e1 n1 => h2 C0 H0 δ σ C1 H1 _ _ (rp.grow e1) q fun d2 v2 C2 H2 q2 e2 n2 => ?_
  exact hr v v2 d d2 C2 H2 Q R e2.ch (n1.mono e2.cc) n2 q2 fun d3 v3 C3 H3 q3 e3 n3 => k d3 v3 C3 H3 q3 (e1.trans (e2.trans e3)) n3
def isBl (Q : Bool → Prop) : D → Prop
  | .bl b => Q b
  | _ => False
theorem isBl_of {Q : Bool → Prop} {d : D} {K : PySem.W.Frag} {C : Hp} {v : V} (h : isBl Q d) (n : Den K C v d) : ∃ b, v = .bl b ∧ Q b := by
  cases d with
  | bl b => exact ⟨b, den_bl.mp n, h⟩
  | _ => exact h.elim
def gTest (ga : GE) : GT := fun δ Q => ga δ (isBl Q)
theorem dt_cmp {op : CmpOp} {o : GO} (ho : DOp X (compareOp op) o) (ha : DE X a ga) (hb : DE X b gb) (hm : behindInMarks op b = false := by first | exact nomark _ | with_unfolding_all rfl) : DT X (.Compare a [op] [b] pos) (gTest (gOp o ga gb)) := by
  obtain ⟨r, pr, hr⟩ := ho
  obtain ⟨t1, p1, h1⟩ := ha
  obtain ⟨t2, p2, h2⟩ := hb
  refine ⟨_, pt_cmpR pr p1 p2 hm, fun C0 H0 δ σ C H Q R rp g k => ?_⟩
  refine h1 C0 H0 δ σ C H _ _ rp g fun d v C1 H1 q e1 n1 => h2 C0 H0 δ σ C1 H1 _ _ (rp.grow e1) q fun d2 v2 C2 H2 q2 e2 n2 => ?_
  refine hr v v2 d d2 C2 H2 _ _ e2.ch (n1.mono e2.cc) n2 q2 fun d3 v3 C3 H3 q3 e3 n3 => ?_
  obtain ⟨c, rfl, qc⟩ := isBl_of q3 n3
  exact ⟨c, rfl, k c C3 H3 qc (e1.trans (e2.trans e3))⟩
def gChain (o o' : GO) (ga gb gc : GE) : GE := fun δ Q => ga δ fun x => gb δ fun y => o x y (isBl fun k => if k = true then gc δ fun z => o' y z Q else Q (.bl false))
theorem de_chain {op op' : CmpOp} {o o' : GO} (ho : DOp X (compareOp op) o) (ho' : DOp X (compareOp op') o') (ha : DE X a ga) (hb : DE X b gb) (hc : DE X c gc)
    (hm : lastMarks [op, op'] [b, c] = false := by with_unfolding_all rfl) : DE X (.Compare a [op, op'] [b, c] pos) (gChain o o' ga gb gc) := by
  obtain ⟨r, pr, hr⟩ := ho
  obtain ⟨r', pr', hr'⟩ := ho'
  obtain ⟨t1, p1, h1⟩ := ha
  obtain ⟨t2, p2, h2⟩ := hb
  obtain ⟨t3, p3, h3⟩ := hc
  refine ⟨_, pe_chain pr pr' p1 p2 p3 hm, fun C0 H0 δ σ C H Q R rp g k => ?_⟩
  refine h1 C0 H0 δ σ C H _ _ rp g fun d v C1 H1 q e1 n1 => h2 C0 H0 δ σ C1 H1 _ _ (rp.grow e1) q fun d2 v2 C2 H2 q2 e2 n2 => ?_
  refine hr v v2 d d2 C2 H2 _ _ e2.ch (n1.mono e2.cc) n2 q2 fun d3 v3 C3 H3 q3 e3 n3 => ?_
  obtain ⟨c, rfl, qc⟩ := isBl_of q3 n3
  refine ⟨c, rfl, ?_⟩
  have e123 := e1.trans (e2.trans e3)
  cases c with
  | false => exact iteF (k (.bl false) _ C3 H3 (by simpa using qc) e123 (den_bl.mpr rfl))
  | true =>
    refine iteT (h3 C0 H0 δ σ C3 H3 _ _ (rp.grow e123) (by simpa using qc) fun d4 v4 C4 H4 q4 e4 n4 => ?_)
    exact hr' v2 v4 d2 d4 C4 H4 Q R e4.ch ((n2.mono e3.cc).mono e4.cc) n4 q4 fun d5 v5 C5 H5 q5 e5 n5 => k d5 v5 C5 H5 q5 (e123.trans (e4.trans e5)) n5
def gChain3 (o o' o'' : GO) (ga gb gc gd : GE) : GE := fun δ Q => ga δ fun x => gb δ fun y => o x y (isBl fun k => if k = true then gc δ (fun z => o' y z (isBl fun k2 => if k2 = true then gd δ fun w => o'' z w Q else Q (.bl false))) else Q (.bl false))
def gAndV (ga gb : GE) : GE := fun δ Q => ga δ (isBl fun c => if c = true then gb δ Q else Q (.bl false))
def gOrV (ga gb : GE) : GE := fun δ Q => ga δ (isBl fun c => if c = true then Q (.bl true) else gb δ Q)
def gNotV (ga : GE) : GE := fun δ Q => ga δ (isBl fun c => Q (.bl (!c)))
theorem de_one {op} (h : DE X a ga) : DE X (.BoolOp op [a] pos) ga := by
  obtain ⟨t, p, h⟩ := h
  exact ⟨t, pe_one p, h⟩
theorem de_and {rest : List Expr} (ha : DE X a ga) (hb : DE X (.BoolOp .And (b :: rest) pos) gb) : DE X (.BoolOp .And (a :: b :: rest) pos) (gAndV ga gb) := by
  obtain ⟨t1, p1, h1⟩ := ha
  obtain ⟨t2, p2, h2⟩ := hb
  refine ⟨_, pe_and p1 p2, fun C0 H0 δ σ C H Q R rp g k => h1 C0 H0 δ σ C H _ _ rp g fun d v C1 H1 q e1 n1 => ?_⟩
  obtain ⟨c, rfl, qc⟩ := isBl_of q n1
  refine ⟨c, rfl, ?_⟩
  cases c with
  | false => exact iteF (k (.bl false) _ C1 H1 (by simpa using qc) e1 (den_bl.mpr rfl))
  | true => exact iteT (h2 C0 H0 δ σ C1 H1 _ _ (rp.grow e1) (by simpa using qc) fun d2 v2 C2 H2 q2 e2 n2 => k d2 v2 C2 H2 q2 (e1.trans e2) n2)
def gAnd (ga gb : GT) : GT := fun δ Q => ga δ fun c => if c = true then gb δ Q else Q false
def gOr (ga gb : GT) : GT := fun δ Q => ga δ fun c => if c = true then Q true else gb δ Q
def gNot (ga : GT) : GT := fun δ Q => ga δ fun c => Q (!c)
theorem DW.t (h : DW X e ta) : DT X e ta := by
  obtain ⟨t, p, h⟩ := h
  exact ⟨t, p.pt, h⟩
theorem dw_and1 (h : DT X a ta) : DW X (.BoolOp .And [a] pos) ta := by
  obtain ⟨t, p, h⟩ := h
  exact ⟨t, pw_and1 p, h⟩
theorem dw_or1 (h : DT X a ta) : DW X (.BoolOp .Or [a] pos) ta := by
  obtain ⟨t, p, h⟩ := h
  exact ⟨t, pw_or1 p, h⟩
theorem dw_and {rest : List Expr} (ha : DT X a ta) (hb : DW X (.BoolOp .And (b :: rest) pos) tb) : DW X (.BoolOp .And (a :: b :: rest) pos) (gAnd ta tb) := by
  obtain ⟨t1, p1, h1⟩ := ha
  obtain ⟨t2, p2, h2⟩ := hb
  refine ⟨_, pw_and p1 p2, fun C0 H0 δ σ C H Q R rp g k => h1 C0 H0 δ σ C H _ _ rp g fun c C1 H1 q e1 => ?_⟩
  cases c with
  | false => exact iteF (k false C1 H1 (by simpa using q) e1)
  | true => exact iteT (h2 C0 H0 δ σ C1 H1 _ _ (rp.grow e1) (by simpa using q) fun c2 C2 H2 q2 e2 => k c2 C2 H2 q2 (e1.trans e2))
theorem dw_or {rest : List Expr} (ha : DT X a ta) (hb : DW X (.BoolOp .Or (b :: rest) pos) tb) : DW X (.BoolOp .Or (a :: b :: rest) pos) (gOr ta tb) := by
  obtain ⟨t1, p1, h1⟩ := ha
  obtain ⟨t2, p2, h2⟩ := hb
  refine ⟨_, pw_or p1 p2, fun C0 H0 δ σ C H Q R rp g k => h1 C0 H0 δ σ C H _ _ rp g fun c C1 H1 q e1 => ?_⟩
  cases c with
  | true => exact iteT (k true C1 H1 (by simpa using q) e1)
  | false => exact iteF (h2 C0 H0 δ σ C1 H1 _ _ (rp.grow e1) (by simpa using q) fun c2 C2 H2 q2 e2 => k c2 C2 H2 q2 (e1.trans e2))
theorem dt_not (ha : DT X a ta) : DT X (.UnaryOp .Not a pos) (gNot ta) := by
  obtain ⟨t1, p1, h1⟩ := ha
  exact ⟨_, pt_not p1, fun C0 H0 δ σ C H Q R rp g k => h1 C0 H0 δ σ C H _ _ rp g fun c C1 H1 q e1 => k (!c) C1 H1 q e1⟩
def gTru (ga : GE) : GT := fun δ Q => ga δ fun d => match d with
  | .bl b => Q b
  | .int i => Q (i != 0)
  | .non => Q false
  | .str x => x.length ≤ sizeLine ∧ Q ((x.length : Int) != 0)
  | .tup ds => Q (!ds.isEmpty)
  | .lst ds => Q (!ds.isEmpty)
theorem dens_empty {K : PySem.W.Frag} {C : Hp} {xs : List V} {ds : List D} (h : Dens K C xs ds) : xs.isEmpty = ds.isEmpty := by
  have := h.length
  cases xs <;> cases ds <;> simp_all
theorem dt_tru (ha : DE X a ga) (he : ∀ whole, isTrue a X.env whole = (do
    let v ← whole
    standAt a.pos
    holding [v] (truthy v))) : DT X a (gTru ga) := by
  obtain ⟨t1, p1, h1⟩ := ha
  refine ⟨_, pt_truth p1 he, fun C0 H0 δ σ C H Q R rp g k => h1 C0 H0 δ σ C H _ _ rp g fun d v C1 H1 q e1 n1 => ?_⟩
  cases d with
  | bl b => rw [den_bl.mp n1]; exact ⟨b, rfl, k _ C1 H1 q e1⟩
  | int i => rw [den_int.mp n1]; exact ⟨_, rfl, k _ C1 H1 q e1⟩
  | non => rw [den_non.mp n1]; exact ⟨_, rfl, k _ C1 H1 q e1⟩
  | str i => rw [den_str.mp n1]; exact ⟨_, ⟨q.1, rfl⟩, k _ C1 H1 q.2 e1⟩
  | tup ds =>
    obtain ⟨p, xs, rfl, hx, hd⟩ := den_tup.mp n1
    refine ⟨_, .inr (.inl ⟨xs, e1.ch.seqT hx, rfl⟩), k _ C1 H1 ?_ e1⟩
    rw [dens_empty hd]; exact q
  | lst ds =>
    obtain ⟨p, xs, rfl, hx, hd⟩ := den_lst.mp n1
    refine ⟨_, .inl ⟨xs, e1.ch.seq hx, rfl⟩, k _ C1 H1 ?_ e1⟩
    rw [dens_empty hd]; exact q
def gIfE (t : GT) (ga gb : GE) : GE := fun δ Q => t δ fun c => if c = true then ga δ Q else gb δ Q
abbrev gNilA : GF := fun _ Q => Q []
def gConsA (ga : GE) (gr : GF) : GF := fun δ Q => ga δ fun d => gr δ fun ds => Q (d :: ds)
theorem da_nil : DA X [] gNilA := ⟨_, pa_nil, fun C0 H0 δ σ C H Q R rp g k => k [] [] C H g (Ext.refl rp.ch) .nil⟩
theorem da_cons (ha : DE X e ga) (hr : DA X es gf) (hs : starEach (e :: es) X.env = (false, eval e X.env) :: starEach es X.env := by rfl) : DA X (e :: es) (gConsA ga gf) := by
  obtain ⟨t1, p1, h1⟩ := ha
  obtain ⟨t2, p2, h2⟩ := hr
  refine ⟨_, pa_cons p1 p2 hs, fun C0 H0 δ σ C H Q R rp g k => h1 C0 H0 δ σ C H _ _ rp g fun d v C1 H1 q e1 n1 => ?_⟩
  exact h2 C0 H0 δ σ C1 H1 _ _ (rp.grow e1) q fun ds vs C2 H2 q2 e2 n2 => k (d :: ds) (v :: vs) C2 H2 q2 (e1.trans e2) (.cons (n1.mono e2.cc) n2)
def gTupE (gf : GF) : GE := fun δ Q => gf δ fun ds => ds.length ≤ sizeLine ∧ Q (.tup ds)
theorem de_tup {x1} (h : DA X es gf) : DE X (.Tuple es x1 pos) (gTupE gf) := by
  obtain ⟨t, p, h⟩ := h
  refine ⟨_, pe_tup p, fun C0 H0 δ σ C H Q R rp g k => h C0 H0 δ σ C H _ _ rp g fun ds vs C1 H1 q e1 n1 => ⟨by rw [n1.length]; exact q.1, fun p hp => ?_⟩⟩
  exact k (.tup ds) _ (upd C1 p (.tup vs)) _ q.2 (e1.trans (Ext.new e1.ch hp)) (den_tup.mpr ⟨p, vs, rfl, SqT.of upd_same, n1.mono (Same.upd (e1.ch.free hp))⟩)
def gLst (gf : GF) : GF := fun δ Q => gf δ fun ds => ds.length ≤ sizeLine ∧ Q ds
theorem df_lst (h : DA X es gf) : DF X (.List es pos) (gLst gf) := by
  obtain ⟨t, p, h⟩ := h
  refine ⟨_, pe_lst p, fun C0 H0 δ σ C H Q R rp g k => h C0 H0 δ σ C H _ _ rp g fun ds vs C1 H1 q e1 n1 => ⟨by rw [n1.length]; exact q.1, fun p hp => ?_⟩⟩
  exact k ds p vs C1 _ q.2 (e1.trans (Ext.newO e1.ch hp)) (e1.ch.free hp) (e1.hh.free hp) upd_same n1
def gCallB (g : List D → (D → Prop) → Prop) (gf : GF) : GE := fun δ Q => gf δ fun ds => g ds Q
def gCallF (g : List D → (List D → Prop) → Prop) (gf : GF) : GF := fun δ Q => gf δ fun ds => g ds Q
theorem df_call {x : Str} {f : Value} {g : List D → (List D → Prop) → Prop} {pos' : Pos} (hc : DCallF X f g) (ha : DA X (e :: es) gf)
    (hp : ∀ {t : TA} {r : List V → Hp → VK → Prop}, CallR X f r → PA X (e :: es) t → PE X (.Call (.Name x pos') (e :: es) [] pos) (tCB r t)) : DF X (.Call (.Name x pos') (e :: es) [] pos) (gCallF g gf) := by
  obtain ⟨r, pr, hr⟩ := hc
  obtain ⟨t, p, h⟩ := ha
  refine ⟨_, hp pr p, fun C0 H0 δ σ C H Q R rp g k => h C0 H0 δ σ C H _ _ rp g fun ds vs C1 H1 q e1 n1 => ?_⟩
  exact hr vs ds C1 H1 Q R e1.ch n1 q fun es' p ys C2 H2 q2 e2 h1 h2 h3 h4 => k es' p ys C2 H2 q2 (e1.trans e2) h1 (e1.hh.free h2) h3 h4
end
end L2
namespace L2
open PySem PySem.Spec PyProof.Rows
def gOpt (o : Option D) (Q : D → Prop) : Prop := match o with
  | some d => Q d
  | none => False
theorem gOpt_some {d : D} {Q : D → Prop} : gOpt (some d) Q = Q d := rfl
def spD (K : PySem.W.Frag) (F : List D → Option D) : Sp := fun vs H Q _ => ∃ C ds d, Same C H ∧ Dens K C vs ds ∧ F ds = some d ∧ ∀ v C' H', Ext C H C' H' → Den K C' v d → Q v H'
def DFn (P : Program) (w : World) (K : PySem.W.Frag) (mg : Str → Option Value) (base : Heap) (k : Nat) (x : Str) (F : List D → Option D) : Prop :=
  ∃ f fd ps, FnOk P w K mg base CX0 k f fd ps (spD K F) ∧ mg x = some (.ref f) ∧ PySem.W.keepIn K (.ref f) = true ∧ Binds K fd ps []
section
variable {X : Cx} {a b c e : Expr} {es : List Expr} {pos : Pos} {ga gb gc gd : GE} {gf : GF} {ta tb : GT}
def gCallD (F : List D → Option D) (gf : GF) : GE := fun δ Q => gf δ fun ds => gOpt (F ds) Q
theorem de_call {F : List D → Option D} {k : Nat} {x : Str} {p : Pos} (h : DFn X.prog X.w X.K X.mg X.base k x F) (hr : Room k X.A) (hg : Gl X x) (ha : DA X (e :: es) gf) (hdb : (x == ("__debug__" : Str)) = false := by decide)
    (he : starEach (e :: es) X.env = (false, eval e X.env) :: starEach es X.env := by rfl) (hpl : (backTo pos (starEach es X.env)).any (·.1) = false := by rfl) : DE X (.Call (.Name x p) (e :: es) [] pos) (gCallD F gf) := by
  obtain ⟨f, fd, ps, Fk, hm, hk, hb⟩ := h
  obtain ⟨t, pa, h⟩ := ha
  refine ⟨_, pe_call Fk hr hg hm hk hb .nil pass0 pa hdb he hpl, fun C0 H0 δ σ C H Q R rp g k => h C0 H0 δ σ C H _ _ rp g fun ds vs C1 H1 q e1 n1 => ?_⟩
  cases e2 : F ds with
  | none => rw [e2] at q; exact q.elim
  | some d =>
    rw [e2] at q
    exact ⟨C1, ds, d, e1.ch, by rw [List.append_nil]; exact n1, e2, fun v C' H' ex nv => k d v C' H' q (e1.trans ex) nv⟩
def gIx : GO := fun x y Q => match x, y with
  | .tup ds, .int i => gOpt (atI ds i) Q
  | .lst ds, .int i => gOpt (atI ds i) Q
  | _, _ => False
theorem dens_at {K : PySem.W.Frag} {C : Hp} {xs : List V} {ds : List D} {i : Int} {d : D} (h : Dens K C xs ds) (e : atI ds i = some d) : ∃ v, atI xs i = some v ∧ Den K C v d := by
  unfold atI at e ⊢
  rw [h.length]
  cases z : ixN ds.length i with
  | none => rw [z] at e; cases e
  | some j =>
    rw [z] at e
    exact h.get e
theorem de_ix (ha : DE X a ga) (hb : DE X b gb) (hs : PlainIx b) : DE X (.Subscript a b pos) (gOp gIx ga gb) := by
  obtain ⟨t1, p1, h1⟩ := ha
  obtain ⟨t2, p2, h2⟩ := hb
  refine ⟨_, pe_ix ix_seq p1 p2 hs, fun C0 H0 δ σ C H Q R rp g k => ?_⟩
  refine h1 C0 H0 δ σ C H _ _ rp g fun d v C1 H1 q e1 n1 => h2 C0 H0 δ σ C1 H1 _ _ (rp.grow e1) q fun d2 v2 C2 H2 q2 e2 n2 => ?_
  have n1' := n1.mono e2.cc
  cases d with
  | tup ds =>
    cases d2 with
    | int i =>
      obtain ⟨p, xs, rfl, hx, hd⟩ := den_tup.mp n1'
      rw [den_int.mp n2]
      have q2' : gOpt (atI ds i) Q := q2
      cases z : atI ds i with
      | none => rw [z] at q2'; exact q2'.elim
      | some d3 =>
        rw [z] at q2'
        obtain ⟨v3, ev, nv⟩ := dens_at hd z
        exact .inr (.inl ⟨p, xs, i, v3, rfl, rfl, e2.ch.seqT hx, ev, k d3 v3 C2 H2 q2' (e1.trans e2) nv⟩)
    | _ => exact q2.elim
  | lst ds =>
    cases d2 with
    | int i =>
      obtain ⟨p, xs, rfl, hx, hd⟩ := den_lst.mp n1'
      rw [den_int.mp n2]
      have q2' : gOpt (atI ds i) Q := q2
      cases z : atI ds i with
      | none => rw [z] at q2'; exact q2'.elim
      | some d3 =>
        rw [z] at q2'
        obtain ⟨v3, ev, nv⟩ := dens_at hd z
        exact .inl ⟨p, xs, i, v3, rfl, rfl, e2.ch.seq hx, ev, k d3 v3 C2 H2 q2' (e1.trans e2) nv⟩
    | _ => exact q2.elim
  | _ => exact q2.elim
abbrev GP := DS → (Option Int → Prop) → Prop
def DO (X : Cx) (e : Option Expr) (g : GP) : Prop := ∃ t, PO X e t ∧ ∀ C0 H0 δ σ C H (Q : Option Int → Prop) (R : Option Int → Hp → Prop), Rep X.K C0 H0 δ σ C H → g δ Q → (∀ o C1 H1, Q o → Ext C H C1 H1 → R o H1) → t σ H R
abbrev gNoP : GP := fun _ Q => Q none
def gPart (g : GE) : GP := fun δ Q => g δ fun d => match d with
  | .int i => Q (some i)
  | _ => False
theorem do_none : DO X none gNoP := ⟨_, po_none, fun C0 H0 δ σ C H Q R rp g k => k none C H g (Ext.refl rp.ch)⟩
theorem do_some (h : DE X e ga) : DO X (some e) (gPart ga) := by
  obtain ⟨t, p, h⟩ := h
  refine ⟨_, po_some p, fun C0 H0 δ σ C H Q R rp g k => h C0 H0 δ σ C H _ _ rp g fun d v C1 H1 q e1 n1 => ?_⟩
  cases d with
  | int i => exact ⟨i, den_int.mp n1, k (some i) C1 H1 q e1⟩
  | _ => exact q.elim
def cutD (xs : List D) (lo hi : Option Int) : List D := (xs.drop (HT.sIx xs.length 0 lo)).take (HT.sIx xs.length xs.length hi - HT.sIx xs.length 0 lo)
def gSlT (ga : GE) (gl gh : GP) : GE := fun δ Q => ga δ fun d => gl δ fun lo => gh δ fun hi => match d with
  | .tup ds => Q (.tup (cutD ds lo hi))
  | _ => False
theorem dens_cut {K : PySem.W.Frag} {C : Hp} {xs : List V} {ds : List D} {lo hi : Option Int} (h : Dens K C xs ds) : Dens K C (cutV xs lo hi) (cutD ds lo hi) := by
  unfold cutV cutD
  rw [h.length]
  exact (h.drop _).take _
def oInt (f : Int → Int → D) : GO := fun x y Q => match x, y with
  | .int i, .int j => Q (f i j)
  | _, _ => False
def oIntC (c : Int → Int → Prop) (f : Int → Int → D) : GO := fun x y Q => match x, y with
  | .int i, .int j => c i j ∧ Q (f i j)
  | _, _ => False
theorem dop_intC {f : Value → Value → Sem Value} {c : Int → Int → Prop} {g : Int → Int → Int} (h : OpR X f (rI c fun i j => .int (g i j))) : DOp X f (oIntC c fun i j => .int (g i j)) := by
  refine ⟨_, h, fun x y dx dy C H Q R ch n1 n2 q k => ?_⟩
  cases dx with
  | int i =>
    cases dy with
    | int j => exact ⟨i, j, den_int.mp n1, den_int.mp n2, q.1, k _ _ C H q.2 (Ext.refl ch) (den_int.mpr rfl)⟩
    | _ => exact q.elim
  | _ => exact q.elim
theorem dop_intB {f : Value → Value → Sem Value} {g : Int → Int → Bool} (h : OpR X f (rI0 fun i j => .bl (g i j))) : DOp X f (oInt fun i j => .bl (g i j)) := by
  refine ⟨_, h, fun x y dx dy C H Q R ch n1 n2 q k => ?_⟩
  cases dx with
  | int i =>
    cases dy with
    | int j => exact ⟨i, j, den_int.mp n1, den_int.mp n2, k _ _ C H q (Ext.refl ch) (den_bl.mpr rfl)⟩
    | _ => exact q.elim
  | _ => exact q.elim
theorem dop_intI {f : Value → Value → Sem Value} {g : Int → Int → Int} (h : OpR X f (rI0 fun i j => .int (g i j))) : DOp X f (oInt fun i j => .int (g i j)) := by
  refine ⟨_, h, fun x y dx dy C H Q R ch n1 n2 q k => ?_⟩
  cases dx with
  | int i =>
    cases dy with
    | int j => exact ⟨i, j, den_int.mp n1, den_int.mp n2, k _ _ C H q (Ext.refl ch) (den_int.mpr rfl)⟩
    | _ => exact q.elim
  | _ => exact q.elim
abbrev oSub : GO := oInt fun i j => .int (i - j)
abbrev oLe : GO := oInt fun i j => .bl (decide (i ≤ j))
abbrev oMod : GO := oIntC (fun _ j => 0 < j) fun i j => .int (i % j)
abbrev oDiv : GO := oIntC CDiv fun i j => .int (i / j)
theorem do_sub : DOp X (binaryOp .Sub) oSub := dop_intI op_sub
theorem do_le : DOp X (compareOp .LtE) oLe := dop_intB op_le
theorem do_mod : DOp X (binaryOp .Mod) oMod := dop_intC op_mod
theorem do_div : DOp X (binaryOp .FloorDiv) oDiv := dop_intC op_fdiv
def oAdd : GO := fun x y Q => match x, y with
  | .int i, .int j => Q (.int (i + j))
  | .tup xs, .tup ys => xs.length + ys.length ≤ sizeLine ∧ Q (.tup (xs ++ ys))
  | _, _ => False
theorem do_add : DOp X (binaryOp .Add) oAdd := by
  refine ⟨_, op_add.or (op_catT.or op_cat0), fun x y dx dy C H Q R ch n1 n2 q k => ?_⟩
  cases dx with
  | int i =>
    cases dy with
    | int j => exact .inl ⟨i, j, den_int.mp n1, den_int.mp n2, k _ _ C H q (Ext.refl ch) (den_int.mpr rfl)⟩
    | _ => exact q.elim
  | tup ds =>
    cases dy with
    | tup es =>
      obtain ⟨p, xs, rfl, hx, hd⟩ := den_tup.mp n1
      obtain ⟨p2, ys, rfl, hy, he⟩ := den_tup.mp n2
      have q' : ds.length + es.length ≤ sizeLine ∧ Q (.tup (ds ++ es)) := q
      refine .inr ?_
      cases ds with
      | nil =>
        have e := dens_nil.mp hd
        subst e
        exact .inr ⟨p, p2, ys, rfl, rfl, ch.seqT hx, ch.seqT hy, k _ _ C H q'.2 (Ext.refl ch) n2⟩
      | cons d ds =>
        refine .inl ⟨p, p2, xs, ys, rfl, rfl, ch.seqT hx, ch.seqT hy, ?_, by rw [hd.length, he.length]; exact q'.1, fun z => ?_, fun _ p' hp => ?_⟩
        · intro z
          have := hd.length
          rw [z] at this
          simp at this
        · subst z
          have e : es = [] := by
            have := he.length
            simpa using this.symm
          subst e
          rw [List.append_nil] at q'
          exact k _ _ C H q'.2 (Ext.refl ch) n1
        · exact k _ _ (upd C p' (.tup (xs ++ ys))) _ q'.2 (Ext.new ch hp) (den_tup.mpr ⟨p', _, rfl, SqT.of upd_same, (hd.append he).mono (Same.upd (ch.free hp))⟩)
    | _ => exact q.elim
  | _ => exact q.elim
def oMul : GO := fun x y Q => match x, y with
  | .int i, .int j => CMul i j ∧ Q (.int (i * j))
  | .tup xs, .int k => 1 < k ∧ k < 2 ^ 63 ∧ xs ≠ [] ∧ (xs.length : Int) * k ≤ sizeLine ∧ Q (.tup (List.replicate k.toNat xs).flatten)
  | _, _ => False
theorem do_mul : DOp X (binaryOp .Mult) oMul := by
  refine ⟨_, op_mul.or op_repT, fun x y dx dy C H Q R ch n1 n2 q k => ?_⟩
  cases dx with
  | int i =>
    cases dy with
    | int j => exact .inl ⟨i, j, den_int.mp n1, den_int.mp n2, q.1, k _ _ C H q.2 (Ext.refl ch) (den_int.mpr rfl)⟩
    | _ => exact q.elim
  | tup ds =>
    cases dy with
    | int j =>
      obtain ⟨p, xs, rfl, hx, hd⟩ := den_tup.mp n1
      obtain ⟨q1, q2, q3, q4, q5⟩ := q
      refine .inr ⟨p, j, xs, rfl, den_int.mp n2, ch.seqT hx, q1, q2, ?_, by rw [hd.length]; exact q4, fun p' hp => ?_⟩
      · intro z
        have := hd.length
        rw [z] at this
        exact q3 (by simpa using this.symm)
      · exact k _ _ (upd C p' _) _ q5 (Ext.new ch hp) (den_tup.mpr ⟨p', _, rfl, SqT.of upd_same, (hd.rep _).mono (Same.upd (ch.free hp))⟩)
    | _ => exact q.elim
  | _ => exact q.elim
def oIs : GO := fun x y Q => match x, y with
  | .bl a, .bl b => Q (.bl (a == b))
  | _, _ => False
def oIsnot : GO := fun x y Q => match x, y with
  | .bl a, .bl b => Q (.bl (a != b))
  | _, _ => False
def gNeg (ga : GE) : GE := fun δ Q => ga δ fun d => match d with
  | .int i => Q (.int (-i))
  | _ => False
theorem de_neg (ha : DE X a ga) : DE X (.UnaryOp .USub a pos) (gNeg ga) := by
  obtain ⟨t1, p1, h1⟩ := ha
  refine ⟨_, pe_un un_neg p1, fun C0 H0 δ σ C H Q R rp g k => h1 C0 H0 δ σ C H _ _ rp g fun d v C1 H1 q e1 n1 => ?_⟩
  cases d with
  | int i => exact ⟨i, den_int.mp n1, k _ _ C1 H1 q e1 (den_int.mpr rfl)⟩
  | _ => exact q.elim
def cLen : List D → (D → Prop) → Prop := fun ds Q => match ds with
  | [.tup xs] => Q (.int xs.length)
  | [.lst xs] => Q (.int xs.length)
  | _ => False
theorem dens_one {K : PySem.W.Frag} {C : Hp} {vs : List V} {d : D} (h : Dens K C vs [d]) : ∃ v, vs = [v] ∧ Den K C v d := by
  obtain ⟨x, xs, rfl, a, t⟩ := dens_cons.mp h
  rw [dens_nil.mp t]
  exact ⟨x, rfl, a⟩
theorem dc_len : DCall X (.builtin "len") cLen := by
  refine ⟨_, call_len_seq, fun xs ds C H Q R ch n q k => ?_⟩
  unfold cLen at q
  split at q
  · obtain ⟨v, rfl, n1⟩ := dens_one n
    obtain ⟨p, ys, rfl, hy, hd⟩ := den_tup.mp n1
    refine ⟨p, ys, rfl, .inr (ch.seqT hy), ?_⟩
    rw [hd.length]
    exact k _ _ C H q (Ext.refl ch) (den_int.mpr rfl)
  · obtain ⟨v, rfl, n1⟩ := dens_one n
    obtain ⟨p, ys, rfl, hy, hd⟩ := den_lst.mp n1
    refine ⟨p, ys, rfl, .inl (ch.seq hy), ?_⟩
    rw [hd.length]
    exact k _ _ C H q (Ext.refl ch) (den_int.mpr rfl)
  · exact q.elim
def cTuple : List D → (D → Prop) → Prop := fun ds Q => match ds with
  | [.tup xs] => Q (.tup xs)
  | [.lst xs] => Q (.tup xs)
  | _ => False
theorem dc_tuple : DCall X (.type "tuple") cTuple := by
  refine ⟨_, call_tuple_of, fun xs ds C H Q R ch n q k => ?_⟩
  unfold cTuple at q
  split at q
  · obtain ⟨v, rfl, n1⟩ := dens_one n
    obtain ⟨p, ys, rfl, hy, hd⟩ := den_tup.mp n1
    exact ⟨p, ys, rfl, .inr ⟨ch.seqT hy, k _ _ C H q (Ext.refl ch) n1⟩⟩
  · obtain ⟨v, rfl, n1⟩ := dens_one n
    obtain ⟨p, ys, rfl, hy, hd⟩ := den_lst.mp n1
    exact ⟨p, ys, rfl, .inl ⟨ch.seq hy, fun l hl => k _ _ (upd C l (.tup ys)) _ q (Ext.new ch hl) (den_tup.mpr ⟨l, ys, rfl, SqT.of upd_same, hd.mono (Same.upd (ch.free hl))⟩)⟩⟩
  · exact q.elim
def cList : List D → (List D → Prop) → Prop := fun ds Q => match ds with
  | [.tup xs] => Q xs
  | [.lst xs] => Q xs
  | _ => False
def cAbs : List D → (D → Prop) → Prop := fun ds Q => match ds with
  | [.int i] => Q (.int (if i < 0 then -i else i))
  | _ => False
def bools : List D → Option (List Bool)
  | [] => some []
  | .bl b :: r => (bools r).map (b :: ·)
  | _ :: _ => none
theorem bools_eq : ∀ {ds : List D} {bs : List Bool}, bools ds = some bs → ds = bs.map D.bl
  | [], bs, h => by cases h; rfl
  | .bl b :: r, bs, h => by
    unfold bools at h
    cases e : bools r with
    | none => rw [e] at h; cases h
    | some cs => rw [e] at h; cases h; rw [List.map_cons, ← bools_eq e]
  | .int _ :: _, _, h => by cases h
  | .non :: _, _, h => by cases h
  | .str _ :: _, _, h => by cases h
  | .tup _ :: _, _, h => by cases h
  | .lst _ :: _, _, h => by cases h
theorem bools_map (bs : List Bool) : bools (bs.map D.bl) = some bs := by
  induction bs with
  | nil => rfl
  | cons b bs ih => rw [List.map_cons, bools, ih]; rfl
theorem bools_mapf {α : Type} (f : α → Bool) (l : List α) : bools (l.map fun x => D.bl (f x)) = some (l.map f) := by
  rw [← bools_map, List.map_map]; rfl
def cAll : List D → (D → Prop) → Prop := fun ds Q => match ds with
  | [.lst xs] => match bools xs with
    | some bs => Q (.bl (bs.all id))
    | none => False
  | _ => False
theorem dc_all (hc : X.calm = true) : DCall X (.builtin "all") cAll := by
  refine ⟨_, call_all hc, fun xs ds C H Q R ch n q k => ?_⟩
  unfold cAll at q
  split at q
  · split at q
    · rename_i bs e
      obtain ⟨v, rfl, n1⟩ := dens_one n
      obtain ⟨p, ys, rfl, hy, hd⟩ := den_lst.mp n1
      rw [bools_eq e] at hd
      rw [hd.bools] at hy
      exact ⟨p, bs, rfl, ch.seq hy, k _ _ C H q (Ext.refl ch) (den_bl.mpr rfl)⟩
    · exact q.elim
  · exact q.elim
def tyD : D → String
  | .int _ => "int"
  | .bl _ => "bool"
  | .non => "NoneType"
  | .str _ => "str"
  | .tup _ => "tuple"
  | .lst _ => "list"
theorem tyD_name {K : PySem.W.Frag} {C H : Hp} {v : V} {d : D} (ch : Same C H) (n : Den K C v d) : tyName K H v (tyD d) := by
  cases d with
  | int i => rw [den_int.mp n]; rfl
  | bl i => rw [den_bl.mp n]; rfl
  | non => rw [den_non.mp n]; rfl
  | str i => rw [den_str.mp n]; rfl
  | tup ds => obtain ⟨p, ys, rfl, hy, hd⟩ := den_tup.mp n; exact .inr ⟨rfl, ys, ch.seqT hy⟩
  | lst ds => obtain ⟨p, ys, rfl, hy, hd⟩ := den_lst.mp n; exact .inl ⟨rfl, ys, ch.seq hy⟩
def gInst (T : String) (ga : GE) : GE := fun δ Q => ga δ fun d => Q (.bl (isSub (tyD d) T))
theorem de_inst {T : String} {y : Str} {p p' : Pos} (hT : T = "int" ∨ T = "bool" ∨ T = "str" ∨ T = "list" ∨ T = "tuple") (ha : DE X a ga) (hy : PE X (.Name y p') (tC (.ty T)))
    (hp : ∀ {t : TA} {r : List V → Hp → VK → Prop}, CallR X (.builtin "isinstance") r → PA X [a, .Name y p'] t → PE X (.Call (.Name "isinstance" p) [a, .Name y p'] [] pos) (tCB r t))
    (hs : starEach [a, .Name y p'] X.env = (false, eval a X.env) :: starEach [.Name y p'] X.env := by rfl) : DE X (.Call (.Name "isinstance" p) [a, .Name y p'] [] pos) (gInst T ga) := by
  obtain ⟨t1, p1, h1⟩ := ha
  refine ⟨_, hp call_isinst (pa_cons p1 (pa_cons hy pa_nil) hs), fun C0 H0 δ σ C H Q R rp g k => h1 C0 H0 δ σ C H _ _ rp g fun d v C1 H1 q e1 n1 => ?_⟩
  exact ⟨v, T, tyD d, rfl, hT, tyD_name e1.ch n1, k _ _ C1 H1 q e1 (den_bl.mpr rfl)⟩
end
end L2
namespace L2
open PySem PySem.Spec PyProof.Rows
def Walk (K : PySem.W.Frag) (J : It) (its : List D) (C1 : Hp) : Prop := ∀ C2 H2, Same C1 C2 → Same C2 H2 → ∀ i : Nat,
  (∀ d, its[i]? = some d → J.go i H2 ∧ ∀ x H3, J.yld i H2 x H3 → ∃ C3, Ext C2 H2 C3 H3 ∧ Den K C3 x d) ∧ (its.length ≤ i → J.stop i H2)
def DI (X : Cx) (tg iter : Expr) (g : GF) : Prop := ∃ wi, PI X tg iter wi ∧ ∀ C0 H0 δ σ C H (Q : List D → Prop) (R : It → Hp → Prop), Rep X.K C0 H0 δ σ C H → g δ Q →
  (∀ its J C1 H1, Q its → Ext C H C1 H1 → Walk X.K J its C1 → R J H1) → wi σ H R
section
variable {X : Cx} {a b c e tg iter : Expr} {es : List Expr} {pos : Pos} {ga gb gc gd : GE} {gf : GF} {ta tb : GT}
def gIt (ga : GE) : GF := fun δ Q => ga δ fun d => match d with
  | .tup ds => Q ds
  | _ => False
def gIl (ga : GE) : GF := fun δ Q => ga δ fun d => match d with
  | .lst ds => Q ds
  | _ => False
theorem walk_tup {K : PySem.W.Frag} {C1 : Hp} {p : Addr} {xs : List V} {ds : List D} (hx : SqT K C1 p xs) (hd : Dens K C1 xs ds) (inj : ∀ H ys, Same C1 H → SqT K H p ys → True) : Walk K ⟨fun i H => ∃ xs x, SqT K H p xs ∧ xs[i]? = some x, fun i H x H' => H' = H ∧ ∀ xs, SqT K H p xs → xs[i]? = some x, fun i H => ∃ xs, SqT K H p xs ∧ xs.length ≤ i⟩ ds C1 := by
  intro C2 H2 c1 c2 i
  have hx2 := c2.seqT (c1.seqT hx)
  refine ⟨fun d e => ?_, fun hl => ⟨xs, hx2, by rw [hd.length]; exact hl⟩⟩
  obtain ⟨v, ev, nv⟩ := hd.get e
  refine ⟨⟨xs, v, hx2, ev⟩, fun x H3 y => ?_⟩
  obtain ⟨rfl, y⟩ := y
  have := y xs hx2
  rw [ev] at this
  cases this
  exact ⟨C2, Ext.refl c2, nv.mono c1⟩
theorem walk_lst {K : PySem.W.Frag} {C1 : Hp} {p : Addr} {xs : List V} {ds : List D} (hx : SqL K C1 p xs) (hd : Dens K C1 xs ds) : Walk K (Itl K p) ds C1 := by
  intro C2 H2 c1 c2 i
  have hx2 := c2.seq (c1.seq hx)
  refine ⟨fun d e => ?_, fun hl => ⟨xs, hx2, by rw [hd.length]; exact hl⟩⟩
  obtain ⟨v, ev, nv⟩ := hd.get e
  refine ⟨⟨xs, v, hx2, ev⟩, fun x H3 y => ?_⟩
  obtain ⟨rfl, y⟩ := y
  have := y xs hx2
  rw [ev] at this
  cases this
  exact ⟨C2, Ext.refl c2, nv.mono c1⟩
theorem di_tup (ha : DE X a ga) : DI X tg a (gIt ga) := by
  obtain ⟨t, p, h⟩ := ha
  refine ⟨_, pi_tup p, fun C0 H0 δ σ C H Q R rp g k => h C0 H0 δ σ C H _ _ rp g fun d v C1 H1 q e1 n1 => ?_⟩
  cases d with
  | tup ds =>
    obtain ⟨p, xs, rfl, hx, hd⟩ := den_tup.mp n1
    exact ⟨p, rfl, ⟨xs, e1.ch.seqT hx⟩, k ds _ C1 H1 q e1 (walk_tup hx hd fun _ _ _ _ => trivial)⟩
  | _ => exact q.elim
theorem di_lst (ha : DE X a ga) : DI X tg a (gIl ga) := by
  obtain ⟨t, p, h⟩ := ha
  refine ⟨_, pi_list p, fun C0 H0 δ σ C H Q R rp g k => h C0 H0 δ σ C H _ _ rp g fun d v C1 H1 q e1 n1 => ?_⟩
  cases d with
  | lst ds =>
    obtain ⟨p, xs, rfl, hx, hd⟩ := den_lst.mp n1
    exact ⟨p, rfl, ⟨xs, e1.ch.seq hx⟩, k ds _ C1 H1 q e1 (walk_lst hx hd)⟩
  | _ => exact q.elim
def rangeD (lo : Int) (n : Nat) : List D := (List.range n).map fun (k : Nat) => D.int (lo + (k : Int))
theorem walk_rng {K : PySem.W.Frag} {C1 : Hp} (lo : Int) (n : Nat) : Walk K (Itr lo n) (rangeD lo n) C1 := by
  intro C2 H2 c1 c2 i
  have hl : (rangeD lo n).length = n := by simp [rangeD]
  refine ⟨fun d e => ?_, fun h => by rw [hl] at h; exact h⟩
  have hi : i < n := by rw [← hl]; exact (List.getElem?_eq_some_iff.mp e).1
  have ed : d = .int (lo + i) := by
    unfold rangeD at e
    rw [List.getElem?_map, List.getElem?_range hi] at e
    exact (Option.some.inj e).symm
  subst ed
  exact ⟨hi, fun x H3 y => by obtain ⟨rfl, rfl⟩ := y; exact ⟨C2, Ext.refl c2, den_int.mpr rfl⟩⟩
def gRng1 (ga : GE) : GF := fun δ Q => ga δ fun d => match d with
  | .int j => (-(2 ^ 62) ≤ j ∧ j < 2 ^ 62) ∧ Q (rangeD 0 j.toNat)
  | _ => False
theorem di_rng1 {p : Pos} (hg : Gl X "range") (hm : X.mg "range" = none) (ha : DE X a ga) (hs : starEach [a] X.env = [(false, eval a X.env)] := by rfl) : DI X tg (.Call (.Name "range" p) [a] [] pos) (gRng1 ga) := by
  obtain ⟨t, p, h⟩ := ha
  refine ⟨_, pi_range1 hg hm (pa_cons p pa_nil hs) hs, fun C0 H0 δ σ C H Q R rp g k => h C0 H0 δ σ C H _ _ rp g fun d v C1 H1 q e1 n1 => ?_⟩
  cases d with
  | int j => rw [den_int.mp n1]; exact ⟨j, rfl, q.1.1, q.1.2, k _ _ C1 H1 q.2 e1 (walk_rng 0 _)⟩
  | _ => exact q.elim
def gRng2 (ga gb : GE) : GF := fun δ Q => ga δ fun d => gb δ fun d2 => match d, d2 with
  | .int i, .int j => (-(2 ^ 62) ≤ i ∧ i < 2 ^ 62 ∧ -(2 ^ 62) ≤ j ∧ j < 2 ^ 62) ∧ Q (rangeD i (j - i).toNat)
  | _, _ => False
theorem di_rng2 {p : Pos} (hg : Gl X "range") (hm : X.mg "range" = none) (ha : DE X a ga) (hb : DE X b gb) (hs1 : starEach [a, b] X.env = (false, eval a X.env) :: starEach [b] X.env := by rfl) (hs2 : starEach [b] X.env = [(false, eval b X.env)] := by rfl)
    (hp : ∀ {t : TA}, PA X [a, b] t → PI X tg (.Call (.Name "range" p) [a, b] [] pos) (iRng2 t)) : DI X tg (.Call (.Name "range" p) [a, b] [] pos) (gRng2 ga gb) := by
  obtain ⟨t1, p1, h1⟩ := ha
  obtain ⟨t2, p2, h2⟩ := hb
  refine ⟨_, hp (pa_cons p1 (pa_cons p2 pa_nil hs2) hs1), fun C0 H0 δ σ C H Q R rp g k => h1 C0 H0 δ σ C H _ _ rp g fun d v C1 H1 q e1 n1 => h2 C0 H0 δ σ C1 H1 _ _ (rp.grow e1) q fun d2 v2 C2 H2 q2 e2 n2 => ?_⟩
  cases d with
  | int i =>
    cases d2 with
    | int j =>
      rw [den_int.mp n1, den_int.mp n2]
      exact ⟨i, j, rfl, q2.1, k _ _ C2 H2 q2.2 (e1.trans e2) (walk_rng i _)⟩
    | _ => exact q2.elim
  | _ => exact q2.elim
abbrev GG := D → DS → (DS → Prop) → Prop
def DG (X : Cx) (tg : Expr) (ss : List Nat) (g : GG) : Prop := ∃ t, PG X tg t ∧ ∀ C0 H0 δ σ C H v d (Q : DS → Prop) (R : St → Hp → Prop), Rep X.K C0 H0 δ σ C H → Den X.K C v d → g d δ Q →
  (∀ δ' σ', Q δ' → Rep X.K C0 H0 δ' σ' C H → σ'.length = σ.length → (∀ j : Nat, j ∉ ss → σ'[j]? = σ[j]?) → R σ' H) → t v σ H R
abbrev gNm (i : Nat) : GG := fun d δ Q => Q (δ.set i (.im d))
theorem dg_name {i : Nat} {x : Str} (h : PG X (.Name x pos) (gName i)) : DG X (.Name x pos) [i] (gNm i) :=
  ⟨_, h, fun C0 H0 δ σ C H v d Q R rp n g k => k _ _ g (rp.setI n) (by simp) fun j hj => by rw [List.getElem?_set_ne]; intro z; exact hj (by simp [z])⟩
def gNm2 (i j : Nat) : GG := fun d δ Q => match d with
  | .tup [a, b] => Q ((δ.set i (.im a)).set j (.im b))
  | _ => False
def δc (fr : List (Option Nat)) (δ : DS) : DS := fr.map fun o => match o with
  | none => .un
  | some j => match δ[j]? with
    | some (.im d) => .im d
    | some (.fd m) => .fd m
    | _ => .un
theorem Rep.comp {K : PySem.W.Frag} {C0 H0 δ σ C H C1 H1} (fr : List (Option Nat)) (R : Rep K C0 H0 δ σ C H) (cc : Same C C1) (ch : Same C1 H1) : Rep K C1 H1 (δc fr δ) (σc fr σ) C1 H1 := by
  have no : ∀ (i : Nat) ds, (δc fr δ)[i]? ≠ some (.ow ds) := fun i ds e => by
    unfold δc at e
    rw [List.getElem?_map] at e
    cases ef : fr[i]? with
    | none => rw [ef] at e; cases e
    | some o =>
      rw [ef] at e
      cases o with
      | none => cases e
      | some j =>
        simp only [Option.map_some] at e
        split at e <;> cases e
  have nod : ∀ (i : Nat) m, (δc fr δ)[i]? ≠ some (.od m) := fun i ds e => by
    unfold δc at e
    rw [List.getElem?_map] at e
    cases ef : fr[i]? with
    | none => rw [ef] at e; cases e
    | some o =>
      rw [ef] at e
      cases o with
      | none => cases e
      | some j =>
        simp only [Option.map_some] at e
        split at e <;> cases e
  refine ⟨by unfold σc δc; simp, Ext.refl ch, fun i d e => ?_, fun i ds e => absurd e (no i ds), fun i j ds es l _ e _ => absurd e (no i ds), fun i m e => absurd e (nod i m), fun i m e => ?_, fun i j m n l _ e => absurd e (nod i m)⟩
  rotate_left
  · unfold δc at e
    unfold σc
    rw [List.getElem?_map] at e ⊢
    cases ef : fr[i]? with
    | none => rw [ef] at e; cases e
    | some o =>
      rw [ef] at e
      cases o with
      | none => cases e
      | some j =>
        simp only [Option.map_some] at e ⊢
        split at e
        · cases e
        · rename_i m' ed
          cases e
          obtain ⟨l, o, ev, nv⟩ := R.dc.fd j m ed
          refine ⟨l, o, ?_, cc _ _ nv⟩
          show some ((σ[j]?).bind id) = _
          rw [ev]
          rfl
        · cases e
  unfold δc at e
  unfold σc
  rw [List.getElem?_map] at e ⊢
  cases ef : fr[i]? with
  | none => rw [ef] at e; cases e
  | some o =>
    rw [ef] at e
    cases o with
    | none => cases e
    | some j =>
      simp only [Option.map_some] at e ⊢
      split at e
      · rename_i d' ed
        cases e
        obtain ⟨v, ev, nv⟩ := R.im j d ed
        refine ⟨v, ?_, nv.mono cc⟩
        show some ((σ[j]?).bind id) = _
        rw [ev]
        rfl
      · cases e
      · cases e
def gComp (fr : List (Option Nat)) (gi : GF) (gg : GG) (ge : GE) : GF := fun δ Q => gi δ fun its => its.length ≤ sizeLine ∧ ∃ f : D → D, (∀ d ∈ its, gg d (δc fr δ) fun δ2 => ge δ2 fun y => y = f d) ∧ Q (its.map f)
def frOk (fr : List (Option Nat)) (ss : List Nat) : Bool := ss.all fun j => fr[j]? == some none
theorem frOk_of {fr : List (Option Nat)} {ss : List Nat} (h : frOk fr ss = true) {σ : St} {j : Nat} (hj : j ∈ ss) : (σc fr σ)[j]? = some none := by
  unfold frOk at h
  rw [List.all_eq_true] at h
  have e : fr[j]? = some none := by simpa using h j hj
  unfold σc
  rw [List.getElem?_map, e]
  rfl
theorem fwd_of {fr : List (Option Nat)} {ss : List Nat} (h : frOk fr ss = true) {σ σ' : St} (hl : σ'.length = (σc fr σ).length) (hj : ∀ j : Nat, j ∉ ss → σ'[j]? = (σc fr σ)[j]?) : Fwd σ' (σc fr σ) := by
  refine ⟨hl, fun i v e => ?_⟩
  by_cases hi : i ∈ ss
  · rw [frOk_of h hi] at e
    cases e
  · rw [hj i hi]; exact e
def DIfs (X : Cx) (ifs : List Expr) (g : GT) : Prop := ∃ t, PIfs X ifs t ∧ ∀ C0 H0 δ σ C H (Q : Bool → Prop) (R : Bool → Hp → Prop), Rep X.K C0 H0 δ σ C H → g δ Q → (∀ b C1 H1, Q b → Ext C H C1 H1 → R b H1) → t σ H R
end
theorem turns_of {K : PySem.W.Frag} {C0 H0 C H C1 H1 : Hp} {δ : DS} {σ : St} {fr : List (Option Nat)} {ss : List Nat} {J : It} {its : List D} {g : TG} {tt : TT} {te : TE} {gg : GG} {gt : GT} {ge : GE} {p : D → Bool} {f : D → D} {A : Addr} {Q : List D → Prop} {R : VK}
    (hg : ∀ C0 H0 δ σ C H v d (Q : DS → Prop) (R : St → Hp → Prop), Rep K C0 H0 δ σ C H → Den K C v d → gg d δ Q → (∀ δ' σ', Q δ' → Rep K C0 H0 δ' σ' C H → σ'.length = σ.length → (∀ j : Nat, j ∉ ss → σ'[j]? = σ[j]?) → R σ' H) → g v σ H R)
    (ht : ∀ C0 H0 δ σ C H (Q : Bool → Prop) (R : Bool → Hp → Prop), Rep K C0 H0 δ σ C H → gt δ Q → (∀ b C1 H1, Q b → Ext C H C1 H1 → R b H1) → tt σ H R)
    (he : ∀ C0 H0 δ σ C H (Q : D → Prop) (R : VK), Rep K C0 H0 δ σ C H → ge δ Q → (∀ d v C1 H1, Q d → Ext C H C1 H1 → Den K C1 v d → R v H1) → te σ H R)
    (fo : frOk fr ss = true) (rp : Rep K C0 H0 δ σ C H) (e1 : Ext C H C1 H1) (wk : Walk K J its C1) (hz : its.length ≤ sizeLine)
    (hf : ∀ d ∈ its, gg d (δc fr δ) fun δ2 => gt δ2 fun c => c = p d ∧ (c = true → ge δ2 fun y => y = f d)) (q : Q ((its.filter p).map f))
    (k : ∀ ds p xs C1 H1, Q ds → Ext C H C1 H1 → C1 p = none → H p = none → H1 p = some (.lst xs) → Dens K C1 xs ds → R (.ref p) H1) (hA : H1 A = none) : tTurns J (σc fr σ) g tt te A H1 R := by
  have hflt : ∀ i : Nat, (((its.take i).filter p).map f).length ≤ i := fun i => by
    rw [List.length_map]
    exact Nat.le_trans (List.length_filter_le _ _) (by rw [List.length_take]; omega)
  refine ⟨fun i m ys H2 => m = its.length - i ∧ i ≤ its.length ∧ ∃ C2, Ext C1 H1 C2 H2 ∧ H2 A = some (.lst ys) ∧ C2 A = none ∧ Dens K C2 ys (((its.take i).filter p).map f), ⟨_, rfl, Nat.zero_le _, C1, Ext.newO e1.ch hA, upd_same, e1.ch.free hA, by simpa using Dens.nil⟩, ?_⟩
  rintro i m ys H2 ⟨rfl, hi, C2, ex, hl, hc, hd⟩
  have W := wk C2 H2 ex.cc ex.ch i
  by_cases hlt : i < its.length
  · have ed : its[i]? = some its[i] := by simp [hlt]
    obtain ⟨go, yl⟩ := W.1 _ ed
    refine .inr ⟨go, fun x H3 y => ?_⟩
    obtain ⟨C3, e3, n3⟩ := yl x H3 y
    have rc : Rep K C3 H3 (δc fr δ) (σc fr σ) C3 H3 := rp.comp fr ((e1.cc.trans ex.cc).trans e3.cc) e3.ch
    refine hg C3 H3 _ _ C3 H3 x its[i] _ _ rc n3 (hf its[i] (List.getElem_mem hlt)) fun δ' σ' q' rp' hl' hj' => ⟨fwd_of fo hl' hj', ?_⟩
    refine ht C3 H3 δ' σ' C3 H3 _ _ rp' q' fun b C4 H4 q4 e4 => ?_
    have hA4 : H4 A = some (.lst ys) := e4.hh _ _ (e3.hh _ _ hl)
    have hc4 : C4 A = none := e4.ow A (e3.ow A hc (by rw [hl]; simp)) (by rw [e3.hh _ _ hl]; simp)
    have ed2 := ((hd.mono e3.cc).mono e4.cc)
    have tk : its.take (i + 1) = its.take i ++ [its[i]] := by rw [List.take_succ, ed]; rfl
    cases b with
    | false =>
      rw [if_neg (by simp)]
      refine ⟨its.length - (i + 1), by omega, rfl, hlt, C4, ex.trans (e3.trans e4), hA4, hc4, ?_⟩
      rw [tk, List.filter_append, List.filter_cons_of_neg (by rw [← q4.1]; simp)]
      simpa using ed2
    | true =>
      rw [if_pos rfl]
      refine he C3 H3 δ' σ' C4 H4 _ _ (rp'.grow e4) (q4.2 rfl) fun d v C5 H5 q5 e5 n5 => ?_
      have hA5 : H5 A = some (.lst ys) := e5.hh _ _ hA4
      have hc5 : C5 A = none := e5.ow A hc4 (by rw [hA4]; simp)
      have hyl : ys.length < sizeLine := by
        rw [hd.length]
        exact Nat.lt_of_le_of_lt (hflt i) (by omega)
      refine ⟨hA5, hyl, its.length - (i + 1), by omega, rfl, hlt, C5, ?_, upd_same, hc5, ?_⟩
      · have e := ex.trans (e3.trans (e4.trans e5))
        refine ⟨fun z u ez => ?_, e.cc, fun z u ez => ?_, e.ow⟩
        · rw [upd_ne (ne_of_none ez hA)]; exact e.hh z u ez
        · rw [upd_ne (ne_of_none ez hc5)]; exact e.ch z u ez
      · rw [tk, List.filter_append, List.filter_cons_of_pos (by rw [← q4.1]), List.map_append, List.filter_nil, List.map_cons, List.map_nil]
        refine (ed2.mono e5.cc).append (.cons ?_ .nil)
        rw [← q5]; exact n5
  · have e : i = its.length := by omega
    refine .inl ⟨W.2 (by omega), ?_⟩
    rw [e, List.take_length] at hd
    exact k _ A ys C2 H2 q (e1.trans ex) hc (e1.hh.free hA) hl hd
section
variable {X : Cx} {a b c e tg iter elt : Expr} {es : List Expr} {pos : Pos} {ge : GE} {gi : GF} {gt : GT} {gg : GG} {scope : Scope} {Nc : List Str} {fr : List (Option Nat)} {ss : List Nat}
def tDE (K : PySem.W.Frag) (g : GE) : TE := fun σ H R => ∃ C0 H0 δ C Q, Rep K C0 H0 δ σ C H ∧ g δ Q ∧ ∀ d v C1 H1, Q d → Ext C H C1 H1 → Den K C1 v d → R v H1
def tDT (K : PySem.W.Frag) (g : GT) : TT := fun σ H R => ∃ C0 H0 δ C Q, Rep K C0 H0 δ σ C H ∧ g δ Q ∧ ∀ b C1 H1, Q b → Ext C H C1 H1 → R b H1
def tDG (K : PySem.W.Frag) (ss : List Nat) (g : GG) : TG := fun v σ H R => ∃ C0 H0 δ C d Q, Rep K C0 H0 δ σ C H ∧ Den K C v d ∧ g d δ Q ∧ ∀ δ' σ', Q δ' → Rep K C0 H0 δ' σ' C H → σ'.length = σ.length → (∀ j : Nat, j ∉ ss → σ'[j]? = σ[j]?) → R σ' H
theorem DE.can (h : DE X e ge) : PE X e (tDE X.K ge) := by
  obtain ⟨t, p, h⟩ := h
  intro pins s σ H Q I q
  obtain ⟨C0, H0, δ, C, Q', rp, g, k⟩ := q
  exact p pins s σ H Q I (h C0 H0 δ σ C H Q' Q rp g k)
theorem DG.can (h : DG X tg ss gg) : PG X tg (tDG X.K ss gg) := by
  obtain ⟨t, p, h⟩ := h
  intro pins s σ H v u Q I r q
  obtain ⟨C0, H0, δ, C, d, Q', rp, n, g, k⟩ := q
  exact p pins s σ H v u Q I r (h C0 H0 δ σ C H v d Q' Q rp n g k)
theorem DIfs.can {ifs : List Expr} (h : DIfs X ifs gt) : PIfs X ifs (tDT X.K gt) := by
  obtain ⟨t, p, h⟩ := h
  intro pins s σ H Q I q
  obtain ⟨C0, H0, δ, C, Q', rp, g, k⟩ := q
  exact p pins s σ H Q I (h C0 H0 δ σ C H Q' Q rp g k)
abbrev gYes : GT := fun _ Q => Q true
theorem difs_nil : DIfs X [] gYes := ⟨_, pifs_nil, fun C0 H0 δ σ C H Q R rp g k => k true C H g (Ext.refl rp.ch)⟩
end
structure DEnds where
  nx : DS → Prop
  rt : D → Prop
  bk : DS → Prop := fun _ => False
  ct : DS → Prop := fun _ => False
abbrev GS := DEnds → DS → Prop
structure Adm (K : PySem.W.Frag) (C0 H0 : Hp) (E : Ends) (De : DEnds) : Prop where
  nx : ∀ δ σ C H, Rep K C0 H0 δ σ C H → De.nx δ → E.nx σ H
  rt : ∀ d v C H, Ext C0 H0 C H → Den K C v d → De.rt d → E.rt v H
  bk : ∀ δ σ C H, Rep K C0 H0 δ σ C H → De.bk δ → E.bk σ H
  ct : ∀ δ σ C H, Rep K C0 H0 δ σ C H → De.ct δ → E.ct σ H
def DSt (X : Cx) (st : Stmt) (g : GS) : Prop := ∃ t, PS X st t ∧ ∀ C0 H0 δ σ C H De E, Rep X.K C0 H0 δ σ C H → g De δ → Adm X.K C0 H0 E De → t E σ H
def DSs (X : Cx) (sts : List Stmt) (g : GS) : Prop := ∃ t, PSs X sts t ∧ ∀ C0 H0 δ σ C H De E, Rep X.K C0 H0 δ σ C H → g De δ → Adm X.K C0 H0 E De → t E σ H
section
variable {X : Cx} {a b c e tg iter elt : Expr} {st : Stmt} {sts s2 : List Stmt} {pos : Pos} {ge : GE} {gi gf : GF} {gt : GT} {gg : GG} {g1 g2 : GS} {scope : Scope} {Nc : List Str} {fr : List (Option Nat)} {ss : List Nat}
abbrev gNext : GS := fun De δ => De.nx δ
def gSeq (g1 g2 : GS) : GS := fun De δ => g1 { De with nx := g2 De } δ
theorem dss_nil : DSs X [] gNext := ⟨_, pss_nil, fun C0 H0 δ σ C H De E rp g k => k.nx δ σ C H rp g⟩
theorem dss_cons (h1 : DSt X st g1) (h2 : DSs X sts g2) : DSs X (st :: sts) (gSeq g1 g2) := by
  obtain ⟨t1, p1, h1⟩ := h1
  obtain ⟨t2, p2, h2⟩ := h2
  refine ⟨_, pss_cons p1 p2, fun C0 H0 δ σ C H De E rp g k => h1 C0 H0 δ σ C H { De with nx := g2 De } { E with nx := t2 E } rp g ⟨fun δ' σ' C' H' rp' q => ?_, k.rt, k.bk, k.ct⟩⟩
  exact h2 C0 H0 δ' σ' C' H' De E rp' q k
theorem dss_one (h1 : DSt X st g1) : DSs X [st] g1 := by
  obtain ⟨t1, p1, h1⟩ := h1
  exact ⟨_, pss_one p1, h1⟩
def gFrz (i : Nat) (g : GS) : GS := fun De δ => match δ[i]? with
  | some (.ow ds) => g De (δ.set i (.im (.lst ds)))
  | _ => False
theorem dss_frz (i : Nat) (h : DSs X sts g1) : DSs X sts (gFrz i g1) := by
  obtain ⟨t, p, h⟩ := h
  refine ⟨t, p, fun C0 H0 δ σ C H De E rp g k => ?_⟩
  unfold gFrz at g
  split at g
  · rename_i ds e
    obtain ⟨C1, rp'⟩ := rp.freeze' e
    exact h C0 H0 _ σ C1 H De E rp' g k
  · exact g.elim
def gRet (ge : GE) : GS := fun De δ => ge δ De.rt
theorem ds_ret (he : DE X e ge) : DSt X (.Return (some e) pos) (gRet ge) := by
  obtain ⟨t, p, h⟩ := he
  exact ⟨_, ps_ret p, fun C0 H0 δ σ C H De E rp g k => h C0 H0 δ σ C H _ _ rp g fun d v C1 H1 q e1 n1 => k.rt d v C1 H1 (rp.ext.trans e1) n1 q⟩
def gIfS (gt : GT) (g1 g2 : GS) : GS := fun De δ => gt δ fun c => if c = true then g1 De δ else g2 De δ
theorem ds_if (hc : DT X c gt) (h1 : DSs X sts g1) (h2 : DSs X s2 g2) : DSt X (.If c sts s2 pos) (gIfS gt g1 g2) := by
  obtain ⟨t0, p0, h0⟩ := hc
  obtain ⟨t1, p1, h1⟩ := h1
  obtain ⟨t2, p2, h2⟩ := h2
  refine ⟨_, ps_if p0 p1 p2, fun C0 H0 δ σ C H De E rp g k => h0 C0 H0 δ σ C H _ _ rp g fun c C1 H1 q e1 => ?_⟩
  cases c with
  | true => exact iteT (h1 C0 H0 δ σ C1 H1 De E (rp.grow e1) (by simpa using q) k)
  | false => exact iteF (h2 C0 H0 δ σ C1 H1 De E (rp.grow e1) (by simpa using q) k)
def gAsg (ge : GE) (gg : GG) : GS := fun De δ => ge δ fun d => gg d δ De.nx
theorem ds_asg (he : DE X e ge) (hg : DG X tg ss gg) (hp : ∀ {te : TE} {g : TG}, PE X e te → PG X tg g → PS X (.Assign [tg] e pos) (tAsg te g)) : DSt X (.Assign [tg] e pos) (gAsg ge gg) := by
  obtain ⟨t, p, h⟩ := he
  obtain ⟨t2, p2, h2⟩ := hg
  refine ⟨_, hp p p2, fun C0 H0 δ σ C H De E rp g k => h C0 H0 δ σ C H _ _ rp g fun d v C1 H1 q e1 n1 => ?_⟩
  exact h2 C0 H0 δ σ C1 H1 v d _ _ (rp.grow e1) n1 q fun δ' σ' q' rp' _ _ => k.nx δ' σ' C1 H1 rp' q'
def gAsgO (i : Nat) (gf : GF) : GS := fun De δ => gf δ fun ds => De.nx (δ.set i (.ow ds))
theorem ds_asgO {i : Nat} {x : Str} {pos' : Pos} (he : DF X e gf) (hp : ∀ {te : TE}, PE X e te → PS X (.Assign [.Name x pos'] e pos) (tAsg te (gName i))) : DSt X (.Assign [.Name x pos'] e pos) (gAsgO i gf) := by
  obtain ⟨t, p, h⟩ := he
  refine ⟨_, hp p, fun C0 H0 δ σ C H De E rp g k => h C0 H0 δ σ C H _ _ rp g fun ds p xs C1 H1 q e1 hc hn hl hd => ?_⟩
  have rp1 := rp.grow e1
  refine k.nx _ _ C1 H1 (rp1.setO (rp.ext.hh.free hn) hc (fun j es hj ho z => ?_) hl hd) q
  obtain ⟨l, ys, a, _, _, d, _⟩ := rp.ow j es ho
  rw [z] at a
  cases a
  rw [hn] at d
  cases d
def gApp (i : Nat) (ge : GE) : GS := fun De δ => match δ[i]? with
  | some (.ow ds) => ge δ fun d => ds.length < sizeLine ∧ De.nx (δ.set i (.ow (ds ++ [d])))
  | _ => False
theorem ds_app {i : Nat} {o : Expr} {nm : Str} {p2 p3 : Pos} (he : DE X e ge) (hp : ∀ {te : TE}, PE X e te → PS X (.Expr (.Call (.Attribute o nm p2) [e] [] p3) pos) (tDrop (tBM X.K "list" rAppend (tVar i) (tCons te tNil)))) : DSt X (.Expr (.Call (.Attribute o nm p2) [e] [] p3) pos) (gApp i ge) := by
  obtain ⟨t, p, h⟩ := he
  refine ⟨_, hp p, fun C0 H0 δ σ C H De E rp g k => ?_⟩
  unfold gApp at g
  split at g
  · rename_i ds eo
    obtain ⟨l, xs, a, b, c, d, f⟩ := rp.ow i ds eo
    refine ⟨.ref l, a, .inl ⟨rfl, xs, SqL.of d⟩, h C0 H0 δ σ C H _ _ rp g fun dv v C1 H1 q e1 n1 => ?_⟩
    have d1 := e1.hh _ _ d
    refine ⟨l, xs, v, rfl, rfl, d1, by rw [f.length]; exact q.1, k.nx _ σ C1 _ ((rp.grow e1).change eo a ((f.mono e1.cc).append (.cons n1 .nil))) q.2⟩
  · exact g.elim
def gExt (i : Nat) (gf : GF) : GS := fun De δ => match δ[i]? with
  | some (.ow ds) => gf δ fun es => ds.length + es.length ≤ sizeLine ∧ De.nx (δ.set i (.ow (ds ++ es)))
  | _ => False
theorem ds_ext {i : Nat} {o : Expr} {nm : Str} {p2 p3 : Pos} (he : DF X e gf) (hp : ∀ {te : TE}, PE X e te → PS X (.Expr (.Call (.Attribute o nm p2) [e] [] p3) pos) (tDrop (tBM X.K "list" rExtend (tVar i) (tCons te tNil)))) : DSt X (.Expr (.Call (.Attribute o nm p2) [e] [] p3) pos) (gExt i gf) := by
  obtain ⟨t, p, h⟩ := he
  refine ⟨_, hp p, fun C0 H0 δ σ C H De E rp g k => ?_⟩
  unfold gExt at g
  split at g
  · rename_i ds eo
    obtain ⟨l, xs, a, b, c, d, f⟩ := rp.ow i ds eo
    refine ⟨.ref l, a, .inl ⟨rfl, xs, SqL.of d⟩, h C0 H0 δ σ C H _ _ rp g fun es p ys C1 H1 q e1 hc hn hl hd => ?_⟩
    have d1 := e1.hh _ _ d
    refine ⟨l, p, xs, ys, rfl, rfl, d1, hl, by rw [f.length, hd.length]; exact q.1, k.nx _ σ C1 _ ((rp.grow e1).change eo a ((f.mono e1.cc).append hd)) q.2⟩
  · exact g.elim
theorem df_comp (ok : compOk X.env.scope scope X.N Nc fr = true) (fo : frOk fr ss = true) (hc : X.calm = true) (hi : DI X tg iter gi) (hg : ∀ Cc pins fp s3 H3, DG (cxC X scope Nc Cc pins fp s3 H3) tg ss gg)
    (he : ∀ Cc pins fp s3 H3, DE (cxC X scope Nc Cc pins fp s3 H3) elt ge) (mg : ∀ d δ (P P' : DS → Prop), (∀ l, P l → P' l) → gg d δ P → gg d δ P') (hs : ∀ x, foldedSetIterable iter X.env x = pure x := by intro _; rfl) :
    DF X (.ListComp elt [⟨tg, iter, [], 0⟩] scope pos) (gComp fr gi gg ge) := by
  obtain ⟨wi, pi, h⟩ := hi
  refine ⟨_, pe_comp (g := tDG X.K ss gg) (tt := tDT X.K gYes) (te := tDE X.K ge) ok hc pi (fun a b c d e => (hg a b c d e).can) (fun a b c d e => (difs_nil (X := cxC X scope Nc a b c d e)).can) (fun a b c d e => (he a b c d e).can) hs, fun C0 H0 δ σ C H Q R rp g k => h C0 H0 δ σ C H _ _ rp g fun its J C1 H1 q e1 wk A hA => ?_⟩
  obtain ⟨hz, f, hf, q⟩ := q
  refine turns_of (gg := gg) (gt := gYes) (ge := ge) (ss := ss) (p := fun _ => true) (f := f) (Q := Q) (fun C0 H0 δ σ C H v d Q R rp n g k => ⟨C0, H0, δ, C, d, Q, rp, n, g, k⟩) (fun C0 H0 δ σ C H Q R rp g k => ⟨C0, H0, δ, C, Q, rp, g, k⟩) (fun C0 H0 δ σ C H Q R rp g k => ⟨C0, H0, δ, C, Q, rp, g, k⟩) fo rp e1 wk hz
    (fun d hd => mg d _ _ _ (fun δ2 q2 => ⟨rfl, fun _ => q2⟩) (hf d hd)) (by rw [List.filter_eq_self.mpr (fun _ _ => rfl)]; exact q) k hA
theorem ds_compO0 {i : Nat} {x : Str} {pos' pos'' : Pos} (ok : compOk X.env.scope scope X.N Nc fr = true) (fo : frOk fr ss = true) (hc : X.calm = true) (hN : X.N.Nodup) (hi : X.N[i]? = some x) (hx : Loc X.env.scope x) (hit : DI X tg iter gi) (hg : ∀ Cc pins fp s3 H3, DG (cxC X scope Nc Cc pins fp s3 H3) tg ss gg)
    (he : ∀ Cc pins fp s3 H3, DE (cxC X scope Nc Cc pins fp s3 H3) elt ge) (mg : ∀ d δ (P P' : DS → Prop), (∀ l, P l → P' l) → gg d δ P → gg d δ P') (hsw : swapsWith (.ListComp elt [⟨tg, iter, [], 0⟩] scope pos) (some (.Name x pos')) pos''.line X.env = pure true)
    (hs : ∀ x, foldedSetIterable iter X.env x = pure x := by intro _; rfl) (hf : X.fn x = true ∨ X.env.scope.names.lookup x = some .local := by first | exact .inl rfl | exact .inr rfl | assumption) :
    DSt X (.Assign [.Name x pos'] (.ListComp elt [⟨tg, iter, [], 0⟩] scope pos) pos'') (gAsgO i (gComp fr gi gg ge)) := by
  obtain ⟨wi, pi, h⟩ := hit
  refine ⟨_, ps_comp (g := tDG X.K ss gg) (tt := tDT X.K gYes) (te := tDE X.K ge) ok hc hN hi hx pi (fun a b c d e => (hg a b c d e).can) (fun a b c d e => (difs_nil (X := cxC X scope Nc a b c d e)).can) (fun a b c d e => (he a b c d e).can) hsw hs hf, fun C0 H0 δ σ C H De E rp g k => h C0 H0 δ σ C H _ _ rp g fun its J C1 H1 q e1 wk A hA => ?_⟩
  obtain ⟨hz, f, hf, q⟩ := q
  refine turns_of (gg := gg) (gt := gYes) (ge := ge) (ss := ss) (p := fun _ => true) (f := f) (Q := fun ds => De.nx (δ.set i (.ow ds))) (fun C0 H0 δ σ C H v d Q R rp n g k => ⟨C0, H0, δ, C, d, Q, rp, n, g, k⟩) (fun C0 H0 δ σ C H Q R rp g k => ⟨C0, H0, δ, C, Q, rp, g, k⟩) (fun C0 H0 δ σ C H Q R rp g k => ⟨C0, H0, δ, C, Q, rp, g, k⟩) fo rp e1 wk hz
    (fun d hd => mg d _ _ _ (fun δ2 q2 => ⟨rfl, fun _ => q2⟩) (hf d hd)) (by rw [List.filter_eq_self.mpr (fun _ _ => rfl)]; exact q) (fun ds p xs C1 H1 q e1 hc hn hl hd => ?_) hA
  have rp1 := rp.grow e1
  refine k.nx _ _ C1 H1 (rp1.setO (rp.ext.hh.free hn) hc (fun j es hj ho z => ?_) hl hd) q
  obtain ⟨l, ys, a, _, _, d, _⟩ := rp.ow j es ho
  rw [z] at a
  cases a
  rw [hn] at d
  cases d
theorem mono_nm {i : Nat} : ∀ d δ (P P' : DS → Prop), (∀ l, P l → P' l) → gNm i d δ P → gNm i d δ P' := fun _ _ _ _ h q => h _ q
theorem Rep.rebase {K : PySem.W.Frag} {C0 H0 δ σ C H} (R : Rep K C0 H0 δ σ C H) : Rep K C H0 δ σ C H := ⟨R.len, ⟨R.ext.hh, Same.refl _, R.ext.ch, fun _ e _ => e⟩, R.im, R.ow, R.ap, R.dc⟩
theorem Ext.unbase {C0 H0 C1 H1 C H : Hp} (e : Ext C0 H0 C1 H1) (x : Ext C1 H0 C H) : Ext C0 H0 C H := ⟨x.hh, e.cc.trans x.cc, x.ch, fun b a n => x.ow b (e.ow b a n) n⟩
theorem Rep.unbase {K : PySem.W.Frag} {C0 H0 C1 H1 δ σ C H} (e : Ext C0 H0 C1 H1) (R : Rep K C1 H0 δ σ C H) : Rep K C0 H0 δ σ C H := ⟨R.len, e.unbase R.ext, R.im, R.ow, R.ap, R.dc⟩
def gFor (gi : GF) (gg : GG) (gb : GS) : GS := fun De δ => gi δ fun its => ∃ P : Nat → DS → Prop, P 0 δ ∧ (∀ (i : Nat) d δ', its[i]? = some d → P i δ' → gg d δ' fun δ2 => gb { De with nx := P (i + 1), ct := P (i + 1), bk := De.nx } δ2) ∧ ∀ δ', P its.length δ' → De.nx δ'
theorem ds_for {gb : GS} (hc : X.calm = true) (hp : PassesOwn (model X.prog X.w) X.A X.env X.xe) (hi : DI X tg iter gi) (hg : DG X tg ss gg) (hb : DSs X sts gb) (hs : ∀ x, foldedSetIterable iter X.env x = pure x := by intro _; rfl) : DSt X (.For tg iter sts [] pos) (gFor gi gg gb) := by
  obtain ⟨wi, pi, h⟩ := hi
  obtain ⟨t2, p2, h2⟩ := hg
  obtain ⟨t3, p3, h3⟩ := hb
  refine ⟨_, ps_for hp hc pi p2 p3 hs, fun C0 H0 δ σ C H De E rp g k => h C0 H0 δ σ C H _ _ rp g fun its J C1 H1 q e1 wk => ?_⟩
  obtain ⟨P, P0, Pt, Pe⟩ := q
  have rp1 := rp.grow e1
  refine ⟨fun i m σ' H' => m = its.length - i ∧ i ≤ its.length ∧ ∃ δ' C', Rep X.K C1 H0 δ' σ' C' H' ∧ P i δ', ⟨_, rfl, Nat.zero_le _, δ, C1, rp1.rebase, P0⟩, ?_⟩
  rintro i m σ' H' ⟨rfl, hi, δ', C', rp', p⟩
  have W := wk C' H' rp'.ext.cc rp'.ch i
  by_cases hlt : i < its.length
  · have ed : its[i]? = some its[i] := by simp [hlt]
    obtain ⟨go, yl⟩ := W.1 _ ed
    refine .inr ⟨go, fun σ2 H2 => ∃ δ2 C2, Rep X.K C1 H0 δ2 σ2 C2 H2 ∧ P (i + 1) δ2, fun σ2 H2 ⟨δ2, C2, a, b⟩ => ⟨its.length - (i + 1), by omega, rfl, hlt, δ2, C2, a, b⟩, fun x H3 y => ?_⟩
    obtain ⟨C3, e3, n3⟩ := yl x H3 y
    refine h2 C1 H0 δ' σ' C3 H3 x its[i] _ _ (rp'.grow e3) n3 (Pt i _ δ' ed p) fun δ4 σ4 q4 rp4 _ _ => ?_
    refine h3 C1 H0 δ4 σ4 C3 H3 _ _ rp4 q4 ⟨fun δ5 σ5 C5 H5 a b => ⟨δ5, C5, a, b⟩, fun d v C5 H5 a b c => k.rt d v C5 H5 (rp1.ext.unbase a) b c, fun δ5 σ5 C5 H5 a b => k.nx δ5 σ5 C5 H5 (a.unbase rp1.ext) b, fun δ5 σ5 C5 H5 a b => ⟨δ5, C5, a, b⟩⟩
  · have e : i = its.length := by omega
    subst e
    exact .inl ⟨W.2 (Nat.le_refl _), k.nx δ' σ' C' H' (rp'.unbase rp1.ext) (Pe δ' p)⟩
end
def dstart (N : List Str) (ds : List D) : DS := ds.map Sl.im ++ List.replicate (N.length - ds.length) .un
theorem rep_start {K : PySem.W.Frag} {C H : Hp} {N : List Str} {vs : List V} {ds : List D} (ch : Same C H) (h : Dens K C vs ds) : Rep K C H (dstart N ds) (start N vs) C H := by
  have no : ∀ (i : Nat) es, (dstart N ds)[i]? ≠ some (.ow es) := fun i es e => by
    have := List.mem_of_getElem? e
    unfold dstart at this
    rcases List.mem_append.mp this with z | z
    · obtain ⟨d, _, q⟩ := List.mem_map.mp z
      cases q
    · have := List.eq_of_mem_replicate z
      cases this
  refine ⟨?_, Ext.refl ch, fun i d e => ?_, fun i es e => absurd e (no i es), fun i j es fs l _ e _ => absurd e (no i es), Dcs.none fun i x e => ?_⟩
  rotate_right
  · have := List.mem_of_getElem? e
    unfold dstart at this
    rcases List.mem_append.mp this with z | z
    · obtain ⟨d, _, q⟩ := List.mem_map.mp z
      rw [← q]
      rfl
    · rw [List.eq_of_mem_replicate z]
      rfl
  · unfold start dstart
    simp [h.length]
  · unfold dstart at e
    unfold start
    by_cases hi : i < ds.length
    · rw [List.getElem?_append_left (by simpa using hi), List.getElem?_map] at e
      cases e2 : ds[i]? with
      | none => rw [e2] at e; cases e
      | some d' =>
        rw [e2] at e
        cases e
        obtain ⟨v, ev, nv⟩ := h.get e2
        refine ⟨v, ?_, nv⟩
        rw [List.getElem?_append_left (by rw [List.length_map, h.length]; exact hi), List.getElem?_map, ev]
        rfl
    · rw [List.getElem?_append_right (by simpa using hi), List.getElem?_replicate] at e
      split at e <;> cases e
theorem fnD {P : Program} {w : World} {K : PySem.W.Frag} {mg : Str → Option Value} {base : Heap} {x qual : Str} {st : Stmt} {f : Addr} {fd : FuncData} {N ps : List Str} {k : Nat} {F : List D → Option D} {g : GS} (Fn : Fun K x qual st f fd) (S : FnScope N ps (defScope st))
    (hl : ∀ ds d, F ds = some d → ds.length = ps.length)
    (hb : ∀ (cdv : Value) (A : Around) (outer : List Env) (s : Shared) (H : Hp) (E : XK), Room k (A.deeper (envOfC qual (defScope st) s.heap.objs.size f cdv)) → DSs (cxOf CX0 P w K mg base N qual (defScope st) f cdv A outer s H E).nox (defBody st) g)
    (hv : ∀ ds d, F ds = some d → g { nx := fun _ => d = .non, rt := fun r => r = d } (dstart N ds)) (hm : mg x = some (.ref f)) (bi : Binds K fd ps []) : DFn P w K mg base (k + 1) x F := by
  refine ⟨f, fd, ps, Fn.ok S (fun vs H Q E h => ?_) (fun cdv A outer s H vs Q E hr h => ?_), hm, Fn.kp, bi⟩
  · obtain ⟨C, ds, d, _, n, e, _⟩ := h
    rw [n.length]
    exact hl ds d e
  · obtain ⟨C, ds, d, ch, n, e, q⟩ := h
    obtain ⟨t, p, h⟩ := hb cdv A outer s H E hr
    refine ⟨t, p, h C H (dstart N ds) (start N vs) C H _ _ (rep_start ch n) (hv ds d e) ⟨fun δ σ C' H' rp z => ?_, fun r v C' H' ex nv z => ?_, fun _ _ _ _ _ z => z.elim, fun _ _ _ _ _ z => z.elim⟩⟩
    · subst z
      exact q _ C' H' rp.ext (den_non.mpr rfl)
    · subst z
      exact q v C' H' ex nv
end L2
namespace L2
open PySem PySem.Spec PyProof.Rows
section
variable {X : Cx}
def rCatL (K : PySem.W.Frag) : R2 := fun x y H Q => ∃ l b xs zs, x = .ref l ∧ y = .ref b ∧ SqL K H l xs ∧ SqL K H b zs ∧ xs.length + zs.length ≤ sizeLine ∧ ∀ p, H p = none → Q (.ref p) (upd H p (.lst (xs ++ zs)))
theorem op_catL : OpR X (binaryOp .Add) (rCatL X.K) := by
  intro pins s σ H x y v u Q I rx ry h
  obtain ⟨l, b, xs, zs, rfl, rfl, hH, hB, hz, q⟩ := h
  cases rx
  cases ry
  obtain ⟨its, r, pl, z⟩ := I.list hH
  obtain ⟨its2, r2, pl2, z2⟩ := I.list hB
  have hl := r.length
  have hl2 := r2.length
  obtain ⟨⟨cls, dd, data, sl⟩, ho, hc, n, hd⟩ := pl.isList
  obtain ⟨⟨cls2, dd2, data2, sl2⟩, ho2, hc2, n2, hd2⟩ := pl2.isList
  simp only at hc hd hc2 hd2
  subst hc hd hc2 hd2
  refine concat_meets ⟨_, ho, rfl⟩ ⟨_, ho2, rfl⟩ noFill_list_add seq_list_add PySem.F.slot_list_add PySem.F.entry_list_add (PySem.F.args_list_add_2 _ _) (list_addW l b its.toArray its2.toArray n n2 dd dd2 sl sl2 (by rw [List.size_toArray, List.size_toArray]; omega)) ⟨ho, ho2, ?_⟩
  have ea : its.toArray ++ its2.toArray = (its ++ its2).toArray := by simp
  rw [ea]
  exact ⟨.ref _, _, I.lnew (t' := s.toks) (r.append r2) (by rw [List.length_append]; omega), rfl, q _ I.fresh⟩
variable {a b c e : Expr} {es : List Expr} {pos : Pos} {ga gb : GE}
def gCatL (ga gb : GE) : GF := fun δ Q => ga δ fun x => gb δ fun y => match x, y with
  | .lst xs, .lst ys => xs.length + ys.length ≤ sizeLine ∧ Q (xs ++ ys)
  | _, _ => False
theorem df_cat (ha : DE X a ga) (hb : DE X b gb) : DF X (.BinOp a .Add b pos) (gCatL ga gb) := by
  obtain ⟨t1, p1, h1⟩ := ha
  obtain ⟨t2, p2, h2⟩ := hb
  refine ⟨_, pe_op op_catL p1 p2, fun C0 H0 δ σ C H Q R rp g k => ?_⟩
  refine h1 C0 H0 δ σ C H _ _ rp g fun d v C1 H1 q e1 n1 => h2 C0 H0 δ σ C1 H1 _ _ (rp.grow e1) q fun d2 v2 C2 H2 q2 e2 n2 => ?_
  have n1' := n1.mono e2.cc
  have e12 := e1.trans e2
  cases d with
  | lst ds =>
    cases d2 with
    | lst es =>
      obtain ⟨p, xs, rfl, hx, hd⟩ := den_lst.mp n1'
      obtain ⟨p', ys, rfl, hy, he⟩ := den_lst.mp n2
      have q2' : ds.length + es.length ≤ sizeLine ∧ Q (ds ++ es) := q2
      exact ⟨p, p', xs, ys, rfl, rfl, e2.ch.seq hx, e2.ch.seq hy, by rw [hd.length, he.length]; exact q2'.1, fun l hl => k _ l _ C2 _ q2'.2 (e12.trans (Ext.newO e2.ch hl)) (e2.ch.free hl) (e12.hh.free hl) upd_same (hd.append he)⟩
    | _ => exact q2.elim
  | _ => exact q2.elim
end
mutual
def eqD : D → D → Option Bool
  | .int i, .int j => some (i == j)
  | .bl i, .bl j => some (i == j)
  | .str i, .str j => some (i == j)
  | .non, .non => some true
  | .tup xs, .tup ys => (eqDs xs ys).map fun b => b && xs.length == ys.length
  | .lst xs, .lst ys => if xs.length = ys.length then eqDs xs ys else some false
  | _, _ => none
def eqDs : List D → List D → Option Bool
  | x :: xs, y :: ys => match eqD x y, eqDs xs ys with
    | some a, some b => some (a && b)
    | _, _ => none
  | _, _ => some true
end
mutual
def dep : D → Nat
  | .tup ds => deps ds + 1
  | .lst ds => deps ds + 1
  | _ => 0
def deps : List D → Nat
  | [] => 0
  | d :: ds => max (dep d) (deps ds)
end
mutual
theorem eqD_self : ∀ d : D, eqD d d = some true
  | .int i => by simp [eqD]
  | .bl i => by simp [eqD]
  | .str i => by simp [eqD]
  | .non => by simp [eqD]
  | .tup ds => by simp [eqD, eqDs_self ds]
  | .lst ds => by simp [eqD, eqDs_self ds]
theorem eqDs_self : ∀ ds : List D, eqDs ds ds = some true
  | [] => by simp [eqDs]
  | d :: ds => by simp [eqDs, eqD_self d, eqDs_self ds]
end
theorem eqDs_at : ∀ {xs ys : List D} {r : Bool}, eqDs xs ys = some r → ∃ f : Nat → Bool, (∀ (j : Nat) x y, xs[j]? = some x → ys[j]? = some y → eqD x y = some (f j)) ∧ r = (List.range (min xs.length ys.length)).all f
  | [], ys, r, h => by
    refine ⟨fun _ => true, fun j x y e => by simp at e, ?_⟩
    have : r = true := by simpa [eqDs] using h.symm
    simp [this]
  | x :: xs, [], r, h => by
    refine ⟨fun _ => true, fun j x y _ e => by simp at e, ?_⟩
    have : r = true := by simpa [eqDs] using h.symm
    simp [this]
  | x :: xs, y :: ys, r, h => by
    rw [eqDs] at h
    cases e1 : eqD x y with
    | none => rw [e1] at h; cases h
    | some a =>
      cases e2 : eqDs xs ys with
      | none => rw [e1, e2] at h; cases h
      | some b =>
        rw [e1, e2] at h
        obtain ⟨f, hf, hb⟩ := eqDs_at e2
        refine ⟨fun j => match j with
          | 0 => a
          | j + 1 => f j, fun j x' y' h1 h2 => ?_, ?_⟩
        · cases j with
          | zero => cases h1; cases h2; exact e1
          | succ j => exact hf j x' y' h1 h2
        · have : r = (a && b) := (Option.some.inj h).symm
          rw [this, hb, List.length_cons, List.length_cons, Nat.succ_min_succ, List.range_succ_eq_map, List.all_cons, List.all_map]
          rfl
theorem deps_at : ∀ {xs : List D} {j : Nat} {x : D}, xs[j]? = some x → dep x ≤ deps xs
  | [], j, x, h => by simp at h
  | y :: ys, 0, x, h => by
    cases h
    rw [deps]
    exact Nat.le_max_left _ _
  | y :: ys, j + 1, x, h => by
    rw [deps]
    exact Nat.le_trans (deps_at (xs := ys) (j := j) h) (Nat.le_max_right _ _)
section
variable {X : Cx} {pins : List (Addr × Obj)} {σ : St} {H C : Hp} {s : Shared}
mutual
theorem den_inj (I : Inv X pins σ H s) (ch : Same C H) : ∀ {v : V} (d e : D), Den X.K C v d → Den X.K C v e → d = e
  | v, .int i, e, h, h' => by
    have z := den_int.mp h
    subst z
    cases e with
    | int j => have z := den_int.mp h'; cases z; rfl
    | bl j => have z := den_bl.mp h'; cases z
    | non => have z := den_non.mp h'; cases z
    | str j => have z := den_str.mp h'; cases z
    | tup j => obtain ⟨_, _, z, _⟩ := den_tup.mp h'; cases z
    | lst j => obtain ⟨_, _, z, _⟩ := den_lst.mp h'; cases z
  | v, .bl i, e, h, h' => by
    have z := den_bl.mp h
    subst z
    cases e with
    | int j => have z := den_int.mp h'; cases z
    | bl j => have z := den_bl.mp h'; cases z; rfl
    | non => have z := den_non.mp h'; cases z
    | str j => have z := den_str.mp h'; cases z
    | tup j => obtain ⟨_, _, z, _⟩ := den_tup.mp h'; cases z
    | lst j => obtain ⟨_, _, z, _⟩ := den_lst.mp h'; cases z
  | v, .non, e, h, h' => by
    have z := den_non.mp h
    subst z
    cases e with
    | int j => have z := den_int.mp h'; cases z
    | bl j => have z := den_bl.mp h'; cases z
    | non => rfl
    | str j => have z := den_str.mp h'; cases z
    | tup j => obtain ⟨_, _, z, _⟩ := den_tup.mp h'; cases z
    | lst j => obtain ⟨_, _, z, _⟩ := den_lst.mp h'; cases z
  | v, .str i, e, h, h' => by
    have z := den_str.mp h
    subst z
    cases e with
    | int j => have z := den_int.mp h'; cases z
    | bl j => have z := den_bl.mp h'; cases z
    | non => have z := den_non.mp h'; cases z
    | str j => have z := den_str.mp h'; cases z; rfl
    | tup j => obtain ⟨_, _, z, _⟩ := den_tup.mp h'; cases z
    | lst j => obtain ⟨_, _, z, _⟩ := den_lst.mp h'; cases z
  | v, .tup ds, e, h, h' => by
    obtain ⟨a, xs, rfl, hx, hd⟩ := den_tup.mp h
    cases e with
    | int j => have z := den_int.mp h'; cases z
    | bl j => have z := den_bl.mp h'; cases z
    | non => have z := den_non.mp h'; cases z
    | str j => have z := den_str.mp h'; cases z
    | tup es =>
      obtain ⟨a', ys, z, hy, he⟩ := den_tup.mp h'
      cases z
      have q := I.tuple_inj (ch.seqT hx) (ch.seqT hy)
      subst q
      rw [dens_inj I ch ds es hd he]
    | lst es =>
      obtain ⟨a', ys, z, hy, he⟩ := den_lst.mp h'
      cases z
      obtain ⟨its, _, ⟨o, h1, h2, _⟩, _⟩ := I.tuple (ch.seqT hx)
      obtain ⟨its2, _, pl, _⟩ := I.list (ch.seq hy)
      obtain ⟨o2, h3, h4, _⟩ := pl.isList
      rw [h1] at h3
      cases h3
      rw [h2] at h4
      exact absurd h4 (by decide)
  | v, .lst ds, e, h, h' => by
    obtain ⟨a, xs, rfl, hx, hd⟩ := den_lst.mp h
    cases e with
    | int j => have z := den_int.mp h'; cases z
    | bl j => have z := den_bl.mp h'; cases z
    | non => have z := den_non.mp h'; cases z
    | str j => have z := den_str.mp h'; cases z
    | lst es =>
      obtain ⟨a', ys, z, hy, he⟩ := den_lst.mp h'
      cases z
      have q := I.list_inj (ch.seq hx) (ch.seq hy)
      subst q
      rw [dens_inj I ch ds es hd he]
    | tup es =>
      obtain ⟨a', ys, z, hy, he⟩ := den_tup.mp h'
      cases z
      obtain ⟨its, _, ⟨o, h1, h2, _⟩, _⟩ := I.tuple (ch.seqT hy)
      obtain ⟨its2, _, pl, _⟩ := I.list (ch.seq hx)
      obtain ⟨o2, h3, h4, _⟩ := pl.isList
      rw [h1] at h3
      cases h3
      rw [h2] at h4
      exact absurd h4 (by decide)
theorem dens_inj (I : Inv X pins σ H s) (ch : Same C H) : ∀ {vs : List V} (ds es : List D), Dens X.K C vs ds → Dens X.K C vs es → ds = es
  | vs, [], es, h, h' => by
    have z := dens_nil.mp h
    subst z
    cases es with
    | nil => rfl
    | cons e es => obtain ⟨_, _, z, _⟩ := dens_cons.mp h'; cases z
  | vs, d :: ds, es, h, h' => by
    obtain ⟨x, xs, rfl, n, t⟩ := dens_cons.mp h
    cases es with
    | nil => have z := dens_nil.mp h'; cases z
    | cons e es =>
      obtain ⟨_, _, z, n', t'⟩ := dens_cons.mp h'
      cases z
      rw [den_inj I ch d e n n', dens_inj I ch ds es t t']
end
theorem vals_at {xs : List V} {its : List Value} (r : Vals xs its) {j : Nat} (h : j < its.toArray.size) : ∃ x, xs[j]? = some x ∧ RelV x its.toArray[j] := by
  have h' : j < its.length := by simpa using h
  have hx : j < xs.length := by rw [r.length]; exact h'
  have e : xs[j]? = some xs[j] := by simp [hx]
  obtain ⟨u, e1, e2⟩ := r.get e
  refine ⟨xs[j], e, ?_⟩
  have : u = its.toArray[j] := by
    have e3 : its[j]? = some its[j] := by simp [h']
    rw [e3] at e1
    cases e1
    simp
  rw [← this]
  exact e2
theorem eqAt_D (I : Inv X pins σ H s) (ch : Same C H) : ∀ (n : Nat) (d e : D) (r : Bool) (A : Around) (x y : V) (u v : Value), dep d ≤ n → A.units + n < cLine → eqD d e = some r → RelV x u → RelV y v → Den X.K C x d → Den X.K C y e → SeqAt.EqAt A s u v r := by
  intro n
  induction n with
  | zero =>
    intro d e r A x y u v hn hu he rx ry nx ny
    cases d with
    | int i =>
      cases e with
      | int j =>
        rw [eqD] at he
        cases he
        have z := den_int.mp nx
        have z2 := den_int.mp ny
        subst z z2
        obtain ⟨t, rfl⟩ := rx
        obtain ⟨t', rfl⟩ := ry
        exact SeqAt.EqAt.int_int i t j t'
      | _ => cases he
    | bl i =>
      cases e with
      | bl j =>
        rw [eqD] at he
        cases he
        have z := den_bl.mp nx
        have z2 := den_bl.mp ny
        subst z z2
        cases rx
        cases ry
        exact SeqAt.EqAt.bool_bool i j
      | _ => cases he
    | str i =>
      cases e with
      | str j =>
        rw [eqD] at he
        cases he
        have z := den_str.mp nx
        have z2 := den_str.mp ny
        subst z z2
        obtain ⟨t, rfl⟩ := rx
        obtain ⟨t', rfl⟩ := ry
        exact SeqAt.EqAt.str_str i t j t'
      | _ => cases he
    | non =>
      cases e with
      | non =>
        rw [eqD] at he
        cases he
        have z := den_non.mp nx
        have z2 := den_non.mp ny
        subst z z2
        cases rx
        cases ry
        exact SeqAt.EqAt.same _
      | _ => cases he
    | tup ds => rw [dep] at hn; omega
    | lst ds => rw [dep] at hn; omega
  | succ n ih =>
    intro d e r A x y u v hn hu he rx ry nx ny
    cases d with
    | tup ds =>
      cases e with
      | tup es =>
        obtain ⟨a, xs, rfl, hx, hd⟩ := den_tup.mp nx
        obtain ⟨b, ys, rfl, hy, hee⟩ := den_tup.mp ny
        cases rx
        cases ry
        by_cases hab : a = b
        · subst hab
          have q := den_inj I ch _ _ nx ny
          rw [← q, eqD_self] at he
          cases he
          exact SeqAt.EqAt.same _
        · refine SeqAt.EqAt.of_refs hab ?_
          rw [eqD] at he
          cases e1 : eqDs ds es with
          | none => rw [e1] at he; cases he
          | some r0 =>
            rw [e1] at he
            obtain ⟨f, hf, hr⟩ := eqDs_at e1
            obtain ⟨its, r1, t1, _⟩ := I.tuple (ch.seqT hx)
            obtain ⟨its2, r2, t2, _⟩ := I.tuple (ch.seqT hy)
            have l1 : its.toArray.size = ds.length := by rw [List.size_toArray, ← r1.length, hd.length]
            have l2 : its2.toArray.size = es.length := by rw [List.size_toArray, ← r2.length, hee.length]
            have q := SeqAt.RcAt.tuples (A := A) (e := f) t1 t2 (by omega) fun j h1 h2 => by
              obtain ⟨x', ex, rx'⟩ := vals_at r1 h1
              obtain ⟨y', ey, ry'⟩ := vals_at r2 h2
              have hj1 : j < ds.length := by omega
              have hj2 : j < es.length := by omega
              have ed : ds[j]? = some ds[j] := by simp [hj1]
              have ee : es[j]? = some es[j] := by simp [hj2]
              obtain ⟨x2, ex2, nx2⟩ := hd.get ed
              obtain ⟨y2, ey2, ny2⟩ := hee.get ee
              rw [ex] at ex2
              cases ex2
              rw [ey] at ey2
              cases ey2
              refine ih ds[j] es[j] (f j) A.in1 x' y' _ _ ?_ (by show A.units + 1 + n < cLine; omega) (hf j _ _ ed ee) rx' ry' nx2 ny2
              have := deps_at ed
              rw [dep] at hn
              omega
            rw [l1, l2] at q
            have er : r = ((List.range (min ds.length es.length)).all f && ds.length == es.length) := by
              rw [← hr]
              exact (Option.some.inj he).symm
            rw [er]
            exact q
      | _ => cases he
    | lst ds =>
      cases e with
      | lst es =>
        obtain ⟨a, xs, rfl, hx, hd⟩ := den_lst.mp nx
        obtain ⟨b, ys, rfl, hy, hee⟩ := den_lst.mp ny
        cases rx
        cases ry
        by_cases hab : a = b
        · subst hab
          have q := den_inj I ch _ _ nx ny
          rw [← q, eqD_self] at he
          cases he
          exact SeqAt.EqAt.same _
        · refine SeqAt.EqAt.of_refs hab ?_
          rw [eqD] at he
          obtain ⟨its, r1, p1, _⟩ := I.list (ch.seq hx)
          obtain ⟨its2, r2, p2, _⟩ := I.list (ch.seq hy)
          have l1 : its.toArray.size = ds.length := by rw [List.size_toArray, ← r1.length, hd.length]
          have l2 : its2.toArray.size = es.length := by rw [List.size_toArray, ← r2.length, hee.length]
          by_cases hlen : ds.length = es.length
          · rw [if_pos hlen] at he
            obtain ⟨f, hf, hr⟩ := eqDs_at he
            have q := SeqAt.RcAt.lists (A := A) (e := f) p1.isList p2.isList (by rw [l1, l2]; exact hlen) (by omega) fun j h1 h2 => by
              obtain ⟨x', ex, rx'⟩ := vals_at r1 h1
              obtain ⟨y', ey, ry'⟩ := vals_at r2 h2
              have hj1 : j < ds.length := by omega
              have hj2 : j < es.length := by omega
              have ed : ds[j]? = some ds[j] := by simp [hj1]
              have ee : es[j]? = some es[j] := by simp [hj2]
              obtain ⟨x2, ex2, nx2⟩ := hd.get ed
              obtain ⟨y2, ey2, ny2⟩ := hee.get ee
              rw [ex] at ex2
              cases ex2
              rw [ey] at ey2
              cases ey2
              refine ih ds[j] es[j] (f j) A.in1 x' y' _ _ ?_ (by show A.units + 1 + n < cLine; omega) (hf j _ _ ed ee) rx' ry' nx2 ny2
              have := deps_at ed
              rw [dep] at hn
              omega
            rw [l1] at q
            rw [hr, ← hlen, Nat.min_self]
            exact q
          · rw [if_neg hlen] at he
            cases he
            exact SeqAt.RcAt.lists_lengths p1.isList p2.isList (by rw [l1, l2]; simpa using hlen) (by omega)
      | _ => cases he
    | int i => exact ih (.int i) e r A x y u v (by simp [dep]) (by omega) he rx ry nx ny
    | bl i => exact ih (.bl i) e r A x y u v (by simp [dep]) (by omega) he rx ry nx ny
    | non => exact ih .non e r A x y u v (by simp [dep]) (by omega) he rx ry nx ny
    | str i => exact ih (.str i) e r A x y u v (by simp [dep]) (by omega) he rx ry nx ny
theorem rcAt_D (I : Inv X pins σ H s) (ch : Same C H) (n : Nat) (d e : D) (r : Bool) (A : Around) (x y : V) (u v : Value) (hn : dep d ≤ n) (hu : A.units + n < cLine) (he : eqD d e = some r) (rx : RelV x u) (ry : RelV y v) (nx : Den X.K C x d) (ny : Den X.K C y e) :
    SeqAt.RcAt A s u v r ∧ SeqAt.RcNeAt A s u v (!r) := by
  cases d with
  | int i =>
    cases e with
    | int j =>
      rw [eqD] at he
      cases he
      have z := den_int.mp nx
      have z2 := den_int.mp ny
      subst z z2
      obtain ⟨t, rfl⟩ := rx
      obtain ⟨t', rfl⟩ := ry
      exact ⟨SeqAt.RcAt.int_int i t j t', SeqAt.RcNeAt.int_int i t j t'⟩
    | _ => cases he
  | bl i =>
    cases e with
    | bl j =>
      rw [eqD] at he
      cases he
      have z := den_bl.mp nx
      have z2 := den_bl.mp ny
      subst z z2
      cases rx
      cases ry
      exact ⟨SeqAt.RcAt.bool_bool i j, SeqAt.RcNeAt.bool_bool i j⟩
    | _ => cases he
  | str i =>
    cases e with
    | str j =>
      rw [eqD] at he
      cases he
      have z := den_str.mp nx
      have z2 := den_str.mp ny
      subst z z2
      obtain ⟨t, rfl⟩ := rx
      obtain ⟨t', rfl⟩ := ry
      exact ⟨SeqAt.RcAt.str_str i t j t', SeqAt.RcNeAt.str_str i t j t'⟩
    | _ => cases he
  | non =>
    cases e with
    | non =>
      rw [eqD] at he
      cases he
      have z := den_non.mp nx
      have z2 := den_non.mp ny
      subst z z2
      cases rx
      cases ry
      exact ⟨SeqAt.RcAt.none_none, SeqAt.RcNeAt.none_none⟩
    | _ => cases he
  | tup ds =>
    cases e with
    | tup es =>
      obtain ⟨a, xs, rfl, hx, hd⟩ := den_tup.mp nx
      obtain ⟨b, ys, rfl, hy, hee⟩ := den_tup.mp ny
      cases rx
      cases ry
      rw [eqD] at he
      cases e1 : eqDs ds es with
      | none => rw [e1] at he; cases he
      | some r0 =>
        rw [e1] at he
        obtain ⟨f, hf, hr⟩ := eqDs_at e1
        obtain ⟨its, r1, t1, _⟩ := I.tuple (ch.seqT hx)
        obtain ⟨its2, r2, t2, _⟩ := I.tuple (ch.seqT hy)
        have l1 : its.toArray.size = ds.length := by rw [List.size_toArray, ← r1.length, hd.length]
        have l2 : its2.toArray.size = es.length := by rw [List.size_toArray, ← r2.length, hee.length]
        rw [dep] at hn
        have hin : ∀ j (h1 : j < its.toArray.size) (h2 : j < its2.toArray.size), SeqAt.EqAt A.in1 s its.toArray[j] its2.toArray[j] (f j) := fun j h1 h2 => by
          obtain ⟨x', ex, rx'⟩ := vals_at r1 h1
          obtain ⟨y', ey, ry'⟩ := vals_at r2 h2
          have hj1 : j < ds.length := by omega
          have hj2 : j < es.length := by omega
          have ed : ds[j]? = some ds[j] := by simp [hj1]
          have ee : es[j]? = some es[j] := by simp [hj2]
          obtain ⟨x2, ex2, nx2⟩ := hd.get ed
          obtain ⟨y2, ey2, ny2⟩ := hee.get ee
          rw [ex] at ex2
          cases ex2
          rw [ey] at ey2
          cases ey2
          have := deps_at ed
          exact eqAt_D I ch (n - 1) ds[j] es[j] (f j) A.in1 x' y' _ _ (by omega) (by show A.units + 1 + (n - 1) < cLine; omega) (hf j _ _ ed ee) rx' ry' nx2 ny2
        have q := SeqAt.RcAt.tuples (A := A) (e := f) t1 t2 (by omega) hin
        have q' := SeqAt.RcNeAt.tuples (A := A) (e := f) t1 t2 (by omega) hin
        rw [l1, l2] at q q'
        have er : r = ((List.range (min ds.length es.length)).all f && ds.length == es.length) := by
          rw [← hr]
          exact (Option.some.inj he).symm
        rw [er]
        exact ⟨q, q'⟩
    | _ => cases he
  | lst ds =>
    cases e with
    | lst es =>
      obtain ⟨a, xs, rfl, hx, hd⟩ := den_lst.mp nx
      obtain ⟨b, ys, rfl, hy, hee⟩ := den_lst.mp ny
      cases rx
      cases ry
      rw [eqD] at he
      obtain ⟨its, r1, p1, _⟩ := I.list (ch.seq hx)
      obtain ⟨its2, r2, p2, _⟩ := I.list (ch.seq hy)
      have l1 : its.toArray.size = ds.length := by rw [List.size_toArray, ← r1.length, hd.length]
      have l2 : its2.toArray.size = es.length := by rw [List.size_toArray, ← r2.length, hee.length]
      rw [dep] at hn
      by_cases hlen : ds.length = es.length
      · rw [if_pos hlen] at he
        obtain ⟨f, hf, hr⟩ := eqDs_at he
        have hin : ∀ j (h1 : j < its.toArray.size) (h2 : j < its2.toArray.size), SeqAt.EqAt A.in1 s its.toArray[j] its2.toArray[j] (f j) := fun j h1 h2 => by
          obtain ⟨x', ex, rx'⟩ := vals_at r1 h1
          obtain ⟨y', ey, ry'⟩ := vals_at r2 h2
          have hj1 : j < ds.length := by omega
          have hj2 : j < es.length := by omega
          have ed : ds[j]? = some ds[j] := by simp [hj1]
          have ee : es[j]? = some es[j] := by simp [hj2]
          obtain ⟨x2, ex2, nx2⟩ := hd.get ed
          obtain ⟨y2, ey2, ny2⟩ := hee.get ee
          rw [ex] at ex2
          cases ex2
          rw [ey] at ey2
          cases ey2
          have := deps_at ed
          exact eqAt_D I ch (n - 1) ds[j] es[j] (f j) A.in1 x' y' _ _ (by omega) (by show A.units + 1 + (n - 1) < cLine; omega) (hf j _ _ ed ee) rx' ry' nx2 ny2
        have q := SeqAt.RcAt.lists (A := A) (e := f) p1.isList p2.isList (by rw [l1, l2]; exact hlen) (by omega) hin
        have q' := SeqAt.RcNeAt.lists (A := A) (e := f) p1.isList p2.isList (by rw [l1, l2]; exact hlen) (by omega) hin
        rw [l1] at q q'
        rw [hr, ← hlen, Nat.min_self]
        exact ⟨q, q'⟩
      · rw [if_neg hlen] at he
        cases he
        exact ⟨SeqAt.RcAt.lists_lengths p1.isList p2.isList (by rw [l1, l2]; simpa using hlen) (by omega), SeqAt.RcNeAt.lists_lengths p1.isList p2.isList (by rw [l1, l2]; simpa using hlen) (by omega)⟩
    | _ => cases he
end
section
variable {X : Cx}
def oEq : GO := fun x y Q => dep x ≤ 32 ∧ match eqD x y with
  | some b => Q (.bl b)
  | none => False
def oNe : GO := fun x y Q => dep x ≤ 32 ∧ match eqD x y with
  | some b => Q (.bl (!b))
  | none => False
def rEqD (K : PySem.W.Frag) (neg : Bool) : R2 := fun x y H R => ∃ C d e b, Same C H ∧ Den K C x d ∧ Den K C y e ∧ eqD d e = some b ∧ dep d ≤ 32 ∧ R (.bl (if neg then !b else b)) H
theorem do_eq (hu : X.A.units + 64 < cLine) : DOp X (compareOp .Eq) oEq := by
  refine ⟨rEqD X.K false, fun pins s σ H x y v u Q I rx ry h => ?_, fun x y dx dy C H Q R ch n1 n2 q k => ?_⟩
  · obtain ⟨C, d, e, b, ch, nx, ny, he, hd, q⟩ := h
    exact (rcAt_D I ch 32 d e b X.A x y v u hd (by omega) he rx ry nx ny).1 _ _ _ _ ⟨.bl b, H, I, rfl, q⟩
  · obtain ⟨hd, q⟩ := q
    cases z : eqD dx dy with
    | none => rw [z] at q; exact q.elim
    | some b => rw [z] at q; exact ⟨C, dx, dy, b, ch, n1, n2, z, hd, k _ _ C H q (Ext.refl ch) (den_bl.mpr rfl)⟩
theorem do_ne (hu : X.A.units + 64 < cLine) : DOp X (compareOp .NotEq) oNe := by
  refine ⟨rEqD X.K true, fun pins s σ H x y v u Q I rx ry h => ?_, fun x y dx dy C H Q R ch n1 n2 q k => ?_⟩
  · obtain ⟨C, d, e, b, ch, nx, ny, he, hd, q⟩ := h
    exact (rcAt_D I ch 32 d e b X.A x y v u hd (by omega) he rx ry nx ny).2 _ _ _ _ ⟨.bl (!b), H, I, rfl, q⟩
  · obtain ⟨hd, q⟩ := q
    cases z : eqD dx dy with
    | none => rw [z] at q; exact q.elim
    | some b => rw [z] at q; exact ⟨C, dx, dy, b, ch, n1, n2, z, hd, k _ _ C H q (Ext.refl ch) (den_bl.mpr rfl)⟩
theorem ints_vals : ∀ {us : List Value} {ns : List Int}, IntsAre us ns → Vals (ns.map V.int) us
  | _, _, .nil => .nil
  | _, _, .cons _ t h => .cons ⟨_, rfl⟩ (ints_vals h)
theorem call_sorted : CallR X (.builtin "sorted") (fun xs H Q => ∃ (p : Addr) (ns : List Int), xs = [.ref p] ∧ SqL X.K H p (ns.map V.int) ∧ ns.length < 64 ∧ ∀ ms : List Int, ms.Perm ns → ms.Pairwise (· ≤ ·) → ∀ l, H l = none → Q (.ref l) (upd H l (.lst (ms.map V.int)))) := by
  intro pins s σ H xs us Q I r h
  obtain ⟨p, ns, rfl, hq, h64, q⟩ := h
  obtain ⟨u, rfl, rx⟩ := vals1 r
  cases rx
  obtain ⟨its, r', pl, hz⟩ := I.list hq
  have hlen := r'.length
  rw [List.length_map] at hlen
  refine sorted_ints pl.isList (intsAre_of r') (by omega) fun out ms a1 a2 a3 => ?_
  obtain ⟨e, he⟩ := sortedAll_at s.heap its out
  have fr : H (s.heap.objs.size + 1) = none := I.hok.fresh (Nat.le_succ _)
  have hl2 : (ms.map V.int).length ≤ sizeLine := by
    rw [List.length_map, a2.length_eq]
    have : (64 : Nat) ≤ sizeLine := by decide
    omega
  refine ⟨.ref (s.heap.objs.size + 1), _, I.laid (t' := s.toks) (o := .lst (ms.map V.int)) (fun b ob z => sortedAll_old z) (Nat.le_succ _) ⟨hl2, out.toList, e, ints_vals a1, ?_⟩, rfl, q ms a2 a3 _ fr⟩
  rw [he]
def intsD : List D → Option (List Int)
  | [] => some []
  | .int b :: r => (intsD r).map (b :: ·)
  | _ :: _ => none
theorem ints_eq : ∀ {ds : List D} {bs : List Int}, intsD ds = some bs → ds = bs.map D.int
  | [], bs, h => by cases h; rfl
  | .int b :: r, bs, h => by
    unfold intsD at h
    cases e : intsD r with
    | none => rw [e] at h; cases h
    | some cs => rw [e] at h; cases h; rw [List.map_cons, ← ints_eq e]
  | .bl _ :: _, _, h => by cases h
  | .non :: _, _, h => by cases h
  | .str _ :: _, _, h => by cases h
  | .tup _ :: _, _, h => by cases h
  | .lst _ :: _, _, h => by cases h
theorem ints_map (bs : List Int) : intsD (bs.map D.int) = some bs := by
  induction bs with
  | nil => rfl
  | cons b bs ih => rw [List.map_cons, intsD, ih]; rfl
theorem dens_ints {K : PySem.W.Frag} {C : Hp} (ns : List Int) : Dens K C (ns.map V.int) (ns.map D.int) := by
  induction ns with
  | nil => exact .nil
  | cons n ns ih => exact .cons (den_int.mpr rfl) ih
def cSorted : List D → (List D → Prop) → Prop := fun ds Q => match ds with
  | [.lst xs] => match intsD xs with
    | some ns => ns.length < 64 ∧ ∀ ms : List Int, ms.Perm ns → ms.Pairwise (· ≤ ·) → Q (ms.map D.int)
    | none => False
  | _ => False
theorem dc_sorted : DCallF X (.builtin "sorted") cSorted := by
  refine ⟨_, call_sorted, fun xs ds C H Q R ch n q k => ?_⟩
  unfold cSorted at q
  split at q
  · split at q
    · rename_i ns e
      obtain ⟨v, rfl, n1⟩ := dens_one n
      obtain ⟨p, ys, rfl, hy, hd⟩ := den_lst.mp n1
      rw [ints_eq e] at hd
      rw [hd.ints] at hy
      exact ⟨p, ns, rfl, ch.seq hy, q.1, fun ms a b l hl => k _ l _ C _ (q.2 ms a b) (Ext.newO ch hl) (ch.free hl) hl upd_same (dens_ints ms)⟩
    · exact q.elim
  · exact q.elim
end
end L2
namespace L2
open PySem PySem.Spec PyProof.Rows
section
variable {prog : Program} {w : World} {A : Around} {E : Value → Shared → Prop} {s : Shared}
end
end L2
namespace L2
open PySem PySem.Spec PyProof.Rows
section
variable {X : Cx}
variable {a b c e : Expr} {es : List Expr} {pos : Pos} {ga gb : GE}
def gZip (ga gb : GE) : GF := fun δ Q => ga δ fun d => gb δ fun d2 => match d, d2 with
  | .tup xs, .tup ys => Q (List.zipWith (fun x y => D.tup [x, y]) xs ys)
  | _, _ => False
end
end L2
namespace L2
open PySem PySem.Spec PyProof.Rows
def gOptP (o : Option (D → Prop)) (Q : D → Prop) : Prop := match o with
  | some p => ∀ d, p d → Q d
  | none => False
def spR (K : PySem.W.Frag) (F : List D → Option (D → Prop)) : Sp := fun vs H Q _ => ∃ C ds p, Same C H ∧ Dens K C vs ds ∧ F ds = some p ∧ ∀ d v C' H', p d → Ext C H C' H' → Den K C' v d → Q v H'
def DFnR (P : Program) (w : World) (K : PySem.W.Frag) (mg : Str → Option Value) (base : Heap) (k : Nat) (x : Str) (F : List D → Option (D → Prop)) : Prop :=
  ∃ f fd ps, FnOk P w K mg base CX0 k f fd ps (spR K F) ∧ mg x = some (.ref f) ∧ PySem.W.keepIn K (.ref f) = true ∧ Binds K fd ps []
section
variable {X : Cx} {a b c e : Expr} {es : List Expr} {pos : Pos} {ga gb gc gd : GE} {gf : GF} {ta tb : GT}
def gCallR (F : List D → Option (D → Prop)) (gf : GF) : GE := fun δ Q => gf δ fun ds => gOptP (F ds) Q
theorem de_callR {F : List D → Option (D → Prop)} {k : Nat} {x : Str} {p : Pos} (h : DFnR X.prog X.w X.K X.mg X.base k x F) (hr : Room k X.A) (hg : Gl X x) (ha : DA X (e :: es) gf) (hdb : (x == ("__debug__" : Str)) = false := by decide)
    (he : starEach (e :: es) X.env = (false, eval e X.env) :: starEach es X.env := by rfl) (hpl : (backTo pos (starEach es X.env)).any (·.1) = false := by rfl) : DE X (.Call (.Name x p) (e :: es) [] pos) (gCallR F gf) := by
  obtain ⟨f, fd, ps, Fk, hm, hk, hb⟩ := h
  obtain ⟨t, pa, h⟩ := ha
  refine ⟨_, pe_call Fk hr hg hm hk hb .nil pass0 pa hdb he hpl, fun C0 H0 δ σ C H Q R rp g k => h C0 H0 δ σ C H _ _ rp g fun ds vs C1 H1 q e1 n1 => ?_⟩
  cases e2 : F ds with
  | none => rw [e2] at q; exact q.elim
  | some p =>
    rw [e2] at q
    exact ⟨C1, ds, p, e1.ch, by rw [List.append_nil]; exact n1, e2, fun d v C' H' hp ex nv => k d v C' H' (q d hp) (e1.trans ex) nv⟩
theorem de_callG {x : Str} {f : Value} {g : List D → (D → Prop) → Prop} {pos' : Pos} (hc : DCall X f g) (ha : DA X (e :: es) gf)
    (hp : ∀ {t : TA} {r : List V → Hp → VK → Prop}, CallR X f r → PA X (e :: es) t → PE X (.Call (.Name x pos') (e :: es) [] pos) (tCB r t)) : DE X (.Call (.Name x pos') (e :: es) [] pos) (gCallB g gf) := by
  obtain ⟨r, pr, hr⟩ := hc
  obtain ⟨t, p, h⟩ := ha
  refine ⟨_, hp pr p, fun C0 H0 δ σ C H Q R rp g k => h C0 H0 δ σ C H _ _ rp g fun ds vs C1 H1 q e1 n1 => ?_⟩
  exact hr vs ds C1 H1 Q R e1.ch n1 q fun d v C2 H2 q2 e2 n2 => k d v C2 H2 q2 (e1.trans e2) n2
theorem de_globE {x : Str} {i : Int} (hg : Gl X x) (h : ∃ t, X.mg x = some (.int i t)) (hd : (x == ("__debug__" : Str)) = false := by decide) : DE X (.Name x pos) (gC (.int i)) := by
  obtain ⟨t, h⟩ := h
  exact de_globI hg h hd
theorem compOk_of {scope sc : Scope} {N Nc : List Str} {fr : List (Option Nat)} (h1 : X.env.scope = sc) (h2 : X.N = N) (h : compOk sc scope N Nc fr = true) : compOk X.env.scope scope X.N Nc fr = true := by rw [h1, h2]; exact h
end
theorem fnR {P : Program} {w : World} {K : PySem.W.Frag} {mg : Str → Option Value} {base : Heap} {x qual : Str} {st : Stmt} {f : Addr} {fd : FuncData} {N ps : List Str} {k : Nat} {F : List D → Option (D → Prop)} {g : GS} (Fn : Fun K x qual st f fd) (S : FnScope N ps (defScope st))
    (hl : ∀ ds p, F ds = some p → ds.length = ps.length)
    (hb : ∀ (cdv : Value) (A : Around) (outer : List Env) (s : Shared) (H : Hp) (E : XK), Room k (A.deeper (envOfC qual (defScope st) s.heap.objs.size f cdv)) → DSs (cxOf CX0 P w K mg base N qual (defScope st) f cdv A outer s H E).nox (defBody st) g)
    (hv : ∀ ds p, F ds = some p → g { nx := fun _ => p .non, rt := p } (dstart N ds)) (hm : mg x = some (.ref f)) (bi : Binds K fd ps []) : DFnR P w K mg base (k + 1) x F := by
  refine ⟨f, fd, ps, Fn.ok S (fun vs H Q E h => ?_) (fun cdv A outer s H vs Q E hr h => ?_), hm, Fn.kp, bi⟩
  · obtain ⟨C, ds, p, _, n, e, _⟩ := h
    rw [n.length]
    exact hl ds p e
  · obtain ⟨C, ds, pd, ch, n, e, q⟩ := h
    obtain ⟨t, p, h⟩ := hb cdv A outer s H E hr
    refine ⟨t, p, h C H (dstart N ds) (start N vs) C H _ _ (rep_start ch n) (hv ds pd e) ⟨fun δ σ C' H' rp z => ?_, fun r v C' H' ex nv z => ?_, fun _ _ _ _ _ z => z.elim, fun _ _ _ _ _ z => z.elim⟩⟩
    · exact q .non _ C' H' z rp.ext (den_non.mpr rfl)
    · exact q r v C' H' z ex nv
theorem bt_len : bootBuiltins "len" = some (.builtin "len") := by decide +kernel
theorem bt_all : bootBuiltins "all" = some (.builtin "all") := by decide +kernel
theorem bt_sorted : bootBuiltins "sorted" = some (.builtin "sorted") := by decide +kernel
theorem bt_isinstance : bootBuiltins "isinstance" = some (.builtin "isinstance") := by decide +kernel
theorem bt_tuple : bootBuiltins "tuple" = some (.type "tuple") := by decide +kernel
theorem bt_int : bootBuiltins "int" = some (.type "int") := by decide +kernel
theorem bt_bool : bootBuiltins "bool" = some (.type "bool") := by decide +kernel
theorem bt_str : bootBuiltins "str" = some (.type "str") := by decide +kernel
end L2
namespace L2
open PySem PySem.Spec PyProof.Rows
def isWhole : D → Bool
  | .int _ => true
  | _ => false
def isBetween (d : D) (a b : Int) : Bool := match d with
  | .int i => decide (a ≤ i) && decide (i ≤ b)
  | _ => false
def isTupleOf (d : D) (a b : Int) : Bool := match d with
  | .tup ds => decide (a ≤ (ds.length : Int)) && decide ((ds.length : Int) ≤ b)
  | _ => false
@[reducible] def dInts (ns : List Int) : D := .tup (ns.map D.int)
def rowStep (rows : List (List Int)) (m : Int) : List (List Int) := rows.flatMap fun r => (List.range m.toNat).map fun (k : Nat) => r ++ [(k : Int)]
def rowsL (ns : List Int) : List (List Int) := ns.foldl rowStep [[]]
def okDeeds (ns : List Int) : Bool := decide (ns.length ≤ 3) && ns.all fun n => decide (1 ≤ n) && decide (n ≤ 3)
def isDeeds : D → Bool
  | .tup ds => decide (2 ≤ ds.length) && decide (ds.length ≤ 3) && ds.all fun d => isBetween d 1 3
  | _ => false
def isPayRow (d : D) (h : Nat) : Bool := match d with
  | .tup ds => decide (ds.length = h) && ds.all fun d => isBetween d (-9) 9
  | _ => false
def isPay (d : D) (ns : List Int) : Bool := match d with
  | .tup ds => decide (ds.length = (rowsL ns).length) && ds.all fun r => isPayRow r ns.length
  | _ => false
def isMeeting : D → Bool
  | .tup [a, b] => isDeeds a && match a with
    | .tup es => match intsD es with
      | some ns => isPay b ns
      | none => false
    | _ => false
  | _ => false
def onDeeds (ds : List D) (f : List Int → D) : Option D := match intsD ds with
  | some ns => if okDeeds ns = true then some (f ns) else none
  | none => none
def F_is_whole : List D → Option D
  | [d] => some (.bl (isWhole d))
  | _ => none
def F_is_tuple_of : List D → Option D
  | [d, .int a, .int b] => some (.bl (isTupleOf d a b))
  | _ => none
def F_is_between : List D → Option D
  | [d, .int a, .int b] => some (.bl (isBetween d a b))
  | _ => none
def F_are_between : List D → Option D
  | [.tup ds, .int a, .int b] => if ds.length ≤ 1000 then some (.bl (ds.all fun d => isBetween d a b)) else none
  | _ => none
def F_rows_of : List D → Option D
  | [.tup ds] => onDeeds ds fun ns => .tup ((rowsL ns).map dInts)
  | _ => none
def F__law_rows : List D → Option D
  | [.tup ds] => onDeeds ds fun ns => .lst ((rowsL ns).map dInts)
  | _ => none
def F_is_deeds : List D → Option D
  | [d] => some (.bl (isDeeds d))
  | _ => none
def F_is_pay_of_row : List D → Option D
  | [d, .int h] => if 0 ≤ h ∧ h ≤ 1000 then some (.bl (isPayRow d h.toNat)) else none
  | _ => none
def F_is_pay : List D → Option D
  | [d, .tup es] => onDeeds es fun ns => .bl (isPay d ns)
  | _ => none
def F_is_meeting : List D → Option D
  | [d] => some (.bl (isMeeting d))
  | _ => none
def mix (c p m : Int) : Int := c * 48271 % p % m
def F__law_mix : List D → Option D
  | [.int c, .int p, .int m] => if 0 < p ∧ 0 < m then some (.int (mix c p m)) else none
  | _ => none
structure MeetOk (ns : List Int) (pay : List (List Int)) : Prop where
  two : 2 ≤ ns.length
  ok : okDeeds ns = true
  many : pay.length = (rowsL ns).length
  rows : ∀ r ∈ pay, r.length = ns.length ∧ ∀ x ∈ r, -9 ≤ x ∧ x ≤ 9
@[reducible] def meetD (ns : List Int) (pay : List (List Int)) : D := .tup [dInts ns, .tup (pay.map dInts)]
def F__law_meeting : List D → Option (D → Prop)
  | [.int c] => some fun d => ∃ ns pay, d = meetD ns pay ∧ MeetOk ns pay ∧ (c % 3 = 0 → ns = [2, 2])
  | _ => none
@[reducible] def planD (pl : List (List Int × List Int)) : D := .tup (pl.map fun s => .tup [dInts s.1, dInts s.2])
def F_law : List D → Option (D → Prop)
  | [.lst ds] => match intsD ds with
    | some _ => some fun d => d = .bl true
    | none => none
  | _ => none
end L2
namespace L2
open PySem PySem.Spec PyProof.Rows
theorem rowStep_length (rows : List (List Int)) (m : Int) : (rowStep rows m).length = rows.length * m.toNat := by
  unfold rowStep
  induction rows with
  | nil => simp
  | cons r rows ih => rw [List.flatMap_cons, List.length_append, ih, List.length_map, List.length_range, List.length_cons, Nat.succ_mul, Nat.add_comm]
theorem rowStep_append (a b : List (List Int)) (m : Int) : rowStep (a ++ b) m = rowStep a m ++ rowStep b m := by
  unfold rowStep
  rw [List.flatMap_append]
theorem rowStep_one (r : List Int) (m : Int) : rowStep [r] m = (List.range m.toNat).map fun (k : Nat) => r ++ [(k : Int)] := by
  unfold rowStep
  simp
theorem rowsL_snoc (ns : List Int) (m : Int) : rowsL (ns ++ [m]) = rowStep (rowsL ns) m := by
  unfold rowsL
  rw [List.foldl_append]
  rfl
def RowOf (ns r : List Int) : Prop := r.length = ns.length ∧ ∀ (i : Nat) (x n : Int), r[i]? = some x → ns[i]? = some n → 0 ≤ x ∧ x < n
theorem rowOf_snoc {ns r : List Int} {m k : Int} (h : RowOf ns r) (h0 : 0 ≤ k) (h1 : k < m) : RowOf (ns ++ [m]) (r ++ [k]) := by
  refine ⟨by simp [h.1], fun i x n e1 e2 => ?_⟩
  by_cases hi : i < r.length
  · rw [List.getElem?_append_left hi] at e1
    rw [List.getElem?_append_left (by rw [← h.1]; exact hi)] at e2
    exact h.2 i x n e1 e2
  · rw [List.getElem?_append_right (by omega)] at e1
    rw [List.getElem?_append_right (by rw [← h.1]; omega)] at e2
    rw [h.1] at e1
    cases hj : i - ns.length with
    | zero =>
      rw [hj] at e1 e2
      cases e1
      cases e2
      exact ⟨h0, h1⟩
    | succ j =>
      rw [hj] at e1
      simp at e1
theorem rows_rev : ∀ (ms : List Int), ∀ r ∈ rowsL ms.reverse, RowOf ms.reverse r
  | [], r, h => by
    have : r = [] := by simpa [rowsL] using h
    subst this
    exact ⟨rfl, fun i x n e => by simp at e⟩
  | m :: ms, r, h => by
    rw [List.reverse_cons, rowsL_snoc] at h
    rw [List.reverse_cons]
    unfold rowStep at h
    obtain ⟨r0, h0, h1⟩ := List.mem_flatMap.mp h
    obtain ⟨k, hk, rfl⟩ := List.mem_map.mp h1
    have hk' := List.mem_range.mp hk
    exact rowOf_snoc (rows_rev ms r0 h0) (by omega) (by omega)
theorem rows_row {ns r : List Int} (h : r ∈ rowsL ns) : RowOf ns r := by
  have := rows_rev ns.reverse r (by rw [List.reverse_reverse]; exact h)
  rwa [List.reverse_reverse] at this
theorem okDeeds_take {ns : List Int} (h : okDeeds ns = true) (i : Nat) : okDeeds (ns.take i) = true := by
  unfold okDeeds at h ⊢
  rw [Bool.and_eq_true, decide_eq_true_eq, List.all_eq_true] at h ⊢
  exact ⟨by rw [List.length_take]; omega, fun x hx => h.2 x (List.mem_of_mem_take hx)⟩
theorem okDeeds_mem {ns : List Int} (h : okDeeds ns = true) : ns.length ≤ 3 ∧ ∀ n ∈ ns, 1 ≤ n ∧ n ≤ 3 := by
  unfold okDeeds at h
  rw [Bool.and_eq_true, decide_eq_true_eq, List.all_eq_true] at h
  refine ⟨h.1, fun n hn => ?_⟩
  have := h.2 n hn
  simpa using this
theorem rows_len_rev : ∀ (ms : List Int), (∀ n ∈ ms, 1 ≤ n ∧ n ≤ 3) → 1 ≤ (rowsL ms.reverse).length ∧ (rowsL ms.reverse).length ≤ 3 ^ ms.length
  | [], _ => by simp [rowsL]
  | m :: ms, h => by
    rw [List.reverse_cons, rowsL_snoc, rowStep_length, List.length_cons, Nat.pow_succ]
    obtain ⟨h1, h2⟩ := rows_len_rev ms fun n hn => h n (List.mem_cons_of_mem _ hn)
    obtain ⟨h3, h4⟩ := h m List.mem_cons_self
    have h5 : 1 ≤ m.toNat := by omega
    have h6 : m.toNat ≤ 3 := by omega
    exact ⟨Nat.mul_le_mul h1 h5, Nat.mul_le_mul h2 h6⟩
theorem rows_len {ns : List Int} (h : okDeeds ns = true) : 1 ≤ (rowsL ns).length ∧ (rowsL ns).length ≤ 27 := by
  obtain ⟨h1, h2⟩ := okDeeds_mem h
  have q := rows_len_rev ns.reverse fun n hn => h2 n (List.mem_reverse.mp hn)
  rw [List.reverse_reverse, List.length_reverse] at q
  refine ⟨q.1, Nat.le_trans q.2 ?_⟩
  exact Nat.le_trans (Nat.pow_le_pow_right (n := 3) (by decide) h1) (by decide)
theorem onDeeds_eq {ds : List D} {f : List Int → D} {d : D} (h : onDeeds ds f = some d) : ∃ ns, ds = ns.map D.int ∧ okDeeds ns = true ∧ d = f ns := by
  unfold onDeeds at h
  split at h
  · rename_i ns e
    split at h
    · rename_i ho
      cases h
      exact ⟨ns, ints_eq e, ho, rfl⟩
    · cases h
  · cases h
theorem onDeeds_of {ns : List Int} (f : List Int → D) (h : okDeeds ns = true) : onDeeds (ns.map D.int) f = some (f ns) := by
  unfold onDeeds
  rw [ints_map]
  simp [h]
theorem isDeeds_of {d : D} (h : isDeeds d = true) : ∃ ns : List Int, d = dInts ns ∧ okDeeds ns = true ∧ 2 ≤ ns.length := by
  unfold isDeeds at h
  split at h
  · rename_i ds
    rw [Bool.and_eq_true, Bool.and_eq_true, decide_eq_true_eq, decide_eq_true_eq, List.all_eq_true] at h
    obtain ⟨⟨h1, h2⟩, h3⟩ := h
    have key : ∀ es : List D, (∀ x ∈ es, isBetween x 1 3 = true) → ∃ ns : List Int, es = ns.map D.int ∧ ∀ n ∈ ns, 1 ≤ n ∧ n ≤ 3 := by
      intro es
      induction es with
      | nil => exact fun _ => ⟨[], rfl, fun n hn => by simp at hn⟩
      | cons e es ih =>
        intro hh
        obtain ⟨ns, e1, e2⟩ := ih fun x hx => hh x (List.mem_cons_of_mem _ hx)
        have q := hh e List.mem_cons_self
        unfold isBetween at q
        split at q
        · rename_i i
          refine ⟨i :: ns, by rw [List.map_cons, ← e1], fun n hn => ?_⟩
          rcases List.mem_cons.mp hn with rfl | hn
          · simpa using q
          · exact e2 n hn
        · cases q
    obtain ⟨ns, e1, e2⟩ := key ds h3
    have hl : ds.length = ns.length := by rw [e1, List.length_map]
    refine ⟨ns, by rw [e1], ?_, by omega⟩
    unfold okDeeds
    rw [Bool.and_eq_true, decide_eq_true_eq, List.all_eq_true]
    exact ⟨by omega, fun n hn => by simpa using e2 n hn⟩
  · cases h
end L2
namespace L2
open PySem PySem.Spec PyProof.Rows
def FunAt (K : PySem.W.Frag) (mg : Str → Option Value) (x : Str) (st : Stmt) (ps : List Str) : Prop := ∃ f fd, Fun K x x st f fd ∧ mg x = some (.ref f) ∧ Binds K fd ps []
theorem funAt_of {K : PySem.W.Frag} {h : Heap} {mg : Str → Option Value} {x : Str} {st : Stmt} {ps : List Str} {f : Addr} {od an : Option Addr} {sl : Array (Option Value)} {oc kV dc pm cd ct : Value} (X : K.In h) (G : h.Ns mainGlobals mg)
    (a : PySem.W.nsIn K mainGlobals x = some (some (.ref f))) (l : K.lookup f = some ⟨oc, od, .func (PySem.W.fnOf x x (defArgs st) (defBody st) (defScope st) .none kV dc pm an cd ct), sl⟩) (c : PySem.W.codeIn K cd x = true) (k : PySem.W.keepIn K (.ref f) = true)
    (hb : ∀ (kV doc pm : Value) (an : Option Addr) (cdv ct : Value) (us : List Value), us.length = ps.length → bindArgs (PySem.W.fnOf x x (defArgs st) (defBody st) (defScope st) .none kV doc pm an cdv ct) ⟨us, []⟩ = pure (ps.zip us)) : FunAt K mg x st ps :=
  ⟨f, _, fun_mk (st := st) l c k, PySem.W.mg_of X G a, (fun_mk (st := st) l c k).binds hb⟩
theorem fnR0 {P : Program} {w : World} {K : PySem.W.Frag} {mg : Str → Option Value} {base : Heap} {x qual : Str} {st : Stmt} {f : Addr} {fd : FuncData} {N ps : List Str} {k : Nat} {F : List D → Option (D → Prop)} {g : GS} (Fn : Fun K x qual st f fd) (S : FnScope N ps (defScope st))
    (hl : ∀ ds p, F ds = some p → ds.length = ps.length)
    (hb : ∀ (cdv : Value) (A : Around) (outer : List Env) (s : Shared) (H : Hp) (E : XK), Room k (A.deeper (envOfC qual (defScope st) s.heap.objs.size f cdv)) → DSs (cxOf CX0 P w K mg base N qual (defScope st) f cdv A outer s H E).nox (defBody st) g)
    (hv : ∀ ds p, F ds = some p → g { nx := fun _ => p .non, rt := p } (dstart N ds)) : FnOk P w K mg base CX0 (k + 1) f fd ps (spR K F) := by
  refine Fn.ok S (fun vs H Q E h => ?_) (fun cdv A outer s H vs Q E hr h => ?_)
  · obtain ⟨C, ds, p, _, n, e, _⟩ := h
    rw [n.length]
    exact hl ds p e
  · obtain ⟨C, ds, pd, ch, n, e, q⟩ := h
    obtain ⟨t, p, h⟩ := hb cdv A outer s H E hr
    refine ⟨t, p, h C H (dstart N ds) (start N vs) C H _ _ (rep_start ch n) (hv ds pd e) ⟨fun δ σ C' H' rp z => ?_, fun r v C' H' ex nv z => ?_, fun _ _ _ _ _ z => z.elim, fun _ _ _ _ _ z => z.elim⟩⟩
    · exact q .non _ C' H' z rp.ext (den_non.mpr rfl)
    · exact q r v C' H' z ex nv
theorem us1 {P : List Value → Prop} (h : ∀ a, P [a]) : ∀ us : List Value, us.length = 1 → P us
  | [a], _ => h a
theorem us2 {P : List Value → Prop} (h : ∀ a b, P [a, b]) : ∀ us : List Value, us.length = 2 → P us
  | [a, b], _ => h a b
theorem us3 {P : List Value → Prop} (h : ∀ a b c, P [a, b, c]) : ∀ us : List Value, us.length = 3 → P us
  | [a, b, c], _ => h a b c
end L2
namespace L2
open PySem PySem.Spec PyProof.Rows
def ansD (x : D) : List D → Option (List Bool)
  | [] => some []
  | y :: ys => match eqD y x, ansD x ys with
    | some a, some b => some (a :: b)
    | _, _ => none
theorem ansD_at {x : D} : ∀ {ds : List D} {bs : List Bool}, ansD x ds = some bs → bs.length = ds.length ∧ ∀ (j : Nat) d, ds[j]? = some d → ∃ b, bs[j]? = some b ∧ eqD d x = some b
  | [], bs, h => by
    cases h
    exact ⟨rfl, fun j d e => by simp at e⟩
  | y :: ys, bs, h => by
    unfold ansD at h
    cases e1 : eqD y x with
    | none => rw [e1] at h; cases h
    | some a =>
      cases e2 : ansD x ys with
      | none => rw [e1, e2] at h; cases h
      | some b =>
        rw [e1, e2] at h
        cases h
        obtain ⟨h1, h2⟩ := ansD_at e2
        refine ⟨by simp [h1], fun j d e => ?_⟩
        cases j with
        | zero => cases e; exact ⟨a, rfl, e1⟩
        | succ j => exact h2 j d e
section
variable {X : Cx} {pins : List (Addr × Obj)} {σ : St} {H C : Hp} {s : Shared}
open Classical in
noncomputable def ansU (K : PySem.W.Frag) (C : Hp) (x : D) (u : Value) : Bool := decide (∃ z d, RelV z u ∧ Den K C z d ∧ eqD d x = some true)
open Classical in
theorem ans_core (I : Inv X pins σ H s) (ch : Same C H) {A : Around} {dx : D} {x : V} {v : Value} {xs : List V} {its : List Value} {ds : List D} {bs : List Bool} (hu : A.units + 32 < cLine) (hd : deps ds ≤ 32) (rx : RelV x v) (nx : Den X.K C x dx)
    (r : Vals xs its) (n : Dens X.K C xs ds) (h : ansD dx ds = some bs) : (∀ y ∈ its, SeqAt.EqAt A s y v (ansU X.K C dx y)) ∧ its.map (ansU X.K C dx) = bs := by
  obtain ⟨h1, h2⟩ := ansD_at h
  have key : ∀ (j : Nat) y, its[j]? = some y → ∃ b, bs[j]? = some b ∧ ansU X.K C dx y = b ∧ SeqAt.EqAt A s y v b := by
    intro j y e
    have hj : j < its.length := (List.getElem?_eq_some_iff.mp e).1
    have hl := r.length
    have hl2 := n.length
    have ed : ds[j]? = some (ds[j]'(by omega)) := List.getElem?_eq_getElem _
    obtain ⟨z, ez, nz⟩ := n.get ed
    obtain ⟨y', ey, ry⟩ := r.get ez
    rw [e] at ey
    cases ey
    obtain ⟨b, eb, q⟩ := h2 j _ ed
    refine ⟨b, eb, ?_, eqAt_D I ch 32 _ dx b A z x y v (Nat.le_trans (deps_at ed) hd) hu q ry rx nz nx⟩
    cases b with
    | true =>
      unfold ansU
      exact decide_eq_true ⟨z, _, ry, nz, q⟩
    | false =>
      unfold ansU
      refine decide_eq_false fun ⟨z', d', r', n', q'⟩ => ?_
      have e1 := r'.inj ry
      subst e1
      have e2 := den_inj I ch _ _ n' nz
      subst e2
      rw [q] at q'
      cases q'
  refine ⟨fun y hy => ?_, ?_⟩
  · obtain ⟨j, hj, rfl⟩ := List.mem_iff_getElem.mp hy
    obtain ⟨b, _, e, q⟩ := key j _ (List.getElem?_eq_getElem hj)
    rw [e]; exact q
  · refine List.ext_getElem? fun j => ?_
    rw [List.getElem?_map]
    cases e : its[j]? with
    | none =>
      have : its.length ≤ j := List.getElem?_eq_none_iff.mp e
      have hl := r.length
      have hl2 := n.length
      exact (List.getElem?_eq_none_iff.mpr (by omega)).symm
    | some y =>
      obtain ⟨b, eb, e2, _⟩ := key j y e
      rw [eb, Option.map_some, e2]
end
section
variable {X : Cx} {a b c e o : Expr} {es : List Expr} {pos : Pos} {ga gb gc gd : GE} {gf : GF}
def seqOf : D → Option (List D)
  | .tup ds => some ds
  | .lst ds => some ds
  | _ => none
def oNotin : GO := fun x y Q => match seqOf y with
  | some ds => deps ds ≤ 32 ∧ match ansD x ds with
    | some bs => Q (.bl (!bs.any id))
    | none => False
  | none => False
def rInD (K : PySem.W.Frag) (neg : Bool) : R2 := fun x y H R => ∃ C dx p xs ds bs, Same C H ∧ Den K C x dx ∧ y = .ref p ∧ (SqL K H p xs ∨ SqT K H p xs) ∧ Dens K C xs ds ∧ deps ds ≤ 32 ∧ ansD dx ds = some bs ∧ R (.bl (if neg then !bs.any id else bs.any id)) H
theorem any_arr (its : List Value) (f : Value → Bool) : its.toArray.any f = (its.map f).any id := by
  simp [List.any_map, Function.comp_def]
theorem seq_den {K : PySem.W.Frag} {C H : Hp} {v : V} {y : D} {ds : List D} (ch : Same C H) (n : Den K C v y) (e : seqOf y = some ds) : ∃ p xs, v = .ref p ∧ (SqL K H p xs ∨ SqT K H p xs) ∧ Dens K C xs ds := by
  cases y with
  | tup ys => cases e; obtain ⟨p, xs, rfl, hx, hd⟩ := den_tup.mp n; exact ⟨p, xs, rfl, .inr (ch.seqT hx), hd⟩
  | lst ys => cases e; obtain ⟨p, xs, rfl, hx, hd⟩ := den_lst.mp n; exact ⟨p, xs, rfl, .inl (ch.seq hx), hd⟩
  | _ => cases e
theorem do_notin (hu : X.A.units + 64 < cLine) : DOp X (compareOp .NotIn) oNotin := by
  refine ⟨rInD X.K true, fun pins s σ H x y v u Q I rx ry h => ?_, fun x y dx dy C H Q R ch n1 n2 q k => ?_⟩
  · obtain ⟨C, dx, p, xs, ds, bs, ch, nx, rfl, hq, nd, hd, ha, q⟩ := h
    cases ry
    rcases hq with hq | hq
    · obtain ⟨its, r, pl, hz⟩ := I.list hq
      obtain ⟨h1, h2⟩ := ans_core I ch (A := X.A.in1) (by show X.A.units + 1 + 32 < cLine; omega) hd rx nx r nd ha
      refine SeqAt.notIn_listAt (ansU X.K C dx) pl.isList (fun w hw => h1 w (by simpa using hw)) ⟨.bl _, H, I, rfl, ?_⟩
      rw [any_arr, h2]
      exact q
    · obtain ⟨its, r, pl, hz⟩ := I.tuple hq
      obtain ⟨h1, h2⟩ := ans_core I ch (A := X.A.in1) (by show X.A.units + 1 + 32 < cLine; omega) hd rx nx r nd ha
      refine SeqAt.notIn_tupleAt (ansU X.K C dx) pl (fun w hw => h1 w (by simpa using hw)) ⟨.bl _, H, I, rfl, ?_⟩
      rw [any_arr, h2]
      exact q
  · unfold oNotin at q
    split at q
    · rename_i ds e
      obtain ⟨hd, q⟩ := q
      split at q
      · rename_i bs e2
        obtain ⟨p, xs, rfl, hx, nd⟩ := seq_den ch n2 e
        exact ⟨C, dx, p, xs, ds, bs, ch, n1, rfl, hx, nd, hd, e2, k _ _ C H q (Ext.refl ch) (den_bl.mpr rfl)⟩
      · exact q.elim
    · exact q.elim
def rIndexD (K : PySem.W.Frag) : V → List V → Hp → VK → Prop := fun l vs H R => ∃ C dx x p xs ds bs, ∃ j : Nat, Same C H ∧ vs = [x] ∧ Den K C x dx ∧ l = .ref p ∧ SqL K H p xs ∧ Dens K C xs ds ∧ deps ds ≤ 32 ∧ ansD dx ds = some bs ∧ bs[j]? = some true ∧ (∀ i : Nat, i < j → bs[i]? = some false) ∧ R (.int (j : Int)) H
theorem mt_index (hu : X.A.units + 64 < cLine) : MtR X "list.index" (rIndexD X.K) := by
  intro pins s σ H l vs v us Q I rl rv h
  obtain ⟨C, dx, x, p, xs, ds, bs, j, ch, rfl, nx, rfl, hq, nd, hd, ha, hj, hno, q⟩ := h
  cases rl
  obtain ⟨u, rfl, rx⟩ := vals1 rv
  obtain ⟨its, r, pl, hz⟩ := I.list hq
  have hlen := r.length
  obtain ⟨⟨cls, dd, data, sl⟩, ho, hc, n, hdt⟩ := id pl.isList
  simp only at hc hdt
  subst hc hdt
  obtain ⟨h1, h2⟩ := ans_core I ch (A := X.A.in1.in1) (by show X.A.units + 1 + 1 + 32 < cLine; omega) hd rx nx r nd ha
  obtain ⟨h1', _⟩ := ans_core I ch (A := X.A.in1) (by show X.A.units + 1 + 32 < cLine; omega) hd rx nx r nd ha
  have hjl : j < its.length := by
    have := (List.getElem?_eq_some_iff.mp hj).1
    rw [← h2, List.length_map] at this
    exact this
  have at_ : ∀ (i : Nat) (hi : i < its.toArray.size) (b : Bool), bs[i]? = some b → ansU X.K C dx its.toArray[i] = b := by
    intro i hi b e
    have hi' : i < its.length := by simpa using hi
    rw [← h2, List.getElem?_map, List.getElem?_eq_getElem hi'] at e
    simpa using e
  have hz2 : (sizeLine : Int) < 2 ^ 63 - 1 := by decide
  refine call_meets F.slot_list_index ⟨_, ho, rfl⟩ F.entry_list_index (F.args_list_index_2 _ _) (SeqAt.list_indexAt p its.toArray n dd sl u (ansU X.K C dx) j (by simpa using hjl) (by omega) (at_ j _ true hj) (fun m hm hmj => at_ m hm false (hno m hmj))) ⟨ho, ?_, ?_⟩
  · intro y hy
    first | exact h1 y (by simpa using hy) | exact h1' y (by simpa using hy)
  · exact ⟨.int j, H, I.tok _, ⟨_, rfl⟩, q⟩
def firstT : List Bool → Option Nat
  | [] => none
  | true :: _ => some 0
  | false :: r => (firstT r).map (· + 1)
theorem firstT_at : ∀ {bs : List Bool} {j : Nat}, firstT bs = some j → bs[j]? = some true ∧ ∀ i : Nat, i < j → bs[i]? = some false
  | true :: r, j, h => by cases h; exact ⟨rfl, fun i hi => by omega⟩
  | false :: r, j, h => by
    unfold firstT at h
    cases e : firstT r with
    | none => rw [e] at h; cases h
    | some k =>
      rw [e] at h
      cases h
      obtain ⟨h1, h2⟩ := firstT_at e
      refine ⟨h1, fun i hi => ?_⟩
      cases i with
      | zero => rfl
      | succ i => exact h2 i (by simp at hi; omega)
def gIndex (ga gb : GE) : GE := fun δ Q => ga δ fun d => match d with
  | .lst ds => gb δ fun x => deps ds ≤ 32 ∧ match ansD x ds with
    | some bs => match firstT bs with
      | some j => Q (.int j)
      | none => False
    | none => False
  | _ => False
theorem de_index {p2 : Pos} (hu : X.A.units + 64 < cLine) (ha : DE X a ga) (hb : DE X b gb)
    (hp : ∀ {to : TE} {t : TA}, PE X a to → PA X [b] t → PE X (.Call (.Attribute a "index" p2) [b] [] pos) (tBM X.K "list" (rIndexD X.K) to t)) (hs : starEach [b] X.env = [(false, eval b X.env)] := by rfl) : DE X (.Call (.Attribute a "index" p2) [b] [] pos) (gIndex ga gb) := by
  obtain ⟨t1, p1, h1⟩ := ha
  obtain ⟨t2, p2, h2⟩ := hb
  refine ⟨_, hp p1 (pa_cons p2 pa_nil hs), fun C0 H0 δ σ C H Q R rp g k => ?_⟩
  refine h1 C0 H0 δ σ C H _ _ rp g fun d v C1 H1 q e1 n1 => ?_
  cases d with
  | lst ds =>
    obtain ⟨p, xs, rfl, hx, hd⟩ := den_lst.mp n1
    refine ⟨.inl ⟨rfl, xs, e1.ch.seq hx⟩, h2 C0 H0 δ σ C1 H1 _ _ (rp.grow e1) q fun d2 v2 C2 H2 q2 e2 n2 => ?_⟩
    obtain ⟨hdp, q2⟩ := q2
    split at q2
    · rename_i bs ea
      split at q2
      · rename_i j ej
        obtain ⟨f1, f2⟩ := firstT_at ej
        exact ⟨C2, d2, v2, p, xs, ds, bs, j, e2.ch, rfl, n2, rfl, e2.ch.seq (e2.cc.seq hx), hd.mono e2.cc, hdp, ea, f1, f2, k _ _ C2 H2 q2 (e1.trans e2) (den_int.mpr rfl)⟩
      · exact q2.elim
    · exact q2.elim
  | _ => exact q.elim
end
end L2
namespace L2
open PySem PySem.Spec PyProof.Rows
open AutoSeq1 (wpAny_loadPart')
section
variable {prog : Program} {w : World} {A : Around} {E : Value → Shared → Prop} {s : Shared}
end
section
variable {X : Cx}
variable {a b c e : Expr} {es : List Expr} {pos : Pos} {ga gb : GE}
def enumD (ds : List D) : List D := (List.range ds.length).zipWith (fun (k : Nat) d => D.tup [.int k, d]) ds
def gEnumT (ga : GE) : GF := fun δ Q => ga δ fun d => match d with
  | .tup xs => Q (enumD xs)
  | _ => False
def gEnumL (ga : GE) : GF := fun δ Q => ga δ fun d => match d with
  | .lst xs => Q (enumD xs)
  | _ => False
end
end L2
namespace L2
open PySem PySem.Spec PyProof.Rows
section
variable {prog : Program} {w : World} {A : Around}
end
section
variable {X : Cx}
def cInt : List D → (D → Prop) → Prop := fun ds Q => match ds with
  | [.bl b] => Q (.int (if b then 1 else 0))
  | [.int i] => Q (.int i)
  | _ => False
def isNon : D → Bool
  | .non => true
  | _ => false
theorem den_isNon {K : PySem.W.Frag} {C : Hp} {v : V} {d : D} (n : Den K C v d) : decide (v = V.non) = isNon d := by
  cases d with
  | non => rw [den_non.mp n]; rfl
  | int i => rw [den_int.mp n]; rfl
  | bl i => rw [den_bl.mp n]; rfl
  | str i => rw [den_str.mp n]; rfl
  | tup ds => obtain ⟨p, xs, rfl, _⟩ := den_tup.mp n; rfl
  | lst ds => obtain ⟨p, xs, rfl, _⟩ := den_lst.mp n; rfl
def oIsnot2 : GO := fun x y Q => match y with
  | .non => Q (.bl (!isNon x))
  | .bl b => match x with
    | .bl a => Q (.bl (a != b))
    | _ => False
  | _ => False
theorem do_isnot2 : DOp X (compareOp .IsNot) oIsnot2 := by
  refine ⟨_, op_isnotB.or op_notN, fun x y dx dy C H Q R ch n1 n2 q k => ?_⟩
  cases dy with
  | non => exact .inr ⟨den_non.mp n2, k _ _ C H q (Ext.refl ch) (den_bl.mpr (by rw [den_isNon n1]))⟩
  | bl j =>
    cases dx with
    | bl i => exact .inl ⟨i, j, den_bl.mp n1, den_bl.mp n2, k _ _ C H q (Ext.refl ch) (den_bl.mpr rfl)⟩
    | _ => exact q.elim
  | _ => exact q.elim
variable {a b c e : Expr} {es : List Expr} {pos : Pos} {ga gb gc : GE} {gf : GF}
def gSlL (ga : GE) (gl gh : GP) : GF := fun δ Q => ga δ fun d => gl δ fun lo => gh δ fun hi => match d with
  | .lst ds => Q (cutD ds lo hi)
  | _ => False
theorem df_slL {lo hi : Option Expr} {gl gh : GP} {p2 : Pos} (ha : DE X a ga) (hl : DO X lo gl) (hh : DO X hi gh) : DF X (.Subscript a (.Slice lo hi none p2) pos) (gSlL ga gl gh) := by
  obtain ⟨t1, p1, h1⟩ := ha
  obtain ⟨t2, p2', h2⟩ := hl
  obtain ⟨t3, p3, h3⟩ := hh
  refine ⟨_, pe_slice sl_list p1 p2' p3, fun C0 H0 δ σ C H Q R rp g k => ?_⟩
  refine h1 C0 H0 δ σ C H _ _ rp g fun d v C1 H1 q e1 n1 => h2 C0 H0 δ σ C1 H1 _ _ (rp.grow e1) q fun o C2 H2 q2 e2 => h3 C0 H0 δ σ C2 H2 _ _ ((rp.grow e1).grow e2) q2 fun o2 C3 H3 q3 e3 => ?_
  have n1' := (n1.mono e2.cc).mono e3.cc
  have e123 := e1.trans (e2.trans e3)
  cases d with
  | lst ds =>
    obtain ⟨p, xs, rfl, hx, hd⟩ := den_lst.mp n1'
    exact ⟨p, xs, rfl, e3.ch.seq hx, fun p' hp => k _ p' _ C3 _ q3 (e123.trans (Ext.newO e3.ch hp)) (e3.ch.free hp) (e123.hh.free hp) upd_same (dens_cut hd)⟩
  | _ => exact q3.elim
def gPar (i j : Nat) (ga gb : GE) : GS := fun De δ => ga δ fun x => gb δ fun y => De.nx ((δ.set i (.im x)).set j (.im y))
end
end L2
namespace L2
open PySem PySem.Spec PyProof.Rows
section
variable {X : Cx} {a b c e : Expr} {es : List Expr} {pos : Pos} {ga gb gc : GE} {gf : GF} {ta : TE}
theorem pe_notT (ha : PE X a ta) : PE X (.UnaryOp .Not a pos) (fun σ H Q => ta σ H fun x H' => ∃ k, TruV X.K x H' k ∧ Q (.bl (!k)) H') := by
  intro pins s σ H Q I h
  refine UnaryOp_ (thn (ha pins s σ H _ I h) fun v s1 ⟨x, H1, I1, r1, q1⟩ => ?_)
  exact not_of (thn (tru_ok pins s1 σ H1 x v (fun k H' => Q (.bl (!k)) H') I1 r1 q1) fun k s2 ⟨H2, I2, q2⟩ => ⟨.bl (!k), H2, I2, rfl, q2⟩)
def truD (d : D) (Q : Bool → Prop) : Prop := match d with
  | .bl b => Q b
  | .int i => Q (i != 0)
  | .non => Q false
  | .str x => x.length ≤ sizeLine ∧ Q ((x.length : Int) != 0)
  | .tup ds => Q (!ds.isEmpty)
  | .lst ds => Q (!ds.isEmpty)
def gNotT (ga : GE) : GE := fun δ Q => ga δ fun d => truD d fun k => Q (.bl (!k))
theorem de_notT (ha : DE X a ga) : DE X (.UnaryOp .Not a pos) (gNotT ga) := by
  obtain ⟨t1, p1, h1⟩ := ha
  refine ⟨_, pe_notT p1, fun C0 H0 δ σ C H Q R rp g k => h1 C0 H0 δ σ C H _ _ rp g fun d v C1 H1 q e1 n1 => ?_⟩
  have fin : ∀ b : Bool, Q (.bl (!b)) → R (.bl (!b)) H1 := fun b q => k _ _ C1 H1 q e1 (den_bl.mpr rfl)
  cases d with
  | bl b => rw [den_bl.mp n1]; exact ⟨b, rfl, fin _ q⟩
  | int i => rw [den_int.mp n1]; exact ⟨_, rfl, fin _ q⟩
  | non => rw [den_non.mp n1]; exact ⟨_, rfl, fin _ q⟩
  | str i => rw [den_str.mp n1]; exact ⟨_, ⟨q.1, rfl⟩, fin _ q.2⟩
  | tup ds =>
    obtain ⟨p, xs, rfl, hx, hd⟩ := den_tup.mp n1
    refine ⟨_, .inr (.inl ⟨xs, e1.ch.seqT hx, rfl⟩), fin _ ?_⟩
    rw [dens_empty hd]; exact q
  | lst ds =>
    obtain ⟨p, xs, rfl, hx, hd⟩ := den_lst.mp n1
    refine ⟨_, .inl ⟨xs, e1.ch.seq hx, rfl⟩, fin _ ?_⟩
    rw [dens_empty hd]; exact q
end
section
variable {prog : Program} {w : World} {A : Around} {R : Result → Shared → Prop}
end
end L2
namespace L2
open PySem PySem.Spec PyProof.Rows
namespace HG
section
open PySem.SeqAt
open PySem.AutoSeq1 (wpAny_loadPart')
open PySem.MeetsSeq PySem.MeetsSeq2 PySem.MeetsSeq3
end
end HG
section
variable {X : Cx}
end
end L2
namespace L2
open PySem PySem.Spec PyProof.Rows
structure Fl (P : Program) (w : World) (outer : List Env) (H H' : Hp) (s : Shared) (B : Heap) (a : Addr) (cls a0 : Value) (h' : Heap) : Prop where
  un : Un (frs outer) [] H H' s.heap h'
  kb : ∀ b o, s.heap.get? b = some o → H b = none → b ∉ frs outer → B.get? b = some o
  kt : ∀ b o, s.heap.get? b = some o → b ∉ frs outer → ∃ o', B.get? b = some o'
  hok : HOk P w H' B
  fl : Heap.FlyingW B outer a cls a0 h'
theorem nomem (b : Addr) : b ∉ ([] : List Addr) := fun z => absurd z (by simp)
section
variable {P : Program} {w : World} {outer : List Env} {H H' : Hp} {s : Shared} {B h' h'' : Heap} {a : Addr} {cls a0 : Value}
theorem un_of (free : ∀ b o, s.heap.get? b = some o → H b = none → H' b = none) (tups : ∀ b xs, H b = some (.tup xs) → H' b = some (.tup xs)) (frzs : ∀ b o u, H b = some (.frz o u) → H' b = some (.frz o u)) (tbls : ∀ b ps, H b = some (.tbl ps) → ∃ more, H' b = some (.tbl (ps ++ more)))
    (kb : ∀ b o, s.heap.get? b = some o → H b = none → b ∉ frs outer → B.get? b = some o) (kt : ∀ b o, s.heap.get? b = some o → b ∉ frs outer → ∃ o', B.get? b = some o') (st : B.StaysIn h'')
    (sl : ∀ b o, s.heap.get? b = some o → b ∈ frs outer → H b = none → ∃ sl, h''.get? b = some { o with slots := sl }) (fr : ∀ b ∈ frs outer, H b = none) : Un (frs outer) [] H H' s.heap h'' where
  keep := fun b o q n hb _ => st b o (kb b o q n hb)
  slot := fun b o q n hb _ => sl b o q hb n
  free := fun b o q n _ => free b o q n
  there := fun b o q _ => by
    by_cases hb : b ∈ frs outer
    · obtain ⟨x, e⟩ := sl b o q hb (fr b hb)
      exact ⟨_, e⟩
    · obtain ⟨o', e⟩ := kt b o q hb
      exact ⟨o', st b o' e⟩
  tups := tups
  frzs := frzs
  tbls := tbls
theorem Fl.next (F : Fl P w outer H H' s B a cls a0 h') (fr : ∀ b ∈ frs outer, H b = none) (fl : Heap.FlyingW B outer a cls a0 h'') (up : h'.UpToSlots h'') : Fl P w outer H H' s B a cls a0 h'' := by
  refine ⟨un_of (fun b o q n => F.un.free b o q n (nomem b)) F.un.tups F.un.frzs F.un.tbls F.kb F.kt fl.1 (fun b o q hb n => ?_) fr, F.kb, F.kt, F.hok, fl⟩
  obtain ⟨sl, e⟩ := F.un.slot b o q n hb (nomem b)
  obtain ⟨_, o2, e2, nf⟩ := F.fl.2.2.1.mem hb
  rw [e] at e2
  cases e2
  obtain ⟨sl2, e3⟩ := up b _ e nf
  exact ⟨sl2, e3⟩
end
def CX1 (P : Program) (w : World) : CXT := fun outer H s E e s' => ∃ (a : Addr) (cls a0 : Value) (H' : Hp) (B : Heap), e = .ref a ∧ s'.os = s.os ∧ AllBare s'.gens ∧ Fl P w outer H H' s B a cls a0 s'.heap ∧ E cls none H'
section
variable {P : Program} {w : World} {K : PySem.W.Frag} {mg : Str → Option Value} {base : Heap} {N : List Str} {qual : Str} {scope : Scope} {f : Addr} {cd : Value} {A : Around} {outer : List Env} {s : Shared} {H : Hp} {E E' : XK}
abbrev cx1 (P : Program) (w : World) (K : PySem.W.Frag) (mg : Str → Option Value) (base : Heap) (N : List Str) (qual : Str) (scope : Scope) (f : Addr) (cd : Value) (A : Around) (outer : List Env) (s : Shared) (H : Hp) (E : XK) : Cx := cxOf (CX1 P w) P w K mg base N qual scope f cd A outer s H E
theorem own_new {pins : List (Addr × Obj)} {σ : St} {H1 : Hp} {s1 : Shared} (I : Inv (cx1 P w K mg base N qual scope f cd A outer s H E) pins σ H1 s1) {b : Addr} {o : Obj} (q : s.heap.get? b = some o) (hb : b ∉ frs outer) : b ∉ frs (cx1 P w K mg base N qual scope f cd A outer s H E).stack := fun z => by
  rcases List.mem_cons.mp (I.stkSub b z) with z | z
  · have lt := Heap.lt_size q
    have ab : s.heap.objs.size ≤ b := by rw [z]; exact I.ok.above
    exact absurd (Nat.lt_of_lt_of_le lt ab) (Nat.lt_irrefl _)
  · exact hb z
theorem leave_made {pins : List (Addr × Obj)} {σ : St} {H1 : Hp} {s1 s2 : Shared} {a : Addr} {cls : Value} {args : List Value} (I : Inv (cx1 P w K mg base N qual scope f cd A outer s H E) pins σ H1 s1) (hx : Heap.MadeExcOf s1.heap s2.heap a cls args)
    (ho : s2.os = s1.os) (hg : AllBare s2.gens) (hE : E cls none H1) : (cx1 P w K mg base N qual scope f cd A outer s H E).xe (.ref a) s2 := by
  have hin : ∀ env ∈ (cx1 P w K mg base N qual scope f cd A outer s H E).stack, ∀ b, env.frame = some b → b ∈ frs (cx1 P w K mg base N qual scope f cd A outer s H E).stack := fun env he b hb => List.mem_filterMap.mpr ⟨env, he, hb⟩
  have hl := PySem.W.funFrames_hide I.stack hin
  refine wpAny_leaves_madeW (base := PySem.W.hideAll s1.heap (frs (cx1 P w K mg base N qual scope f cd A outer s H E).stack)) (h := s1.heap) I.ok.frames rfl (fun b o q => PySem.W.of_hideAll _ q) hl hx fun h' t x1 x2 x3 x4 => ?_
  have kb : ∀ b o, s.heap.get? b = some o → H b = none → b ∉ frs outer → (PySem.W.hideAll s1.heap (frs (cx1 P w K mg base N qual scope f cd A outer s H E).stack)).get? b = some o := fun b o q n hb =>
    PySem.W.hideAll_get _ (I.base.keep b o q n hb (nomem b)) (own_new I q hb)
  have kt : ∀ b o, s.heap.get? b = some o → b ∉ frs outer → ∃ o', (PySem.W.hideAll s1.heap (frs (cx1 P w K mg base N qual scope f cd A outer s H E).stack)).get? b = some o' := fun b o q hb => by
    obtain ⟨o', e⟩ := I.base.there b o q (nomem b)
    exact ⟨o', PySem.W.hideAll_get _ e (own_new I q hb)⟩
  have hok : HOk P w H1 (PySem.W.hideAll s1.heap (frs (cx1 P w K mg base N qual scope f cd A outer s H E).stack)) := fun c u e => by
    refine (I.hok c u e).stay (fun b u' hb q => PySem.W.hideAll_get _ q fun z => ?_) (fun _ q => q) (fun _ _ q => q) fun _ _ _ q => q
    have z0 := I.stkFree b z
    rcases hb with rfl | hb
    · rw [e] at z0; cases z0
    · rw [hb] at z0; cases z0
  refine ⟨a, cls, .ref t, H1, _, rfl, ho.trans I.os, hg, ⟨un_of (fun b o q n => I.base.free b o q n (nomem b)) I.base.tups I.base.frzs I.base.tbls kb kt x1.1 (fun b o q hb n => ?_) I.ok.frf, kb, kt, hok, x1⟩, hE⟩
  obtain ⟨sl, e⟩ := I.base.slot b o q n hb (nomem b)
  obtain ⟨_, o2, e2, nf⟩ := I.funs.mem hb
  rw [e] at e2
  cases e2
  obtain ⟨sl2, e3⟩ := x4 b _ (hx.keeps b _ e) nf
  exact ⟨sl2, e3⟩
theorem pass_up (hE : ∀ cls H', E' cls none H' → E cls none H') : Passes (CX1 P w) (cx1 P w K mg base N qual scope f cd A outer s H E) E' := by
  intro pins σ H1 s1 e s' I hc
  obtain ⟨a, cls, a0, H', B, rfl, ho, hg, F, hq⟩ := hc
  refine wpAny_leaves_onW I.ok.frames rfl F.fl fun h' x1 x2 => ?_
  have F1 := F.un
  have kb : ∀ b o, s.heap.get? b = some o → H b = none → b ∉ frs outer → B.get? b = some o := fun b o q n hb =>
    F.kb b o (I.base.keep b o q n hb (nomem b)) (I.base.free b o q n (nomem b)) (own_new I q hb)
  have kt : ∀ b o, s.heap.get? b = some o → b ∉ frs outer → ∃ o', B.get? b = some o' := fun b o q hb => by
    obtain ⟨o', e⟩ := I.base.there b o q (nomem b)
    exact F.kt b o' e (own_new I q hb)
  refine ⟨a, cls, a0, H', B, rfl, ho.trans I.os, hg, ⟨un_of (fun b o q n => ?_) (fun b xs q => F1.tups b xs (I.base.tups b xs q)) (fun b o u q => F1.frzs b o u (I.base.frzs b o u q)) (fun b ps q => ?_) kb kt x1.1 (fun b o q hb n => ?_) I.ok.frf, kb, kt, F.hok, x1⟩, hE _ _ hq⟩
  · obtain ⟨o', e⟩ := I.base.there b o q (nomem b)
    exact F1.free b o' e (I.base.free b o q n (nomem b)) (nomem b)
  · obtain ⟨m1, e1⟩ := I.base.tbls b ps q
    obtain ⟨m2, e2⟩ := F1.tbls b _ e1
    exact ⟨m1 ++ m2, by rw [e2, Array.append_assoc]⟩
  · obtain ⟨sl, e⟩ := I.base.slot b o q n hb (nomem b)
    have hb' : b ∈ frs (cx1 P w K mg base N qual scope f cd A outer s H E).stack := List.mem_cons_of_mem _ hb
    obtain ⟨sl1, e1⟩ := F1.slot b _ e (I.base.free b o q n (nomem b)) hb' (nomem b)
    obtain ⟨_, o2, e2, nf⟩ := F.fl.2.2.1.mem hb'
    rw [e1] at e2
    cases e2
    obtain ⟨sl2, e3⟩ := x2 b _ e1 nf
    exact ⟨sl2, e3⟩
end
theorem Fun.okX {P : Program} {w : World} {K : PySem.W.Frag} {mg : Str → Option Value} {base : Heap} {x qual : Str} {st : Stmt} {f : Addr} {fd : FuncData} {N ps : List Str} {k : Nat} {sp : Sp} (F : Fun K x qual st f fd) (S : FnScope N ps (defScope st)) (len : ∀ vs H Q E, sp vs H Q E → vs.length = ps.length)
    (hbody : ∀ (cdv : Value) (A : Around) (outer : List Env) (s : Shared) (H : Hp) (vs : List V) (Q : VK) (E : XK), Room k (A.deeper (envOfC qual (defScope st) s.heap.objs.size f cdv)) → sp vs H Q E →
      ∃ t, PSs (cx1 P w K mg base N qual (defScope st) f cdv A outer s H E) (defBody st) t ∧ t { nx := fun _ H' => Q .non H', rt := Q } (start N vs) H) : FnOk P w K mg base (CX1 P w) (k + 1) f fd ps sp := by
  obtain ⟨oc, od, kV, doc, pm, an, cdv, ct, osl, rfl, lk, hcd⟩ := F.ex
  exact fn_of lk hcd S len fun A outer s H vs Q E hr hsp => hbody cdv A outer s H vs Q E hr hsp
theorem FnOk.calm {P : Program} {w : World} {K : PySem.W.Frag} {mg : Str → Option Value} {base : Heap} {k : Nat} {f : Addr} {fd : FuncData} {ps : List Str} {sp sp' : Sp} (F : FnOk P w K mg base (CX1 P w) k f fd ps sp)
    (h : ∀ vs H Q E, sp' vs H Q E → sp vs H Q (fun _ _ _ => False)) : FnOk P w K mg base CX0 k f fd ps sp' := by
  refine ⟨fun vs H Q E q => F.len vs H Q _ (h _ _ _ _ q), fun A outer s H args us vs Q E hr he hb hv hs => codeAny_mono (F.run A outer s H args us vs Q (fun _ _ _ => False) hr he hb hv (h _ _ _ _ hs)) fun r s' hq => ?_⟩
  cases r with
  | error e => obtain ⟨_, _, _, _, _, _, _, _, _, z⟩ := hq; exact z.elim
  | ok fl => cases fl <;> exact hq
end L2
namespace L2
open PySem PySem.Spec PyProof.Rows
structure XEE (X : Cx) (EE : XK) : Prop where
  pass : Passes (CX1 X.prog X.w) X EE
  made : ∀ (pins : List (Addr × Obj)) (σ : St) (H1 : Hp) (s1 s2 : Shared) (a : Addr) (cls : Value) (args : List Value), Inv X pins σ H1 s1 → Heap.MadeExcOf s1.heap s2.heap a cls args → s2.os = s1.os → s2.gens = s1.gens → EE cls none H1 → X.xe (.ref a) s2
structure DEX extends DEnds where
  xc : Str → Prop
abbrev GX := DEX → DS → Prop
def Tells (X : Cx) (EE : XK) (C0 H0 : Hp) (xc : Str → Prop) : Prop := ∀ c cls C' H', X.mg c = some cls → xc c → Ext C0 H0 C' H' → EE cls none H'
def DSX (X : Cx) (EE : XK) (st : Stmt) (g : GX) : Prop := ∃ t, PS X st t ∧ ∀ C0 H0 δ σ C H (De : DEX) E, Tells X EE C0 H0 De.xc → Rep X.K C0 H0 δ σ C H → g De δ → Adm X.K C0 H0 E De.toDEnds → t E σ H
def DSsX (X : Cx) (EE : XK) (sts : List Stmt) (g : GX) : Prop := ∃ t, PSs X sts t ∧ ∀ C0 H0 δ σ C H (De : DEX) E, Tells X EE C0 H0 De.xc → Rep X.K C0 H0 δ σ C H → g De δ → Adm X.K C0 H0 E De.toDEnds → t E σ H
abbrev GEX := DS → (Str → Prop) → (D → Prop) → Prop
def DEx (X : Cx) (EE : XK) (e : Expr) (g : GEX) : Prop := ∃ t, PE X e t ∧ ∀ C0 H0 δ σ C H (xc : Str → Prop) (Q : D → Prop) (R : VK), Tells X EE C0 H0 xc → Rep X.K C0 H0 δ σ C H → g δ xc Q → (∀ d v C1 H1, Q d → Ext C H C1 H1 → Den X.K C1 v d → R v H1) → t σ H R
section
variable {X : Cx} {EE : XK} {a b c e tg iter : Expr} {st : Stmt} {sts s2 : List Stmt} {es : List Expr} {pos : Pos} {ge : GE} {gi gf : GF} {gt : GT} {gg : GG} {g1 g2 : GX} {gx : GEX} {ss : List Nat}
def gLift (g : GS) : GX := fun De δ => g De.toDEnds δ
theorem dx_lift {g : GS} (h : DSt X st g) : DSX X EE st (gLift g) := by
  obtain ⟨t, p, h⟩ := h
  exact ⟨t, p, fun C0 H0 δ σ C H De E _ rp g k => h C0 H0 δ σ C H De.toDEnds E rp g k⟩
theorem dxs_lift {g : GS} (h : DSs X sts g) : DSsX X EE sts (gLift g) := by
  obtain ⟨t, p, h⟩ := h
  exact ⟨t, p, fun C0 H0 δ σ C H De E _ rp g k => h C0 H0 δ σ C H De.toDEnds E rp g k⟩
def gSeqX (g1 g2 : GX) : GX := fun De δ => g1 { De with nx := g2 De } δ
theorem dxs_cons (h1 : DSX X EE st g1) (h2 : DSsX X EE sts g2) : DSsX X EE (st :: sts) (gSeqX g1 g2) := by
  obtain ⟨t1, p1, h1⟩ := h1
  obtain ⟨t2, p2, h2⟩ := h2
  refine ⟨_, pss_cons p1 p2, fun C0 H0 δ σ C H De E te rp g k => h1 C0 H0 δ σ C H { De with nx := g2 De } { E with nx := t2 E } te rp g ⟨fun δ' σ' C' H' rp' q => ?_, k.rt, k.bk, k.ct⟩⟩
  exact h2 C0 H0 δ' σ' C' H' De E te rp' q k
theorem dxs_one (h1 : DSX X EE st g1) : DSsX X EE [st] g1 := by
  obtain ⟨t1, p1, h1⟩ := h1
  exact ⟨_, pss_one p1, h1⟩
def gIfX (gt : GT) (g1 g2 : GX) : GX := fun De δ => gt δ fun c => if c = true then g1 De δ else g2 De δ
theorem dx_if (hc : DT X c gt) (h1 : DSsX X EE sts g1) (h2 : DSsX X EE s2 g2) : DSX X EE (.If c sts s2 pos) (gIfX gt g1 g2) := by
  obtain ⟨t0, p0, h0⟩ := hc
  obtain ⟨t1, p1, h1⟩ := h1
  obtain ⟨t2, p2, h2⟩ := h2
  refine ⟨_, ps_if p0 p1 p2, fun C0 H0 δ σ C H De E te rp g k => h0 C0 H0 δ σ C H _ _ rp g fun c C1 H1 q e1 => ?_⟩
  cases c with
  | true => exact iteT (h1 C0 H0 δ σ C1 H1 De E te (rp.grow e1) (by simpa using q) k)
  | false => exact iteF (h2 C0 H0 δ σ C1 H1 De E te (rp.grow e1) (by simpa using q) k)
def gRetX (gx : GEX) : GX := fun De δ => gx δ De.xc De.rt
theorem dx_ret (he : DEx X EE e gx) : DSX X EE (.Return (some e) pos) (gRetX gx) := by
  obtain ⟨t, p, h⟩ := he
  exact ⟨_, ps_ret p, fun C0 H0 δ σ C H De E te rp g k => h C0 H0 δ σ C H _ _ _ te rp g fun d v C1 H1 q e1 n1 => k.rt d v C1 H1 (rp.ext.trans e1) n1 q⟩
def gAsgX (gx : GEX) (gg : GG) : GX := fun De δ => gx δ De.xc fun d => gg d δ De.nx
theorem dx_asg (he : DEx X EE e gx) (hg : DG X tg ss gg) (hp : ∀ {te : TE} {g : TG}, PE X e te → PG X tg g → PS X (.Assign [tg] e pos) (tAsg te g)) : DSX X EE (.Assign [tg] e pos) (gAsgX gx gg) := by
  obtain ⟨t, p, h⟩ := he
  obtain ⟨t2, p2, h2⟩ := hg
  refine ⟨_, hp p p2, fun C0 H0 δ σ C H De E te rp g k => h C0 H0 δ σ C H _ _ _ te rp g fun d v C1 H1 q e1 n1 => ?_⟩
  exact h2 C0 H0 δ σ C1 H1 v d _ _ (rp.grow e1) n1 q fun δ' σ' q' rp' _ _ => k.nx δ' σ' C1 H1 rp' q'
structure Out where
  ret : D → Prop
  exc : Str → Prop := fun _ => False
def spX (K : PySem.W.Frag) (mg : Str → Option Value) (F : List D → Option Out) : Sp := fun vs H Q E => ∃ C ds o, Same C H ∧ Dens K C vs ds ∧ F ds = some o ∧ (∀ d v C' H', o.ret d → Ext C H C' H' → Den K C' v d → Q v H') ∧ ∀ c cls C' H', mg c = some cls → o.exc c → Ext C H C' H' → E cls none H'
def DFnX (P : Program) (w : World) (K : PySem.W.Frag) (mg : Str → Option Value) (base : Heap) (k : Nat) (x : Str) (F : List D → Option Out) : Prop :=
  ∃ f fd ps, FnOk P w K mg base (CX1 P w) k f fd ps (spX K mg F) ∧ mg x = some (.ref f) ∧ PySem.W.keepIn K (.ref f) = true ∧ Binds K fd ps []
def gCallX (F : List D → Option Out) (gf : GF) : GEX := fun δ xc Q => gf δ fun ds => match F ds with
  | some o => (∀ c, o.exc c → xc c) ∧ ∀ d, o.ret d → Q d
  | none => False
theorem dex_call {F : List D → Option Out} {k : Nat} {x : Str} {p : Pos} (h : DFnX X.prog X.w X.K X.mg X.base k x F) (hX : Passes (CX1 X.prog X.w) X EE) (hr : Room k X.A) (hg : Gl X x) (ha : DA X (e :: es) gf) (hdb : (x == ("__debug__" : Str)) = false := by decide)
    (he : starEach (e :: es) X.env = (false, eval e X.env) :: starEach es X.env := by rfl) (hpl : (backTo pos (starEach es X.env)).any (·.1) = false := by rfl) : DEx X EE (.Call (.Name x p) (e :: es) [] pos) (gCallX F gf) := by
  obtain ⟨f, fd, ps, Fk, hm, hk, hb⟩ := h
  obtain ⟨t, pa, h⟩ := ha
  refine ⟨_, pe_call Fk hr hg hm hk hb .nil hX pa hdb he hpl, fun C0 H0 δ σ C H xc Q R te rp g k => h C0 H0 δ σ C H _ _ rp g fun ds vs C1 H1 q e1 n1 => ?_⟩
  split at q
  · rename_i o e2
    exact ⟨C1, ds, o, e1.ch, by rw [List.append_nil]; exact n1, e2, fun d v C' H' hd ex nv => k d v C' H' (q.2 d hd) (e1.trans ex) nv, fun c cls C' H' hmc hx ex => te c cls C' H' hmc (q.1 c hx) ((rp.ext.trans e1).trans ex)⟩
  · exact q.elim
theorem DFnX.calm {P : Program} {w : World} {K : PySem.W.Frag} {mg : Str → Option Value} {base : Heap} {k : Nat} {x : Str} {F : List D → Option Out} {F' : List D → Option (D → Prop)} (h : DFnX P w K mg base k x F)
    (hF : ∀ ds p, F' ds = some p → ∃ o, F ds = some o ∧ (∀ d, o.ret d → p d) ∧ ∀ c, ¬ o.exc c) : DFnR P w K mg base k x F' := by
  obtain ⟨f, fd, ps, Fk, b⟩ := h
  refine ⟨f, fd, ps, Fk.calm fun vs H Q E q => ?_, b⟩
  obtain ⟨C, ds, p, ch, n, e, q⟩ := q
  obtain ⟨o, e2, h1, h2⟩ := hF ds p e
  exact ⟨C, ds, o, ch, n, e2, fun d v C' H' hd ex nv => q d v C' H' (h1 d hd) ex nv, fun c cls C' H' _ hx _ => h2 c hx⟩
def ExcAt (K : PySem.W.Frag) (mg : Str → Option Value) (x : Str) : Prop := ∃ C, mg x = some (.ref C) ∧ ∀ h, K.In h → OwnCls x C [.type "ValueError", .type "Exception", .type "BaseException", .type "object"] "ValueError.__new__" mg h
theorem ps_raise {x : Str} {C : Addr} {np cpos : Pos} {t : TA} (O : ∀ h, X.K.In h → OwnCls x C [.type "ValueError", .type "Exception", .type "BaseException", .type "object"] "ValueError.__new__" X.mg h) (hc : X.calm = true) (hg : Gl X x) (hX : XEE X EE) (ha : PA X (e :: es) t)
    (hdb : (x == ("__debug__" : Str)) = false := by decide) (he : starEach (e :: es) X.env = (false, eval e X.env) :: starEach es X.env := by rfl) (hpl : (backTo cpos (starEach es X.env)).any (·.1) = false := by rfl) :
    PS X (.Raise (some (.Call (.Name x np) (e :: es) [] cpos)) none pos) (fun _ σ H => t σ H fun vs H1 => vs.length ≤ sizeLine ∧ EE (.ref C) none H1) := by
  intro pins s σ H Dn I h
  have O0 := O _ I.mod.kin
  obtain ⟨tl, Nn, nm, q, bs, hdct, sn, sub, ab, col, dd, k0, k1, k2, k3, k5, mN, hC, hN, hni, T⟩ := O0.obj
  refine wpAny_Raise_call_subT (C := C) (nm := nm) (q := q) (N := Nn) (bs := bs) (bm := tl) (hdct := hdct) (sn := sn) (sub := sub) (ab := ab) (col := col) (dd := dd) (k0 := k0) (k1 := k1) (k2 := k2) (k3 := k3) (k5 := k5)
    PySem.F.excBase_ValueError (mN := mN) (T.hasType PySem.F.excBase_ValueError.hasBase) (I.ok.hd hc) (by rw [he]; show (false || (backTo cpos (starEach es X.env)).any (·.1)) = false; rw [hpl]; rfl) hni (ld_glob I hg O0.bound ⟨rfl, ?_⟩ hdb)
  have hA := ha cpos pins s σ H _ I h
  rw [he] at hA ⊢
  refine Calls.evalArgs_plain (wpAny_mono hA (fun us s2 h2 => ?_) fun _ _ y => y)
  obtain ⟨vs, H2, I2, r2, hz, hq⟩ := h2
  have hl : us.length = vs.length := r2.length.symm
  exact ⟨rfl, by rw [hl]; exact hz, I2.bk _ _ hC, hN.keeps I2.bk, T.keeps I2.bk, fun h' a hm => hX.made pins σ H2 s2 { s2 with heap := h' } a (.ref C) us I2 hm rfl rfl hq⟩
def gRaise (x : Str) (gf : GF) : GX := fun De δ => gf δ fun ds => ds.length ≤ sizeLine ∧ De.xc x
theorem dx_raise {x : Str} {np cpos : Pos} (O : ExcAt X.K X.mg x) (hc : X.calm = true) (hg : Gl X x) (hX : XEE X EE) (ha : DA X (e :: es) gf)
    (hdb : (x == ("__debug__" : Str)) = false := by decide) (he : starEach (e :: es) X.env = (false, eval e X.env) :: starEach es X.env := by rfl) (hpl : (backTo cpos (starEach es X.env)).any (·.1) = false := by rfl) : DSX X EE (.Raise (some (.Call (.Name x np) (e :: es) [] cpos)) none pos) (gRaise x gf) := by
  obtain ⟨C, hm, O⟩ := O
  obtain ⟨t, p, h⟩ := ha
  refine ⟨_, ps_raise O hc hg hX p hdb he hpl, fun C0 H0 δ σ C' H De E te rp g k => h C0 H0 δ σ C' H _ _ rp g fun ds vs C1 H1 q e1 n1 => ⟨by rw [n1.length]; exact q.1, te x _ C1 H1 hm q.2 (rp.ext.trans e1)⟩⟩
end
theorem exc_of {K : PySem.W.Frag} {mg : Str → Option Value} {x : Str} {C : Addr} {h : Heap} (X : K.In h) (G : h.Ns mainGlobals mg) (e : PySem.W.nsIn K mainGlobals x = some (some (.ref C)))
    (q : PySem.W.excIn K C [.type "ValueError", .type "Exception", .type "BaseException", .type "object"] "ValueError.__new__" = true) : ExcAt K mg x := by
  have hm := PySem.W.mg_of X G e
  refine ⟨C, hm, fun h' X' => ⟨hm, ?_⟩⟩
  unfold PySem.W.excIn at q
  split at q
  · rename_i d1 cd sl lk
    split at q
    · rename_i C' bm a0 a1 a2 a3 n a5 hmro hsl
      simp only [Bool.and_eq_true, beq_iff_eq, Bool.not_eq_true'] at q
      obtain ⟨⟨⟨⟨⟨q1, q2⟩, q3⟩, q4⟩, q5⟩, q6⟩ := q
      subst q1 q2
      obtain ⟨c1, c2, c3, c4, c5, c6, c7, c8, c9, c10, c11⟩ := cd
      dsimp only at hmro q3 q5 q6
      subst hmro q3
      have es : sl = #[a0, a1, a2, a3, some (.builtin "ValueError.__new__"), a5] := by
        obtain ⟨l⟩ := sl
        simp only at hsl
        rw [hsl]
      subst es
      exact ⟨bm, c4, c1, c5, c2, c6, c7, c8, c9, c10, d1, a0, a1, a2, a3, a5, _, X' _ _ lk, .of_isNs (PySem.W.isNs_of_in X' q5), PySem.W.nsMap_none_of_in X' q5 q6, PySem.W.tail_of_in X' q4⟩
    · cases q
  · cases q
theorem xee1 {P : Program} {w : World} {K : PySem.W.Frag} {mg : Str → Option Value} {base : Heap} {N : List Str} {qual : Str} {scope : Scope} {f : Addr} {cd : Value} {A : Around} {outer : List Env} {s : Shared} {H : Hp} {E : XK} : XEE (cx1 P w K mg base N qual scope f cd A outer s H E) E :=
  ⟨pass_up fun _ _ q => q, fun pins σ H1 s1 s2 a cls args I hx ho hg hE => leave_made I hx ho (by rw [hg]; exact I.bare) hE⟩
theorem fnX {P : Program} {w : World} {K : PySem.W.Frag} {mg : Str → Option Value} {base : Heap} {x qual : Str} {st : Stmt} {f : Addr} {fd : FuncData} {N ps : List Str} {k : Nat} {F : List D → Option Out} {g : GX} (Fn : Fun K x qual st f fd) (S : FnScope N ps (defScope st))
    (hl : ∀ ds o, F ds = some o → ds.length = ps.length)
    (hb : ∀ (cdv : Value) (A : Around) (outer : List Env) (s : Shared) (H : Hp) (E : XK), Room k (A.deeper (envOfC qual (defScope st) s.heap.objs.size f cdv)) → DSsX (cx1 P w K mg base N qual (defScope st) f cdv A outer s H E) E (defBody st) g)
    (hv : ∀ ds o, F ds = some o → g { nx := fun _ => o.ret .non, rt := o.ret, xc := o.exc } (dstart N ds)) (hm : mg x = some (.ref f)) (bi : Binds K fd ps []) : DFnX P w K mg base (k + 1) x F := by
  refine ⟨f, fd, ps, Fn.okX S (fun vs H Q E h => ?_) (fun cdv A outer s H vs Q E hr h => ?_), hm, Fn.kp, bi⟩
  · obtain ⟨C, ds, o, _, n, e, _⟩ := h
    rw [n.length]
    exact hl ds o e
  · obtain ⟨C, ds, o, ch, n, e, q, qx⟩ := h
    obtain ⟨t, p, h⟩ := hb cdv A outer s H E hr
    refine ⟨t, p, h C H (dstart N ds) (start N vs) C H _ _ (fun c cls C' H' hmc hx ex => qx c cls C' H' hmc hx ex) (rep_start ch n) (hv ds o e) ⟨fun δ σ C' H' rp z => ?_, fun r v C' H' ex nv z => ?_, fun _ _ _ _ _ z => z.elim, fun _ _ _ _ _ z => z.elim⟩⟩
    · exact q .non _ C' H' z rp.ext (den_non.mpr rfl)
    · exact q r v C' H' z ex nv
end L2
namespace L2
open PySem PySem.Spec PyProof.Rows
abbrev Cx.tr (X : Cx) (pn : List (Addr × Obj)) (xe : Value → Shared → Prop) : Cx := { X with pn := pn, xe := xe }
abbrev Cx.su (X : Cx) (e : Value) (pn : List (Addr × Obj)) : Cx := { X with A := X.A.mark (some e), calm := false, pn := pn, xe := fun _ _ => False }
section
variable {X : Cx} {pins pins' pn : List (Addr × Obj)} {xe : Value → Shared → Prop} {σ : St} {H : Hp} {s : Shared} {e : Value}
theorem Inv.tr (I : Inv X pins σ H s) (pn : List (Addr × Obj)) (xe : Value → Shared → Prop) (h : ∀ p ∈ pn, p ∈ X.pn ++ pins) : Inv (X.tr pn xe) [] σ H s :=
  ⟨⟨I.ok.mod, I.ok.kind, I.ok.glob, I.ok.blt, I.ok.above, I.ok.inj, I.ok.has, I.ok.cab, I.ok.hd, I.ok.frames, I.ok.stk, I.ok.exf, I.ok.bs, I.ok.bsz, I.ok.noex, I.ok.exfs, I.ok.funs, I.ok.frf⟩, I.os, I.bare, I.base, I.loc, I.cell, I.free, I.freeC, fun p hp => I.pin p (h p (by simpa using hp)), I.hok, I.len⟩
theorem Inv.untr (I : Inv (X.tr pn xe) pins' σ H s) (h : ∀ p ∈ X.pn ++ pins, p ∈ pn) : Inv X pins σ H s :=
  ⟨⟨I.ok.mod, I.ok.kind, I.ok.glob, I.ok.blt, I.ok.above, I.ok.inj, I.ok.has, I.ok.cab, I.ok.hd, I.ok.frames, I.ok.stk, I.ok.exf, I.ok.bs, I.ok.bsz, I.ok.noex, I.ok.exfs, I.ok.funs, I.ok.frf⟩, I.os, I.bare, I.base, I.loc, I.cell, I.free, I.freeC, fun p hp => I.pin p (List.mem_append_left _ (h p hp)), I.hok, I.len⟩
theorem Inv.su (I : Inv X pins σ H s) (e : Value) (pn : List (Addr × Obj)) (h : ∀ p ∈ pn, p ∈ X.pn ++ pins ∨ (s.heap.get? p.1 = some p.2 ∧ H p.1 = none ∧ p.1 ≠ X.env.locals ∧ p.1 ∉ X.fs ∧ ∀ v, p.2.data ≠ .cell v)) : Inv (X.su e pn) [] σ H s :=
  ⟨⟨I.ok.mod, I.ok.kind, I.ok.glob, I.ok.blt, I.ok.above, I.ok.inj, I.ok.has, I.ok.cab, fun z => absurd z (by show ¬ (false = true); decide), I.ok.frames, I.ok.stk, I.ok.exf, I.ok.bs, I.ok.bsz, I.ok.noex, I.ok.exfs, I.ok.funs, I.ok.frf⟩, I.os, I.bare, I.base, I.loc, I.cell, I.free, I.freeC, fun p hp => (h p (by simpa using hp)).elim (I.pin p) id, I.hok, I.len⟩
theorem Inv.unsu (I : Inv (X.su e pn) pins' σ H s) (hd : X.calm = true → X.A.handled = none) (h : ∀ p ∈ X.pn ++ pins, p ∈ pn) : Inv X pins σ H s :=
  ⟨⟨I.ok.mod, I.ok.kind, I.ok.glob, I.ok.blt, I.ok.above, I.ok.inj, I.ok.has, I.ok.cab, hd, I.ok.frames, I.ok.stk, I.ok.exf, I.ok.bs, I.ok.bsz, I.ok.noex, I.ok.exfs, I.ok.funs, I.ok.frf⟩, I.os, I.bare, I.base, I.loc, I.cell, I.free, I.freeC, fun p hp => I.pin p (List.mem_append_left _ (h p hp)), I.hok, I.len⟩
theorem SP.untr {D : Ends} {f : Flow} (h : ∀ p ∈ X.pn ++ pins, p ∈ pn) (q : SP (X.tr pn xe) pins' D f s) : SP X pins D f s := by
  cases f with
  | next => obtain ⟨σ', H', I, q⟩ := q; exact ⟨σ', H', I.untr h, q⟩
  | brk => obtain ⟨σ', H', I, q⟩ := q; exact ⟨σ', H', I.untr h, q⟩
  | cont => obtain ⟨σ', H', I, q⟩ := q; exact ⟨σ', H', I.untr h, q⟩
  | ret u => obtain ⟨v, σ', H', I, r, q⟩ := q; exact ⟨v, σ', H', I.untr h, r, q⟩
theorem ObjOk.there {P : Program} {w : World} {H : Hp} {h : Heap} {a : Addr} {o : HO} (x : ObjOk P w H h a o) : ∃ ob, h.get? a = some ob := by
  cases o with
  | lst xs => obtain ⟨_, _, _, _, e⟩ := x; exact ⟨_, e⟩
  | tup xs => obtain ⟨_, _, _, o, e, _⟩ := x; exact ⟨_, e⟩
  | dK kvs => obtain ⟨_, _, _, _, o, _, _, e, _⟩ := x; exact ⟨_, e⟩
  | dT K f kvs => obtain ⟨_, _, _, _, o, _, _, e, _⟩ := x; exact ⟨_, e⟩
  | set S n => obtain ⟨o, _, _, _, e, _⟩ := x; exact ⟨_, e⟩
  | ins C dx fs => obtain ⟨_, _, _, e, _⟩ := x; exact ⟨_, e⟩
  | own y => exact x
  | xd fs => obtain ⟨_, ⟨_, _, _, e, _⟩, _⟩ := x; exact ⟨_, e⟩
  | rng lo hi => obtain ⟨_, _, _, e⟩ := x; exact ⟨_, e⟩
  | frz ob u => obtain ⟨e, _⟩ := x; exact ⟨_, e⟩
  | tbl ps => exact ⟨_, x⟩
  | tab l c q => obtain ⟨_, e, _⟩ := x; exact ⟨_, e⟩
  | met f y => exact ⟨_, x⟩
  | ext φ => obtain ⟨_, e, _⟩ := x; exact e
end
def σ0 (X : Cx) : St := List.replicate X.N.length none
theorem Inv.forget {X : Cx} {pins : List (Addr × Obj)} {σ : St} {H : Hp} {s : Shared} (I : Inv X pins σ H s) : Inv X pins (σ0 X) H s := by
  refine I.weak ?_ fun i v e => ?_
  · unfold σ0; rw [List.length_replicate]; first | exact I.len | exact I.len.symm
  · unfold σ0 at e
    rw [List.getElem?_replicate] at e
    split at e <;> cases e
section
variable {X : Cx} {EE : XK} {body suite : List Stmt} {b₀ : Stmt} {x : Str} {cl : Value} {np hpos pos : Pos} {tb ts : TS}
theorem try_caught {pins : List (Addr × Obj)} {σ1 : St} {H1 : Hp} {s1 s' : Shared} {ev : Value} {Q : Flow → Shared → Prop} {E : Value → Shared → Prop} {hs : List ExceptHandler} (hstk : X.stack = X.env :: X.outer) (hfr : X.env.frame = some X.env.locals) (I : Inv X pins σ1 H1 s1) (hc : CX1 X.prog X.w X.stack H1 s1 EE ev s')
    (k : ∀ a cls a0 H' B h5, ev = .ref a → EE cls none H' → Fl X.prog X.w X.stack H1 H' s1 B a cls a0 h5 → Inv X pins σ1 H' { s' with heap := h5 } → s'.os = s1.os → AllBare s'.gens → wpAny (model X.prog X.w) X.A (handleBy ev X.env hs) Q E { s' with heap := h5 }) :
    wpAny (model X.prog X.w) X.A (noteFrame ev X.env) (fun _ s2 => wpAny (model X.prog X.w) X.A (setFlight ev none) (fun _ s3 => wpAny (model X.prog X.w) X.A (handleBy ev X.env hs) Q E s3) E s2) E s' := by
  obtain ⟨a, cls, a0, H', B, rfl, ho, hg, F, hq⟩ := hc
  have hfrm : X.A.frames = some (X.env :: X.outer) := by rw [← hstk]; exact I.ok.frames
  have fl : Heap.FlyingW B (X.env :: X.outer) a cls a0 s'.heap := by rw [← hstk]; exact F.fl
  refine wpAny_looks_onW hfrm hfr fl fun h4 held4 up4 => ?_
  refine wpAny_landsW held4 fun h5 fl5 up5 => ?_
  have F5 := F.next I.stkFree (by rw [hstk]; exact fl5) (up4.trans up5)
  exact k a cls a0 H' B h5 rfl hq F5 (I.call' (ch := []) ho F5.un (F5.hok.kept F5.fl.1) hg fun b z => absurd z (by simp)) ho hg
theorem exc_pin {pins : List (Addr × Obj)} {σ1 : St} {H1 H' : Hp} {s1 s5 : Shared} {B : Heap} {a : Addr} {cls a0 : Value} (F : Fl X.prog X.w X.stack H1 H' s1 B a cls a0 s5.heap) (I : Inv X pins σ1 H' s5) : ∃ oe, oe.cls = cls ∧ s5.heap.get? a = some oe ∧ H' a = none ∧ a ≠ X.env.locals ∧ a ∉ X.fs ∧ ∀ v, oe.data ≠ .cell v := by
  obtain ⟨oe, vs, e1, e2, e3, _⟩ := F.fl.first
  refine ⟨oe, e2, e1, ?_, fun z => ?_, fun z => ?_, fun v q => by rw [e3] at q; cases q⟩
  · cases q : H' a with
    | none => rfl
    | some o =>
      obtain ⟨ob, z⟩ := (F.hok a o q).there
      rw [F.fl.2.1] at z
      cases z
  · obtain ⟨m, ⟨o', es, ep, ho', hd', _⟩, _⟩ := I.loc
    rw [← z, e1] at ho'
    cases ho'
    rw [hd'] at e3
    cases e3
  · obtain ⟨_, o', ho', nf⟩ := I.funs.mem z
    rw [e1] at ho'
    cases ho'
    exact nf vs e3
end
end L2
namespace L2
open PySem PySem.Spec PyProof.Rows
def tX (K : PySem.W.Frag) (mg : Str → Option Value) (EE : XK) (g : GX) : TS := fun E σ H => ∃ C0 H0 δ C, ∃ De : DEX, (∀ c cls C' H', mg c = some cls → De.xc c → Ext C0 H0 C' H' → EE cls none H') ∧ Rep K C0 H0 δ σ C H ∧ g De δ ∧ Adm K C0 H0 E De.toDEnds
def tSt (K : PySem.W.Frag) (g : GS) : TS := fun E σ H => ∃ C0 H0 δ C De, Rep K C0 H0 δ σ C H ∧ g De δ ∧ Adm K C0 H0 E De
theorem DSsX.can {X : Cx} {EE : XK} {sts : List Stmt} {g : GX} (h : DSsX X EE sts g) : PSs X sts (tX X.K X.mg EE g) := by
  obtain ⟨t, p, h⟩ := h
  intro pins s σ H E I q
  obtain ⟨C0, H0, δ, C, De, te, rp, g, k⟩ := q
  exact p pins s σ H E I (h C0 H0 δ σ C H De E te rp g k)
theorem DSs.can {X : Cx} {sts : List Stmt} {g : GS} (h : DSs X sts g) : PSs X sts (tSt X.K g) := by
  obtain ⟨t, p, h⟩ := h
  intro pins s σ H E I q
  obtain ⟨C0, H0, δ, C, De, rp, g, k⟩ := q
  exact p pins s σ H E I (h C0 H0 δ σ C H De E rp g k)
theorem rep_un {K : PySem.W.Frag} {C0 H0 C H : Hp} (n : Nat) (ex : Ext C0 H0 C H) : Rep K C0 H0 (List.replicate n .un) (List.replicate n none) C H := by
  refine ⟨by simp, ex, fun i d e => ?_, fun i ds e => ?_, fun i j ds es l _ e _ => ?_, Dcs.none fun i x e => by
    rw [List.getElem?_replicate] at e
    split at e
    · cases e; rfl
    · cases e⟩
  · rw [List.getElem?_replicate] at e; split at e <;> cases e
  · rw [List.getElem?_replicate] at e; split at e <;> cases e
  · rw [List.getElem?_replicate] at e; split at e <;> cases e
end L2
namespace L2
open PySem PySem.Spec PyProof.Rows PySem.W
open Builtin Builtin.ObjectAttr Builtin.Getset_descriptor
section
variable {prog : Program} {w : World} {A : Around} {E : Value → Shared → Prop} {K : Frag} {x C : Addr} {R : Result → Shared → Prop} {hh : Heap} {g : Array GenState} {dr : Drawn} {t : Nat} {os : OsState} {o : Obj}
theorem xcls_get {tp : Value} (X : K.In hh) (ho : hh.get? x = some o) (hc : o.cls = .ref C) (hm : mroIn K C (.type "object") = some true)
    (h : R (.ok (.ret (.ref C))) ⟨hh, g, dr, t, os⟩) : codeAny (model prog w) A (.call (.builtin "getset_descriptor.__get__") ⟨[.builtin "object.__class__", .ref x, tp], []⟩) R ⟨hh, g, dr, t, os⟩ := by
  have L0 : Looks (model prog w) hh (typeOf (.ref x)) (.ref C) := hc ▸ (Looks.ld ho).andThen .now
  have L1 := looks_mroIn (M := model prog w) X hm
  refine codeAny_call_builtin KF.slot_gs.plain KF.entry_gs (KF.slot_gs.check _ _ _ _ _ _ _ _ KF.type_class (KF.args_gs _ _ _) ?_)
  unfold Builtin.«getset_descriptor.__get__» descrGet
  rw [dga_obj]
  refine wpAny_bind (wpAny_pure ?_)
  unfold descrGetter descrCheckInstance descrNameAndClass isInstance
  simp only [KF.owner_class]
  repeat lk
  refine ⟨Code.quiet_builtin _ (by decide +kernel), codeAny_builtin KF.entry_class ?_⟩
  unfold Builtin.«object.__class__» shownTypeOf
  repeat lk
  exact h
theorem xcls_entry {tk : Tok} {Q : Fin → Shared → Prop} (X : K.In hh) (ho : hh.get? x = some o) (hc : o.cls = .ref C) (hm : mroIn K C (.type "object") = some true) (hcl : findIn K (.ref C) "__class__" = some (some (.builtin "object.__class__")))
    (h : Q (.done (.ret (.ref C))) ⟨hh, g, dr, t, os⟩) : wpAny (model prog w) A (Builtin.«object.__getattribute__» ⟨[.ref x, .str "__class__" tk], []⟩) Q E ⟨hh, g, dr, t, os⟩ := by
  have f5 := F.typeOf_object_class
  have f6 := F.slot_gs_get.lookup
  have f7 := F.slot_gs_set.lookup
  have L1 := looks_findIn (M := model prog w) X hcl
  repeat (any_goals (first | assumption | (with_reducible refine wpAny_loadPart_at ho ?_; rw [hc]) | with_reducible refine Looks.at L1 ?_ | wp_step))
  refine xcls_get X ho hc hm ?_
  repeat (any_goals (first | assumption | wp_step))
theorem xcls_check {M : Model} {nameV : Value} {Q : Unit → Shared → Prop} (X : K.In hh) (ho : hh.get? x = some o) (hc : o.cls = .ref C) (hb : mroIn K C (.type "BaseException") = some true) (hq : Q () ⟨hh, g, dr, t, os⟩) :
    wpAny M A (checkBuiltinCall "BaseException.__getattribute__" ⟨[.ref x, nameV], []⟩) Q E ⟨hh, g, dr, t, os⟩ := by
  have hk : builtinKind "BaseException.__getattribute__" = some .slot := by decide +kernel
  have hsplit : splitId "BaseException.__getattribute__" = some ("BaseException", "__getattribute__") := by decide +kernel
  have L1 := looks_mroIn (M := M) X hb
  have ha := F.args_bexc_ga (.ref x) nameV
  simp only [checkBuiltinCall, hk, hsplit]
  refine wpAny_bind ?_
  unfold isInstance
  repeat (first | (with_reducible refine wpAny_loadPart_at ho ?_; rw [hc]) | with_reducible refine Looks.at L1 ?_ | wp_step)
  exact hq
theorem xcls_attr {Q : Option Value → Shared → Prop} (X : K.In hh) (ho : hh.get? x = some o) (hc : o.cls = .ref C) (hm : mroIn K C (.type "object") = some true) (hb : mroIn K C (.type "BaseException") = some true) (hcl : findIn K (.ref C) "__class__" = some (some (.builtin "object.__class__")))
    (hga : findIn K (.ref C) "__getattribute__" = some (some (.builtin "BaseException.__getattribute__"))) (hgt : findIn K (.ref C) "__getattr__" = some none) (FB : ExcAttrBase "ValueError" [.type "ValueError", .type "Exception", .type "BaseException", .type "object"])
    (h : Q (some (.ref C)) ⟨hh, g, dr, t + 1, os⟩) : wpAny (model prog w) A (getAttr? (.ref x) "__class__") Q E ⟨hh, g, dr, t, os⟩ := by
  have L0 : Looks (model prog w) hh (typeOf (.ref x)) (.ref C) := hc ▸ (Looks.ld ho).andThen .now
  have L1 := looks_findIn (M := model prog w) X hga
  have L2 := looks_findIn (M := model prog w) X hgt
  have f3 := FB.ga.bind (.ref x)
  have hx2 : (Value.builtin "BaseException.__getattribute__" == Value.builtin "object.__getattribute__") = false := by decide +kernel
  have hx1 : (onTheHeap (Value.ref C) && Value.builtin "BaseException.__getattribute__" == Value.builtin "object.__getattribute__") = false := by rw [hx2]; rfl
  unfold getAttr? getAttrBy? getAttrBy
  refine wpAny_bind (wpAny_mkText (wpAny_bind (wpAny_attempt (wpAny_holding (wpAny_bind (L0.at (wpAny_bind (L1.at ?_))))))))
  dsimp only
  rw [if_neg (by rw [hx1]; decide)]
  unfold getAttrByItsOwn hookBefore
  rw [if_pos (by rfl)]
  refine wpAny_bind (L2.at ?_)
  unfold callGetattribute boundAndCalled
  repeat (any_goals (first | assumption | wp_step))
  refine codeAny_call_builtin FB.ga.plain F.entry_bexc_ga (xcls_check X ho hc hb (xcls_entry X ho hc hm hcl ?_))
  repeat (any_goals (first | assumption | wp_step))
end
end L2
namespace L2
open PySem PySem.Spec PyProof.Rows
section
variable {X : Cx} {pins : List (Addr × Obj)} {σ : St} {H : Hp} {s : Shared}
theorem name_goes {M : Model} {A : Around} {E : Value → Shared → Prop} {i : Nat} {n : Str} {pos : Pos} {Q : Unit → Shared → Prop} (I : Inv X pins σ H s) (hN : X.N.Nodup) (hi : X.N[i]? = some n) (hk : X.env.scope.names.lookup n = some .local)
    (h : ∀ s', Inv X pins (σ.set i none) H s' → Q () s') : wpAny M A (do bindName X.env n .none; unbindBehindTheSuite X.env n pos) Q E s := by
  obtain ⟨m, hn, hl⟩ := id I.loc
  have hcls : (X.env.scope.kind == .class || (X.env.scope.kind == .module && X.env.locals != X.env.globals)) = false := by rw [I.ok.kind]; rfl
  have hiσ : i < σ.length := by rw [I.len]; exact (List.getElem?_eq_some_iff.mp hi).1
  refine wpAny_nameGoes_keeps hk hn hcls fun h' v hn' hs => ?_
  obtain ⟨oL, _, _, hoL, _⟩ := id hn
  have old : ∀ {b : Addr} {o : Obj}, X.s₀.heap.get? b = some o → b ≠ X.env.locals := fun {b o} e => Nat.ne_of_lt (Nat.lt_of_lt_of_le (Heap.lt_size e) I.ok.above)
  refine h _ ⟨I.ok, I.os, I.bare, ⟨fun b o e q hb hx => ?_, fun b o e q hb hx => ?_, I.base.free, fun b o e hx => ?_, I.base.tups, I.base.frzs, I.base.tbls⟩, ⟨_, hn', fun j y v' e1 e2 e3 => ?_⟩, fun y c e => ?_, I.free, I.freeC, fun p hp => ?_, fun b ob e => ?_, by simpa using I.len⟩
  · exact (hs.2 b (old e)).trans (I.base.keep b o e q hb hx)
  · obtain ⟨sl, e1⟩ := I.base.slot b o e q hb hx
    exact ⟨sl, (hs.2 b (old e)).trans e1⟩
  · obtain ⟨o', e1⟩ := I.base.there b o e hx
    exact ⟨o', (hs.2 b (old e)).trans e1⟩
  · by_cases hj : j = i
    · subst hj
      rw [List.getElem?_set_self hiσ] at e2
      cases e2
    · rw [List.getElem?_set_ne (Ne.symm hj)] at e2
      obtain ⟨u', r', q⟩ := hl j y v' e1 e2 e3
      refine ⟨u', r', ?_⟩
      rcases q with ⟨k, e⟩ | ⟨k, c, e, z⟩
      · refine .inl ⟨k, ?_⟩
        have ny : y ≠ n := fun e => hj (nodup_ix hN e1 (e ▸ hi))
        simp [ny, e]
      · exact .inr ⟨k, c, e, z.sameBut hs (I.cne y c e)⟩
  · obtain ⟨w', z⟩ := I.cell y c e
    exact ⟨w', z.sameBut hs (I.cne y c e)⟩
  · obtain ⟨e, q, ne, nf, d⟩ := I.pin p hp
    exact ⟨(hs.2 p.1 ne).trans e, q, ne, nf, d⟩
  · refine (I.hok b ob e).stay (fun c w' hc q => (hs.2 c ?_).trans q) (fun _ q => q) (fun _ _ q => q) fun _ _ _ q => q
    rintro rfl
    have fr := I.free
    rcases hc with rfl | hc
    · rw [fr] at e; cases e
    · rw [fr] at hc; cases hc
end
structure XCls (K : PySem.W.Frag) (C : Addr) : Prop where
  cl : (PySem.W.clsIn K C).isSome = true
  mo : PySem.W.mroIn K C (.type "object") = some true
  mb : PySem.W.mroIn K C (.type "BaseException") = some true
  ca : PySem.W.findIn K (.ref C) "__class__" = some (some (.builtin "object.__class__"))
  ga : PySem.W.findIn K (.ref C) "__getattribute__" = some (some (.builtin "BaseException.__getattribute__"))
  gt : PySem.W.findIn K (.ref C) "__getattr__" = some none
theorem kitx_exc {K : PySem.W.Frag} {a C : Addr} (T : XCls K C) : PySem.W.KitX K (.ref a) (.ref C) (fun h => ∃ o, h.get? a = some o ∧ o.cls = .ref C) where
  ty := fun _ _ _ p => by
    obtain ⟨o, h1, h2⟩ := p
    exact h2 ▸ (PySem.W.Looks.ld h1).andThen .now
  it := fun _ _ X _ => by
    have z := T.cl
    unfold PySem.W.clsIn at z
    split at z
    · rename_i c' d' cd' sl' ho
      intro A' Q' E' s' k q
      unfold isType loadHead
      exact wpAny_bind (wpAny_loadPart (k _ _ (X _ _ ho)) (wpAny_pure q))
    · cases z
  ne := fun h tp dd its n sl X htp => by
    refine Bool.eq_false_iff.mpr fun q => ?_
    have e : C = tp := Value.ref.inj (beq_iff_eq.mp q)
    subst e
    have z := T.cl
    unfold PySem.W.clsIn at z
    split at z
    · rename_i c' d' cd' sl' ho
      have z2 := (X _ _ ho).symm.trans htp
      cases z2
    · cases z
  ca := fun {prog w A E Q s} X p k => by
    obtain ⟨o, h1, h2⟩ := p
    obtain ⟨hh, g, dr, t, os⟩ := s
    exact xcls_attr X h1 h2 T.mo T.mb T.ca T.ga T.gt PySem.F.attrBase_ValueError k
section
variable {X : Cx} {a : Addr} {oe : Obj} {C : Addr} {i : Nat} {n y : Str} {vy : V} {b : Bool} {p p1 p2 pos : Pos}
theorem call_isx {cy : Value} (hp : (a, oe) ∈ X.pn) (hc : oe.cls = .ref C) (T : XCls X.K C) (ry : RelV vy cy) (hk : PySem.W.kitOne X.K (.ref C) cy = some b) (hu : ∀ u, RelV vy u → u = cy) : CallR X (.builtin "isinstance") (fun xs H Q => xs = [.ref a, vy] ∧ Q (.bl b) H) := by
  intro pins s σ H xs us Q I r h
  obtain ⟨rfl, q⟩ := h
  obtain ⟨u, u2, rfl, rx, rc⟩ := vals2 r
  cases rx
  rw [hu u2 rc]
  obtain ⟨e1, _⟩ := I.pin (a, oe) (List.mem_append_left _ hp)
  exact PySem.W.kia_one (kitx_exc T) I.kIn ⟨oe, e1, hc⟩ hk (fun z => nomatch z) fun tk => ⟨.bl b, H, I.tok tk, rfl, q⟩
theorem pt_isx {cy : Value} (hp : (a, oe) ∈ X.pn) (hc : oe.cls = .ref C) (T : XCls X.K C) (ry : RelV vy cy) (hk : PySem.W.kitOne X.K (.ref C) cy = some b) (hu : ∀ u, RelV vy u → u = cy) (hn : PE X (.Name n p1) (tVar i)) (hy : PE X (.Name y p2) (tC vy))
    (hcall : ∀ {t : TA} {r : List V → Hp → VK → Prop}, CallR X (.builtin "isinstance") r → PA X [.Name n p1, .Name y p2] t → PE X (.Call (.Name "isinstance" p) [.Name n p1, .Name y p2] [] pos) (tCB r t)) :
    PT X (.Call (.Name "isinstance" p) [.Name n p1, .Name y p2] [] pos) (fun σ H Q => σ[i]? = some (some (.ref a)) ∧ Q b H) := by
  intro pins s σ H Q I h
  refine pt_val (hcall (call_isx hp hc T ry hk hu) (pa_cons hn (pa_cons hy pa_nil))) (fun _ => rfl) pins s σ H Q I ?_
  exact ⟨.ref a, h.1, rfl, b, rfl, h.2⟩
end
end L2
namespace L2
open PySem PySem.Spec PyProof.Rows
def Ends.off (D : Ends) (i : Nat) : Ends := { nx := fun σ H => D.nx (σ.set i none) H, rt := D.rt, bk := fun σ H => D.bk (σ.set i none) H, ct := fun σ H => D.ct (σ.set i none) H }
section
variable {X : Cx} {EE : XK} {body suite : List Stmt} {b₀ : Stmt} {x n : Str} {i : Nat} {cl : Value} {np hpos pos : Pos} {tb : TS} {ts : Addr → Value → TS}
theorem ps_tryAs (hstk : X.stack = X.env :: X.outer) (hfr : X.env.frame = some X.env.locals) (hN : X.N.Nodup) (hi : X.N[i]? = some n) (hk : X.env.scope.names.lookup n = some .local) (hg : Gl X x) (hm : X.mg x = some cl) (hb : ∀ pn xe, Passes (CX1 X.prog X.w) (X.tr pn xe) EE → PSs (X.tr pn xe) body tb)
    (hs : ∀ ev pn a oe cls H', (a, oe) ∈ pn → oe.cls = cls → EE cls none H' → PSs (X.su ev pn) (b₀ :: suite) (ts a cls)) (hdb : (x == ("__debug__" : Str)) = false := by decide) :
    PS X (.Try body [.ExceptHandler (some (.Name x np)) (some n) (b₀ :: suite) hpos] [] [] pos) (fun D σ H => tb D σ H ∧ ∀ cls H', EE cls none H' → PySem.W.exmOne X.K cls cl = some true ∧ ∀ a, ts a cls (D.off i) ((σ0 X).set i (some (.ref a))) H') := by
  intro pins s σ H D I h
  obtain ⟨h1, h2⟩ := h
  have I' := I.tr (X.pn ++ pins) (fun e s' => ∃ σ1 H1 s1, Inv X pins σ1 H1 s1 ∧ CX1 X.prog X.w X.stack H1 s1 EE e s') fun p hp => hp
  have hp : Passes (CX1 X.prog X.w) (X.tr (X.pn ++ pins) (fun e s' => ∃ σ1 H1 s1, Inv X pins σ1 H1 s1 ∧ CX1 X.prog X.w X.stack H1 s1 EE e s')) EE := fun pins0 σ1 H1 s1 e s' I1 hc => ⟨σ1, H1, s1, I1.untr fun p hp => hp, hc⟩
  refine wpAny_Try_except (wpAny_mono (hb _ _ hp [] s σ H D I' h1) (fun f s1 q => ?_) (fun ev s1 q => ?_))
  · have q' : SP X pins D f s1 := SP.untr (fun p hp => hp) q
    cases f with
    | next => exact wpAny_execs_nil q'
    | brk => exact q'
    | cont => exact q'
    | ret u => exact q'
  · obtain ⟨σ1, H1, s0, I0, hc⟩ := q
    refine try_caught hstk hfr I0 hc fun a cls a0 H' B h5 ha hq F5 I5 ho hgn => ?_
    subst ha
    obtain ⟨hx, hts⟩ := h2 cls H' hq
    obtain ⟨oe5, c1, c2, c3⟩ := exc_pin (s5 := { s1 with heap := h5 }) F5 I5
    have LT : PySem.W.Looks (model X.prog X.w) h5 (typeOf (.ref a)) cls := by
      subst c1
      exact (PySem.W.Looks.ld c2).andThen .now
    have Im := I5.su (.ref a) (X.pn ++ pins) fun p hp => .inl hp
    refine wpAny_handleBy_cons (codeAny_handlers_test (ld_glob (X := X.su (.ref a) (X.pn ++ pins)) Im hg hm ((PySem.W.exm_one I5.kIn LT hx).here ?_) hdb)) (by intro q; cases q)
    show codeAny _ _ (.handlers (.ref a) [.ExceptHandler none (some n) (b₀ :: suite) hpos] X.env) _ _
    refine codeAny_handlers_suite_as (lands_againW F5.fl fun h6 fl6 up6 => ?_)
    have F6 := F5.next I0.stkFree fl6 up6
    have I6 : Inv X pins σ1 H' { s1 with heap := h6 } := I0.call' (ch := []) ho F6.un (F6.hok.kept F6.fl.1) hgn fun b z => absurd z (by simp)
    obtain ⟨oe, d1, d2, d3⟩ := exc_pin (s5 := { s1 with heap := h6 }) F6 I6
    have J := I6.forget.su (.ref a) (X.pn ++ pins ++ [(a, oe)]) fun p hp => by
      rcases List.mem_append.mp hp with z | z
      · exact .inl z
      · rw [List.mem_singleton.mp z]
        exact .inr ⟨d2, d3⟩
    have mem : ∀ p ∈ X.pn ++ pins, p ∈ X.pn ++ pins ++ [(a, oe)] := fun p hp => List.mem_append_left _ hp
    refine store_ok (X := X.su (.ref a) (X.pn ++ pins ++ [(a, oe)])) (v := .ref a) J hN hi (.inl hk) rfl (fun s7 J7 => ?_) (.inr hk)
    refine wpAny_mono (hs (.ref a) (X.pn ++ pins ++ [(a, oe)]) a oe cls H' (List.mem_append_right _ (List.mem_singleton.mpr rfl)) d1 hq [] s7 _ H' (D.off i) J7 (hts a)) (fun f s8 q => ?_) fun _ _ z => False.elim z
    show wpAny _ _ (do bindName X.env n .none; unbindBehindTheSuite X.env n hpos) (fun _ s9 => SP X pins D f s9) _ s8
    cases f with
    | next => obtain ⟨σ', H9, I9, q⟩ := q; exact name_goes (I9.unsu I.ok.hd mem) hN hi hk fun s9 I10 => ⟨_, H9, I10, q⟩
    | brk => obtain ⟨σ', H9, I9, q⟩ := q; exact name_goes (I9.unsu I.ok.hd mem) hN hi hk fun s9 I10 => ⟨_, H9, I10, q⟩
    | cont => obtain ⟨σ', H9, I9, q⟩ := q; exact name_goes (I9.unsu I.ok.hd mem) hN hi hk fun s9 I10 => ⟨_, H9, I10, q⟩
    | ret u => obtain ⟨v, σ', H9, I9, r, q⟩ := q; exact name_goes (I9.unsu I.ok.hd mem) hN hi hk fun s9 I10 => ⟨v, _, H9, I10, r, q⟩
end
def DEnds.off (De : DEnds) (i : Nat) : DEnds := { nx := fun δ => De.nx (δ.set i .un), rt := De.rt, bk := fun δ => De.bk (δ.set i .un), ct := fun δ => De.ct (δ.set i .un) }
def gTryIf (n i : Nat) (cov : Str → Prop) (tv : Str → Bool) (gb : GX) (gs : GS) : GS := fun De δ => gb { De with xc := fun c => cov c ∧ if tv c = true then gs (De.off i) (List.replicate n .un) else De.nx ((List.replicate n Sl.un).set i .un) } δ
theorem Rep.off {K : PySem.W.Frag} {C0 H0 δ σ C H} (R : Rep K C0 H0 δ σ C H) (i : Nat) : Rep K C0 H0 (δ.set i .un) (σ.set i none) C H := by
  refine ⟨by simp [R.len], R.ext, fun j d e => ?_, fun j ds e => ?_, fun j k ds es l hjk h1 h2 h3 => ?_, R.dc.set2 rfl⟩
  · rcases getE_set e with ⟨_, z, _⟩ | ⟨hj, e⟩
    · cases z
    · obtain ⟨v, a, b⟩ := R.im j d e
      exact ⟨v, by rw [List.getElem?_set_ne (Ne.symm hj)]; exact a, b⟩
  · rcases getE_set e with ⟨_, z, _⟩ | ⟨hj, e⟩
    · cases z
    · obtain ⟨l, xs, a, b⟩ := R.ow j ds e
      exact ⟨l, xs, by rw [List.getElem?_set_ne (Ne.symm hj)]; exact a, b⟩
  · rcases getE_set h1 with ⟨_, z, _⟩ | ⟨hj, h1⟩
    · cases z
    · rcases getE_set h2 with ⟨_, z, _⟩ | ⟨hk, h2⟩
      · cases z
      · rw [List.getElem?_set_ne (Ne.symm hj)] at h3
        rw [List.getElem?_set_ne (Ne.symm hk)]
        exact R.ap j k ds es l hjk h1 h2 h3
theorem Rep.any {K : PySem.W.Frag} {C0 H0 δ σ C H} (R : Rep K C0 H0 δ σ C H) {i : Nat} {o : Option V} (h : ∀ x, δ[i]? = some x → x = .un) : Rep K C0 H0 δ (σ.set i o) C H := by
  refine ⟨by simp [R.len], R.ext, fun j d e => ?_, fun j ds e => ?_, fun j k ds es l hjk h1 h2 h3 => ?_, fun j m e => ?_, fun j m e => ?_, fun j k m n l hjk h1 h2 h3 => ?_⟩
  rotate_left 3
  · have hj : j ≠ i := fun z => by rw [z] at e; have := h _ e; cases this
    rw [List.getElem?_set_ne (Ne.symm hj)]
    exact R.dc.od j m e
  · have hj : j ≠ i := fun z => by rw [z] at e; have := h _ e; cases this
    rw [List.getElem?_set_ne (Ne.symm hj)]
    exact R.dc.fd j m e
  · have hj : j ≠ i := fun z => by rw [z] at h1; have := h _ h1; cases this
    have hk : k ≠ i := fun z => by rw [z] at h2; have := h _ h2; cases this
    rw [List.getElem?_set_ne (Ne.symm hj)] at h3
    rw [List.getElem?_set_ne (Ne.symm hk)]
    exact R.dc.ap j k m n l hjk h1 h2 h3
  · have hj : j ≠ i := fun z => by rw [z] at e; have := h _ e; cases this
    obtain ⟨v, a, b⟩ := R.im j d e
    exact ⟨v, by rw [List.getElem?_set_ne (Ne.symm hj)]; exact a, b⟩
  · have hj : j ≠ i := fun z => by rw [z] at e; have := h _ e; cases this
    obtain ⟨l, xs, a, b⟩ := R.ow j ds e
    exact ⟨l, xs, by rw [List.getElem?_set_ne (Ne.symm hj)]; exact a, b⟩
  · have hj : j ≠ i := fun z => by rw [z] at h1; have := h _ h1; cases this
    have hk : k ≠ i := fun z => by rw [z] at h2; have := h _ h2; cases this
    rw [List.getElem?_set_ne (Ne.symm hj)] at h3
    rw [List.getElem?_set_ne (Ne.symm hk)]
    exact R.ap j k ds es l hjk h1 h2 h3
theorem Adm.off {K : PySem.W.Frag} {C0 H0 : Hp} {E : Ends} {De : DEnds} (k : Adm K C0 H0 E De) (i : Nat) : Adm K C0 H0 (E.off i) (De.off i) :=
  ⟨fun δ σ C H rp q => k.nx _ _ C H (rp.off i) q, k.rt, fun δ σ C H rp q => k.bk _ _ C H (rp.off i) q, fun δ σ C H rp q => k.ct _ _ C H (rp.off i) q⟩
theorem ds_tryIf {X : Cx} {body sts : List Stmt} {test : Expr} {ipos : Pos} {x nm : Str} {cl : Value} {np hpos pos : Pos} {n i : Nat} {cov : Str → Prop} {tv : Str → Bool} {gb : GX} {gs : GS} (hn : X.N.length = n) (hstk : X.stack = X.env :: X.outer) (hfr : X.env.frame = some X.env.locals)
    (hN : X.N.Nodup) (hi : X.N[i]? = some nm) (hk : X.env.scope.names.lookup nm = some .local) (hg : Gl X x) (hm : X.mg x = some cl) (hcov : ∀ c cls, cov c → X.mg c = some cls → PySem.W.exmOne X.K cls cl = some true)
    (hb : ∀ EE pn xe, Passes (CX1 X.prog X.w) (X.tr pn xe) EE → DSsX (X.tr pn xe) EE body gb) (ht : ∀ ev pn a oe c cls, (a, oe) ∈ pn → oe.cls = cls → cov c → X.mg c = some cls → PT (X.su ev pn) test (fun σ H Q => σ[i]? = some (some (.ref a)) ∧ Q (tv c) H))
    (hs : ∀ ev pn, DSs (X.su ev pn) sts gs) (hdb : (x == ("__debug__" : Str)) = false := by decide) :
    DSt X (.Try body [.ExceptHandler (some (.Name x np)) (some nm) [.If test sts [] ipos] hpos] [] [] pos) (gTryIf n i cov tv gb gs) := by
  have hil : i < n := by rw [← hn]; exact (List.getElem?_eq_some_iff.mp hi).1
  refine ⟨fun D σ H => ∃ (C0 H0 : Hp) (De : DEnds), Adm X.K C0 H0 D De ∧ tX X.K X.mg (fun cls _ H' => ∃ c C', X.mg c = some cls ∧ cov c ∧ (if tv c = true then gs (De.off i) (List.replicate n .un) else De.nx ((List.replicate n Sl.un).set i .un)) ∧ Ext C0 H0 C' H') gb D σ H, fun pins s σ H D I q => ?_, fun C0 H0 δ σ C H De E rp g k => ?_⟩
  · obtain ⟨C0, H0, De, k, q⟩ := q
    refine ps_tryAs (EE := fun cls _ H' => ∃ c C', X.mg c = some cls ∧ cov c ∧ (if tv c = true then gs (De.off i) (List.replicate n .un) else De.nx ((List.replicate n Sl.un).set i .un)) ∧ Ext C0 H0 C' H') (ts := fun a cls D σ H => σ[i]? = some (some (.ref a)) ∧ ∃ c, cov c ∧ X.mg c = some cls ∧ if tv c = true then tSt X.K gs D σ H else D.nx σ H)
      hstk hfr hN hi hk hg hm (fun pn xe hp => (hb _ pn xe hp).can) (fun ev pn a oe cls H' hpin hcl hq => ?_) hdb pins s σ H D I ⟨q, fun cls H' hq => ?_⟩
    · intro pins s σ H D I h
      obtain ⟨h1, c, hc, hmc, h2⟩ := h
      refine pss_one (ps_if (ht ev pn a oe c cls hpin hcl hc hmc) (hs ev pn).can pss_nil) pins s σ H D I ⟨h1, ?_⟩
      cases tvc : tv c with
      | true =>
        rw [tvc, if_pos rfl] at h2
        exact iteT h2
      | false =>
        rw [tvc, if_neg Bool.false_ne_true] at h2
        exact iteF h2
    · obtain ⟨c, C', hmc, hc, hq, ex⟩ := hq
      refine ⟨hcov c cls hc hmc, fun a => ⟨?_, c, hc, hmc, ?_⟩⟩
      · unfold σ0
        rw [List.getElem?_set_self (by rw [List.length_replicate, hn]; exact hil)]
      · have rp : Rep X.K C0 H0 (List.replicate n .un) ((σ0 X).set i (some (.ref a))) C' H' := by
          unfold σ0
          rw [hn]
          refine (rep_un n ex).any fun z e => ?_
          rw [List.getElem?_replicate] at e
          split at e
          · first | (cases e; done) | (cases e; rfl)
          · first | (cases e; done) | (cases e; rfl)
        cases tvc : tv c with
        | true =>
          rw [tvc, if_pos rfl] at hq
          rw [if_pos rfl]
          exact ⟨C0, H0, _, C', De.off i, rp, hq, k.off i⟩
        | false =>
          rw [tvc, if_neg Bool.false_ne_true] at hq
          rw [if_neg Bool.false_ne_true]
          exact (k.off i).nx _ _ C' H' rp hq
  · exact ⟨C0, H0, De, k, C0, H0, δ, C, { De with xc := fun c => cov c ∧ if tv c = true then gs (De.off i) (List.replicate n .un) else De.nx ((List.replicate n Sl.un).set i .un) }, fun c cls C' H' hmc hx ex => ⟨c, C', hmc, hx.1, hx.2, ex⟩, rp, g, k⟩
end L2
namespace L2
open PySem PySem.Spec PyProof.Rows
mutual
def noL : D → Bool
  | .lst _ => false
  | .tup ds => noLs ds
  | _ => true
def noLs : List D → Bool
  | [] => true
  | d :: ds => noL d && noLs ds
end
section
variable {X : Cx} {e : Expr} {ge : GE} {gt : GT} {gf : GF}
def gPeek (i : Nat) (ge : GE) : GE := fun δ Q => match δ[i]? with
  | some (.ow ds) => ge (δ.set i (.im (.lst ds))) fun d => noL d = true ∧ Q d
  | _ => False
def gPeekT (i : Nat) (gt : GT) : GT := fun δ Q => match δ[i]? with
  | some (.ow ds) => gt (δ.set i (.im (.lst ds))) Q
  | _ => False
def gPeekF (i : Nat) (gf : GF) : GF := fun δ Q => match δ[i]? with
  | some (.ow ds) => gf (δ.set i (.im (.lst ds))) fun es => noLs es = true ∧ Q es
  | _ => False
end
end L2
namespace L2
open PySem PySem.Spec PyProof.Rows
section
variable {X : Cx} {st : Stmt} {i : Nat} {gf : GF} {tg iter elt : Expr} {pos : Pos} {ge : GE} {gi : GF} {gt : GT} {gg : GG} {scope : Scope} {Nc : List Str} {fr : List (Option Nat)} {ss : List Nat}
end
end L2
namespace L2
open PySem PySem.Spec PyProof.Rows
def rowD : D → Option (List Int)
  | .tup ds => intsD ds
  | _ => none
def rowsD : List D → Option (List (List Int))
  | [] => some []
  | d :: ds => match rowD d, rowsD ds with
    | some r, some rs => some (r :: rs)
    | _, _ => none
def meetOf : D → Option (List Int × List (List Int))
  | .tup [a, .tup ps] => match rowD a, rowsD ps with
    | some ns, some pay => some (ns, pay)
    | _, _ => none
  | _ => none
theorem rowD_of (r : List Int) : rowD (dInts r) = some r := ints_map r
theorem rowD_eq {d : D} {r : List Int} (h : rowD d = some r) : d = dInts r := by
  unfold rowD at h
  split at h
  · rw [ints_eq h]
  · cases h
theorem rowsD_of : ∀ rs : List (List Int), rowsD (rs.map dInts) = some rs
  | [] => rfl
  | r :: rs => by rw [List.map_cons, rowsD, rowD_of, rowsD_of rs]
theorem rowsD_eq : ∀ {ds : List D} {rs : List (List Int)}, rowsD ds = some rs → ds = rs.map dInts
  | [], rs, h => by cases h; rfl
  | d :: ds, rs, h => by
    unfold rowsD at h
    split at h
    · rename_i r rs' e1 e2
      cases h
      rw [rowD_eq e1, rowsD_eq e2]
      rfl
    · cases h
theorem meetOf_of (ns : List Int) (pay : List (List Int)) : meetOf (meetD ns pay) = some (ns, pay) := by
  unfold meetD meetOf
  simp only [rowD_of, rowsD_of]
theorem meetOf_eq {d : D} {ns : List Int} {pay : List (List Int)} (h : meetOf d = some (ns, pay)) : d = meetD ns pay := by
  unfold meetOf at h
  split at h
  · split at h
    · rename_i e1 e2
      cases h
      rw [rowD_eq e1, rowsD_eq e2]
    · cases h
  · cases h
open Classical in
noncomputable def onMeet (m : D) (f : List Int → List (List Int) → Option D) : Option D := match meetOf m with
  | some (ns, pay) => if MeetOk ns pay then f ns pay else none
  | none => none
theorem onMeet_of {ns : List Int} {pay : List (List Int)} {f : List Int → List (List Int) → Option D} (h : MeetOk ns pay) : onMeet (meetD ns pay) f = f ns pay := by
  unfold onMeet
  rw [meetOf_of]
  exact if_pos h
theorem onMeet_eq {m d : D} {f : List Int → List (List Int) → Option D} (h : onMeet m f = some d) : ∃ ns pay, m = meetD ns pay ∧ MeetOk ns pay ∧ f ns pay = some d := by
  unfold onMeet at h
  split at h
  · rename_i ns pay e
    split at h
    · rename_i ho
      exact ⟨ns, pay, meetOf_eq e, ho, h⟩
    · cases h
  · cases h
end L2
namespace L2
open PySem PySem.Spec PyProof.Rows
theorem eqD_int (i j : Int) : eqD (.int i) (.int j) = some (i == j) := by unfold eqD; rfl
section
variable {ns : List Int} {pay : List (List Int)} {r : List Int} {h : Nat}
end
end L2
namespace L2
open PySem PySem.Spec PyProof.Rows
section
variable {X : Cx}
end
end L2
namespace L2
open PySem PySem.Spec PyProof.Rows
section
variable {κ : Type} [DecidableEq κ]
end
section
variable {K : PySem.W.Frag} {f : Nat → Bool} {H : Hp} {kvs : List (NK × V)} {xs : List (NK × Addr × Value)}
end
section
variable {P : Program} {w : World} {H : Hp} {h : Heap} {a : Addr}
end
section
variable {X : Cx} {pins : List (Addr × Obj)} {σ : St} {H : Hp} {s : Shared} {a : Addr}
end
section
variable {X : Cx} {pins : List (Addr × Obj)} {σ : St} {H : Hp} {s : Shared} {a : Addr} {y v : V} {u r : Value} {o : Option V} {A : Around} {E : Value → Shared → Prop}
end
section
variable {X : Cx} {pins : List (Addr × Obj)} {σ : St} {H : Hp} {s : Shared} {a : Addr} {kvs : List (Key × V)} {k : Key} {u : Value} {A : Around} {E : Value → Shared → Prop}
end
section
variable {X : Cx} {o i e value : Expr} {pos pos' tpos : Pos} {td ty tv : TE}
end
section
variable {X : Cx} {pos : Pos}
end
section
variable {X : Cx} {pins : List (Addr × Obj)} {σ : St} {H : Hp} {s : Shared} {a : Addr} {y d : V} {u r : Value} {o : Option V} {A : Around} {E : Value → Shared → Prop}
end
section
variable {X : Cx} {o e f : Expr} {apos cpos : Pos} {td ty tx : TE}
end
section
variable {X : Cx} {pins : List (Addr × Obj)} {σ : St} {H : Hp} {s : Shared} {a : Addr} {kvs : List (Key × V)} {A : Around} {E : Value → Shared → Prop}
end
section
variable {X : Cx} {pins : List (Addr × Obj)} {σ : St} {H : Hp} {s : Shared} {a : Addr} {y : V} {u : Value} {A : Around} {E : Value → Shared → Prop}
end
end L2
namespace L2
open PySem PySem.Spec PyProof.Rows
section
variable {X : Cx} {tg a : Expr} {ga : GE} {pos : Pos}
end
section
variable {X : Cx} {tg a : Expr} {ga : GE} {pos : Pos}
end
end L2
namespace L2
open PySem PySem.Spec PyProof.Rows
section
variable {κ κ' : Type} [DecidableEq κ] [DecidableEq κ']
end
theorem pair_not {i : Int} {r : List Int} : intsD [.int i, .tup (r.map D.int)] = none := rfl
section
variable {K : PySem.W.Frag} {C0 H0 C H C1 H1 : Hp} {δ : DS} {σ : St}
end
end L2
namespace L2
open PySem PySem.Spec PyProof.Rows
section
variable {X : Cx} {a b c e f o : Expr} {es : List Expr} {pos : Pos} {ga gk gd gv : GE} {gA : GF}
end
section
variable {X : Cx} {sts : List Stmt} {g1 : GS} {tg : Expr} {pos : Pos}
end
section
variable {X : Cx} {tg : Expr} {pos : Pos}
end
end L2
namespace L2
open PySem PySem.Spec PyProof.Rows
theorem bt_ValueError : bootBuiltins "ValueError" = some (.type "ValueError") := by decide +kernel
section
variable {X : Cx} {a : Addr} {oe : Obj} {C Nn : Addr} {i : Nat} {n y1 y2 : Str} {p1 p2 p3 q1 q2 q3 r1 r2 r3 s1 s2 s3 u pos : Pos}
theorem pt_three (hp : (a, oe) ∈ X.pn) (hc : oe.cls = .ref C) (T : XCls X.K C) (m1 : X.mg y1 = some (.ref C)) (m2 : X.mg y2 = some (.ref Nn)) (m3 : X.mg "ValueError" = none) (m4 : X.mg "isinstance" = none)
    (k1 : PySem.W.kitOne X.K (.ref C) (.ref C) = some true) (k2 : PySem.W.kitOne X.K (.ref C) (.ref Nn) = some false) (k3 : PySem.W.kitOne X.K (.ref C) (.type "ValueError") = some true)
    (hn : ∀ p, PE X (.Name n p) (tVar i)) (g1 : Gl X y1) (g2 : Gl X y2) (g3 : Gl X "ValueError") (g4 : Gl X "isinstance") (b1 : (y1 == ("__debug__" : Str)) = false := by decide) (b2 : (y2 == ("__debug__" : Str)) = false := by decide)
    (e1 : ∀ p y q, starEach [.Name n p, .Name y q] X.env = [(false, eval (.Name n p) X.env), (false, eval (.Name y q) X.env)] := by intros; rfl) (e2 : ∀ y q, starEach [.Name y q] X.env = [(false, eval (.Name y q) X.env)] := by intros; rfl) :
    PT X (.BoolOp .And [.Call (.Name "isinstance" p1) [.Name n q1, .Name y1 r1] [] s1, .UnaryOp .Not (.Call (.Name "isinstance" p2) [.Name n q2, .Name y2 r2] [] s2) u, .Call (.Name "isinstance" p3) [.Name n q3, .Name "ValueError" r3] [] s3] pos) (fun σ H Q => σ[i]? = some (some (.ref a)) ∧ Q true H) := by
  have call : ∀ {y : Str} {p q r s : Pos} {t : TA} {rr : List V → Hp → VK → Prop}, CallR X (.builtin "isinstance") rr → PA X [.Name n q, .Name y r] t → PE X (.Call (.Name "isinstance" p) [.Name n q, .Name y r] [] s) (tCB rr t) := fun h1 h2 => pe_callB h1 g4 m4 bt_isinstance h2
  have pa : True := trivial
  have A1 : PT X (.Call (.Name "isinstance" p1) [.Name n q1, .Name y1 r1] [] s1) (fun σ H Q => σ[i]? = some (some (.ref a)) ∧ Q true H) := pt_isx (vy := .ref C) hp hc T rfl k1 (fun _ z => z) (hn q1) (pe_glob g1 m1 rfl b1) call
  have A2 : PT X (.Call (.Name "isinstance" p2) [.Name n q2, .Name y2 r2] [] s2) (fun σ H Q => σ[i]? = some (some (.ref a)) ∧ Q false H) := pt_isx (vy := .ref Nn) hp hc T rfl k2 (fun _ z => z) (hn q2) (pe_glob g2 m2 rfl b2) call
  have A3 : PT X (.Call (.Name "isinstance" p3) [.Name n q3, .Name "ValueError" r3] [] s3) (fun σ H Q => σ[i]? = some (some (.ref a)) ∧ Q true H) := pt_isx (vy := .ty "ValueError") hp hc T rfl k3 (fun _ z => z) (hn q3) (pe_bltn g3 m3 bt_ValueError rfl) call
  have W := (pw_and A1 (pw_and (pt_not A2) (pw_and1 A3))).pt (X := X) (e := .BoolOp .And [.Call (.Name "isinstance" p1) [.Name n q1, .Name y1 r1] [] s1, .UnaryOp .Not (.Call (.Name "isinstance" p2) [.Name n q2, .Name y2 r2] [] s2) u, .Call (.Name "isinstance" p3) [.Name n q3, .Name "ValueError" r3] [] s3] pos)
  intro pins s σ H Q I q
  exact W pins s σ H Q I ⟨q.1, iteT ⟨q.1, iteT ⟨q.1, q.2⟩⟩⟩
end
end L2
namespace L2
open PySem PySem.Spec PyProof.Rows
abbrev GFX := DS → (Str → Prop) → (List D → Prop) → Prop
def DAx (X : Cx) (EE : XK) (es : List Expr) (g : GFX) : Prop := ∃ t, PA X es t ∧ ∀ C0 H0 δ σ C H (xc : Str → Prop) (Q : List D → Prop) (R : List V → Hp → Prop), Tells X EE C0 H0 xc → Rep X.K C0 H0 δ σ C H → g δ xc Q → (∀ ds vs C1 H1, Q ds → Ext C H C1 H1 → Dens X.K C1 vs ds → R vs H1) → t σ H R
section
variable {X : Cx} {EE : XK} {e : Expr} {es : List Expr} {pos : Pos} {ge : GE} {gx : GEX} {gs : GFX}
def gNilX : GFX := fun _ _ Q => Q []
theorem dax_nil : DAx X EE [] gNilX := ⟨_, pa_nil, fun C0 H0 δ σ C H xc Q R te rp g k => k [] [] C H g (Ext.refl rp.ch) .nil⟩
def gConsX (gx : GEX) (gs : GFX) : GFX := fun δ xc Q => gx δ xc fun d => gs δ xc fun ds => Q (d :: ds)
theorem dax_cons (ha : DEx X EE e gx) (hr : DAx X EE es gs) (hs : starEach (e :: es) X.env = (false, eval e X.env) :: starEach es X.env := by rfl) : DAx X EE (e :: es) (gConsX gx gs) := by
  obtain ⟨t1, p1, h1⟩ := ha
  obtain ⟨t2, p2, h2⟩ := hr
  refine ⟨_, pa_cons p1 p2 hs, fun C0 H0 δ σ C H xc Q R te rp g k => h1 C0 H0 δ σ C H _ _ _ te rp g fun d v C1 H1 q e1 n1 => ?_⟩
  exact h2 C0 H0 δ σ C1 H1 _ _ _ te (rp.grow e1) q fun ds vs C2 H2 q2 e2 n2 => k (d :: ds) (v :: vs) C2 H2 q2 (e1.trans e2) (.cons (n1.mono e2.cc) n2)
end
end L2
namespace L2
open PySem PySem.Spec PyProof.Rows
def AnyW (base : Heap) (l : List Env) (e : Addr) (cls a0 : Value) (h : Heap) : Prop := base.StaysIn h ∧ base.get? e = none ∧ h.FunFrames base l ∧ ∃ fl, h.TracedAtW base e cls a0 fl
theorem fun_base {h base base' : Heap} (hb : ∀ b, base.get? b = none → base'.get? b = none) : ∀ {l : List Env}, h.FunFrames base l → h.FunFrames base' l
  | [], _ => trivial
  | env :: rest, x => by
    obtain ⟨h1, ⟨L, o, f1, f2, f3, f4⟩, r⟩ := x
    exact ⟨h1, ⟨L, o, f1, hb L f2, f3, f4⟩, fun_base hb r⟩
theorem fun_keep {h h' base : Heap} {l : List Env} (x : h.FunFrames base l) (k : h.UpToSlots h') : h'.FunFrames base l := x.of_keeps fun b o e n => by
  obtain ⟨sl, q⟩ := k b o e n
  exact ⟨_, q, rfl⟩
section
variable {M : Model} {A : Around} {E : Value → Shared → Prop} {s : Shared} {base : Heap} {l : List Env} {e : Addr} {cls a0 : Value}
theorem wp_flight {fo : Option Addr} {Q : Unit → Shared → Prop} (hx : AnyW base l e cls a0 s.heap) (h : ∀ h', AnyW base l e cls a0 h' → s.heap.UpToSlots h' → Q () { s with heap := h' }) : wpAny M A (setFlight (.ref e) fo) Q E s := by
  obtain ⟨x1, x2, x3, fl, oe, vs, T, oT, ts, he, hc, hd, h1, hn, hTe, hT, hdT, h3⟩ := hx
  have lt := (Array.getElem?_eq_some_iff.mp h3).1
  unfold setFlight
  refine wpAny_bind (wpAny_field he hd h1 ?_)
  rw [if_pos (show (Value.ref T != Value.none) = true by simp)]
  generalize hv : (fo.elim Value.none fun f => rawInt f) = v
  have far : ∀ b, b ≠ T → (s.heap.update T (Obj.mapFields (·.setIfInBounds 3 v))).get? b = s.heap.get? b := fun b hb => Heap.get?_update_other _ _ (Ne.symm hb)
  have up : s.heap.UpToSlots (s.heap.update T (Obj.mapFields (·.setIfInBounds 3 v))) := fun b o q nf => by
    refine ⟨o.slots, (far b fun z => ?_).trans q⟩
    rw [z, hT] at q
    cases q
    exact nf ts hdT
  refine wpAny_setField hT hdT lt (h _ ⟨fun b o q => (far b fun z => ?_).trans (x1 b o q), x2, fun_keep x3 up, v, oe, vs, T, _, _, (far e (Ne.symm hTe)).trans he, hc, hd, h1, hn, hTe, Heap.get?_update_self _ hT (Obj.isFreed_of_fields (Obj.data_mapFields hdT _)), Obj.data_mapFields hdT _, ?_⟩ up)
  · rw [z, hn] at q
    cases q
  · simp [lt]
theorem wp_pass {what : String} {env : Env} {α : Type} {Q : α → Shared → Prop} (hx : AnyW base l e cls a0 s.heap) (h : ∀ h', AnyW base l e cls a0 h' → s.heap.UpToSlots h' → E (.ref e) { s with heap := h' }) : wpAny M A (PySem.passOn what (.ref e) env : Sem α) Q E s := by
  have hx' := hx
  obtain ⟨x1, x2, x3, fl, oe, vs, T, oT, ts, he, hc, hd, h1, hn, hTe, hT, hdT, h3⟩ := hx'
  unfold PySem.passOn
  refine wpAny_bind (wpAny_field he hd h1 ?_)
  rw [if_neg (show ¬ ((Value.ref T == Value.none) = true) by simp)]
  have fin : wpAny M A (setFlight (.ref e) env.frame >>= fun _ => (throw (Value.ref e) : Sem α)) Q E s := wpAny_bind (wp_flight hx fun h' a b => wpAny_throw (h h' a b))
  first
    | exact wpAny_bind (wpAny_pure fin)
    | exact fin
theorem wp_leave {env : Env} {outer : List Env} {L : Addr} {Q : Unit → Shared → Prop} (hfr : A.frames = some (env :: outer)) (hf : env.frame = some L) (hx : AnyW base (env :: outer) e cls a0 s.heap)
    (hQ : ∀ h', Heap.FlyingW base outer e cls a0 h' → s.heap.UpToSlots h' → Q () { s with heap := h' }) : wpAny M A (leaving env (.ref e)) Q E s := by
  obtain ⟨x1, x2, x3, fl, ht⟩ := hx
  have land : ∀ h1 : Heap, s.heap.UpToSlots h1 → Heap.HeldW base (env :: outer) e cls a0 L h1 → wpAny M A (setFlight (.ref e) none) Q E { s with heap := h1 } := fun h1 u1 hh => by
    refine wpAny_landsW (s := { s with heap := h1 }) hh fun h' hfl u2 => ?_
    obtain ⟨k1, k2, ⟨_, _, k3⟩, k4⟩ := hfl
    exact hQ h' ⟨k1, k2, k3, k4⟩ (u1.trans u2)
  by_cases hfl : fl = rawInt L
  · subst hfl
    unfold leaving
    exact wpAny_bind (wpAny_noteFrame_againW hf ht (land _ (Heap.UpToSlots.refl _) ⟨x1, x2, x3, ht⟩))
  · obtain ⟨oe, vs, T, oT, ts, he, ⟨hc, h0⟩, hd, h1, hn, hTe, hT, hdT, h3⟩ := ht
    subst hc
    have lt := (Array.getElem?_eq_some_iff.mp h3).1
    have far : ∀ b, b ≠ T → (s.heap.update T (Obj.mapFields (·.setIfInBounds 3 Value.none))).get? b = s.heap.get? b := fun b hb => Heap.get?_update_other _ _ (Ne.symm hb)
    have up : s.heap.UpToSlots (s.heap.update T (Obj.mapFields (·.setIfInBounds 3 Value.none))) := fun b o q nf => by
      refine ⟨o.slots, (far b fun z => ?_).trans q⟩
      rw [z, hT] at q
      cases q
      exact nf ts hdT
    unfold leaving noteFrame
    simp only [hf]
    refine wpAny_bind (wpAny_bind (wpAny_field he hd h1 ?_))
    rw [if_pos (show (Value.ref T != Value.none) = true by simp)]
    refine wpAny_bind (wpAny_field hT hdT h3 ?_)
    rw [if_neg (show ¬ ((fl == rawInt L) = true) by simpa using hfl)]
    refine wpAny_bind (wpAny_setField hT hdT lt ?_)
    refine wpAny_entryW hfr (fun_keep x3 up) hf ((far e (Ne.symm hTe)).trans he) (fun b o q => (far b fun z => ?_).trans (x1 b o q)) x2 hd (Array.getElem?_eq_some_iff.mp h1).1 h0 fun h' hN => ?_
    · rw [z, hn] at q
      cases q
    · obtain ⟨k1, k2, k3, k4⟩ := hN
      exact land h' (up.trans k4) ⟨k1, x2, k2, k3⟩
end
end L2
namespace L2
open PySem PySem.Spec PyProof.Rows
theorem fun_same {h h' base : Heap} : ∀ {l : List Env}, h.FunFrames base l → (∀ b ∈ frs l, h'.get? b = h.get? b) → h'.FunFrames base l
  | [], _, _ => trivial
  | env :: rest, x, k => by
    obtain ⟨h1, ⟨L, o, f1, f2, f3, f4⟩, r⟩ := x
    have m1 : L ∈ frs (env :: rest) := List.mem_filterMap.mpr ⟨env, List.mem_cons_self, f1⟩
    refine ⟨h1, ⟨L, o, f1, f2, (k L m1).trans f3, f4⟩, fun_same r fun b hb => k b ?_⟩
    obtain ⟨env', he, q⟩ := List.mem_filterMap.mp hb
    exact List.mem_filterMap.mpr ⟨env', List.mem_cons_of_mem _ he, q⟩
section
variable {P : Program} {w : World} {K : PySem.W.Frag} {mg : Str → Option Value} {base : Heap} {N : List Str} {qual : Str} {scope0 : Scope} {f : Addr} {cd : Value} {A : Around} {outer : List Env} {s : Shared} {H : Hp} {E : XK}
theorem leave_comp {scope : Scope} {Nc : List Str} {C : Addr} {pins pins' : List (Addr × Obj)} {fp : List Addr} {σ σ' : St} {H2 H3 : Hp} {s2 s3 s' : Shared} {e acc : Value} {Q : Value → Shared → Prop} {E0 : Value → Shared → Prop}
    (I3 : Inv (cx1 P w K mg base N qual scope0 f cd A outer s H E) pins σ H3 s3) (hfp : ∀ b ∈ fp, FpOk (cx1 P w K mg base N qual scope0 f cd A outer s H E) pins H3 b) (hC : s3.heap.objs.size ≤ C)
    (Ic : Inv (cxC (cx1 P w K mg base N qual scope0 f cd A outer s H E) scope Nc C pins fp s3 H3) pins' σ' H2 s2) (hc : CX1 P w (cx1 P w K mg base N qual scope0 f cd A outer s H E).stack H2 s2 E e s') :
    wpAny (model P w) (cx1 P w K mg base N qual scope0 f cd A outer s H E).A (noteFrame e (cx1 P w K mg base N qual scope0 f cd A outer s H E).env)
      (fun _ s'' => compPost (model P w) (cx1 P w K mg base N qual scope0 f cd A outer s H E).A (cx1 P w K mg base N qual scope0 f cd A outer s H E).xe none Q acc C (.error e) s'') E0 s' := by
  obtain ⟨a, cls, a0, H', B, rfl, ho, hg, F, hq⟩ := hc
  have cst : C ∉ frs (cx1 P w K mg base N qual scope0 f cd A outer s H E).stack := fun z => by
    rcases List.mem_cons.mp (I3.stkSub C z) with q | q
    · have := I3.lt
      rw [← q] at this
      exact absurd (Nat.lt_of_lt_of_le this hC) (Nat.lt_irrefl _)
    · exact I3.nofs hC q
  have hCn : H2 C = none := Ic.free
  obtain ⟨m, hnC, _⟩ := Ic.loc
  have hnC' : s2.heap.Ns C m := hnC
  obtain ⟨oC, es, ep, eC, dC, rC⟩ := hnC'
  have eC' : s'.heap.get? C = some oC := F.un.keep C oC eC hCn cst (nomem C)
  obtain ⟨oB, eB⟩ := F.kt C oC eC cst
  have hC' : H' C = none := F.un.free C oC eC hCn (nomem C)
  refine wpAny_looks_onW I3.ok.frames rfl F.fl fun h4 hh u4 => ?_
  obtain ⟨k1, k2, k3, k4⟩ := hh
  refine ⟨m, u4.ns ⟨oC, es, ep, eC', dC, rC⟩, fun h5 sb cenv' hl => ?_⟩
  have bn : ∀ b, B.get? b = none → (PySem.W.hideAll B [C]).get? b = none := fun b q => by
    cases z : (PySem.W.hideAll B [C]).get? b with
    | none => rfl
    | some o => rw [PySem.W.of_hideAll _ z] at q; cases q
  have bC : ∀ b o, (PySem.W.hideAll B [C]).get? b = some o → b ≠ C := fun b o q z => by
    rw [z, PySem.W.hideAll_none [C] (List.mem_singleton.mpr rfl)] at q
    cases q
  have aC : a ≠ C := fun z => by rw [z, eB] at k2; cases k2
  have x5 : AnyW (PySem.W.hideAll B [C]) (cx1 P w K mg base N qual scope0 f cd A outer s H E).stack a cls a0 h5 := by
    obtain ⟨oe, vs, T, oT, ts, t1, t2, t3, t4, t5, t6, t7, t8, t9⟩ := k4
    have TC : T ≠ C := fun z => by rw [z, eB] at t5; cases t5
    exact ⟨fun b o q => (sb.2 b (bC b o q)).trans (k1 b o (PySem.W.of_hideAll _ q)), bn a k2, fun_base bn (fun_same k3 fun b hb => sb.2 b fun z => cst (z ▸ hb)), _, oe, vs, T, oT, ts, (sb.2 a aC).trans t1, t2, t3, t4, bn T t5, t6, (sb.2 T TC).trans t7, t8, t9⟩
  refine wp_pass x5 fun h6 x6 u6 => ?_
  refine wp_leave I3.ok.frames rfl x6 fun h7 fl7 u7 => ?_
  have nfp : ∀ b o, s.heap.get? b = some o → b ∉ fp := fun b o q hb => by
    rcases (hfp b hb).2.2.2.1 with z | z
    · exact absurd z (nomem b)
    · exact absurd (Nat.lt_of_lt_of_le (Heap.lt_size q) z) (Nat.lt_irrefl _)
  have nC : ∀ b o, s.heap.get? b = some o → b ∉ [C] := fun b o q hb => by
    have z := List.mem_singleton.mp hb
    subst z
    exact absurd (Nat.lt_of_lt_of_le (Heap.lt_size q) (Nat.le_trans I3.sz hC)) (Nat.lt_irrefl _)
  have f2 : ∀ b o, s.heap.get? b = some o → H b = none → H2 b = none := fun b o q n => by
    obtain ⟨o1, e1⟩ := I3.base.there b o q (nomem b)
    exact Ic.base.free b o1 e1 (I3.base.free b o q n (nomem b)) (nfp b o q)
  have th : ∀ b o, s.heap.get? b = some o → ∃ o2, s2.heap.get? b = some o2 := fun b o q => by
    obtain ⟨o1, e1⟩ := I3.base.there b o q (nomem b)
    exact Ic.base.there b o1 e1 (nfp b o q)
  have kb : ∀ b o, s.heap.get? b = some o → H b = none → b ∉ frs outer → (PySem.W.hideAll B [C]).get? b = some o := fun b o q n hb => by
    have e1 := I3.base.keep b o q n hb (nomem b)
    have ns := own_new I3 q hb
    have e2 := Ic.base.keep b o e1 (I3.base.free b o q n (nomem b)) ns (nfp b o q)
    exact PySem.W.hideAll_get [C] (F.kb b o e2 (f2 b o q n) ns) (nC b o q)
  have kt : ∀ b o, s.heap.get? b = some o → b ∉ frs outer → ∃ o', (PySem.W.hideAll B [C]).get? b = some o' := fun b o q hb => by
    obtain ⟨o2, e2⟩ := th b o q
    obtain ⟨o3, e3⟩ := F.kt b o2 e2 (own_new I3 q hb)
    exact ⟨o3, PySem.W.hideAll_get [C] e3 (nC b o q)⟩
  have hok : HOk P w H' (PySem.W.hideAll B [C]) := fun c u q => by
    refine (F.hok c u q).stay (fun b u' hb z => PySem.W.hideAll_get [C] z fun z2 => ?_) (fun _ z => z) (fun _ _ z => z) fun _ _ _ z => z
    have z3 := List.mem_singleton.mp z2
    subst z3
    rcases hb with rfl | hb
    · rw [hC'] at q; cases q
    · rw [hC'] at hb; cases hb
  refine ⟨a, cls, a0, H', PySem.W.hideAll B [C], rfl, ho.trans (Ic.os.trans I3.os), hg, ⟨un_of (fun b o q n => ?_) (fun b xs q => F.un.tups b xs (Ic.base.tups b xs (I3.base.tups b xs q))) (fun b o u q => F.un.frzs b o u (Ic.base.frzs b o u (I3.base.frzs b o u q))) (fun b ps q => ?_) kb kt fl7.1 (fun b o q hb n => ?_) I3.ok.frf, kb, kt, hok, fl7⟩, hq⟩
  · obtain ⟨o2, e2⟩ := th b o q
    exact F.un.free b o2 e2 (f2 b o q n) (nomem b)
  · obtain ⟨m1, e1⟩ := I3.base.tbls b ps q
    obtain ⟨m2, e2⟩ := Ic.base.tbls b _ e1
    obtain ⟨m3, e3⟩ := F.un.tbls b _ e2
    exact ⟨m1 ++ m2 ++ m3, by rw [e3, Array.append_assoc, Array.append_assoc, Array.append_assoc]⟩
  · obtain ⟨sl1, e1⟩ := I3.base.slot b o q n hb (nomem b)
    have hb' : b ∈ frs (cx1 P w K mg base N qual scope0 f cd A outer s H E).stack := List.mem_cons_of_mem _ hb
    obtain ⟨sl2, e2⟩ := Ic.base.slot b _ e1 (I3.base.free b o q n (nomem b)) hb' (nfp b o q)
    obtain ⟨sl3, e3⟩ := F.un.slot b _ e2 (f2 b o q n) hb' (nomem b)
    obtain ⟨_, o4, e4, nf⟩ := F.fl.2.2.1.mem hb'
    rw [e3] at e4
    cases e4
    obtain ⟨sl4, e5⟩ := u4 b _ e3 nf
    have e6 := (sb.2 b fun z => cst (z ▸ hb')).trans e5
    obtain ⟨sl5, e7⟩ := u6 b _ e6 nf
    obtain ⟨sl6, e8⟩ := u7 b _ e7 nf
    exact ⟨sl6, e8⟩
end
end L2
namespace L2
open PySem PySem.Spec PyProof.Rows
section
variable {prog : Program} {w : World} {A : Around} {R : Result → Shared → Prop} {s : Shared}
theorem comp_loopX {elt target iter : Expr} {scope : Scope} {pos : Pos} {it acc : Value} {env : Env} (I : Nat → Shared → Prop)
    (turn : ∀ n s, I n s → wpAny (model prog w) A (pyNext it) (fun r s₁ => match r with
      | none => R (.ok .next) s₁
      | some v => wpAny (model prog w) A (letOwnedTupleGo target it v) (fun _ s₂ => wpAny (model prog w) A (assign target env v) (fun _ s₃ =>
          wpAny (model prog w) A (eval elt env) (fun x s₅ =>
              wpAny (model prog w) A (call (.builtin "list.append") [acc, x]) (fun _ s₆ => ∃ m, m < n ∧ I m s₆) (fun _ _ => False) s₅) (notedBy (model prog w) A env fun x s' => R (.error x) s') s₃) (fun _ _ => False) s₂) (fun _ _ => False) s₁) (fun _ _ => False) s)
    (n : Nat) (h : I n s) :
    codeAny (model prog w) A (.compLoop (.ListComp elt [⟨target, iter, [], 0⟩] scope pos) 0 it acc env) R s := by
  refine codeAny_loop rfl I (fun n s hI => ?_) n h
  refine wpAny_noted (m := compTurn (.ListComp elt [⟨target, iter, [], 0⟩] scope pos) 0 it acc env) (env := env) ?_
  rw [compTurn_list]
  have no : ∀ {E : Value → Shared → Prop} (e : Value) (s : Shared), False → E e s := fun _ _ f => f.elim
  refine wpAny_bind (wpAny_standAt (wpAny_bind (wpAny_mono (turn n s hI) (fun r s₁ h₁ => ?_) no)))
  cases r with
  | none => exact wpAny_pure h₁
  | some v =>
    refine wpAny_bind (wpAny_mono h₁ (fun _ s₂ h₂ => ?_) no)
    refine wpAny_bind (wpAny_mono h₂ (fun _ s₃ h₃ => ?_) no)
    refine wpAny_bind (wpAny_tests_nil ?_)
    refine wpAny_bind (wpAny_bind (wpAny_mono h₃ (fun x s₅ h₅ => ?_) fun _ _ z => z))
    exact wpAny_bind (wpAny_mono h₅ (fun _ s₆ h₆ => wpAny_pure (wpAny_pure ⟨rfl, h₆⟩)) no)
end
def xeC (X : Cx) (scope : Scope) (Nc : List Str) (Cc : Addr) (pins : List (Addr × Obj)) (fp : List Addr) (s3 : Shared) (H3 : Hp) (EE : XK) : Value → Shared → Prop := fun e s' => ∃ pins' σ' H2 s2, Inv (cxC X scope Nc Cc pins fp s3 H3) pins' σ' H2 s2 ∧ CX1 X.prog X.w X.stack H2 s2 EE e s'
abbrev cxX (X : Cx) (scope : Scope) (Nc : List Str) (Cc : Addr) (pins : List (Addr × Obj)) (fp : List Addr) (s3 : Shared) (H3 : Hp) (EE : XK) : Cx := (cxC X scope Nc Cc pins fp s3 H3).wish (xeC X scope Nc Cc pins fp s3 H3 EE)
theorem passX {X : Cx} {scope : Scope} {Nc : List Str} {Cc : Addr} {pins : List (Addr × Obj)} {fp : List Addr} {s3 : Shared} {H3 : Hp} {EE : XK} : Passes (CX1 X.prog X.w) (cxX X scope Nc Cc pins fp s3 H3 EE) EE :=
  fun pins' σ' H2 s2 e s' I hc => ⟨pins', σ', H2, s2, I.unwish, hc⟩
def ThruC (X : Cx) (EE : XK) : Prop := ∀ (scope : Scope) (Nc : List Str) (C : Addr) (pins : List (Addr × Obj)) (fp : List Addr) (σ : St) (H3 : Hp) (s3 s' : Shared) (e acc : Value) (Q : Value → Shared → Prop) (E0 : Value → Shared → Prop),
  Inv X pins σ H3 s3 → (∀ b ∈ fp, FpOk X pins H3 b) → s3.heap.objs.size ≤ C → xeC X scope Nc C pins fp s3 H3 EE e s' →
    wpAny (model X.prog X.w) X.A (noteFrame e X.env) (fun _ s'' => compPost (model X.prog X.w) X.A X.xe none Q acc C (.error e) s'') E0 s'
theorem thru1 {P : Program} {w : World} {K : PySem.W.Frag} {mg : Str → Option Value} {base : Heap} {N : List Str} {qual : Str} {scope0 : Scope} {f : Addr} {cd : Value} {A : Around} {outer : List Env} {s : Shared} {H : Hp} {E : XK} : ThruC (cx1 P w K mg base N qual scope0 f cd A outer s H E) E := by
  intro scope Nc C pins fp σ H3 s3 s' e acc Q E0 I3 hfp hC h
  obtain ⟨pins', σ', H2, s2, Ic, hc⟩ := h
  exact leave_comp I3 hfp hC Ic hc
section
variable {X : Cx} {EE : XK} {scope : Scope} {Nc : List Str} {fr : List (Option Nat)} {pins : List (Addr × Obj)} {σ : St} {H : Hp} {s : Shared} {fp : List Addr}
theorem comp_coreX {tg elt iter : Expr} {pos : Pos} {g : TG} {te : TE} {J : It} {it : Addr} {tn : Nat → Heap → Prop} {Q : VK} {E : Value → Shared → Prop} (th : ThruC X EE) (ok : CompOk X.env.scope scope X.N Nc fr) (hc : X.calm = true)
    (hg : ∀ Cc pins fp s3 H3, PG (cxC X scope Nc Cc pins fp s3 H3) tg g) (he : ∀ Cc pins fp s3 H3, PE (cxX X scope Nc Cc pins fp s3 H3 EE) elt te)
    (I : Inv X pins σ H s) (T : Turn X.prog X.w X.K tg J fp it tn) (st : tn 0 s.heap) (hf : ∀ b ∈ fp, FpOk X pins H b) (w : ∀ D, H D = none → tTurns J (σc fr σ) g tTrue te D H Q) :
    wpAny (model X.prog X.w) X.A (newList []) (fun acc s₃ => wpAny (model X.prog X.w) X.A (newFunctionEnv scope X.env.globals (clOf X.env scope.names []) [] X.env.qual none .none (some X.env)) (fun cenv s₄ =>
      codeAny (model X.prog X.w) X.A (.compStart (.ListComp elt [⟨tg, iter, [], 0⟩] scope pos) 0 (.ref it) acc { cenv with scope := relabel scope X.env }) (compPost (model X.prog X.w) X.A X.xe none (EP X pins σ Q) acc cenv.locals) s₄) E s₃) E s := by
  have flt : ∀ b ∈ fp, b < s.heap.objs.size := fun b hb => by
    obtain ⟨o, e, _⟩ := T.obj 0 _ st b hb
    exact Heap.lt_size e
  refine wpAny_newList ?_ (by show 0 ≤ sizeLine; exact Nat.zero_le _)
  have I3 := I.lnew (ys := []) (its := []) (t' := s.toks) .nil (Nat.zero_le _)
  have st3 : tn 0 (s.heap.push { cls := .type "list", data := .seq ([] : List Value).toArray }) := T.keep 0 _ _ st fun b _ o e => Heap.get?_push_of_some _ e
  obtain ⟨W, ⟨m0, w0⟩, turn⟩ := w s.heap.objs.size I.fresh
  have hf3 : ∀ b ∈ fp, FpOk X pins (upd H s.heap.objs.size (.lst [])) b := fun b hb => ⟨by rw [upd_ne (Nat.ne_of_lt (flt b hb))]; exact (hf b hb).1, (hf b hb).2⟩
  generalize hD : s.heap.objs.size = D at *
  generalize hs3 : ({ s with heap := s.heap.push { cls := .type "list", data := .seq ([] : List Value).toArray } } : Shared) = s3
  have I3' : Inv X pins σ (upd H D (.lst [])) s3 := hs3 ▸ I3
  have st3' : tn 0 s3.heap := by rw [← hs3]; exact st3
  have flt3 : ∀ b ∈ fp, b < s3.heap.objs.size := fun b hb => by
    obtain ⟨o, e, _⟩ := T.obj 0 _ st3' b hb
    exact Heap.lt_size e
  refine wp_newEnvC ?_
  generalize hh1 : pushCells (s3.heap.push { cls := .type "dict", data := .dict #[] }) scope.names = h1
  have hn1 : h1.Ns s3.heap.objs.size (fun _ => none) := hh1 ▸ (Heap.Ns.new s3.heap (.type "dict")).keeps (pushCells_keeps _ _)
  have up : ∀ b o, s3.heap.get? b = some o → h1.get? b = some o := fun b o e => hh1 ▸ pushCells_keeps _ _ b o (Heap.get?_push_of_some _ e)
  have cs1 : CellsC scope (clOf X.env scope.names []) s3.heap.objs.size h1 := hh1 ▸ cellsC scope (clOf X.env scope.names []) s3.heap _
  have I4 : Inv (cxC X scope Nc s3.heap.objs.size pins fp s3 (upd H D (.lst []))) [] (σc fr σ) (upd H D (.lst [])) { s3 with heap := h1 } := comp_start ok I3' hf3 flt3 hn1 up cs1
  have st4 : tn 0 h1 := T.keep 0 _ _ st3' fun b _ o e => up b o e
  have heX := he s3.heap.objs.size pins fp s3 (upd H D (.lst []))
  have thX := th scope Nc s3.heap.objs.size pins fp σ (upd H D (.lst [])) s3
  generalize hxe : xeC X scope Nc s3.heap.objs.size pins fp s3 (upd H D (.lst [])) EE = xe at thX
  have heX' : PE ((cxC X scope Nc s3.heap.objs.size pins fp s3 (upd H D (.lst []))).wish xe) elt te := hxe ▸ heX
  generalize hXc : cxC X scope Nc s3.heap.objs.size pins fp s3 (upd H D (.lst [])) = Xc at I4 heX'
  have hg' : PG Xc tg g := hXc ▸ hg _ _ _ _ _
  have eP : Xc.prog = X.prog := by rw [← hXc]; rfl
  have ew : Xc.w = X.w := by rw [← hXc]; rfl
  have eK : Xc.K = X.K := by rw [← hXc]; rfl
  have eA : Xc.A = X.A := by rw [← hXc]; rfl
  have ec : Xc.calm = true := by rw [← hXc]; exact hc
  have ex : Xc.xe = fun _ _ => False := by rw [← hXc]; rfl
  have ee : Xc.env = compEnvC scope (cellsFrom (s3.heap.objs.size + 1) scope.names (clOf X.env scope.names [])) s3.heap.objs.size X.env := by rw [← hXc]; rfl
  have elo : Xc.env.locals = s3.heap.objs.size := by rw [ee]; rfl
  have stat : ∀ {H' : Hp}, (∀ b ∈ fp, H' b = none) → ∀ b ∈ fp, FpOk Xc [] H' b := fun {H'} hn b hb => by
    have q := hf b hb
    refine ⟨hn b hb, by rw [elo]; exact Nat.ne_of_lt (flt3 b hb), fun z => ?_, .inl (by rw [← hXc]; exact hb), fun x c e => ?_, fun p hp => ?_⟩
    · have z' : b ∈ frs X.stack := by rw [← hXc] at z; exact z
      rcases List.mem_cons.mp (I.stkSub b z') with z | z
      · exact q.2.1 z
      · exact q.2.2.1 z
    · have e' : (cellsFrom (s3.heap.objs.size + 1) scope.names (clOf X.env scope.names [])).lookup x = some c := by rw [ee] at e; exact e
      rcases cs1.two x c e' with ⟨_, z, _⟩ | z
      · exact Nat.ne_of_gt (Nat.lt_trans (flt3 b hb) z)
      · exact q.2.2.2.2.1 x c (cl_fact (comp_cells ok I) z).2
    · have hp' : p ∈ (X.pn ++ pins) ++ [] := by rw [← hXc] at hp; exact hp
      rw [List.append_nil] at hp'
      exact q.2.2.2.2.2 p hp'
  have loop : codeAny (model X.prog X.w) X.A (.compLoop (.ListComp elt [⟨tg, iter, [], 0⟩] scope pos) 0 (.ref it) (.ref D) Xc.env) (compPost (model X.prog X.w) X.A X.xe none (EP X pins σ Q) (.ref D) s3.heap.objs.size) { s3 with heap := h1 } := by
    refine comp_loopX (fun n s' => ∃ i ys H', Inv Xc [] (σc fr σ) H' s' ∧ tn i s'.heap ∧ (∀ b ∈ fp, H' b = none) ∧ W i n ys H') ?_ m0 ⟨0, [], _, I4, st4, fun b hb => (hf3 b hb).1, w0⟩
    rintro n s5 ⟨i, ys, H5, I5, st5, fr5, w5⟩
    rcases turn i n ys H5 w5 with ⟨stop, qn⟩ | ⟨go, step⟩
    · have q := T.done Xc eP ew eK ec i [] s5 (σc fr σ) H5 (fun _ _ => False) I5 (stat fr5) st5 stop
      rw [eA] at q
      refine thn q fun r s6 ⟨hr, I6⟩ => ?_
      subst hr
      obtain ⟨m6, hn6, _⟩ := I6.loc
      have fC : H5 s3.heap.objs.size = none := by have := I6.free; rwa [elo] at this
      have bs := I6.base
      have os := I6.os
      have hk := I6.hok
      rw [← hXc] at bs os hk
      have I7 : Inv X pins σ H5 s6 := I3'.call' os bs hk I6.bare fun b hb => by
        have q := hf b hb
        exact ⟨q.2.2.2.1, q.2.1, q.2.2.2.2.1, q.2.2.2.2.2⟩
      have f7 : FpOk X pins H5 s3.heap.objs.size := I3'.fpOk (Nat.le_refl _) fC
      exact ⟨m6, by rw [elo] at hn6; exact hn6, fun h' sb => ⟨.ref D, H5, comp_after I7 f7 sb, rfl, qn⟩⟩
    · have q := T.item Xc eP ew eK ec i [] s5 (σc fr σ) H5 (fun _ _ => False) I5 (stat fr5) st5 go
      rw [eA] at q
      refine thn q fun r s6 ⟨u, hr, h6⟩ => ?_
      subst hr
      refine thn h6 fun _ s7 ⟨x, H7, I7, r7, y7, st7, fr7⟩ => ?_
      have I7' := I7.pinned (stat fr7) (T.obj _ _ st7)
      have q8 := hg' _ s7 _ H7 x u _ I7' r7 (step x H7 y7)
      rw [eP, ew, eA, ex] at q8
      refine thn q8 fun _ s8 ⟨σ8, H8, I8, fw8, q8⟩ => ?_
      have again : ∀ {H' : Hp} {ys' : List V} {s' : Shared}, Inv Xc ([] ++ pinsAt fp s7.heap) σ8 H' s' → (∃ m', m' < n ∧ W (i + 1) m' ys' H') → ∃ m, m < n ∧ ∃ i ys H', Inv Xc [] (σc fr σ) H' s' ∧ tn i s'.heap ∧ (∀ b ∈ fp, H' b = none) ∧ W i m ys H' := fun {H' ys' s'} J' ⟨m', hm, w'⟩ => by
        refine ⟨m', hm, i + 1, ys', H', (J'.unpinned).weak fw8.1.symm fw8.2, T.keep _ _ _ st7 fun b hb o e => (J'.pin (b, o) (List.mem_append_right _ (List.mem_append_right _ (mem_pinsAt hb e)))).1, fun b hb => ?_, w'⟩
        obtain ⟨o, e, d⟩ := T.obj _ _ st7 b hb
        exact (J'.pin (b, o) (List.mem_append_right _ (List.mem_append_right _ (mem_pinsAt hb e)))).2.1
      have q9 : te σ8 H8 fun y H4 => H4 D = some (.lst ys) ∧ ys.length < sizeLine ∧ ∃ m', m' < n ∧ W (i + 1) m' (ys ++ [y]) (upd H4 D (.lst (ys ++ [y]))) := q8
      have q10 := heX' _ s8 σ8 H8 _ (I8.wish xe) q9
      have q10' : wpAny (model Xc.prog Xc.w) Xc.A (eval elt Xc.env) (EP (Xc.wish xe) ([] ++ pinsAt fp s7.heap) σ8 fun y H4 => H4 D = some (.lst ys) ∧ ys.length < sizeLine ∧ ∃ m', m' < n ∧ W (i + 1) m' (ys ++ [y]) (upd H4 D (.lst (ys ++ [y])))) xe s8 := q10
      rw [eP, ew, eA] at q10'
      refine wpAny_mono q10' (fun y s10 h10 => ?_) fun e s' hx => ?_
      · obtain ⟨z, H10, I10, r10, e10, l10, w10⟩ := h10
        have q11 := mt_append (X := Xc) _ s10 σ8 H10 (.ref D) [z] (.ref D) [y] (fun v H' => ∃ m', m' < n ∧ W (i + 1) m' (ys ++ [z]) H') I10.unwish rfl (.cons r10 .nil) ⟨D, ys, z, rfl, rfl, e10, l10, w10⟩
        rw [eP, ew, eA, ex] at q11
        exact thn q11 fun _ s11 ⟨_, H11, I11, _, w11⟩ => again I11 w11
      · have q := thX s' e (.ref D) (EP X pins σ Q) (fun x s' => compPost (model X.prog X.w) X.A X.xe none (EP X pins σ Q) (.ref D) s3.heap.objs.size (.error x) s') I3' hf3 (Nat.le_refl _) hx
        have en : noteFrame e Xc.env = noteFrame e X.env := by rw [ee]; rfl
        show wpAny _ _ (noteFrame e Xc.env) _ _ s'
        rw [en]
        exact q
  have loop' := loop
  rw [ee] at loop'
  exact codeAny_compStart_list loop' (T.self X.A 0 _ _ _ st4 loop')
theorem pe_compX {tg elt iter : Expr} {pos : Pos} {g : TG} {te : TE} {wi : TI} (th : ThruC X EE) (ok : compOk X.env.scope scope X.N Nc fr = true) (hc : X.calm = true) (hi : PI X tg iter wi)
    (hg : ∀ Cc pins fp s3 H3, PG (cxC X scope Nc Cc pins fp s3 H3) tg g) (he : ∀ Cc pins fp s3 H3, PE (cxX X scope Nc Cc pins fp s3 H3 EE) elt te)
    (hs : ∀ x, foldedSetIterable iter X.env x = pure x := by intro _; rfl) :
    PE X (.ListComp elt [⟨tg, iter, [], 0⟩] scope pos) (tComp fr wi g tTrue te) := by
  have ok := CompOk.of ok
  intro pins s σ H Q I h
  rw [eval_ListComp]
  refine wpAny_comprehension_free (use := none) rfl hs (closureFor_some (comp_cells ok I)) ok.kind ok.nms (thn (hi pins s σ H _ I h) fun v s1 h1 => thn h1 fun itv s2 h2 => ?_)
  obtain ⟨it, fp, tn, J, H2, e, I2, T, st2, f2, w⟩ := h2
  subst e
  exact comp_coreX th ok hc hg he I2 T st2 f2 w
end
end L2
namespace L2
open PySem PySem.Spec PyProof.Rows
section
variable {prog : Program} {w : World} {A : Around} {E : Value → Shared → Prop} {s : Shared}
end
end L2
namespace L2
open PySem PySem.Spec PyProof.Rows
section
variable {X : Cx} {pins : List (Addr × Obj)} {σ : St} {H1 : Hp} {xs ys : List V} {z TI TO i1 i2 l1 l2 S : Addr}
end
end L2
namespace L2
open PySem PySem.Spec PyProof.Rows
section
variable {X : Cx} {pins : List (Addr × Obj)} {σ : St} {H1 : Hp} {xs ys : List V} {z TI TO i1 i2 l1 l2 : Addr}
end
end L2
namespace L2
open PySem PySem.Spec PyProof.Rows
section
variable {X : Cx} {a b : Expr} {pos : Pos} {ga gb : GE}
end
theorem sw_tup {x : Str} {pos' p : Pos} {elts : List Expr} {k line : Nat} {env : Env} : swapsWithSole [.Name x pos'] (.Tuple elts k p) line env = pure false := rfl
end L2
namespace L2
open PySem PySem.Spec PyProof.Rows
section
variable {X : Cx} {a b e : Expr} {es : List Expr} {pos : Pos} {ga gb : GE}
def oAddS : GO := fun x y Q => match x, y with
  | .str i, .str j => i.length + j.length ≤ sizeLine ∧ Q (.str (i ++ j))
  | _, _ => False
theorem do_addS : DOp X (binaryOp .Add) oAddS := by
  refine ⟨_, op_add_str, fun x y dx dy C H Q R ch n1 n2 q k => ?_⟩
  cases dx with
  | str i =>
    cases dy with
    | str j => exact ⟨i, j, den_str.mp n1, den_str.mp n2, q.1, k _ _ C H q.2 (Ext.refl ch) (den_str.mpr rfl)⟩
    | _ => exact q.elim
  | _ => exact q.elim
def cStr : List D → (D → Prop) → Prop := fun ds Q => match ds with
  | [.int i] => i.natAbs.log2 < 1920 ∧ Q (.str (toString i))
  | _ => False
theorem dc_str : DCall X (.type "str") cStr := by
  refine ⟨_, call_str_int, fun xs ds C H Q R ch n q k => ?_⟩
  unfold cStr at q
  split at q
  · obtain ⟨v, rfl, n1⟩ := dens_one n
    rw [den_int.mp n1]
    exact ⟨_, rfl, q.1, k _ _ C H q.2 (Ext.refl ch) (den_str.mpr rfl)⟩
  · exact q.elim
def cLenS : List D → (D → Prop) → Prop := fun ds Q => match ds with
  | [.str z] => z.length ≤ sizeLine ∧ Q (.int z.length)
  | _ => False
theorem dc_lenS : DCall X (.builtin "len") cLenS := by
  refine ⟨_, call_len_str, fun xs ds C H Q R ch n q k => ?_⟩
  unfold cLenS at q
  split at q
  · obtain ⟨v, rfl, n1⟩ := dens_one n
    rw [den_str.mp n1]
    exact ⟨_, rfl, q.1, k _ _ C H q.2 (Ext.refl ch) (den_int.mpr rfl)⟩
  · exact q.elim
def gIxS : GO := fun x y Q => match x, y with
  | .str z, .int i => z.length ≤ sizeLine ∧ ∃ c, atI z.cps.toList i = some c ∧ Q (.str ⟨#[c]⟩)
  | _, _ => False
theorem de_ixS (ha : DE X a ga) (hb : DE X b gb) (hs : PlainIx b) : DE X (.Subscript a b pos) (gOp gIxS ga gb) := by
  obtain ⟨t1, p1, h1⟩ := ha
  obtain ⟨t2, p2, h2⟩ := hb
  refine ⟨_, pe_ix ix_seq p1 p2 hs, fun C0 H0 δ σ C H Q R rp g k => ?_⟩
  refine h1 C0 H0 δ σ C H _ _ rp g fun d v C1 H1 q e1 n1 => h2 C0 H0 δ σ C1 H1 _ _ (rp.grow e1) q fun d2 v2 C2 H2 q2 e2 n2 => ?_
  have n1' := n1.mono e2.cc
  cases d with
  | str z =>
    cases d2 with
    | int i =>
      obtain ⟨hz, c, hc, q3⟩ := q2
      exact .inr (.inr ⟨z, i, c, den_str.mp n1', den_int.mp n2, hz, hc, k _ _ C2 H2 q3 (e1.trans e2) (den_str.mpr rfl)⟩)
    | _ => exact q2.elim
  | _ => exact q2.elim
end
end L2
namespace L2
open PySem PySem.Spec PyProof.Rows
section
variable {X : Cx} {a b e : Expr} {es : List Expr} {pos : Pos} {ga gb : GE}
def rSlS : V → Option Int → Option Int → Hp → VK → Prop := fun x lo hi H Q => ∃ z, x = .str z ∧ z.length ≤ sizeLine ∧ Q (.str (Txt.slice z lo hi)) H
theorem sl_str : SlR X rSlS := by
  intro pins s σ H x v vl vu lo hi sl Q I rx hs pl pu h
  obtain ⟨z, rfl, hz, q⟩ := h
  obtain ⟨t, rfl⟩ := rx
  refine ⟨"str", _, F.slot_str_getitem.lookup, typeIs_str _ _ _, ?_⟩
  have fin : ∀ t' k, EP X pins σ Q (.str (Txt.slice z lo hi) t') { s with toks := k } := fun t' k => ⟨.str _, H, I.tok _, ⟨_, rfl⟩, q⟩
  obtain ⟨o, h1, h2, h3⟩ := hs
  cases pl with
  | none =>
    cases pu with
    | none => exact wpAny_getItem_str_slice (l := none) (u := none) (st := none) ⟨o, h1, h2, h3⟩ rfl (post_val_or_str ⟨Nat.le_trans (Txt.slice_le z _ _) hz, fin⟩)
    | int j uj => exact wpAny_getItem_str_slice (l := none) (u := some (j, uj)) (st := none) ⟨o, h1, h2, h3⟩ rfl (post_val_or_str ⟨Nat.le_trans (Txt.slice_le z _ _) hz, fin⟩)
  | int i ui =>
    cases pu with
    | none => exact wpAny_getItem_str_slice (l := some (i, ui)) (u := none) (st := none) ⟨o, h1, h2, h3⟩ rfl (post_val_or_str ⟨Nat.le_trans (Txt.slice_le z _ _) hz, fin⟩)
    | int j uj => exact wpAny_getItem_str_slice (l := some (i, ui)) (u := some (j, uj)) (st := none) ⟨o, h1, h2, h3⟩ rfl (post_val_or_str ⟨Nat.le_trans (Txt.slice_le z _ _) hz, fin⟩)
def rJoin (K : PySem.W.Frag) : V → List V → Hp → VK → Prop := fun x xs H Q => ∃ sep p ts, x = .str sep ∧ xs = [.ref p] ∧ SqL K H p (ts.map V.str) ∧ JoinOk sep ts = true ∧ Q (.str (Txt.join sep ts)) H
theorem strs_of : ∀ {ts : List Str} {its : List Value}, Vals (ts.map V.str) its → ∃ l : List (Str × Tok), its = strValues l ∧ l.map (·.1) = ts
  | [], its, h => by
    cases h
    exact ⟨[], rfl, rfl⟩
  | t :: ts, its, h => by
    rw [List.map_cons] at h
    cases h with
    | cons r rr =>
      obtain ⟨k, rfl⟩ := r
      obtain ⟨l, rfl, e⟩ := strs_of rr
      exact ⟨(t, k) :: l, rfl, by rw [List.map_cons, e]⟩
theorem mt_join : MtR X "str.join" (rJoin X.K) := by
  intro pins s σ H x xs v us Q I rx rv h
  obtain ⟨sep, p, ts, rfl, rfl, hq, hj, q⟩ := h
  obtain ⟨t, rfl⟩ := rx
  obtain ⟨u, rfl, ru⟩ := rv.one
  cases ru
  obtain ⟨its, r, pl, hz⟩ := I.list hq
  obtain ⟨l, rfl, el⟩ := strs_of r
  exact SC.join pl.isList el hj fun t' k => ⟨.str _, H, I.tok _, ⟨_, rfl⟩, q⟩
def rSplit : V → List V → Hp → VK → Prop := fun x xs H Q => ∃ z y, x = .str z ∧ xs = [.str y] ∧ (y.length == 0) = false ∧ z.length ≤ sizeLine ∧ (Builtin.Str.partsBetween z (Builtin.Str.occurrences z y 0 z.length (z.length + 1)) y.length).length ≤ sizeLine ∧ ∀ l, H l = none → Q (.ref l) (upd H l (.lst ((Txt.split z y).map V.str)))
theorem vals_strs : ∀ l : List (Str × Tok), Vals ((l.map (·.1)).map V.str) (strValues l)
  | [] => .nil
  | p :: l => .cons ⟨p.2, rfl⟩ (vals_strs l)
theorem mt_split : MtR X "str.split" rSplit := by
  intro pins s σ H x xs v us Q I rx rv h
  obtain ⟨z, y, rfl, rfl, hy, hz, hn, q⟩ := h
  obtain ⟨t, rfl⟩ := rx
  obtain ⟨u, rfl, ru⟩ := rv.one
  obtain ⟨u', rfl⟩ := ru
  have fin : ∀ (l : List (Str × Tok)) (k : Nat), l.map (·.1) = Txt.split z y → l.length ≤ sizeLine → EP X pins σ Q (.ref s.heap.objs.size) { s with toks := k, heap := s.heap.push { cls := .type "list", data := .seq (strValues l).toArray } } := fun l k el hl => by
    refine ⟨.ref s.heap.objs.size, _, I.lnew (ys := (Txt.split z y).map V.str) (its := strValues l) (t' := k) (el ▸ vals_strs l) (by rw [← el, List.length_map, List.length_map]; exact hl), rfl, q _ I.fresh⟩
  cases h1 : (decide (z.length < y.length) || decide (Builtin.Str.strKind z < Builtin.Str.strKind y))
  · cases hf : (Builtin.Str.occurrences z y 0 z.length (z.length + 1)).isEmpty
    · refine call_meets F.slot_str_split (typeIs_str _ _ _) F.entry_str_split (F.args_str_split_2 _ _) (meets_str_split_sep z y t u' h1 hy hf hz hn) ?_
      show wants _ _ _ { s with toks := _, heap := s.heap.push { cls := .type "list", data := .seq (strsFrom s.toks (Builtin.Str.partsBetween z (Builtin.Str.occurrences z y 0 z.length (z.length + 1)) y.length)).toArray } }
      rw [strsFrom_eq]
      exact fin (numbered s.toks _) _ ((numbered_texts _ _).trans ((if_neg (ne_true_of_eq_false h1)).trans (if_neg (ne_true_of_eq_false hf))).symm) (by
        have := congrArg List.length (numbered_texts s.toks (Builtin.Str.partsBetween z (Builtin.Str.occurrences z y 0 z.length (z.length + 1)) y.length))
        rw [List.length_map] at this
        omega)
    · exact call_meets F.slot_str_split (typeIs_str _ _ _) F.entry_str_split (F.args_str_split_2 _ _) (meets_str_split_not_found z y t u' h1 hy hf)
        (fin [(z, t)] s.toks ((if_neg (ne_true_of_eq_false h1)).trans (if_pos hf)).symm (show 1 ≤ sizeLine by decide))
  · exact call_meets F.slot_str_split (typeIs_str _ _ _) F.entry_str_split (F.args_str_split_2 _ _) (meets_str_split_cannot_occur z y t u' h1)
      (fin [(z, t)] s.toks (if_pos h1).symm (show 1 ≤ sizeLine by decide))
end
end L2
namespace L2
open PySem PySem.Spec PyProof.Rows
section
variable {X : Cx} {a b e : Expr} {es : List Expr} {pos : Pos} {ga gb : GE}
def gSlS (ga : GE) (gl gh : GP) : GE := fun δ Q => ga δ fun d => gl δ fun lo => gh δ fun hi => match d with
  | .str z => z.length ≤ sizeLine ∧ Q (.str (Txt.slice z lo hi))
  | _ => False
theorem de_slS {lo hi : Option Expr} {gl gh : GP} {p2 : Pos} (ha : DE X a ga) (hl : DO X lo gl) (hh : DO X hi gh) : DE X (.Subscript a (.Slice lo hi none p2) pos) (gSlS ga gl gh) := by
  obtain ⟨t1, p1, h1⟩ := ha
  obtain ⟨t2, p2', h2⟩ := hl
  obtain ⟨t3, p3, h3⟩ := hh
  refine ⟨_, pe_slice sl_str p1 p2' p3, fun C0 H0 δ σ C H Q R rp g k => ?_⟩
  refine h1 C0 H0 δ σ C H _ _ rp g fun d v C1 H1 q e1 n1 => h2 C0 H0 δ σ C1 H1 _ _ (rp.grow e1) q fun o C2 H2 q2 e2 => h3 C0 H0 δ σ C2 H2 _ _ ((rp.grow e1).grow e2) q2 fun o2 C3 H3 q3 e3 => ?_
  have n1' := (n1.mono e2.cc).mono e3.cc
  have e123 := e1.trans (e2.trans e3)
  cases d with
  | str z => exact ⟨z, den_str.mp n1', q3.1, k _ _ C3 H3 q3.2 e123 (den_str.mpr rfl)⟩
  | _ => exact q3.elim
def strsD : List D → Option (List Str)
  | [] => some []
  | .str x :: ds => (strsD ds).map fun l => x :: l
  | _ => none
theorem strsD_of : ∀ ts : List Str, strsD (ts.map D.str) = some ts
  | [] => rfl
  | t :: ts => by rw [List.map_cons, strsD, strsD_of ts]; rfl
theorem strsD_eq : ∀ {ds : List D} {ts : List Str}, strsD ds = some ts → ds = ts.map D.str
  | [], ts, h => by cases h; rfl
  | d :: ds, ts, h => by
    cases d with
    | str x =>
      cases e : strsD ds with
      | none => rw [strsD, e] at h; cases h
      | some l =>
        rw [strsD, e] at h
        cases h
        rw [strsD_eq e]
        rfl
    | _ => rw [strsD] at h <;> first | cases h | (intro _ _ z; cases z)
theorem dens_strs {K : PySem.W.Frag} {C : Hp} : ∀ {ts : List Str} {vs : List V}, Dens K C vs (ts.map D.str) → vs = ts.map V.str
  | [], vs, h => dens_nil.mp h
  | t :: ts, vs, h => by
    rw [List.map_cons] at h
    obtain ⟨x, xs, rfl, a, r⟩ := dens_cons.mp h
    rw [den_str.mp a, dens_strs r]
    rfl
theorem dens_mk {K : PySem.W.Frag} {C : Hp} : ∀ ts : List Str, Dens K C (ts.map V.str) (ts.map D.str)
  | [] => .nil
  | t :: ts => dens_cons.mpr ⟨_, _, rfl, den_str.mpr rfl, dens_mk ts⟩
def gJoin (ga gb : GE) : GE := fun δ Q => ga δ fun d => match d with
  | .str sep => gb δ fun x => match x with
    | .lst ds => match strsD ds with
      | some ts => JoinOk sep ts = true ∧ Q (.str (Txt.join sep ts))
      | none => False
    | _ => False
  | _ => False
theorem de_join {p2 : Pos} (ha : DE X a ga) (hb : DE X b gb)
    (hp : ∀ {to : TE} {t : TA}, PE X a to → PA X [b] t → PE X (.Call (.Attribute a "join" p2) [b] [] pos) (tBM X.K "str" (rJoin X.K) to t)) (hs : starEach [b] X.env = [(false, eval b X.env)] := by rfl) : DE X (.Call (.Attribute a "join" p2) [b] [] pos) (gJoin ga gb) := by
  obtain ⟨t1, p1, h1⟩ := ha
  obtain ⟨t2, p2, h2⟩ := hb
  refine ⟨_, hp p1 (pa_cons p2 pa_nil hs), fun C0 H0 δ σ C H Q R rp g k => ?_⟩
  refine h1 C0 H0 δ σ C H _ _ rp g fun d v C1 H1 q e1 n1 => ?_
  cases d with
  | str sep =>
    have ev := den_str.mp n1
    subst ev
    refine ⟨rfl, h2 C0 H0 δ σ C1 H1 _ _ (rp.grow e1) q fun d2 v2 C2 H2 q2 e2 n2 => ?_⟩
    cases d2 with
    | lst ds =>
      have q2' : (match strsD ds with
        | some ts => JoinOk sep ts = true ∧ Q (.str (Txt.join sep ts))
        | none => False) := q2
      split at q2'
      · rename_i ts et
        obtain ⟨p, xs, rfl, hx, hd⟩ := den_lst.mp n2
        rw [strsD_eq et] at hd
        rw [dens_strs hd] at hx
        exact ⟨sep, p, ts, rfl, rfl, e2.ch.seq hx, q2'.1, k _ _ C2 H2 q2'.2 (e1.trans e2) (den_str.mpr rfl)⟩
      · exact q2'.elim
    | _ => exact q2.elim
  | _ => exact q.elim
def gSplit (ga gb : GE) : GF := fun δ Q => ga δ fun d => match d with
  | .str z => gb δ fun x => match x with
    | .str y => (y.length == 0) = false ∧ z.length ≤ sizeLine ∧ (Builtin.Str.partsBetween z (Builtin.Str.occurrences z y 0 z.length (z.length + 1)) y.length).length ≤ sizeLine ∧ Q ((Txt.split z y).map D.str)
    | _ => False
  | _ => False
theorem df_split {p2 : Pos} (ha : DE X a ga) (hb : DE X b gb)
    (hp : ∀ {to : TE} {t : TA}, PE X a to → PA X [b] t → PE X (.Call (.Attribute a "split" p2) [b] [] pos) (tBM X.K "str" rSplit to t)) (hs : starEach [b] X.env = [(false, eval b X.env)] := by rfl) : DF X (.Call (.Attribute a "split" p2) [b] [] pos) (gSplit ga gb) := by
  obtain ⟨t1, p1, h1⟩ := ha
  obtain ⟨t2, p2, h2⟩ := hb
  refine ⟨_, hp p1 (pa_cons p2 pa_nil hs), fun C0 H0 δ σ C H Q R rp g k => ?_⟩
  refine h1 C0 H0 δ σ C H _ _ rp g fun d v C1 H1 q e1 n1 => ?_
  cases d with
  | str z =>
    have ev := den_str.mp n1
    subst ev
    refine ⟨rfl, h2 C0 H0 δ σ C1 H1 _ _ (rp.grow e1) q fun d2 v2 C2 H2 q2 e2 n2 => ?_⟩
    cases d2 with
    | str y =>
      have ey := den_str.mp n2
      subst ey
      obtain ⟨c1, c2, c3, q3⟩ := q2
      refine ⟨z, y, rfl, rfl, c1, c2, c3, fun l hl => ?_⟩
      exact k _ l _ C2 _ q3 ((e1.trans e2).trans (Ext.newO e2.ch hl)) (e2.ch.free hl) ((e1.trans e2).hh.free hl) upd_same (dens_mk _)
    | _ => exact q2.elim
  | _ => exact q.elim
end
end L2
namespace L2
open PySem PySem.Spec PyProof.Rows
def tDEx (K : PySem.W.Frag) (mg : Str → Option Value) (EE : XK) (g : GEX) : TE := fun σ H R => ∃ C0 H0 δ C xc Q, (∀ c cls C' H', mg c = some cls → xc c → Ext C0 H0 C' H' → EE cls none H') ∧ Rep K C0 H0 δ σ C H ∧ g δ xc Q ∧ ∀ d v C1 H1, Q d → Ext C H C1 H1 → Den K C1 v d → R v H1
theorem DEx.can {X : Cx} {EE : XK} {e : Expr} {gx : GEX} (h : DEx X EE e gx) : PE X e (tDEx X.K X.mg EE gx) := by
  obtain ⟨t, p, h⟩ := h
  intro pins s σ H Q I q
  obtain ⟨C0, H0, δ, C, xc, Q', te, rp, g, k⟩ := q
  exact p pins s σ H Q I (h C0 H0 δ σ C H xc Q' Q te rp g k)
def DFx (X : Cx) (EE : XK) (e : Expr) (g : GFX) : Prop := ∃ t, PE X e t ∧ ∀ C0 H0 δ σ C H (xc : Str → Prop) (Q : List D → Prop) (R : VK), Tells X EE C0 H0 xc → Rep X.K C0 H0 δ σ C H → g δ xc Q →
  (∀ ds p xs C1 H1, Q ds → Ext C H C1 H1 → C1 p = none → H p = none → H1 p = some (.lst xs) → Dens X.K C1 xs ds → R (.ref p) H1) → t σ H R
def gFX (g : GFX) : GEX := fun δ xc Q => g δ xc fun ds => Q (.lst ds)
theorem DFx.toEx {X : Cx} {EE : XK} {e : Expr} {g : GFX} (h : DFx X EE e g) : DEx X EE e (gFX g) := by
  obtain ⟨t, p, h⟩ := h
  refine ⟨t, p, fun C0 H0 δ σ C H xc Q R te rp g k => h C0 H0 δ σ C H xc _ R te rp g fun ds p xs C1 H1 q ex hc hn hl hd => ?_⟩
  exact k (.lst ds) _ (upd C1 p (.lst xs)) H1 q (ext_frz ex hc hn hl) (den_lst.mpr ⟨p, xs, rfl, SqL.of upd_same, hd.mono (Same.upd hc)⟩)
def gCompX (fr : List (Option Nat)) (gi : GF) (gg : GG) (gx : GEX) : GFX := fun δ xc Q => gi δ fun its => its.length ≤ sizeLine ∧ ∃ W : Nat → List D → Prop, W 0 [] ∧ (∀ (i : Nat) d ys, its[i]? = some d → W i ys → gg d (δc fr δ) fun δ2 => gx δ2 xc fun y => W (i + 1) (ys ++ [y])) ∧ ∀ ys, W its.length ys → Q ys
theorem turns_ofX {K : PySem.W.Frag} {mg : Str → Option Value} {EE : XK} {C0 H0 C H C1 H1 : Hp} {δ : DS} {σ : St} {fr : List (Option Nat)} {ss : List Nat} {J : It} {its : List D} {gg : GG} {gx : GEX} {xc : Str → Prop} {W : Nat → List D → Prop} {A : Addr} {Q : List D → Prop} {R : VK}
    (te : ∀ c cls C' H', mg c = some cls → xc c → Ext C0 H0 C' H' → EE cls none H') (fo : frOk fr ss = true) (rp : Rep K C0 H0 δ σ C H) (e1 : Ext C H C1 H1) (wk : Walk K J its C1) (hz : its.length ≤ sizeLine)
    (w0 : W 0 []) (hf : ∀ (i : Nat) d ys, its[i]? = some d → W i ys → gg d (δc fr δ) fun δ2 => gx δ2 xc fun y => W (i + 1) (ys ++ [y])) (q : ∀ ys, W its.length ys → Q ys)
    (k : ∀ ds p xs C1 H1, Q ds → Ext C H C1 H1 → C1 p = none → H p = none → H1 p = some (.lst xs) → Dens K C1 xs ds → R (.ref p) H1) (hA : H1 A = none) : tTurns J (σc fr σ) (tDG K ss gg) tTrue (tDEx K mg EE gx) A H1 R := by
  refine ⟨fun i m ys H2 => m = its.length - i ∧ i ≤ its.length ∧ ∃ C2 ds, Ext C1 H1 C2 H2 ∧ H2 A = some (.lst ys) ∧ C2 A = none ∧ Dens K C2 ys ds ∧ ds.length = i ∧ W i ds, ⟨_, rfl, Nat.zero_le _, C1, [], Ext.newO e1.ch hA, upd_same, e1.ch.free hA, Dens.nil, rfl, w0⟩, ?_⟩
  rintro i m ys H2 ⟨rfl, hi, C2, ds, ex, hl, hc, hd, hdl, hw⟩
  have Wk := wk C2 H2 ex.cc ex.ch i
  by_cases hlt : i < its.length
  · have ed : its[i]? = some its[i] := by simp [hlt]
    obtain ⟨go, yl⟩ := Wk.1 _ ed
    refine .inr ⟨go, fun x H3 y => ?_⟩
    obtain ⟨C3, e3, n3⟩ := yl x H3 y
    have rc : Rep K C3 H3 (δc fr δ) (σc fr σ) C3 H3 := rp.comp fr ((e1.cc.trans ex.cc).trans e3.cc) e3.ch
    refine ⟨C3, H3, _, C3, its[i], _, rc, n3, hf i its[i] ds ed hw, fun δ' σ' q' rp' hl' hj' => ⟨fwd_of fo hl' hj', ?_⟩⟩
    have hA3 : H3 A = some (.lst ys) := e3.hh _ _ hl
    have hc3 : C3 A = none := e3.ow A hc (by rw [hl]; simp)
    show tDEx K mg EE gx σ' H3 _
    refine ⟨C3, H3, δ', C3, xc, _, fun c cls C' H' hm hx ex' => te c cls C' H' hm hx (((rp.ext.trans e1).trans (ex.trans e3)).trans ex'), rp', q', fun d v C5 H5 q5 e5 n5 => ?_⟩
    have hA5 : H5 A = some (.lst ys) := e5.hh _ _ hA3
    have hc5 : C5 A = none := e5.ow A hc3 (by rw [hA3]; simp)
    have hyl : ys.length < sizeLine := by
      rw [hd.length, hdl]
      omega
    refine ⟨hA5, hyl, its.length - (i + 1), by omega, rfl, hlt, C5, ds ++ [d], ?_, upd_same, hc5, ?_, by rw [List.length_append, hdl]; rfl, q5⟩
    · have e := ex.trans (e3.trans e5)
      refine ⟨fun z u ez => ?_, e.cc, fun z u ez => ?_, e.ow⟩
      · rw [upd_ne (ne_of_none ez hA)]; exact e.hh z u ez
      · rw [upd_ne (ne_of_none ez hc5)]; exact e.ch z u ez
    · exact ((hd.mono e3.cc).mono e5.cc).append (.cons n5 .nil)
  · have e : i = its.length := by omega
    refine .inl ⟨Wk.2 (by omega), ?_⟩
    rw [e] at hw
    exact k _ A ys C2 H2 (q _ hw) (e1.trans ex) hc (e1.hh.free hA) hl hd
section
variable {X : Cx} {EE : XK} {a b c e tg iter elt : Expr} {es : List Expr} {pos : Pos} {gi : GF} {gg : GG} {gx : GEX} {gs : GFX} {scope : Scope} {Nc : List Str} {fr : List (Option Nat)} {ss : List Nat}
theorem dfx_comp (th : ThruC X EE) (ok : compOk X.env.scope scope X.N Nc fr = true) (fo : frOk fr ss = true) (hc : X.calm = true) (hi : DI X tg iter gi) (hg : ∀ Cc pins fp s3 H3, DG (cxC X scope Nc Cc pins fp s3 H3) tg ss gg)
    (he : ∀ Cc pins fp s3 H3, DEx (cxX X scope Nc Cc pins fp s3 H3 EE) EE elt gx) (hs : ∀ x, foldedSetIterable iter X.env x = pure x := by intro _; rfl) :
    DFx X EE (.ListComp elt [⟨tg, iter, [], 0⟩] scope pos) (gCompX fr gi gg gx) := by
  obtain ⟨wi, pi, h⟩ := hi
  refine ⟨_, pe_compX (g := tDG X.K ss gg) (te := tDEx X.K X.mg EE gx) th ok hc pi (fun a b c d e => (hg a b c d e).can) (fun a b c d e => (he a b c d e).can) hs, fun C0 H0 δ σ C H xc Q R te rp g k => ?_⟩
  refine h C0 H0 δ σ C H _ _ rp g fun its J C1 H1 q e1 wk A hA => ?_
  obtain ⟨hz, W, w0, hf, q⟩ := q
  exact turns_ofX te fo rp e1 wk hz w0 hf q k hA
def gCallBX (g : List D → (D → Prop) → Prop) (gs : GFX) : GEX := fun δ xc Q => gs δ xc fun ds => g ds Q
theorem dex_callG {x : Str} {f : Value} {g : List D → (D → Prop) → Prop} {pos' : Pos} (hc : DCall X f g) (ha : DAx X EE (e :: es) gs)
    (hp : ∀ {t : TA} {r : List V → Hp → VK → Prop}, CallR X f r → PA X (e :: es) t → PE X (.Call (.Name x pos') (e :: es) [] pos) (tCB r t)) : DEx X EE (.Call (.Name x pos') (e :: es) [] pos) (gCallBX g gs) := by
  obtain ⟨r, pr, hr⟩ := hc
  obtain ⟨t, p, h⟩ := ha
  refine ⟨_, hp pr p, fun C0 H0 δ σ C H xc Q R te rp g k => h C0 H0 δ σ C H xc _ _ te rp g fun ds vs C1 H1 q e1 n1 => ?_⟩
  exact hr vs ds C1 H1 Q R e1.ch n1 q fun d v C2 H2 q2 e2 n2 => k d v C2 H2 q2 (e1.trans e2) n2
end
end L2
namespace L2
open PySem PySem.Spec PyProof.Rows PySem.StrLaws PySem.Builtin PySem.Builtin.Str
def joinL (c : Nat) : List (List Nat) → List Nat
  | [] => []
  | [w] => w
  | w :: v :: r => w ++ c :: joinL c (v :: r)
theorem sep_inj {c : Nat} : ∀ {w v A B : List Nat}, c ∉ w → c ∉ v → w ++ c :: A = v ++ c :: B → w = v ∧ A = B
  | [], [], A, B, _, _, h => by simpa using h
  | [], y :: v, A, B, _, hv, h => by
    simp only [List.nil_append, List.cons_append, List.cons.injEq] at h
    exact absurd (h.1 ▸ List.mem_cons_self) hv
  | x :: w, [], A, B, hw, _, h => by
    simp only [List.nil_append, List.cons_append, List.cons.injEq] at h
    exact absurd (h.1 ▸ List.mem_cons_self) hw
  | x :: w, y :: v, A, B, hw, hv, h => by
    simp only [List.cons_append, List.cons.injEq] at h
    obtain ⟨h1, h2⟩ := sep_inj (fun z => hw (List.mem_cons_of_mem _ z)) (fun z => hv (List.mem_cons_of_mem _ z)) h.2
    exact ⟨by rw [h.1, h1], h2⟩
theorem joinL_inj {c : Nat} : ∀ {ws vs : List (List Nat)}, ws ≠ [] → vs ≠ [] → (∀ w ∈ ws, c ∉ w) → (∀ v ∈ vs, c ∉ v) → joinL c ws = joinL c vs → ws = vs
  | [], _, h, _, _, _, _ => absurd rfl h
  | _, [], _, h, _, _, _ => absurd rfl h
  | [w], [v], _, _, _, _, h => by rw [show w = v from h]
  | [w], v :: v' :: r, _, _, hw, _, h => by
    have : w = v ++ c :: joinL c (v' :: r) := h
    exact absurd (this ▸ by simp) (hw w List.mem_cons_self)
  | w :: w' :: r, [v], _, _, _, hv, h => by
    have : w ++ c :: joinL c (w' :: r) = v := h
    exact absurd (this ▸ by simp) (hv v List.mem_cons_self)
  | w :: w' :: r, v :: v' :: q, _, _, hw, hv, h => by
    obtain ⟨h1, h2⟩ := sep_inj (hw w List.mem_cons_self) (hv v List.mem_cons_self) (show w ++ c :: joinL c (w' :: r) = v ++ c :: joinL c (v' :: q) from h)
    rw [h1, joinL_inj (by simp) (by simp) (fun x hx => hw x (List.mem_cons_of_mem _ hx)) (fun x hx => hv x (List.mem_cons_of_mem _ hx)) h2]
abbrev chr1 (c : Nat) : Str := ⟨#[c]⟩
abbrev cp (x : Str) : List Nat := x.cps.toList
theorem cp_inj {x y : Str} (h : cp x = cp y) : x = y := Str.ext' (Array.toList_inj.mp h)
theorem cp_join (c : Nat) : ∀ ws : List Str, cp (Str.join (chr1 c) ws) = joinL c (ws.map cp)
  | [] => rfl
  | [w] => rfl
  | w :: v :: r => by
    have ih := cp_join c (v :: r)
    show cp (w ++ chr1 c ++ Str.join (chr1 c) (v :: r)) = cp w ++ c :: joinL c ((v :: r).map cp)
    rw [← ih]
    simp [cp, Str.cps_append]
section
variable {c : Nat} {x : Str}
def isAt (c : Nat) (x : Str) (i : Nat) : Bool := decide (i + 1 ≤ x.length) && subAt x (chr1 c) i
theorem isAt_iff {i : Nat} : isAt c x i = true ↔ (cp x)[i]? = some c := by
  have hn : (cp x).length = x.length := by simp [Str.length]
  unfold isAt
  rw [Bool.and_eq_true, decide_eq_true_eq, subAt_eq]
  show i + 1 ≤ x.length ∧ (((cp x).drop i).take 1 == [c]) = true ↔ _
  rw [beq_iff_eq]
  constructor
  · rintro ⟨h1, h2⟩
    have : ((cp x).drop i)[0]? = some c := by
      cases hd : (cp x).drop i with
      | nil => rw [hd] at h2; simp at h2
      | cons a l => rw [hd] at h2; simpa using h2
    simpa using this
  · intro h
    obtain ⟨hi, e⟩ := List.getElem?_eq_some_iff.mp h
    refine ⟨by omega, ?_⟩
    rw [List.drop_eq_getElem_cons hi, e]
    simp
theorem occ_loop : ∀ (k a : Nat) (st : Array Nat × Nat), st.1.size ≤ a → st.2 ≤ a → a + k ≤ x.length + 1 →
    (forIn (List.range' a k) st (occBody x (chr1 c) x.length (x.length + 1))).run.fst.toList = st.1.toList ++ (List.range' a k).filter (isAt c x)
  | 0, a, st, _, _, _ => by simp [List.forIn_nil]
  | k + 1, a, st, h1, h2, h3 => by
    rw [List.range'_succ, List.forIn_cons, List.filter_cons]
    unfold occBody
    by_cases hc : isAt c x a = true
    · have hc' := hc
      unfold isAt at hc'
      rw [Bool.and_eq_true, decide_eq_true_eq] at hc'
      have cond : ((st.1.size < x.length + 1 ∧ st.2 ≤ a) ∧ a + (chr1 c).length ≤ x.length) ∧ subAt x (chr1 c) a = true := ⟨⟨⟨by omega, h2⟩, hc'.1⟩, hc'.2⟩
      rw [if_pos cond, if_pos hc]
      have ih := occ_loop k (a + 1) (st.1.push a, a + (chr1 c).length) (by simp; omega) (by show a + 1 ≤ a + 1; omega) (by omega)
      refine Eq.trans ih ?_
      simp
    · have cond : ¬ (((st.1.size < x.length + 1 ∧ st.2 ≤ a) ∧ a + (chr1 c).length ≤ x.length) ∧ subAt x (chr1 c) a = true) := fun z => hc (by
        unfold isAt
        rw [Bool.and_eq_true, decide_eq_true_eq]
        exact ⟨z.1.2, z.2⟩)
      rw [if_neg cond, if_neg hc]
      exact occ_loop k (a + 1) (st.1, st.2) (by show st.1.size ≤ a + 1; omega) (by show st.2 ≤ a + 1; omega) (by omega)
theorem occ_all : occurrences x (chr1 c) 0 x.length (x.length + 1) = (List.range' 0 (x.length + 1)).filter (isAt c x) := by
  rw [occ_eq]
  have := occ_loop (c := c) (x := x) (x.length + 1) 0 (#[], 0) (by simp) (by simp) (by omega)
  simpa using this
theorem cp_sub (a b : Nat) : cp (strSub x a b) = ((cp x).drop a).take (b - a) := strSub_toList ..
theorem sub_free {a b : Nat} (h : ∀ p, a ≤ p → p < b → isAt c x p = false) : c ∉ cp (strSub x a b) := by
  rw [cp_sub]
  intro hm
  obtain ⟨i, hi⟩ := List.getElem?_of_mem hm
  have hl := (List.getElem?_eq_some_iff.mp hi).1
  rw [List.length_take] at hl
  rw [List.getElem?_take_of_lt (by omega), List.getElem?_drop] at hi
  have := isAt_iff.mpr hi
  rw [h (a + i) (by omega) (by omega)] at this
  cases this
theorem parts_free : ∀ (k a b : Nat), b ≤ a → a + k = x.length + 1 → (∀ p, b ≤ p → p < a → isAt c x p = false) → ∀ q ∈ partsFrom x 1 b ((List.range' a k).filter (isAt c x)), c ∉ cp q
  | 0, a, b, hb, he, hf, q, hq => by
    have : q = strSub x b x.length := by simpa [partsFrom] using hq
    rw [this]
    exact sub_free fun p h1 h2 => hf p h1 (by omega)
  | k + 1, a, b, hb, he, hf, q, hq => by
    rw [List.range'_succ, List.filter_cons] at hq
    by_cases hc : isAt c x a = true
    · rw [if_pos hc] at hq
      rcases List.mem_cons.mp hq with z | z
      · rw [z]
        exact sub_free hf
      · exact parts_free k (a + 1) (a + 1) (Nat.le_refl _) (by omega) (fun p h1 h2 => by omega) q z
    · rw [if_neg hc] at hq
      exact parts_free k (a + 1) b (by omega) (by omega) (fun p h1 h2 => by
        by_cases hp : p = a
        · rw [hp]; simpa using hc
        · exact hf p h1 (by omega)) q hq
theorem split_free (hc : c < 256) : ∀ q ∈ Txt.split x (chr1 c), c ∉ cp q := by
  intro q hq
  unfold Txt.split at hq
  have k1 : Builtin.Str.strKind (chr1 c) = 1 := by simp [Builtin.Str.strKind, hc]
  have k2 : 1 ≤ Builtin.Str.strKind x := by unfold Builtin.Str.strKind; split <;> (try split) <;> omega
  split at hq
  · rename_i h
    rw [List.mem_singleton.mp hq]
    have hx : x.length = 0 := by
      rw [Bool.or_eq_true, decide_eq_true_eq, decide_eq_true_eq, k1] at h
      rcases h with h | h
      · have : x.length < 1 := h
        omega
      · omega
    have : cp x = [] := List.eq_nil_of_length_eq_zero (by simpa [Str.length] using hx)
    rw [this]
    simp
  · split at hq
    · rename_i h
      rw [List.mem_singleton.mp hq]
      rw [occ_all, List.isEmpty_iff] at h
      intro hm
      obtain ⟨i, hi⟩ := List.getElem?_of_mem hm
      have hl := (List.getElem?_eq_some_iff.mp hi).1
      have hn : (cp x).length = x.length := by simp [Str.length]
      have : i ∈ (List.range' 0 (x.length + 1)).filter (isAt c x) := List.mem_filter.mpr ⟨by simp; omega, isAt_iff.mpr hi⟩
      rw [h] at this
      simp at this
    · rw [occ_all, partsBetween_eq] at hq
      exact parts_free (x.length + 1) 0 0 (Nat.le_refl _) (by omega) (fun p h1 h2 => by omega) q hq
theorem split_ne : Txt.split x (chr1 c) ≠ [] := by
  unfold Txt.split
  split
  · simp
  · split
    · simp
    · rw [partsBetween_eq]
      obtain ⟨p, r, e⟩ := partsFrom_ne x (chr1 c).length 0 (occurrences x (chr1 c) 0 x.length (x.length + 1))
      rw [e]
      simp
theorem parts_len : ∀ (cuts : List Nat) (a : Nat), (partsFrom x 1 a cuts).length = cuts.length + 1
  | [], _ => rfl
  | d :: r, a => by
    show (partsFrom x 1 (d + 1) r).length + 1 = _
    rw [parts_len r]
    rfl
theorem split_few : (partsBetween x (occurrences x (chr1 c) 0 x.length (x.length + 1)) (chr1 c).length).length ≤ x.length + 2 := by
  rw [partsBetween_eq, occ_all]
  show (partsFrom x 1 0 _).length ≤ _
  rw [parts_len]
  have := List.length_filter_le (isAt c x) (List.range' 0 (x.length + 1))
  rw [List.length_range'] at this
  omega
theorem split_join (hc : c < 256) {ws : List Str} (hn : ws ≠ []) (hf : ∀ w ∈ ws, c ∉ cp w) : Txt.split (Str.join (chr1 c) ws) (chr1 c) = ws := by
  have h := join_split (Str.join (chr1 c) ws) (chr1 c)
  have h2 := congrArg cp h
  rw [cp_join, cp_join] at h2
  have h3 := joinL_inj (by simpa using split_ne) (by simpa using hn) (fun w hw => by
    obtain ⟨q, hq, rfl⟩ := List.mem_map.mp hw
    exact split_free hc q hq) (fun w hw => by
    obtain ⟨q, hq, rfl⟩ := List.mem_map.mp hw
    exact hf q hq) h2
  exact (List.map_inj_right fun a b e => cp_inj e).mp h3
end
end L2
namespace L2
open PySem PySem.Spec PyProof.Rows
abbrev cSp : Str := chr1 32
abbrev cCo : Str := chr1 44
abbrev cCn : Str := chr1 58
def numS (i : Int) : Str := (toString i : String)
def nineI : List Int := (List.range 19).map fun (k : Nat) => (k : Int) - 9
theorem nine_mem {i : Int} : i ∈ nineI ↔ -9 ≤ i ∧ i ≤ 9 := by
  unfold nineI
  rw [List.mem_map]
  constructor
  · rintro ⟨k, hk, rfl⟩
    have := List.mem_range.mp hk
    omega
  · rintro ⟨h1, h2⟩
    exact ⟨(i + 9).toNat, List.mem_range.mpr (by omega), by omega⟩
def numOf (w : Str) : Option Int := nineI.find? fun i => decide (numS i = w)
theorem num_all : ∀ i ∈ nineI, numOf (numS i) = some i ∧ (32 ∉ cp (numS i) ∧ 44 ∉ cp (numS i) ∧ numS i ≠ cCn) ∧ (numS i).length ≤ 2 := by decide +kernel
theorem numOf_eq {w : Str} {i : Int} (h : numOf w = some i) : numS i = w ∧ -9 ≤ i ∧ i ≤ 9 := by
  have h1 := List.find?_some (p := fun i => decide (numS i = w)) h
  exact ⟨of_decide_eq_true h1, nine_mem.mp (List.mem_of_find?_eq_some h)⟩
def numsOf : List Str → Option (List Int)
  | [] => some []
  | w :: r => match numOf w, numsOf r with
    | some i, some l => some (i :: l)
    | _, _ => none
theorem numsOf_eq : ∀ {ws : List Str} {l : List Int}, numsOf ws = some l → l.map numS = ws ∧ ∀ i ∈ l, -9 ≤ i ∧ i ≤ 9
  | [], l, h => by cases h; exact ⟨rfl, fun i hi => by simp at hi⟩
  | w :: r, l, h => by
    unfold numsOf at h
    split at h
    · rename_i i m e1 e2
      cases h
      obtain ⟨a1, a2⟩ := numOf_eq e1
      obtain ⟨b1, b2⟩ := numsOf_eq e2
      refine ⟨by rw [List.map_cons, a1, b1], fun x hx => ?_⟩
      rcases List.mem_cons.mp hx with rfl | hx
      · exact a2
      · exact b2 x hx
    · cases h
theorem numsOf_of : ∀ {l : List Int}, (∀ i ∈ l, -9 ≤ i ∧ i ≤ 9) → numsOf (l.map numS) = some l
  | [], _ => rfl
  | i :: l, h => by
    rw [List.map_cons, numsOf, (num_all i (nine_mem.mpr (h i List.mem_cons_self))).1, numsOf_of fun x hx => h x (List.mem_cons_of_mem _ hx)]
def textP (r : List Int) : Str := Str.join cCo (r.map numS)
def paysOf : List Str → Option (List (List Int))
  | [] => some []
  | w :: r => match numsOf (Txt.split w cCo), paysOf r with
    | some i, some l => some (i :: l)
    | _, _ => none
theorem paysOf_eq : ∀ {ws : List Str} {l : List (List Int)}, paysOf ws = some l → l.map textP = ws
  | [], l, h => by cases h; rfl
  | w :: r, l, h => by
    unfold paysOf at h
    split at h
    · rename_i i m e1 e2
      cases h
      rw [List.map_cons, paysOf_eq e2]
      unfold textP
      rw [(numsOf_eq e1).1, PySem.StrLaws.join_split]
    · cases h
theorem textP_split {r : List Int} (hn : r ≠ []) (h : ∀ i ∈ r, -9 ≤ i ∧ i ≤ 9) : Txt.split (textP r) cCo = r.map numS :=
  split_join (by decide) (by simpa using hn) fun w hw => by
    obtain ⟨i, hi, rfl⟩ := List.mem_map.mp hw
    exact (num_all i (nine_mem.mpr (h i hi))).2.1.2.1
theorem paysOf_of : ∀ {l : List (List Int)}, (∀ r ∈ l, r ≠ [] ∧ ∀ i ∈ r, -9 ≤ i ∧ i ≤ 9) → paysOf (l.map textP) = some l
  | [], _ => rfl
  | r :: l, h => by
    obtain ⟨h1, h2⟩ := h r List.mem_cons_self
    rw [List.map_cons, paysOf, textP_split h1 h2, numsOf_of h2, paysOf_of fun x hx => h x (List.mem_cons_of_mem _ hx)]
def wordsM (ns : List Int) (pay : List (List Int)) : List Str := ns.map numS ++ cCn :: pay.map textP
def textM (ns : List Int) (pay : List (List Int)) : Str := Str.join cSp (wordsM ns pay)
def readM (t : Str) : Option (List Int × List (List Int)) :=
  if cCn ∈ Txt.split t cSp then match numsOf ((Txt.split t cSp).take ((Txt.split t cSp).idxOf cCn)), paysOf ((Txt.split t cSp).drop ((Txt.split t cSp).idxOf cCn + 1)) with
    | some ns, some pay => if isMeeting (meetD ns pay) = true then some (ns, pay) else none
    | _, _ => none
  else none
theorem meet_true {ns : List Int} {pay : List (List Int)} (M : MeetOk ns pay) : isMeeting (meetD ns pay) = true := by
  have m := okDeeds_mem M.ok
  have hd : isDeeds (.tup (ns.map D.int)) = true := by
    have h2 := M.two
    simp only [isDeeds, List.length_map, h2, m.1, decide_true, Bool.true_and, List.all_map, List.all_eq_true]
    intro x hx
    simpa [isBetween] using m.2 x hx
  have hp : isPay (.tup (pay.map dInts)) ns = true := by
    simp only [isPay, List.length_map, M.many, decide_true, Bool.true_and, List.all_map, List.all_eq_true]
    intro r hr
    obtain ⟨h1, h2⟩ := M.rows r hr
    simp only [Function.comp_def, dInts, isPayRow, List.length_map, h1, decide_true, Bool.true_and, List.all_map, List.all_eq_true]
    intro x hx
    simpa [isBetween] using h2 x hx
  simp [isMeeting, meetD, dInts, hd, ints_map, hp]
theorem meet_of {ns : List Int} {pay : List (List Int)} (h : isMeeting (meetD ns pay) = true) : MeetOk ns pay := by
  simp only [isMeeting, meetD, dInts, ints_map, Bool.and_eq_true] at h
  obtain ⟨h1, h2⟩ := h
  simp only [isDeeds, List.length_map, Bool.and_eq_true, decide_eq_true_eq, List.all_map, List.all_eq_true] at h1
  simp only [isPay, List.length_map, Bool.and_eq_true, decide_eq_true_eq, List.all_map, List.all_eq_true] at h2
  refine ⟨h1.1.1, ?_, h2.1, fun r hr => ?_⟩
  · unfold okDeeds
    rw [Bool.and_eq_true, decide_eq_true_eq, List.all_eq_true]
    refine ⟨h1.1.2, fun x hx => ?_⟩
    have := h1.2 x hx
    simpa [isBetween] using this
  · have := h2.2 r hr
    simp only [Function.comp_def, dInts, isPayRow, List.length_map, Bool.and_eq_true, decide_eq_true_eq, List.all_map, List.all_eq_true] at this
    refine ⟨this.1, fun x hx => ?_⟩
    have := this.2 x hx
    simpa [isBetween] using this
theorem idx_words {ns : List Int} {r : List Str} (h : ∀ i ∈ ns, -9 ≤ i ∧ i ≤ 9) : (ns.map numS ++ cCn :: r).idxOf cCn = ns.length := by
  rw [List.idxOf_append, if_neg]
  · simp
  · intro z
    obtain ⟨i, hi, e⟩ := List.mem_map.mp z
    exact (num_all i (nine_mem.mpr (h i hi))).2.1.2.2 e
section
variable {ns : List Int} {pay : List (List Int)} {t : Str}
theorem read_text (h : readM t = some (ns, pay)) : MeetOk ns pay ∧ textM ns pay = t := by
  unfold readM at h
  split at h
  · rename_i hm
    split at h
    · rename_i ns' pay' e1 e2
      split at h
      · rename_i hi
        cases h
        refine ⟨meet_of hi, ?_⟩
        have w1 := (numsOf_eq e1).1
        have w2 := paysOf_eq e2
        unfold textM wordsM
        rw [w1, w2]
        have e3 : (Txt.split t cSp).take ((Txt.split t cSp).idxOf cCn) ++ cCn :: (Txt.split t cSp).drop ((Txt.split t cSp).idxOf cCn + 1) = Txt.split t cSp := by
          have hl := List.idxOf_lt_length_of_mem hm
          have e4 := List.getElem_idxOf hl
          have := List.take_append_drop ((Txt.split t cSp).idxOf cCn) (Txt.split t cSp)
          rw [List.drop_eq_getElem_cons hl, e4] at this
          exact this
        rw [e3, PySem.StrLaws.join_split]
      · cases h
    · cases h
  · cases h
theorem words_free (M : MeetOk ns pay) : ∀ w ∈ wordsM ns pay, 32 ∉ cp w := by
  have m := okDeeds_mem M.ok
  intro w hw
  rcases List.mem_append.mp hw with z | z
  · obtain ⟨i, hi, rfl⟩ := List.mem_map.mp z
    have := m.2 i hi
    exact (num_all i (nine_mem.mpr (by omega))).2.1.1
  · rcases List.mem_cons.mp z with z | z
    · rw [z]; decide
    · obtain ⟨r, hr, rfl⟩ := List.mem_map.mp z
      have h2 := (M.rows r hr).2
      unfold textP
      rw [cp_join]
      have : ∀ (ws : List (List Nat)), (∀ w ∈ ws, 32 ∉ w) → 32 ∉ joinL 44 ws := by
        intro ws
        induction ws with
        | nil => intro _; simp [joinL]
        | cons a l ih =>
          intro h
          cases l with
          | nil => exact h a List.mem_cons_self
          | cons b l =>
            intro z
            rcases List.mem_append.mp (show 32 ∈ a ++ 44 :: joinL 44 (b :: l) from z) with z | z
            · exact h a List.mem_cons_self z
            · rcases List.mem_cons.mp z with z | z
              · cases z
              · exact ih (fun w hw => h w (List.mem_cons_of_mem _ hw)) z
      refine this _ fun w hw => ?_
      obtain ⟨v, hv, rfl⟩ := List.mem_map.mp hw
      obtain ⟨i, hi, rfl⟩ := List.mem_map.mp hv
      exact (num_all i (nine_mem.mpr (h2 i hi))).2.1.1
theorem text_read (M : MeetOk ns pay) : readM (textM ns pay) = some (ns, pay) := by
  have m := okDeeds_mem M.ok
  have h9 : ∀ i ∈ ns, -9 ≤ i ∧ i ≤ 9 := fun i hi => by have := m.2 i hi; omega
  have e0 : Txt.split (textM ns pay) cSp = wordsM ns pay := split_join (by decide) (by unfold wordsM; simp) (words_free M)
  have e1 : (wordsM ns pay).idxOf cCn = ns.length := idx_words h9
  have e2 : (wordsM ns pay).take ns.length = ns.map numS := by unfold wordsM; rw [List.take_left' (by simp)]
  have e3 : (wordsM ns pay).drop (ns.length + 1) = pay.map textP := by
    unfold wordsM
    rw [← List.drop_drop, List.drop_left' (by simp)]
    rfl
  unfold readM
  rw [e0, if_pos (by unfold wordsM; simp), e1, e2, e3, numsOf_of h9, paysOf_of fun r hr => ?_]
  · simp only [meet_true M, if_true]
  · obtain ⟨h1, h2⟩ := M.rows r hr
    refine ⟨fun z => ?_, h2⟩
    have := M.two
    rw [z] at h1
    simp at h1
    omega
theorem numS_len {i : Int} (h : -9 ≤ i ∧ i ≤ 9) : (numS i).length ≤ 2 := (num_all i (nine_mem.mpr h)).2.2
theorem sum_le {ws : List Str} {B : Nat} (h : ∀ w ∈ ws, w.length ≤ B) : (ws.map (·.length)).sum ≤ ws.length * B := by
  induction ws with
  | nil => simp
  | cons a l ih =>
    have h1 := h a List.mem_cons_self
    have h2 := ih fun w hw => h w (List.mem_cons_of_mem _ hw)
    rw [List.map_cons, List.sum_cons, List.length_cons, Nat.succ_mul]
    omega
theorem join_le {sep : Str} {ws : List Str} {B : Nat} (h : ∀ w ∈ ws, w.length ≤ B) : (Str.join sep ws).length ≤ ws.length * B + ws.length * sep.length := by
  have h1 := PySem.StrLaws.join_length_le sep ws
  have h2 := sum_le h
  omega
theorem textP_len {r : List Int} (hl : r.length ≤ 3) (h : ∀ i ∈ r, -9 ≤ i ∧ i ≤ 9) : (textP r).length ≤ 9 := by
  have := join_le (sep := cCo) (ws := r.map numS) (B := 2) fun w hw => by
    obtain ⟨i, hi, rfl⟩ := List.mem_map.mp hw
    exact numS_len (h i hi)
  rw [List.length_map] at this
  have e : cCo.length = 1 := rfl
  rw [e] at this
  unfold textP
  omega
theorem words_len (M : MeetOk ns pay) : (∀ w ∈ wordsM ns pay, w.length ≤ 9) ∧ (wordsM ns pay).length ≤ 31 := by
  have m := okDeeds_mem M.ok
  have rl := rows_len M.ok
  have ml := M.many
  refine ⟨fun w hw => ?_, by unfold wordsM; simp; omega⟩
  rcases List.mem_append.mp hw with z | z
  · obtain ⟨i, hi, rfl⟩ := List.mem_map.mp z
    have := m.2 i hi
    have := numS_len (i := i) (by omega)
    omega
  · rcases List.mem_cons.mp z with z | z
    · rw [z]; decide
    · obtain ⟨r, hr, rfl⟩ := List.mem_map.mp z
      have h2 := M.rows r hr
      exact textP_len (by omega) h2.2
theorem textM_len (M : MeetOk ns pay) : (textM ns pay).length ≤ 400 := by
  obtain ⟨h1, h2⟩ := words_len M
  have := join_le (sep := cSp) h1
  have e : cSp.length = 1 := rfl
  rw [e] at this
  unfold textM
  omega
end
theorem joinOk_of {sep : Str} {ws : List Str} {B : Nat} (h : ∀ w ∈ ws, w.length ≤ B) (hl : ws.length * B + ws.length * sep.length ≤ 16777216) : JoinOk sep ws = true := by
  unfold JoinOk
  rw [PySem.StrLaws.joinFits h hl]
  rfl
def outOf (o : Option D) : Out := match o with
  | some x => { ret := fun d => d = x, exc := fun _ => False }
  | none => { ret := fun _ => False, exc := fun c => c = "NoText" }
def F_number_of : List D → Option Out
  | [.str w] => some (outOf ((numOf w).map D.int))
  | _ => none
def F_numbers_of : List D → Option Out
  | [.lst ds] => match strsD ds with
    | some ws => if ws.length ≤ 3000 then some (outOf ((numsOf ws).map dInts)) else none
    | none => none
  | _ => none
def mD (m : List Int × List (List Int)) : D := meetD m.1 m.2
def F_read : List D → Option Out
  | [.str t] => if t.length ≤ 2000 then some (outOf ((readM t).map mD)) else none
  | _ => none
def F_read_c : List D → Option (D → Prop)
  | [.str t] => if t.length ≤ 2000 then match readM t with
      | some m => some fun d => d = mD m
      | none => none
    else none
  | _ => none
theorem F_read_calm : ∀ ds p, F_read_c ds = some p → ∃ o, F_read ds = some o ∧ (∀ d, o.ret d → p d) ∧ ∀ c, ¬ o.exc c := by
  intro ds p h
  unfold F_read_c at h
  split at h
  · rename_i t
    split at h
    · rename_i hl
      split at h
      · rename_i m e
        cases h
        refine ⟨_, if_pos hl, ?_, ?_⟩
        · rw [e]; exact fun d hd => hd
        · rw [e]; exact fun c z => z
      · cases h
    · cases h
  · cases h
def F__law_read : List D → Option D
  | [.str t] => if t.length ≤ 2000 then some (((readM t).map mD).getD .non) else none
  | _ => none
open Classical in
noncomputable def F_written_pays : List D → Option D
  | [d] => match rowD d with
    | some r => if r.length ≤ 3 ∧ ∀ i ∈ r, -9 ≤ i ∧ i ≤ 9 then some (.str (textP r)) else none
    | none => none
  | _ => none
noncomputable def F_written : List D → Option D
  | [m] => onMeet m fun ns pay => some (.str (textM ns pay))
  | _ => none
noncomputable def F__law_text : List D → Option D
  | [m] => onMeet m fun ns pay => some (.str (textM ns pay))
  | _ => none
def F__law_spoilt : List D → Option (D → Prop)
  | [.str t, .int _] => if t.length ≤ 400 then some fun d => ∃ t', d = .str t' ∧ t'.length ≤ 2000 else none
  | _ => none
end L2
namespace L2
open PySem PySem.Spec PyProof.Rows
noncomputable def g_is_whole : GS := (gRet (gAndV (gInst "int" (gVar 0)) (gNotT (gInst "bool" (gVar 0)))))
noncomputable def g_rows_of_1 : GS := (gSeq (gFor (gIt (gVar 0)) (gNm 2) (gSeq (gAsgO 3 (gLst gNilA)) (gSeq (gFor (gIl (gVar 1)) (gNm 4) (gFor (gRng1 (gVar 2)) (gNm 5) (gApp 3 (gOp oAdd (gVar 4) (gTupE (gConsA (gVar 5) gNilA)))))) (gFrz 3 (gAsg (gVar 3) (gNm 1)))))) (gRet (gCallB cTuple (gConsA (gVar 1) gNilA))))
noncomputable def g_rows_of : GS := (gSeq (gAsg (gF (gLst (gConsA (gTupE gNilA) gNilA))) (gNm 1)) g_rows_of_1)
noncomputable def g_is_tuple_of : GS := (gRet (gAndV (gInst "tuple" (gVar 0)) (gChain oLe oLe (gVar 1) (gCallB cLen (gConsA (gVar 0) gNilA)) (gVar 2))))
noncomputable def g_number_of_1 : GX := (gRaise "NoText" (gConsA (gC (.str (PySem.Str.ofString "a word is no number of a meeting"))) gNilA))
noncomputable def g_number_of : GX := (gSeqX (gLift (gFor (gRng2 (gC (.int (-9))) (gOp oAdd (gC (.int (9))) (gC (.int 1)))) (gNm 1) (gIfS (gTest (gOp oEq (gCallB cStr (gConsA (gVar 1) gNilA)) (gVar 0))) (gRet (gVar 1)) gNext))) g_number_of_1)
noncomputable def g_written_pays : GS := (gRet (gJoin (gC (.str (PySem.Str.ofString ","))) (gF (gComp [none] (gIt (gVar 0)) (gNm 0) (gCallB cStr (gConsA (gVar 0) gNilA))))))
noncomputable def g__law_mix : GS := (gRet (gOp oMod (gOp oMod (gOp oMul (gVar 0) (gC (.int 48271))) (gVar 1)) (gVar 2)))
noncomputable def g__law_rows_1 : GS := (gSeq (gFor (gIt (gVar 0)) (gNm 2) (gSeq (gAsgO 3 (gLst gNilA)) (gSeq (gFor (gIl (gVar 1)) (gNm 4) (gExt 3 (gComp [none, some 4] (gRng1 (gVar 2)) (gNm 0) (gOp oAdd (gVar 1) (gTupE (gConsA (gVar 0) gNilA)))))) (gFrz 3 (gAsg (gVar 3) (gNm 1)))))) (gRet (gVar 1)))
noncomputable def g__law_rows : GS := (gSeq (gAsg (gF (gLst (gConsA (gTupE gNilA) gNilA))) (gNm 1)) g__law_rows_1)
noncomputable def g__law_text_3 : GS := (gSeq (gFor (gIt (gOp gIx (gVar 0) (gC (.int 1)))) (gNm 3) (gAsg (gOp oAddS (gOp oAddS (gVar 1) (gC (.str (PySem.Str.ofString " ")))) (gJoin (gC (.str (PySem.Str.ofString ","))) (gF (gComp [none] (gIt (gVar 3)) (gNm 0) (gCallB cStr (gConsA (gVar 0) gNilA)))))) (gNm 1))) (gRet (gVar 1)))
noncomputable def g__law_text_2 : GS := (gSeq (gAsg (gOp oAddS (gVar 1) (gC (.str (PySem.Str.ofString ":")))) (gNm 1)) g__law_text_3)
noncomputable def g__law_text_1 : GS := (gSeq (gFor (gIt (gOp gIx (gVar 0) (gC (.int 0)))) (gNm 2) (gAsg (gOp oAddS (gOp oAddS (gVar 1) (gCallB cStr (gConsA (gVar 2) gNilA))) (gC (.str (PySem.Str.ofString " ")))) (gNm 1))) g__law_text_2)
noncomputable def g__law_text : GS := (gSeq (gAsg (gC (.str (PySem.Str.ofString ""))) (gNm 1)) g__law_text_1)
noncomputable def g__law_spoilt_4 : GS := (gRet (gOp oAddS (gOp oAddS (gSlS (gVar 0) gNoP (gPart (gVar 2))) (gVar 3)) (gSlS (gVar 0) (gPart (gOp oSub (gOp oAdd (gVar 2) (gOp oMod (gVar 1) (gC (.int 4)))) (gC (.int 2)))) gNoP)))
noncomputable def g__law_spoilt_3 : GS := (gSeq (gIfS (gTest (gOp oEq (gOp oMod (gVar 1) (gC (.int 4))) (gC (.int 1)))) (gRet (gOp oAddS (gOp oAddS (gSlS (gVar 0) gNoP (gPart (gVar 2))) (gSlS (gVar 0) (gPart (gVar 2)) (gPart (gOp oAdd (gVar 2) (gC (.int 1)))))) (gSlS (gVar 0) (gPart (gVar 2)) gNoP))) gNext) g__law_spoilt_4)
noncomputable def g__law_spoilt_2 : GS := (gSeq (gIfS (gTest (gOp oEq (gOp oMod (gVar 1) (gC (.int 4))) (gC (.int 0)))) (gRet (gOp oAddS (gSlS (gVar 0) gNoP (gPart (gVar 2))) (gSlS (gVar 0) (gPart (gOp oAdd (gVar 2) (gC (.int 1)))) gNoP))) gNext) g__law_spoilt_3)
noncomputable def g__law_spoilt_1 : GS := (gSeq (gAsg (gOp gIxS (gC (.str (PySem.Str.ofString "0129:,- +a"))) (gOp oMod (gOp oDiv (gVar 1) (gC (.int 512))) (gC (.int 10)))) (gNm 3)) g__law_spoilt_2)
noncomputable def g__law_spoilt : GS := (gSeq (gAsg (gOp oMod (gOp oDiv (gVar 1) (gC (.int 4))) (gOp oAdd (gCallB cLenS (gConsA (gVar 0) gNilA)) (gC (.int 1)))) (gNm 2)) g__law_spoilt_1)
noncomputable def g_is_between : GS := (gRet (gAndV (gCallD F_is_whole (gConsA (gVar 0) gNilA)) (gChain oLe oLe (gVar 1) (gVar 0) (gVar 2))))
noncomputable def g_numbers_of : GX := (gRetX (gCallBX cTuple (gConsX (gFX (gCompX [none] (gIl (gVar 0)) (gNm 0) (gCallX F_number_of (gConsA (gVar 0) gNilA)))) gNilX)))
noncomputable def g_written_2 : GS := (gFrz 2 (gRet (gJoin (gC (.str (PySem.Str.ofString " "))) (gF (gCatL (gF (gCatL (gVar 1) (gF (gLst (gConsA (gC (.str (PySem.Str.ofString ":"))) gNilA))))) (gVar 2))))))
noncomputable def g_written_1 : GS := (gFrz 1 (gSeq (gAsgO 2 (gComp [none] (gIt (gOp gIx (gVar 0) (gC (.int 1)))) (gNm 0) (gCallD F_written_pays (gConsA (gVar 0) gNilA)))) g_written_2))
noncomputable def g_written : GS := (gSeq (gAsgO 1 (gComp [none] (gIt (gOp gIx (gVar 0) (gC (.int 0)))) (gNm 0) (gCallB cStr (gConsA (gVar 0) gNilA)))) g_written_1)
noncomputable def g__law_meeting_6 : GS := (gFrz 3 (gRet (gTupE (gConsA (gVar 1) (gConsA (gCallB cTuple (gConsA (gVar 3) gNilA)) gNilA)))))
noncomputable def g__law_meeting_5 : GS := (gSeq (gIfS (gTest (gOp oEq (gOp oMod (gVar 0) (gC (.int 9))) (gC (.int 0)))) (gSeq (gAsg (gF (gCallF cSorted (gConsA (gF (gComp [none, some 0] (gRng1 (gC (.int 4))) (gNm 0) (gOp oSub (gCallD F__law_mix (gConsA (gOp oAdd (gVar 1) (gVar 0)) (gConsA (gC (.int 9931)) (gConsA (gC (.int 19)) gNilA)))) (gC (.int 9))))) gNilA))) (gNm 7)) (gAsgO 3 (gLst (gConsA (gTupE (gConsA (gOp gIx (gVar 7) (gC (.int 2))) (gConsA (gOp gIx (gVar 7) (gC (.int 2))) gNilA))) (gConsA (gTupE (gConsA (gOp gIx (gVar 7) (gC (.int 0))) (gConsA (gOp gIx (gVar 7) (gC (.int 3))) gNilA))) (gConsA (gTupE (gConsA (gOp gIx (gVar 7) (gC (.int 3))) (gConsA (gOp gIx (gVar 7) (gC (.int 0))) gNilA))) (gConsA (gTupE (gConsA (gOp gIx (gVar 7) (gC (.int 1))) (gConsA (gOp gIx (gVar 7) (gC (.int 1))) gNilA))) gNilA))))))) gNext) g__law_meeting_6)
noncomputable def g__law_meeting_4 : GS := (gSeq (gFor (gRng1 (gCallB cLen (gConsA (gCallD F__law_rows (gConsA (gVar 1) gNilA)) gNilA))) (gNm 4) (gSeq (gAsg (gOp oAdd (gVar 0) (gOp oMul (gC (.int 13)) (gVar 4))) (gNm 5)) (gSeq (gAsgO 6 (gComp [none, some 2, some 5] (gRng1 (gCallB cLen (gConsA (gVar 1) gNilA))) (gNm 0) (gOp oSub (gOp oAdd (gCallD F__law_mix (gConsA (gOp oAdd (gVar 2) (gOp oMul (gC (.int 5)) (gVar 0))) (gConsA (gC (.int 9941)) (gConsA (gOp oSub (gOp oMul (gC (.int 2)) (gVar 1)) (gC (.int 1))) gNilA)))) (gC (.int 1))) (gVar 1)))) (gFrz 6 (gApp 3 (gCallB cTuple (gConsA (gVar 6) gNilA))))))) g__law_meeting_5)
noncomputable def g__law_meeting_2 : GS := (gSeq (gAsg (gOp gIx (gF (gLst (gConsA (gC (.int 2)) (gConsA (gC (.int 5)) (gConsA (gC (.int 10)) gNilA))))) (gCallD F__law_mix (gConsA (gVar 0) (gConsA (gC (.int 9949)) (gConsA (gC (.int 3)) gNilA))))) (gNm 2)) (gSeq (gAsgO 3 (gLst gNilA)) g__law_meeting_4))
noncomputable def g__law_meeting_1 : GS := (gSeq (gIfS (gTest (gOp oEq (gOp oMod (gVar 0) (gC (.int 3))) (gC (.int 0)))) (gAsg (gTupE (gConsA (gC (.int 2)) (gConsA (gC (.int 2)) gNilA))) (gNm 1)) gNext) g__law_meeting_2)
noncomputable def g__law_meeting : GS := (gSeq (gAsg (gCallB cTuple (gConsA (gF (gComp [none, some 0] (gRng1 (gOp oAdd (gC (.int 2)) (gOp oDiv (gCallD F__law_mix (gConsA (gVar 0) (gConsA (gC (.int 9967)) (gConsA (gC (.int 4)) gNilA)))) (gC (.int 3))))) (gNm 0) (gOp oAdd (gC (.int 1)) (gCallD F__law_mix (gConsA (gOp oAdd (gVar 1) (gOp oMul (gC (.int 7)) (gVar 0))) (gConsA (gC (.int 9973)) (gConsA (gC (.int 3)) gNilA))))))) gNilA)) (gNm 1)) g__law_meeting_1)
noncomputable def g_are_between : GS := (gRet (gCallB cAll (gConsA (gF (gComp [none, some 1, some 2] (gIt (gVar 0)) (gNm 0) (gCallD F_is_between (gConsA (gVar 0) (gConsA (gVar 1) (gConsA (gVar 2) gNilA)))))) gNilA)))
noncomputable def g_is_deeds : GS := (gRet (gAndV (gCallD F_is_tuple_of (gConsA (gVar 0) (gConsA (gC (.int (2))) (gConsA (gC (.int (3))) gNilA)))) (gCallD F_are_between (gConsA (gVar 0) (gConsA (gC (.int 1)) (gConsA (gC (.int (3))) gNilA))))))
noncomputable def g_is_pay_of_row : GS := (gRet (gAndV (gCallD F_is_tuple_of (gConsA (gVar 0) (gConsA (gVar 1) (gConsA (gVar 1) gNilA)))) (gCallD F_are_between (gConsA (gVar 0) (gConsA (gC (.int (-9))) (gConsA (gC (.int (9))) gNilA))))))
noncomputable def g_is_pay_1 : GS := (gRet (gAndV (gCallD F_is_tuple_of (gConsA (gVar 0) (gConsA (gVar 2) (gConsA (gVar 2) gNilA)))) (gCallB cAll (gConsA (gF (gComp [none, some 1] (gIt (gVar 0)) (gNm 0) (gCallD F_is_pay_of_row (gConsA (gVar 0) (gConsA (gCallB cLen (gConsA (gVar 1) gNilA)) gNilA))))) gNilA))))
noncomputable def g_is_pay : GS := (gSeq (gAsg (gCallB cLen (gConsA (gCallD F_rows_of (gConsA (gVar 1) gNilA)) gNilA)) (gNm 2)) g_is_pay_1)
noncomputable def g_is_meeting : GS := (gRet (gAndV (gCallD F_is_tuple_of (gConsA (gVar 0) (gConsA (gC (.int 2)) (gConsA (gC (.int 2)) gNilA)))) (gAndV (gCallD F_is_deeds (gConsA (gOp gIx (gVar 0) (gC (.int 0))) gNilA)) (gCallD F_is_pay (gConsA (gOp gIx (gVar 0) (gC (.int 1))) (gConsA (gOp gIx (gVar 0) (gC (.int 0))) gNilA))))))
noncomputable def g_read_6 : GX := (gLift (gRet (gTupE (gConsA (gVar 3) (gConsA (gVar 4) gNilA)))))
noncomputable def g_read_5 : GX := (gSeqX (gIfX (gNot (gTru (gCallD F_is_meeting (gConsA (gTupE (gConsA (gVar 3) (gConsA (gVar 4) gNilA))) gNilA)))) (gRaise "NoText" (gConsA (gC (.str (PySem.Str.ofString "the numbers are no meeting's"))) gNilA)) (gLift gNext)) g_read_6)
noncomputable def g_read_4 : GX := (gSeqX (gAsgX (gCallBX cTuple (gConsX (gFX (gCompX [none] (gIl (gF (gSlL (gVar 1) (gPart (gOp oAdd (gVar 2) (gC (.int 1)))) gNoP))) (gNm 0) (gCallX F_numbers_of (gConsA (gF (gSplit (gVar 0) (gC (.str (PySem.Str.ofString ","))))) gNilA)))) gNilX)) (gNm 4)) g_read_5)
noncomputable def g_read_3 : GX := (gSeqX (gAsgX (gCallX F_numbers_of (gConsA (gF (gSlL (gVar 1) gNoP (gPart (gVar 2)))) gNilA)) (gNm 3)) g_read_4)
noncomputable def g_read_2 : GX := (gSeqX (gLift (gAsg (gIndex (gVar 1) (gC (.str (PySem.Str.ofString ":")))) (gNm 2))) g_read_3)
noncomputable def g_read_1 : GX := (gSeqX (gIfX (gTest (gOp oNotin (gC (.str (PySem.Str.ofString ":"))) (gVar 1))) (gRaise "NoText" (gConsA (gC (.str (PySem.Str.ofString "no colon stands by itself"))) gNilA)) (gLift gNext)) g_read_2)
noncomputable def g_read : GX := (gSeqX (gLift (gAsg (gF (gSplit (gVar 0) (gC (.str (PySem.Str.ofString " "))))) (gNm 1))) g_read_1)
noncomputable def g__law_read_1 : GS := (gSeq (gTryIf 3 2 (fun c => c = "NoText") (fun _ => true) (gAsgX (gCallX F_read (gConsA (gVar 0) gNilA)) (gNm 1)) (gAsg (gC .non) (gNm 1))) (gRet (gVar 1)))
noncomputable def g__law_read : GS := (gSeq (gAsg (gC (.str (PySem.Str.ofString "other"))) (gNm 1)) g__law_read_1)
noncomputable def g_law_f1 : GS := (gSeq (gAsg (gCallR F__law_meeting (gConsA (gVar 1) gNilA)) (gNm 2)) (gSeq (gAsg (gCallD F__law_text (gConsA (gVar 2) gNilA)) (gNm 3)) (gSeq (gIfS (gOr (gTest (gOp oNe (gCallD F_written (gConsA (gVar 2) gNilA)) (gVar 3))) (gTest (gOp oNe (gCallR F_read_c (gConsA (gVar 3) gNilA)) (gVar 2)))) (gRet (gC (.bl false))) gNext) (gSeq (gAsg (gCallR F__law_spoilt (gConsA (gVar 3) (gConsA (gOp oDiv (gVar 1) (gC (.int 5))) gNilA))) (gNm 4)) (gSeq (gAsg (gCallD F__law_read (gConsA (gVar 4) gNilA)) (gNm 5)) (gIfS (gAnd (gTest (gOp oIsnot2 (gVar 5) (gC .non))) (gOr (gNot (gTru (gCallD F_is_meeting (gConsA (gVar 5) gNilA)))) (gTest (gOp oNe (gCallD F__law_text (gConsA (gVar 5) gNilA)) (gVar 4))))) (gRet (gC (.bl false))) gNext))))))
noncomputable def g_law_3 : GS := (gRet (gOp oEq (gCallR F_read_c (gConsA (gC (.str (PySem.Str.ofString "1 1 : 0,-9"))) gNilA)) (gTupE (gConsA (gTupE (gConsA (gC (.int 1)) (gConsA (gC (.int 1)) gNilA))) (gConsA (gTupE (gConsA (gTupE (gConsA (gC (.int 0)) (gConsA (gNeg (gC (.int 9))) gNilA))) gNilA)) gNilA)))))
noncomputable def g_law_2 : GS := (gSeq (gFor (gIl (gF (gCatL (gVar 6) (gF (gLst (gConsA (gC (.str (PySem.Str.ofString "1 1 : 0"))) (gConsA (gC (.str (PySem.Str.ofString "1 1 : -0,0"))) gNilA))))))) (gNm 4) (gIfS (gTest (gOp oIsnot2 (gCallD F__law_read (gConsA (gVar 4) gNilA)) (gC .non))) (gRet (gC (.bl false))) gNext)) g_law_3)
noncomputable def g_law_1 : GS := (gSeq (gAsg (gF (gLst (gConsA (gC (.str (PySem.Str.ofString ""))) (gConsA (gC (.str (PySem.Str.ofString ":"))) (gConsA (gC (.str (PySem.Str.ofString "1 1"))) (gConsA (gC (.str (PySem.Str.ofString "1 1 :"))) (gConsA (gC (.str (PySem.Str.ofString "1 1 0,0"))) (gConsA (gC (.str (PySem.Str.ofString "1 1 : 0,0 "))) (gConsA (gC (.str (PySem.Str.ofString " 1 1 : 0,0"))) (gConsA (gC (.str (PySem.Str.ofString "1 1 : 0,0 0,0"))) gNilA)))))))))) (gNm 6)) g_law_2)
noncomputable def g_law : GS := (gSeq (gFor (gIl (gF (gSlL (gVar 0) gNoP (gPart (gC (.int 6)))))) (gNm 1) g_law_f1) g_law_1)
end L2
namespace L2
open PySem PySem.Spec PyProof.Rows
theorem ends_le {n : Nat} (h : n ≤ 1000) : n ≤ sizeLine := Nat.le_of_lt (small1000 h)
theorem isSub_int (d : D) : isSub (tyD d) "int" = (match d with
  | .int _ => true
  | .bl _ => true
  | _ => false) := by cases d <;> rfl
theorem isSub_bool (d : D) : isSub (tyD d) "bool" = (match d with
  | .bl _ => true
  | _ => false) := by cases d <;> rfl
theorem isSub_tuple (d : D) : isSub (tyD d) "tuple" = (match d with
  | .tup _ => true
  | _ => false) := by cases d <;> rfl
theorem oMulI {i j : Int} {Q : D → Prop} : oMul (.int i) (.int j) Q = (CMul i j ∧ Q (.int (i * j))) := rfl
end L2
local macro_rules | `(tactic| simp_all_arith!) => `(tactic| exact ⟨rfl, rfl, rfl, by decide +kernel, rfl, by decide +kernel, by decide +kernel⟩)
local macro_rules | `(tactic| simp_arith! only [$as,*]) => `(tactic| simp only [L2.gRet, L2.gAndV, L2.gOrV, L2.gNotV, L2.gInst, L2.isSub_int, L2.isSub_bool, L2.isSub_tuple, L2.gVar, L2.gSeq, L2.gAsg, L2.gNm, L2.gC, L2.gF, L2.gLst, L2.gConsA, L2.gNilA, L2.gTupE, L2.gCallB, L2.gCallF, L2.gCallD, L2.gCallR, L2.gOpt, L2.gOptP, L2.cLen, L2.cAbs, L2.cAll, L2.cTuple, L2.cList, L2.gOp, L2.oInt, L2.oIntC, L2.oAdd, L2.oMulI, L2.oNe, L2.oEq, L2.oIs, L2.oIsnot, L2.eqD_int, L2.dep, L2.gIx, L2.gChain, L2.gChain3, L2.gTest, L2.isBl, L2.gIfS, L2.gIt, L2.gIl, L2.gRng1, L2.gRng2, L2.gApp, L2.gExt, L2.gFrz, L2.gAsgO, L2.gNext, L2.gTru, L2.gNot, L2.gAnd, L2.gOr, L2.gPart, L2.gNoP, L2.gSlT, L2.gCatL, L2.gNeg, L2.gNm2, L2.gZip, L2.gNotT, L2.truD, L2.gPeek, L2.gPeekT, L2.gPeekF, L2.gEnumT, L2.gEnumL, L2.cInt, L2.gPar, L2.gIfE, eq_self, if_true, ↓reduceIte, Bool.false_eq_true, if_false, List.getElem?_cons_zero, List.getElem?_cons_succ, List.set_cons_zero, List.set_cons_succ, $as,*])
local macro_rules | `(tactic| simp_arith only [$as,*]) => `(tactic| simp only [L2.gRet, L2.gAndV, L2.gOrV, L2.gNotV, L2.gInst, L2.isSub_int, L2.isSub_bool, L2.isSub_tuple, L2.gVar, L2.gSeq, L2.gAsg, L2.gNm, L2.gC, L2.gF, L2.gLst, L2.gConsA, L2.gNilA, L2.gTupE, L2.gCallB, L2.gCallF, L2.gCallD, L2.gCallR, L2.gOpt, L2.gOptP, L2.cLen, L2.cAbs, L2.cAll, L2.cTuple, L2.cList, L2.gOp, L2.oInt, L2.oIntC, L2.oAdd, L2.oMul, L2.oNe, L2.oEq, L2.oIs, L2.oIsnot, L2.eqD, L2.dep, L2.gIx, L2.gChain, L2.gChain3, L2.gTest, L2.isBl, L2.gIfS, L2.gIt, L2.gIl, L2.gRng1, L2.gRng2, L2.gApp, L2.gExt, L2.gFrz, L2.gAsgO, L2.gNext, L2.gTru, L2.gNot, L2.gAnd, L2.gOr, L2.gPart, L2.gNoP, L2.gSlT, L2.gCatL, L2.gNeg, L2.gNm2, L2.gZip, L2.gNotT, L2.truD, L2.gPeek, L2.gPeekT, L2.gPeekF, L2.gEnumT, L2.gEnumL, L2.cInt, L2.gPar, L2.gIfE, eq_self, if_true, ↓reduceIte, Bool.false_eq_true, if_false, List.getElem?_cons_zero, List.getElem?_cons_succ, List.set_cons_zero, List.set_cons_succ, $as,*])
namespace L2
open PySem PySem.Spec PyProof.Rows
abbrev retD (d : D) : DEnds := { nx := fun _ => d = .non, rt := fun r => r = d }
theorem rowStep_take (R : List (List Int)) (n : Int) (j : Nat) (h : j < R.length) : rowStep (R.take (j + 1)) n = rowStep (R.take j) n ++ (List.range n.toNat).map fun (k : Nat) => R[j] ++ [(k : Int)] := by
  rw [List.take_succ, List.getElem?_eq_getElem h, Option.toList_some, rowStep_append, rowStep_one]
theorem rowsL_take (ns : List Int) (i : Nat) (h : i < ns.length) : rowsL (ns.take (i + 1)) = rowStep (rowsL (ns.take i)) ns[i] := by
  rw [List.take_succ, List.getElem?_eq_getElem h, Option.toList_some, rowsL_snoc]
theorem getm_map {α β : Type} {f : α → β} {l : List α} {i : Nat} {d : β} (e : (l.map f)[i]? = some d) : ∃ h : i < l.length, d = f l[i] := by
  rw [List.getElem?_map] at e
  cases e2 : l[i]? with
  | none => rw [e2] at e; cases e
  | some x =>
    rw [e2] at e
    obtain ⟨h, e3⟩ := List.getElem?_eq_some_iff.mp e2
    cases e
    exact ⟨h, by rw [e3]⟩
theorem row_facts {ns : List Int} (ho : okDeeds ns = true) {i : Nat} (hi : i < ns.length) : 1 ≤ ns[i] ∧ ns[i] ≤ 3 ∧ (rowsL (ns.take i)).length ≤ 27 ∧ ∀ r ∈ rowsL (ns.take i), r.length ≤ 3 := by
  obtain ⟨m1, m2⟩ := okDeeds_mem ho
  have h1 := m2 ns[i] (List.getElem_mem hi)
  refine ⟨h1.1, h1.2, (rows_len (okDeeds_take ho i)).2, fun r hr => ?_⟩
  rw [(rows_row hr).1, List.length_take]
  omega
abbrev retP (p : D → Prop) : DEnds := { nx := fun _ => p .non, rt := p }
theorem mix_nn {c p m : Int} (h : 0 < m) : 0 ≤ mix c p m := Int.emod_nonneg _ (by omega)
theorem mix_lt {c p m : Int} (h : 0 < m) : mix c p m < m := Int.emod_lt_of_pos _ h
theorem Fmix {c p m : Int} (hp : 0 < p) (hm : 0 < m) : F__law_mix [.int c, .int p, .int m] = some (.int (mix c p m)) := if_pos ⟨hp, hm⟩
theorem okD {ns : List Int} (h1 : ns.length ≤ 3) (h2 : ∀ n ∈ ns, 1 ≤ n ∧ n ≤ 3) : okDeeds ns = true := by
  unfold okDeeds
  rw [Bool.and_eq_true, decide_eq_true_eq, List.all_eq_true]
  exact ⟨h1, fun n hn => by simpa using h2 n hn⟩
abbrev meetP (c : Int) : D → Prop := fun d => ∃ ns pay, d = meetD ns pay ∧ MeetOk ns pay ∧ (c % 3 = 0 → ns = [2, 2])
theorem rangeD_len (a : Int) (n : Nat) : (rangeD a n).length = n := by simp [rangeD]
theorem Frows {ns : List Int} (ho : okDeeds ns = true) : F__law_rows [dInts ns] = some (.lst ((rowsL ns).map dInts)) := onDeeds_of _ ho
theorem vc__law_mix : ∀ ds d, F__law_mix ds = some d → g__law_mix (retD d) (dstart ["_law_cell_here", "_law_prime", "_law_many"] ds)
  | [.int c, .int p, .int m], d, h => by
    have h : (if 0 < p ∧ 0 < m then some (D.int (mix c p m)) else none) = some d := h
    split at h
    · rename_i hp
      cases h
      show g__law_mix _ [.im (.int c), .im (.int p), .im (.int m)]
      simp_arith only [g__law_mix, List.getElem?_cons_zero, List.getElem?_cons_succ, mix]
      exact ⟨Or.inr ⟨by decide, by decide⟩, hp.1, hp.2, trivial⟩
    · cases h
theorem vc__law_rows : ∀ ds d, F__law_rows ds = some d → g__law_rows (retD d) (dstart ["_law_deeds", "_law_found", "_law_many", "_law_more", "_law_row"] ds)
  | [.tup es], d, h => by
    obtain ⟨ns, rfl, ho, rfl⟩ := onDeeds_eq (show onDeeds es (fun ns => D.lst ((rowsL ns).map dInts)) = some d from h)
    show g__law_rows _ [.im (.tup (ns.map D.int)), .un, .un, .un, .un]
    simp_arith only [g__law_rows, g__law_rows_1, gFor]
    refine ⟨by decide, by decide, fun i δ => ∃ a b c, δ = [.im (.tup (ns.map D.int)), .im (.lst ((rowsL (ns.take i)).map dInts)), a, b, c], ⟨.un, .un, .un, rfl⟩, ?_, ?_⟩
    · rintro i d δ ed ⟨a, b, c, rfl⟩
      obtain ⟨hi, rfl⟩ := getm_map ed
      obtain ⟨f1, f2, f3, f4⟩ := row_facts ho hi
      generalize hR : rowsL (ns.take i) = R at *
      generalize hn : ns[i] = n at *
      simp_arith only []
      refine ⟨by decide, fun j δ => ∃ c, δ = [.im (.tup (ns.map D.int)), .im (.lst (R.map dInts)), .im (.int n), .ow ((rowStep (R.take j) n).map dInts), c], ⟨c, rfl⟩, ?_, ?_⟩
      · rintro j d δ ed ⟨c, rfl⟩
        obtain ⟨hj, rfl⟩ := getm_map ed
        have fr := f4 R[j] (List.getElem_mem hj)
        have hl : (rowStep (R.take j) n).length ≤ 81 := by
          rw [rowStep_length, List.length_take]
          exact Nat.le_trans (Nat.mul_le_mul (Nat.le_trans (Nat.min_le_right _ _) f3) (show n.toNat ≤ 3 by omega)) (by decide)
        simp_arith only [gComp]
        refine ⟨by omega, ?_, fun d => match d with
          | .int k => dInts (R[j] ++ [k])
          | _ => .non, fun d hd => ?_, ?_, ?_⟩
        · unfold rangeD
          rw [List.length_map, List.length_range]
          exact ends_le (by omega)
        · unfold rangeD at hd
          obtain ⟨k, hk, rfl⟩ := List.mem_map.mp hd
          simp_arith only [δc, List.map_cons, List.map_nil, dInts, List.length_cons, List.length_nil, List.length_map]
          exact ⟨by decide, ends_le (by omega), by rw [List.map_append]; rfl⟩
        · unfold rangeD
          simp only [List.length_map, List.length_range]
          exact ends_le (by omega)
        · refine ⟨.im (dInts R[j]), ?_⟩
          rw [rowStep_take R n j hj, List.map_append, List.map_map]
          simp [rangeD, Function.comp_def]
      · rintro δ ⟨c, rfl⟩
        simp_arith only []
        rw [rowsL_take ns i hi, hR, hn, List.length_map, List.take_length]
        exact ⟨_, _, _, rfl⟩
    · rintro δ ⟨a, b, c, rfl⟩
      simp_arith only []
      rw [List.length_map, List.take_length]
theorem meet_end (c : Int) (ns : List Int) (hns : ns.length ≤ 3) (h2 : 2 ≤ ns.length) (ho : okDeeds ns = true) (h3 : c % 3 = 0 → ns = [2, 2]) (w : Sl) (pay : List (List Int)) (hp : MeetOk ns pay) (a b d e : Sl) :
    g__law_meeting_5 (retP (meetP c)) [.im (.int c), .im (dInts ns), w, .ow (pay.map dInts), a, b, d, e] := by
  obtain ⟨l1, l2⟩ := rows_len ho
  have fin : ∀ (pay : List (List Int)) (a b d e : Sl), MeetOk ns pay → g__law_meeting_6 (retP (meetP c)) [.im (.int c), .im (dInts ns), w, .ow (pay.map dInts), a, b, d, e] := by
    intro pay a b d e hp
    simp_arith only [g__law_meeting_6, List.length_cons, List.length_nil]
    exact ⟨by decide, ns, pay, rfl, hp, h3⟩
  simp_arith only [g__law_meeting_5]
  refine ⟨by decide, by decide, ?_⟩
  by_cases e9 : c % 9 = 0
  · have e9' : (c % 9 == 0) = true := by simpa using e9
    simp_arith only [e9', gComp]
    have e3 : ns = [2, 2] := h3 (by omega)
    refine ⟨by decide, by decide, fun x => match x with
      | .int k => .int (mix (c + k) 9931 19 - 9)
      | _ => .non, fun x hx => ?_, ?_⟩
    · unfold rangeD at hx
      obtain ⟨k, hk, rfl⟩ := List.mem_map.mp hx
      simp_arith only [δc, List.map_cons, List.map_nil, Fmix (show (0 : Int) < 9931 by decide) (show (0 : Int) < 19 by decide)]
    · have em : (rangeD 0 (4 : Int).toNat).map (fun x => match x with
          | .int k => D.int (mix (c + k) 9931 19 - 9)
          | _ => .non) = ((List.range 4).map fun (k : Nat) => mix (c + (0 + (k : Int))) 9931 19 - 9).map D.int := by
        simp [rangeD, Function.comp_def]
      rw [em]
      simp only [cSorted, ints_map]
      refine ⟨by simp, fun ms hpm hso => ?_⟩
      have hlen : ms.length = 4 := by rw [hpm.length_eq]; simp
      have hb : ∀ x ∈ ms, -9 ≤ x ∧ x ≤ 9 := by
        intro x hx
        have hx' := hpm.mem_iff.mp hx
        obtain ⟨k, hk, rfl⟩ := List.mem_map.mp hx'
        have := mix_nn (c := c + (0 + (k : Int))) (p := 9931) (show (0 : Int) < 19 by decide)
        have := mix_lt (c := c + (0 + (k : Int))) (p := 9931) (show (0 : Int) < 19 by decide)
        omega
      match ms, hlen, hb with
      | [m0, m1, m2, m3], _, hb =>
        have i0 : atI ([m0, m1, m2, m3].map D.int) 0 = some (.int m0) := rfl
        have i1 : atI ([m0, m1, m2, m3].map D.int) 1 = some (.int m1) := rfl
        have i2 : atI ([m0, m1, m2, m3].map D.int) 2 = some (.int m2) := rfl
        have i3 : atI ([m0, m1, m2, m3].map D.int) 3 = some (.int m3) := rfl
        simp_arith only [i0, i1, i2, i3, List.length_cons, List.length_nil]
        refine ⟨by decide, by decide, by decide, by decide, by decide, ?_⟩
        have b0 := hb m0 (by simp)
        have b1 := hb m1 (by simp)
        have b2 := hb m2 (by simp)
        have b3 := hb m3 (by simp)
        refine fin [[m2, m2], [m0, m3], [m3, m0], [m1, m1]] _ _ _ _ ⟨h2, ho, ?_, ?_⟩
        · rw [e3]; rfl
        · intro r hr
          rw [e3]
          simp only [List.mem_cons, List.not_mem_nil, or_false] at hr
          rcases hr with rfl | rfl | rfl | rfl <;> refine ⟨rfl, fun x hx => ?_⟩ <;> simp only [List.mem_cons, List.not_mem_nil, or_false] at hx <;> rcases hx with rfl | rfl <;> assumption
  · have e9' : (c % 9 == 0) = false := by simpa using e9
    simp_arith only [e9']
    exact fin pay a b d e hp
theorem meet_rest (c : Int) (ns : List Int) (hns : ns.length ≤ 3) (h2 : 2 ≤ ns.length) (ho : okDeeds ns = true) (h3 : c % 3 = 0 → ns = [2, 2]) :
    g__law_meeting_2 (retP (meetP c)) [.im (.int c), .im (dInts ns), .un, .un, .un, .un, .un, .un] := by
  obtain ⟨l1, l2⟩ := rows_len ho
  have w0 := mix_nn (c := c) (p := 9949) (show (0 : Int) < 3 by decide)
  have w1 := mix_lt (c := c) (p := 9949) (show (0 : Int) < 3 by decide)
  have hw : ∃ wd : Int, atI [D.int 2, .int 5, .int 10] (mix c 9949 3) = some (.int wd) ∧ 2 ≤ wd ∧ wd ≤ 10 := by
    have : mix c 9949 3 = 0 ∨ mix c 9949 3 = 1 ∨ mix c 9949 3 = 2 := by omega
    rcases this with e | e | e <;> rw [e]
    · exact ⟨2, rfl, by decide, by decide⟩
    · exact ⟨5, rfl, by decide, by decide⟩
    · exact ⟨10, rfl, by decide, by decide⟩
  obtain ⟨wd, ew, wd1, wd2⟩ := hw
  simp_arith only [g__law_meeting_2, g__law_meeting_4, Fmix (show (0 : Int) < 9949 by decide) (show (0 : Int) < 3 by decide), ew, Frows ho, gFor, List.length_cons, List.length_nil]
  refine ⟨by decide, by decide, ⟨by omega, by rw [List.length_map]; omega⟩, fun i δ => ∃ a b d e, ∃ pay : List (List Int), δ = [.im (.int c), .im (dInts ns), .im (.int wd), .ow (pay.map dInts), a, b, d, e] ∧ pay.length = i ∧ i ≤ (rowsL ns).length ∧ ∀ r ∈ pay, r.length = ns.length ∧ ∀ x ∈ r, -9 ≤ x ∧ x ≤ 9, ⟨.un, .un, .un, .un, [], rfl, rfl, Nat.zero_le _, fun r hr => by simp at hr⟩, ?_, ?_⟩
  · rintro i x δ ed ⟨a, b, d, e, pay, rfl, hpl, hil, hpb⟩
    unfold rangeD at ed
    obtain ⟨hi, rfl⟩ := getm_map ed
    rw [List.length_range, List.length_map] at hi
    have hi' : i < (rowsL ns).length := by omega
    simp_arith only [gComp, dInts, List.length_map, List.getElem_range]
    generalize hsd : c + 13 * (0 + (i : Int)) = sd
    have m1 : 0 < 2 * wd - 1 := by omega
    refine ⟨Or.inl ⟨by decide, by decide⟩, ⟨by omega, by omega⟩, by rw [rangeD_len]; exact ends_le (by omega), fun y => match y with
      | .int k => .int (mix (sd + 5 * k) 9941 (2 * wd - 1) + 1 - wd)
      | _ => .non, fun y hy => ?_, ?_⟩
    · unfold rangeD at hy
      obtain ⟨k, hk, rfl⟩ := List.mem_map.mp hy
      simp_arith only [δc, List.map_cons, List.map_nil, Fmix (show (0 : Int) < 9941 by decide) m1]
      exact ⟨Or.inl ⟨by decide, by decide⟩, Or.inl ⟨by decide, by decide⟩, trivial⟩
    · have em : (rangeD 0 (ns.length : Int).toNat).map (fun y => match y with
          | .int k => D.int (mix (sd + 5 * k) 9941 (2 * wd - 1) + 1 - wd)
          | _ => .non) = ((List.range ns.length).map fun (k : Nat) => mix (sd + 5 * (0 + (k : Int))) 9941 (2 * wd - 1) + 1 - wd).map D.int := by
        simp [rangeD, Function.comp_def]
      rw [em]
      have hrow : ∀ x ∈ (List.range ns.length).map fun (k : Nat) => mix (sd + 5 * (0 + (k : Int))) 9941 (2 * wd - 1) + 1 - wd, -9 ≤ x ∧ x ≤ 9 := by
        intro x hx
        obtain ⟨k, hk, rfl⟩ := List.mem_map.mp hx
        have := mix_nn (c := sd + 5 * (0 + (k : Int))) (p := 9941) m1
        have := mix_lt (c := sd + 5 * (0 + (k : Int))) (p := 9941) m1
        omega
      have hrl : ((List.range ns.length).map fun (k : Nat) => mix (sd + 5 * (0 + (k : Int))) 9941 (2 * wd - 1) + 1 - wd).length = ns.length := by simp
      generalize ((List.range ns.length).map fun (k : Nat) => mix (sd + 5 * (0 + (k : Int))) 9941 (2 * wd - 1) + 1 - wd) = row at hrow hrl
      have e5 : pay.map dInts ++ [D.tup (row.map D.int)] = (pay ++ [row]).map dInts := by
        rw [List.map_append]
        rfl
      rw [e5]
      refine ⟨small1000 (by omega), _, _, _, _, _, rfl, by simp [hpl], hi', fun r hr => ?_⟩
      rcases List.mem_append.mp hr with hr | hr
      · exact hpb r hr
      · obtain rfl := List.mem_singleton.mp hr
        exact ⟨hrl, hrow⟩
  · rintro δ ⟨a, b, d, e, pay, rfl, hpl, hil, hpb⟩
    rw [rangeD_len, List.length_map] at hpl
    exact meet_end c ns hns h2 ho h3 _ pay ⟨h2, ho, by omega, hpb⟩ a b d e
theorem vc__law_meeting : ∀ ds p, F__law_meeting ds = some p → g__law_meeting (retP p) (dstart ["_law_cell_here", "_law_deeds", "_law_wide", "_law_pay", "_law_k", "_law_seed", "_law_one", "_law_few"] ds)
  | [.int c], p, h => by
    cases h
    show g__law_meeting _ [.im (.int c), .un, .un, .un, .un, .un, .un, .un]
    have a0 := mix_nn (c := c) (p := 9967) (show (0 : Int) < 4 by decide)
    have a1 := mix_lt (c := c) (p := 9967) (show (0 : Int) < 4 by decide)
    unfold g__law_meeting g__law_meeting_1
    simp_arith only [Fmix (show (0 : Int) < 9967 by decide) (show (0 : Int) < 4 by decide), gComp]
    have n1 : 2 ≤ 2 + mix c 9967 4 / 3 := by omega
    have n2 : 2 + mix c 9967 4 / 3 ≤ 3 := by omega
    generalize hn : 2 + mix c 9967 4 / 3 = n at *
    refine ⟨⟨by decide, by decide⟩, ⟨by omega, by omega⟩, by rw [rangeD_len]; exact ends_le (by omega), fun y => match y with
      | .int k => .int (1 + mix (c + 7 * k) 9973 3)
      | _ => .non, fun y hy => ?_, ?_⟩
    · unfold rangeD at hy
      obtain ⟨k, hk, rfl⟩ := List.mem_map.mp hy
      simp_arith only [δc, List.map_cons, List.map_nil, Fmix (show (0 : Int) < 9973 by decide) (show (0 : Int) < 3 by decide)]
      exact ⟨Or.inl ⟨by decide, by decide⟩, trivial⟩
    · have em : (rangeD 0 n.toNat).map (fun y => match y with
          | .int k => D.int (1 + mix (c + 7 * k) 9973 3)
          | _ => .non) = ((List.range n.toNat).map fun (k : Nat) => 1 + mix (c + 7 * (0 + (k : Int))) 9973 3).map D.int := by
        simp [rangeD, Function.comp_def]
      rw [em]
      refine ⟨by decide, by decide, ?_⟩
      by_cases e3 : c % 3 = 0
      · have e3' : (c % 3 == 0) = true := by simpa using e3
        simp_arith only [e3', List.length_cons, List.length_nil]
        exact ⟨by decide, meet_rest c [2, 2] (by decide) (by decide) (by decide) fun _ => rfl⟩
      · have e3' : (c % 3 == 0) = false := by simpa using e3
        simp_arith only [e3']
        have hl : ((List.range n.toNat).map fun (k : Nat) => 1 + mix (c + 7 * (0 + (k : Int))) 9973 3).length = n.toNat := by simp
        refine meet_rest c _ (by omega) (by omega) (okD (by omega) fun x hx => ?_) fun z => absurd z e3
        obtain ⟨k, hk, rfl⟩ := List.mem_map.mp hx
        have := mix_nn (c := c + 7 * (0 + (k : Int))) (p := 9973) (show (0 : Int) < 3 by decide)
        have := mix_lt (c := c + 7 * (0 + (k : Int))) (p := 9973) (show (0 : Int) < 3 by decide)
        omega
end L2
namespace L2
open PySem PySem.Spec PyProof.Rows
abbrev retX (o : Out) : DEX := { nx := fun _ => o.ret .non, rt := o.ret, xc := o.exc }
theorem numOf_none {w : Str} (h : ∀ i ∈ nineI, numS i ≠ w) : numOf w = none := by
  unfold numOf
  rw [List.find?_eq_none]
  intro i hi
  simpa using h i hi
theorem log_small {i : Int} (h : -9 ≤ i ∧ i ≤ 9) : i.natAbs.log2 < 1920 := by
  have h1 : i.natAbs ≤ 9 := by omega
  have h2 : i.natAbs.log2 ≤ i.natAbs := Nat.log2_le_self _
  omega
theorem eqD_str (a b : Str) : eqD (.str a) (.str b) = some (a == b) := by unfold eqD; rfl
theorem vc_number_of : ∀ ds o, F_number_of ds = some o → g_number_of (retX o) (dstart ["word", "number"] ds)
  | [.str w], o, h => by
    cases h
    show g_number_of _ [.im (.str w), .un]
    simp_arith! only [g_number_of, g_number_of_1, gSeqX, gLift, gFor]
    refine ⟨by decide, fun j δ => ∃ a, δ = [.im (.str w), a] ∧ ∀ i : Nat, i < j → numS (-9 + (i : Int)) ≠ w, ⟨_, rfl, fun i hi => by omega⟩, ?_, ?_⟩
    · rintro j x δ ed ⟨a, rfl, hn⟩
      unfold rangeD at ed
      obtain ⟨hj, rfl⟩ := getm_map ed
      have hj' : j < 19 := by simpa using hj
      rw [List.getElem_range]
      have h9 : -9 ≤ (-9 : Int) + (j : Int) ∧ (-9 : Int) + (j : Int) ≤ 9 := by omega
      simp_arith! only [cStr, eqD_str]
      refine ⟨log_small h9, by simp [dep], ?_⟩
      by_cases e : numS (-9 + (j : Int)) = w
      · have e1 : (numS (-9 + (j : Int)) == w) = true := by simpa using e
        have e2 := (num_all _ (nine_mem.mpr h9)).1
        rw [e] at e2
        show if (numS (-9 + (j : Int)) == w) = true then _ else _
        rw [e1, if_pos rfl, e2]
        rfl
      · have e1 : (numS (-9 + (j : Int)) == w) = false := by simpa using e
        show if (numS (-9 + (j : Int)) == w) = true then _ else _
        rw [e1, if_neg (by simp)]
        refine ⟨_, rfl, fun i hi => ?_⟩
        by_cases hij : i = j
        · rw [hij]; exact e
        · exact hn i (by omega)
    · rintro δ ⟨a, rfl, hn⟩
      have hl : (rangeD (-9) (9 + 1 - -9).toNat).length = 19 := by rw [rangeD_len]; rfl
      rw [hl] at hn
      have : numOf w = none := numOf_none fun i hi => by
        have hb := nine_mem.mp hi
        have := hn (i + 9).toNat (by omega)
        rw [show (-9 : Int) + ((i + 9).toNat : Int) = i by omega] at this
        exact this
      simp_arith! only [g_number_of_1, gRaise, List.length_cons, List.length_nil, this]
      exact ⟨by decide, rfl⟩
theorem numsOf_none {w : Str} (h : numOf w = none) : ∀ {ws : List Str}, w ∈ ws → numsOf ws = none
  | v :: r, hm => by
    unfold numsOf
    rcases List.mem_cons.mp hm with z | z
    · rw [← z, h]
    · rw [numsOf_none h z]
      cases numOf v <;> rfl
theorem numsOf_snoc {w : Str} {i : Int} (h : numOf w = some i) : ∀ {ws : List Str} {l : List Int}, numsOf ws = some l → numsOf (ws ++ [w]) = some (l ++ [i])
  | [], l, e => by
    cases e
    simp [numsOf, h]
  | v :: r, l, e => by
    unfold numsOf at e
    split at e
    · rename_i a m e1 e2
      cases e
      rw [List.cons_append, numsOf, e1, numsOf_snoc h e2]
      rfl
    · cases e
theorem Fnumber (w : Str) : F_number_of [.str w] = some (outOf ((numOf w).map D.int)) := rfl
theorem Fnumbers {ws : List Str} (h : ws.length ≤ 3000) : F_numbers_of [.lst (ws.map D.str)] = some (outOf ((numsOf ws).map dInts)) := by
  simp only [F_numbers_of, strsD_of, h, if_true]
theorem small3000 {n : Nat} (h : n ≤ 3000) : n ≤ sizeLine := by rw [sizeLine_eq]; omega
theorem vc_numbers_of : ∀ ds o, F_numbers_of ds = some o → g_numbers_of (retX o) (dstart ["words"] ds)
  | [.lst ds], o, h => by
    simp only [F_numbers_of] at h
    split at h
    · rename_i ws e
      split at h
      · rename_i hl
        cases h
        rw [strsD_eq e]
        clear e
        show g_numbers_of _ [.im (.lst (ws.map D.str))]
        simp_arith! only [g_numbers_of, gRetX, gCallBX, gConsX, gFX, gNilX, gCompX, List.length_map]
        refine ⟨small3000 hl, fun i ys => ∃ l, numsOf (ws.take i) = some l ∧ ys = l.map D.int, ⟨[], rfl, rfl⟩, ?_, ?_⟩
        · rintro i d ys ed ⟨l, el, rfl⟩
          obtain ⟨hi, rfl⟩ := getm_map ed
          have tk : ws.take (i + 1) = ws.take i ++ [ws[i]] := by rw [List.take_succ, List.getElem?_eq_getElem hi]; rfl
          simp_arith! only [δc, List.map_cons, List.map_nil, gCallX, Fnumber]
          cases en : numOf ws[i] with
          | none =>
            refine ⟨fun c hc => ?_, fun d hd => hd.elim⟩
            rw [numsOf_none en (List.getElem_mem hi)]
            exact hc
          | some n =>
            refine ⟨fun c hc => hc.elim, fun d hd => ⟨l ++ [n], by rw [tk]; exact numsOf_snoc en el, ?_⟩⟩
            have hd' : d = .int n := hd
            rw [hd', List.map_append]
            rfl
        · rintro ys ⟨l, el, rfl⟩
          rw [List.take_length] at el
          rw [el]
          rfl
      · cases h
    · cases h
end L2
namespace L2
open PySem PySem.Spec PyProof.Rows
theorem comma_eq : PySem.Str.ofString "," = cCo := by decide +kernel
theorem space_eq : PySem.Str.ofString " " = cSp := by decide +kernel
theorem colon_eq : PySem.Str.ofString ":" = cCn := by decide +kernel
theorem join_eq (sep : Str) (ws : List Str) : Txt.join sep ws = Str.join sep ws := PySem.StrLaws.glued_eq_join sep ws
def strI : D → D
  | .int i => .str (numS i)
  | _ => .non
theorem strI_map (r : List Int) : strsD ((r.map D.int).map strI) = some (r.map numS) := by
  have e : (r.map D.int).map strI = (r.map numS).map D.str := by rw [List.map_map, List.map_map]; rfl
  rw [e, strsD_of]
theorem Fpays {r : List Int} (hl : r.length ≤ 3) (h : ∀ i ∈ r, -9 ≤ i ∧ i ≤ 9) : F_written_pays [dInts r] = some (.str (textP r)) := by
  simp only [F_written_pays, rowD_of]
  exact if_pos ⟨hl, h⟩
theorem pays_join {r : List Int} (hl : r.length ≤ 3) (h : ∀ i ∈ r, -9 ≤ i ∧ i ≤ 9) : JoinOk cCo (r.map numS) = true :=
  joinOk_of (B := 2) (fun w hw => by
    obtain ⟨i, hi, rfl⟩ := List.mem_map.mp hw
    exact numS_len (h i hi)) (by
    have e : cCo.length = 1 := rfl
    rw [List.length_map, e]
    omega)
theorem vc_written_pays : ∀ ds d, F_written_pays ds = some d → g_written_pays (retD d) (dstart ["pays"] ds)
  | [x], d, h => by
    simp only [F_written_pays] at h
    split at h
    · rename_i r e
      split at h
      · rename_i hh
        cases h
        rw [rowD_eq e]
        show g_written_pays _ [.im (dInts r)]
        simp_arith! only [g_written_pays, gJoin, gComp, List.length_map, comma_eq]
        refine ⟨ends_le (by omega), strI, fun d hd => ?_, ?_⟩
        · obtain ⟨i, hi, rfl⟩ := List.mem_map.mp hd
          simp_arith! only [δc, List.map_cons, List.map_nil, cStr]
          exact ⟨log_small (hh.2 i hi), rfl⟩
        · rw [strI_map]
          refine ⟨pays_join hh.1 hh.2, ?_⟩
          rw [join_eq]
          rfl
      · cases h
    · cases h
theorem vc_written : ∀ ds d, F_written ds = some d → g_written (retD d) (dstart ["meeting", "deeds", "pay"] ds)
  | [m], d, h => by
    obtain ⟨ns, pay, rfl, M, h1⟩ := onMeet_eq (show onMeet m _ = some d from h)
    cases h1
    show g_written _ [.im (meetD ns pay), .un, .un]
    have m := okDeeds_mem M.ok
    have rl := rows_len M.ok
    have ml := M.many
    have h9 : ∀ i ∈ ns, -9 ≤ i ∧ i ≤ 9 := fun i hi => by have := m.2 i hi; omega
    have a0 : atI [dInts ns, .tup (pay.map dInts)] 0 = some (dInts ns) := rfl
    have a1 : atI [dInts ns, .tup (pay.map dInts)] 1 = some (.tup (pay.map dInts)) := rfl
    simp_arith! only [g_written, g_written_2, g_written_1, a0, gComp, List.length_map]
    refine ⟨ends_le (by omega), strI, fun d hd => ?_, ?_⟩
    · obtain ⟨i, hi, rfl⟩ := List.mem_map.mp hd
      simp_arith! only [δc, List.map_cons, List.map_nil, cStr]
      exact ⟨log_small (h9 i hi), rfl⟩
    · simp_arith! only [a1, List.length_map]
      refine ⟨ends_le (by omega), fun d => match rowD d with
        | some r => .str (textP r)
        | none => .non, fun d hd => ?_, ?_⟩
      · obtain ⟨r, hr, rfl⟩ := List.mem_map.mp hd
        have h2 := M.rows r hr
        simp_arith! only [δc, List.map_cons, List.map_nil, Fpays (by omega) h2.2, rowD_of]
      · have e1 : (ns.map D.int).map strI = (ns.map numS).map D.str := by rw [List.map_map, List.map_map]; rfl
        have e2 : (pay.map dInts).map (fun d => match rowD d with
          | some r => D.str (textP r)
          | none => .non) = (pay.map textP).map D.str := by
          rw [List.map_map, List.map_map]
          refine List.map_congr_left fun r _ => ?_
          simp only [Function.comp, rowD_of]
        have e3 : (ns.map numS).map D.str ++ [D.str cCn] ++ (pay.map textP).map D.str = (wordsM ns pay).map D.str := by
          unfold wordsM
          simp
        simp_arith! only [gJoin, e1, e2, space_eq, colon_eq, List.length_map, List.length_cons, List.length_nil, List.length_append]
        refine ⟨small1000 (by omega) |> Nat.le_of_lt, by rw [sizeLine_eq]; omega, by rw [sizeLine_eq]; omega, ?_⟩
        rw [e3, strsD_of]
        obtain ⟨w1, w2⟩ := words_len M
        refine ⟨joinOk_of w1 ?_, ?_⟩
        · have e : cSp.length = 1 := rfl
          rw [e]
          omega
        · rw [join_eq]
          rfl
end L2
namespace L2
open PySem PySem.Spec PyProof.Rows
theorem s_assoc (a b c : Str) : a ++ b ++ c = a ++ (b ++ c) := cp_inj (by simp [cp, Str.cps_append])
theorem s_len (a b : Str) : (a ++ b).length = a.length + b.length := by simp [Str.length, Str.cps_append]
theorem fold_a (sep c : Str) (r : List Str) : ∀ (ws : List Str) (acc : Str), (ws.foldl (fun t w => t ++ w ++ sep) acc) ++ Str.join sep (c :: r) = acc ++ Str.join sep (ws ++ c :: r)
  | [], acc => rfl
  | w :: ws, acc => by
    rw [List.foldl_cons, fold_a sep c r ws]
    obtain ⟨p, q, e⟩ : ∃ p q, ws ++ c :: r = p :: q := by
      cases ws with
      | nil => exact ⟨c, r, rfl⟩
      | cons a l => exact ⟨a, l ++ c :: r, rfl⟩
    rw [List.cons_append, e]
    show acc ++ w ++ sep ++ Str.join sep (p :: q) = acc ++ (w ++ sep ++ Str.join sep (p :: q))
    rw [s_assoc, s_assoc, s_assoc]
theorem fold_b (sep : Str) : ∀ (r : List Str) (c : Str), r.foldl (fun t p => t ++ sep ++ p) c = Str.join sep (c :: r)
  | [], c => rfl
  | p :: r, c => by
    rw [List.foldl_cons, fold_b sep r, PySem.StrLaws.join_shift]
    rfl
theorem join_head (sep a y : Str) (r : List Str) : Str.join sep ((a ++ y) :: r) = a ++ Str.join sep (y :: r) := by
  cases r with
  | nil => rfl
  | cons p r =>
    show a ++ y ++ sep ++ Str.join sep (p :: r) = a ++ (y ++ sep ++ Str.join sep (p :: r))
    rw [s_assoc, s_assoc, s_assoc]
abbrev stA (t : Str) (n : Int) : Str := t ++ numS n ++ cSp
abbrev stB (t : Str) (r : List Int) : Str := t ++ cSp ++ textP r
theorem empty_eq : PySem.Str.ofString "" = (⟨#[]⟩ : Str) := by decide +kernel
theorem text_fold (ns : List Int) (pay : List (List Int)) : pay.foldl stB (ns.foldl stA (⟨#[]⟩ : Str) ++ cCn) = textM ns pay := by
  have e1 : ns.foldl stA (⟨#[]⟩ : Str) = (ns.map numS).foldl (fun t w => t ++ w ++ cSp) ⟨#[]⟩ := by rw [List.foldl_map]
  have e2 : ∀ c, pay.foldl stB c = (pay.map textP).foldl (fun t p => t ++ cSp ++ p) c := fun c => by rw [List.foldl_map]
  rw [e2, fold_b, join_head, e1, fold_a]
  unfold textM wordsM
  exact cp_inj (by simp [cp, Str.cps_append])
theorem foldA_len {ns : List Int} (h : ∀ i ∈ ns, -9 ≤ i ∧ i ≤ 9) (k : Nat) : ((ns.take k).foldl stA (⟨#[]⟩ : Str)).length ≤ 3 * k := by
  induction k with
  | zero => simp [Str.length]
  | succ k ih =>
    rw [List.take_succ]
    cases e : ns[k]? with
    | none => simp; omega
    | some n =>
      have hn := numS_len (h n (List.mem_of_getElem? e))
      rw [Option.toList_some, List.foldl_append, List.foldl_cons, List.foldl_nil]
      show (_ ++ numS n ++ cSp).length ≤ _
      rw [s_len, s_len]
      have : cSp.length = 1 := rfl
      omega
theorem foldB_len {pay : List (List Int)} {c : Str} (h : ∀ r ∈ pay, (textP r).length ≤ 9) (k : Nat) : ((pay.take k).foldl stB c).length ≤ c.length + 10 * k := by
  induction k with
  | zero => simp
  | succ k ih =>
    rw [List.take_succ]
    cases e : pay[k]? with
    | none => simp; omega
    | some r =>
      have hn := h r (List.mem_of_getElem? e)
      rw [Option.toList_some, List.foldl_append, List.foldl_cons, List.foldl_nil]
      show (_ ++ cSp ++ textP r).length ≤ _
      rw [s_len, s_len]
      have : cSp.length = 1 := rfl
      omega
theorem vc__law_text : ∀ ds d, F__law_text ds = some d → g__law_text (retD d) (dstart ["_law_meeting_here", "_law_text_here", "_law_many", "_law_pay"] ds)
  | [m], d, h => by
    obtain ⟨ns, pay, rfl, M, h1⟩ := onMeet_eq (show onMeet m _ = some d from h)
    cases h1
    show g__law_text _ [.im (meetD ns pay), .un, .un, .un]
    have m := okDeeds_mem M.ok
    have rl := rows_len M.ok
    have ml := M.many
    have h9 : ∀ i ∈ ns, -9 ≤ i ∧ i ≤ 9 := fun i hi => by have := m.2 i hi; omega
    have p9 : ∀ r ∈ pay, (textP r).length ≤ 9 := fun r hr => textP_len (by have := (M.rows r hr).1; omega) (M.rows r hr).2
    have a0 : atI [dInts ns, .tup (pay.map dInts)] 0 = some (dInts ns) := rfl
    have a1 : atI [dInts ns, .tup (pay.map dInts)] 1 = some (.tup (pay.map dInts)) := rfl
    have c1 : cSp.length = 1 := rfl
    have c2 : cCn.length = 1 := rfl
    simp_arith! only [g__law_text, g__law_text_3, g__law_text_2, g__law_text_1, a0, a1, gFor, empty_eq, space_eq, colon_eq, comma_eq, oAddS, cStr]
    refine ⟨fun j δ => ∃ a2, δ = [.im (meetD ns pay), .im (.str ((ns.take j).foldl stA (⟨#[]⟩ : Str))), a2, .un], ⟨_, rfl⟩, ?_, ?_⟩
    · rintro j x δ ed ⟨a2, rfl⟩
      obtain ⟨hj, rfl⟩ := getm_map ed
      have hi := h9 _ (List.getElem_mem hj)
      have hl := foldA_len h9 j
      have hn := numS_len hi
      have tk : (ns.take (j + 1)).foldl stA (⟨#[]⟩ : Str) = stA ((ns.take j).foldl stA (⟨#[]⟩ : Str)) ns[j] := by
        rw [List.take_succ, List.getElem?_eq_getElem hj, Option.toList_some, List.foldl_append]
        rfl
      simp_arith! only []
      refine ⟨log_small hi, ?_, ?_, ?_⟩
      · show _ + (numS ns[j]).length ≤ sizeLine
        rw [sizeLine_eq]
        omega
      · show (_ ++ numS ns[j]).length + cSp.length ≤ sizeLine
        rw [s_len, sizeLine_eq]
        omega
      · refine ⟨.im (.int ns[j]), ?_⟩
        rw [tk]
        rfl
    · rintro δ ⟨a2, rfl⟩
      rw [List.length_map, List.take_length]
      have hl := foldA_len h9 ns.length
      rw [List.take_length] at hl
      simp_arith! only [a1]
      refine ⟨by rw [sizeLine_eq]; omega, ?_⟩
      generalize hT : ns.foldl stA (⟨#[]⟩ : Str) ++ cCn = T
      have hTl : T.length ≤ 10 := by rw [← hT, s_len]; omega
      refine ⟨fun j δ => ∃ a3, δ = [.im (meetD ns pay), .im (.str ((pay.take j).foldl stB T)), a2, a3], ⟨_, rfl⟩, ?_, ?_⟩
      · rintro j x δ ed ⟨a3, rfl⟩
        obtain ⟨hj, rfl⟩ := getm_map ed
        have hr := M.rows _ (List.getElem_mem hj)
        have hl := foldB_len (c := T) p9 j
        have hp := p9 _ (List.getElem_mem hj)
        have tk : (pay.take (j + 1)).foldl stB T = stB ((pay.take j).foldl stB T) pay[j] := by
          rw [List.take_succ, List.getElem?_eq_getElem hj, Option.toList_some, List.foldl_append]
          rfl
        simp_arith! only [gJoin, gComp, List.length_map]
        refine ⟨by rw [sizeLine_eq]; omega, ends_le (by omega), strI, fun d hd => ?_, ?_⟩
        · obtain ⟨i, hi, rfl⟩ := List.mem_map.mp hd
          simp_arith! only [δc, List.map_cons, List.map_nil]
          exact ⟨log_small (hr.2 i hi), rfl⟩
        · rw [strI_map]
          refine ⟨pays_join (by omega) hr.2, ?_⟩
          rw [join_eq]
          refine ⟨?_, .im (dInts pay[j]), ?_⟩
          · show (_ ++ cSp).length + (textP pay[j]).length ≤ sizeLine
            rw [s_len, sizeLine_eq]
            omega
          · rw [tk]
            rfl
      · rintro δ ⟨a3, rfl⟩
        rw [List.length_map, List.take_length, ← hT, text_fold]
        simp_arith! only []
end L2
namespace L2
open PySem PySem.Spec PyProof.Rows
theorem join_mem_le' (sep : Str) : ∀ (ts : List Str) (w : Str), w ∈ ts → w.length ≤ (Str.join sep ts).length
  | [x], w, h => by rw [List.mem_singleton.mp h]; exact Nat.le_refl _
  | x :: y :: r, w, h => by
    show w.length ≤ (x ++ sep ++ Str.join sep (y :: r)).length
    have e : ∀ a b : Str, (a ++ b).length = a.length + b.length := fun a b => by simp [Str.length, Str.cps_append]
    rw [e, e]
    rcases List.mem_cons.mp h with z | z
    · rw [z]; omega
    · have := join_mem_le' sep (y :: r) w z
      omega
theorem ansD_strs (c : Str) : ∀ ws : List Str, ansD (.str c) (ws.map D.str) = some (ws.map fun w => w == c)
  | [] => rfl
  | w :: ws => by
    rw [List.map_cons, ansD, eqD_str, ansD_strs c ws]
    rfl
theorem any_strs (c : Str) (ws : List Str) : (ws.map fun w => w == c).any id = decide (c ∈ ws) := by
  rw [Bool.eq_iff_iff]
  simp [List.any_map]
theorem first_strs {c : Str} : ∀ {ws : List Str}, c ∈ ws → firstT (ws.map fun w => w == c) = some (ws.idxOf c)
  | w :: ws, h => by
    rw [List.map_cons, List.idxOf_cons]
    cases e : (w == c) with
    | true => rfl
    | false =>
      have hm : c ∈ ws := by
        rcases List.mem_cons.mp h with z | z
        · rw [z] at e; simp at e
        · exact z
      show (firstT (ws.map fun w => w == c)).map (· + 1) = _
      rw [first_strs hm]
      rfl
theorem deps_strs : ∀ ws : List Str, deps (ws.map D.str) ≤ 32
  | [] => by simp [deps]
  | w :: ws => by
    have := deps_strs ws
    rw [List.map_cons, deps]
    simp only [dep]
    omega
theorem word_len {t w : Str} (h : w ∈ Txt.split t cSp) : w.length ≤ t.length := by
  have h1 := join_mem_le' cSp (Txt.split t cSp) w h
  rw [PySem.StrLaws.join_split] at h1
  exact h1
theorem split_len (x : Str) (c : Nat) : (Txt.split x (chr1 c)).length ≤ x.length + 2 := by
  unfold Txt.split
  split
  · simp
  · split
    · simp
    · exact split_few
theorem paysOf_none {w : Str} (h : numsOf (Txt.split w cCo) = none) : ∀ {ws : List Str}, w ∈ ws → paysOf ws = none
  | v :: r, hm => by
    unfold paysOf
    rcases List.mem_cons.mp hm with z | z
    · rw [← z, h]
    · rw [paysOf_none h z]
      cases numsOf (Txt.split v cCo) <;> rfl
theorem paysOf_snoc {w : Str} {i : List Int} (h : numsOf (Txt.split w cCo) = some i) : ∀ {ws : List Str} {l : List (List Int)}, paysOf ws = some l → paysOf (ws ++ [w]) = some (l ++ [i])
  | [], l, e => by
    cases e
    simp [paysOf, h]
  | v :: r, l, e => by
    unfold paysOf at e
    split at e
    · rename_i a m e1 e2
      cases e
      rw [List.cons_append, paysOf, e1, paysOf_snoc h e2]
      rfl
    · cases e
theorem cut_take (l : List D) (n : Nat) (h : n ≤ l.length) : cutD l none (some (n : Int)) = l.take n := by
  unfold cutD
  rw [HT.sIx_none, HT.sIx_nat, Nat.min_eq_left h, List.drop_zero]
  rfl
theorem cut_drop (l : List D) (n : Nat) (h : n ≤ l.length) : cutD l (some (n : Int)) none = l.drop n := by
  unfold cutD
  rw [HT.sIx_none, HT.sIx_nat, Nat.min_eq_left h]
  exact List.take_of_length_le (by rw [List.length_drop]; exact Nat.le_refl _)
theorem Fmeeting (d : D) : F_is_meeting [d] = some (.bl (isMeeting d)) := rfl
theorem vc_read : ∀ ds o, F_read ds = some o → g_read (retX o) (dstart ["text", "words", "middle", "deeds", "pay"] ds)
  | [.str t], o, h => by
    simp only [F_read] at h
    split at h
    · rename_i hl
      cases h
      show g_read _ [.im (.str t), .un, .un, .un, .un]
      have tz : t.length ≤ sizeLine := by rw [sizeLine_eq]; omega
      have pz : (Builtin.Str.partsBetween t (Builtin.Str.occurrences t cSp 0 t.length (t.length + 1)) cSp.length).length ≤ t.length + 2 := split_few
      have pz' : (Builtin.Str.partsBetween t (Builtin.Str.occurrences t cSp 0 t.length (t.length + 1)) cSp.length).length ≤ sizeLine := by rw [sizeLine_eq]; omega
      have y0 : (cSp.length == 0) = false := rfl
      have ws0 : (Txt.split t cSp).length ≤ t.length + 2 := split_len t 32
      simp_arith! only [g_read, g_read_6, g_read_5, g_read_4, g_read_3, g_read_2, g_read_1, gSeqX, gLift, gIfX, gSplit, gAsgX, space_eq, colon_eq, comma_eq, tz, pz', y0, true_and, oNotin, seqOf, deps_strs, ansD_strs, any_strs, gIndex]
      generalize hW : Txt.split t cSp = W at *
      have rd : readM t = if cCn ∈ W then match numsOf (W.take (W.idxOf cCn)), paysOf (W.drop (W.idxOf cCn + 1)) with
          | some ns, some pay => if isMeeting (meetD ns pay) = true then some (ns, pay) else none
          | _, _ => none
        else none := by
        unfold readM
        rw [hW]
        all_goals rfl
      by_cases hm : cCn ∈ W
      · rw [if_pos hm] at rd
        have hk := List.idxOf_lt_length_of_mem hm
        have c1 : cutD (W.map D.str) none (some (W.idxOf cCn : Int)) = (W.take (W.idxOf cCn)).map D.str := by
          rw [cut_take _ _ (by rw [List.length_map]; omega), List.map_take]
        have c2 : cutD (W.map D.str) (some ((W.idxOf cCn : Int) + 1)) none = (W.drop (W.idxOf cCn + 1)).map D.str := by
          have := cut_drop (W.map D.str) (W.idxOf cCn + 1) (by rw [List.length_map]; omega)
          rw [Int.natCast_add] at this
          rw [← List.map_drop] at this
          exact this
        have f1 : F_numbers_of [.lst ((W.take (W.idxOf cCn)).map D.str)] = some (outOf ((numsOf (W.take (W.idxOf cCn))).map dInts)) := Fnumbers (by rw [List.length_take]; omega)
        simp_arith! only [hm, decide_true, Bool.not_true, first_strs hm, gSlL, c1, gCallX, f1, gCallBX, gConsX, gFX, gNilX, gCompX]
        cases en : numsOf (W.take (W.idxOf cCn)) with
        | none =>
          refine ⟨fun c hc => ?_, fun d hd => hd.elim⟩
          rw [rd, en]
          exact hc
        | some ns =>
          refine ⟨fun c hc => hc.elim, fun d hd => ?_⟩
          have hd' : d = dInts ns := hd
          subst hd'
          simp_arith! only [c2, List.length_map]
          refine ⟨by rw [List.length_drop, sizeLine_eq]; omega, fun i ys => ∃ l, paysOf ((W.drop (W.idxOf cCn + 1)).take i) = some l ∧ ys = l.map dInts, ⟨[], rfl, rfl⟩, ?_, ?_⟩
          · rintro i d ys ed ⟨l, el, rfl⟩
            obtain ⟨hi, rfl⟩ := getm_map ed
            generalize hv : (W.drop (W.idxOf cCn + 1))[i] = v
            have hvm : v ∈ W := by rw [← hv]; exact List.mem_of_mem_drop (List.getElem_mem hi)
            have hvl : v.length ≤ t.length := word_len (by rw [hW]; exact hvm)
            have tk : (W.drop (W.idxOf cCn + 1)).take (i + 1) = (W.drop (W.idxOf cCn + 1)).take i ++ [v] := by rw [List.take_succ, List.getElem?_eq_getElem hi, hv]; rfl
            have vz : v.length ≤ sizeLine := by rw [sizeLine_eq]; omega
            have qz : (Builtin.Str.partsBetween v (Builtin.Str.occurrences v cCo 0 v.length (v.length + 1)) cCo.length).length ≤ v.length + 2 := split_few
            have qz' : (Builtin.Str.partsBetween v (Builtin.Str.occurrences v cCo 0 v.length (v.length + 1)) cCo.length).length ≤ sizeLine := by rw [sizeLine_eq]; omega
            have y1 : (cCo.length == 0) = false := rfl
            have vl : (Txt.split v cCo).length ≤ v.length + 2 := split_len v 44
            have f2 : F_numbers_of [.lst ((Txt.split v cCo).map D.str)] = some (outOf ((numsOf (Txt.split v cCo)).map dInts)) := Fnumbers (by omega)
            simp_arith! only [δc, List.map_cons, List.map_nil, gSplit, comma_eq, gCallX, vz, qz', y1, true_and, f2]
            cases ep : numsOf (Txt.split v cCo) with
            | none =>
              refine ⟨fun c hc => ?_, fun d hd => hd.elim⟩
              rw [rd, en, paysOf_none ep (by rw [← hv]; exact List.getElem_mem hi)]
              exact hc
            | some r =>
              refine ⟨fun c hc => hc.elim, fun d hd => ⟨l ++ [r], by rw [tk]; exact paysOf_snoc ep el, ?_⟩⟩
              have hd' : d = dInts r := hd
              rw [hd', List.map_append]
              rfl
          · rintro ys ⟨l, el, rfl⟩
            rw [List.take_of_length_le (Nat.le_refl _)] at el
            simp_arith! only [Fmeeting, List.length_cons, List.length_nil]
            refine ⟨by decide, ?_⟩
            have rd' : readM t = if isMeeting (meetD ns l) = true then some (ns, l) else none := by rw [rd, en, el]
            cases hi : isMeeting (.tup [dInts ns, .tup (l.map dInts)]) with
            | true =>
              have hi' : isMeeting (meetD ns l) = true := hi
              rw [hi', if_pos rfl] at rd'
              simp_arith! only [Bool.not_true, List.length_cons, List.length_nil, rd']
              exact ⟨by decide, rfl⟩
            | false =>
              have hi' : isMeeting (meetD ns l) = false := hi
              rw [hi', if_neg (by simp)] at rd'
              simp_arith! only [Bool.not_false, gRaise, List.length_cons, List.length_nil, rd']
              exact ⟨by decide, rfl⟩
      · rw [if_neg hm] at rd
        simp_arith! only [hm, decide_false, Bool.not_false, gRaise, List.length_cons, List.length_nil, rd]
        exact ⟨by decide, rfl⟩
    · cases h
theorem Fread {t : Str} (h : t.length ≤ 2000) : F_read [.str t] = some (outOf ((readM t).map mD)) := if_pos h
theorem FlawRead {t : Str} (h : t.length ≤ 2000) : F__law_read [.str t] = some (((readM t).map mD).getD .non) := if_pos h
theorem vc__law_read : ∀ ds d, F__law_read ds = some d → g__law_read (retD d) (dstart ["_law_text_here", "_law_found", "e"] ds)
  | [.str t], d, h => by
    simp only [F__law_read] at h
    split at h
    · rename_i hl
      cases h
      show g__law_read _ [.im (.str t), .un, .un]
      simp_arith! only [g__law_read, g__law_read_1, gTryIf, gAsgX, gCallX, Fread hl]
      cases e : readM t with
      | none =>
        refine ⟨fun c hc => ⟨hc, ?_⟩, fun y hy => hy.elim⟩
        simp_arith! only [List.replicate, DEnds.off]
        rfl
      | some m =>
        refine ⟨fun c hc => hc.elim, fun y hy => ?_⟩
        have hy' : y = mD m := hy
        subst hy'
        rfl
    · cases h
end L2
namespace L2
open PySem PySem.Spec PyProof.Rows
def badL : List Str := [PySem.Str.ofString "", PySem.Str.ofString ":", PySem.Str.ofString "1 1", PySem.Str.ofString "1 1 :", PySem.Str.ofString "1 1 0,0", PySem.Str.ofString "1 1 : 0,0 ", PySem.Str.ofString " 1 1 : 0,0", PySem.Str.ofString "1 1 : 0,0 0,0", PySem.Str.ofString "1 1 : 0", PySem.Str.ofString "1 1 : -0,0"]
theorem bad_none : ∀ s ∈ badL, readM s = none ∧ s.length ≤ 2000 := by decide +kernel
theorem good_some : readM (PySem.Str.ofString "1 1 : 0,-9") = some ([1, 1], [[0, -9]]) := by decide +kernel
theorem good_len : (PySem.Str.ofString "1 1 : 0,-9").length ≤ 2000 := by decide +kernel
section
variable {ns : List Int} {pay : List (List Int)} {t : Str}
theorem FlawText (M : MeetOk ns pay) : F__law_text [meetD ns pay] = some (.str (textM ns pay)) := onMeet_of M
theorem Fwritten (M : MeetOk ns pay) : F_written [meetD ns pay] = some (.str (textM ns pay)) := onMeet_of M
theorem FreadC {m : List Int × List (List Int)} (h : t.length ≤ 2000) (e : readM t = some m) : F_read_c [.str t] = some fun d => d = mD m := by
  simp only [F_read_c, h, if_true, e]
theorem Fspoilt (h : t.length ≤ 400) (c : Int) : F__law_spoilt [.str t, .int c] = some fun d => ∃ t', d = .str t' ∧ t'.length ≤ 2000 := if_pos h
theorem deps_le2 {k : Nat} : ∀ {l : List D}, (∀ x ∈ l, dep x ≤ k) → deps l ≤ k
  | [], _ => by unfold deps; omega
  | x :: l, h => by
    unfold deps
    have h1 := h x List.mem_cons_self
    have h2 := deps_le2 (l := l) fun y hy => h y (List.mem_cons_of_mem _ hy)
    omega
theorem dep_row2 (r : List Int) : dep (dInts r) ≤ 1 := by
  have : deps (r.map D.int) ≤ 0 := deps_le2 fun x hx => by
    obtain ⟨i, _, rfl⟩ := List.mem_map.mp hx
    simp [dep]
  show dep (.tup (r.map D.int)) ≤ 1
  unfold dep
  omega
theorem dep_meet (ns : List Int) (pay : List (List Int)) : dep (meetD ns pay) ≤ 32 := by
  have h1 := dep_row2 ns
  have h2 : deps (pay.map dInts) ≤ 1 := deps_le2 fun x hx => by
    obtain ⟨r, _, rfl⟩ := List.mem_map.mp hx
    exact dep_row2 r
  show dep (.tup [dInts ns, .tup (pay.map dInts)]) ≤ 32
  have h3 : dep (.tup (pay.map dInts)) ≤ 2 := by unfold dep; omega
  unfold dep deps deps deps
  omega
theorem l2_turn {xs : List D} {c : Int} {De : DEnds} {a2 a3 a4 a5 a6 : Sl} (hn : ∀ a1 a2 a3 a4 a5 a6, De.nx [.im (.lst xs), a1, a2, a3, a4, a5, a6]) : g_law_f1 De [.im (.lst xs), .im (.int c), a2, a3, a4, a5, a6] := by
  simp_arith! only [g_law_f1, F__law_meeting]
  rintro m ⟨ns, pay, rfl, M, _⟩
  have tl := textM_len M
  have fr := FreadC (by omega) (text_read M)
  simp_arith! only [FlawText M, Fwritten M, fr, eqD_str, beq_self_eq_true, Bool.not_true]
  refine ⟨by simp [dep], ?_⟩
  rintro d rfl
  simp_arith! only [mD, eqD_self, Bool.not_true]
  refine ⟨dep_meet ns pay, ⟨by decide, by decide⟩, ?_⟩
  simp only [Fspoilt tl]
  rintro d ⟨t', rfl, hl⟩
  simp_arith! only [FlawRead hl, oIsnot2]
  cases e : readM t' with
  | none =>
    simp_arith! only [Option.map_none, Option.getD_none, isNon, Bool.not_true]
    exact hn _ _ _ _ _ _
  | some m =>
    obtain ⟨ns', pay'⟩ := m
    obtain ⟨M', et⟩ := read_text e
    have hi := meet_true M'
    simp_arith! only [Option.map_some, Option.getD_some, mD, isNon, Bool.not_false, Fmeeting, hi, Bool.not_true, FlawText M', et, eqD_str, beq_self_eq_true]
    exact ⟨by simp [dep], hn _ _ _ _ _ _⟩
end
theorem vc_law : ∀ ds p, F_law ds = some p → g_law (retP p) (dstart ["_law_script", "_law_cell_here", "_law_meeting_here", "_law_text_here", "_law_bad", "_law_found", "_law_some"] ds)
  | [.lst xs], p, h => by
    have h' : (match intsD xs with
      | some _ => some (fun d => d = D.bl true)
      | none => none) = some p := h
    clear h
    split at h'
    · rename_i ns0 e
      cases h'
      have ex := ints_eq e
      show g_law _ [.im (.lst xs), .un, .un, .un, .un, .un, .un]
      unfold g_law
      simp_arith! only [gFor, gSlL]
      refine ⟨fun i δ => ∃ (a1 a2 a3 a4 a5 a6 : Sl), δ = [.im (.lst xs), a1, a2, a3, a4, a5, a6], ⟨_, _, _, _, _, _, rfl⟩, ?_, ?_⟩
      · rintro i x δ ed ⟨a1, a2, a3, a4, a5, a6, rfl⟩
        have hm : x ∈ xs := List.mem_of_mem_drop (List.mem_of_mem_take (List.mem_of_getElem? ed))
        rw [ex] at hm
        obtain ⟨c, _, rfl⟩ := List.mem_map.mp hm
        simp_arith! only []
        exact l2_turn fun _ _ _ _ _ _ => ⟨_, _, _, _, _, _, rfl⟩
      · rintro δ ⟨a1, a2, a3, a4, a5, a6, rfl⟩
        simp_arith! only [g_law_1, g_law_2, gFor, List.length_cons, List.length_nil]
        refine ⟨by decide, by decide, by decide, ?_⟩
        refine ⟨fun i δ => ∃ (a1 a2 a3 a4 a5 a6 : Sl), δ = [.im (.lst xs), a1, a2, a3, a4, a5, a6], ⟨_, _, _, _, _, _, rfl⟩, ?_, ?_⟩
        · rintro i x δ ed ⟨a1, a2, a3, a4, a5, a6, rfl⟩
          have hm : x ∈ badL.map D.str := List.mem_of_getElem? ed
          obtain ⟨s, hs, rfl⟩ := List.mem_map.mp hm
          obtain ⟨b1, b2⟩ := bad_none s hs
          simp_arith! only [FlawRead b2, b1, oIsnot2, Option.map_none, Option.getD_none, isNon, Bool.not_true]
          exact ⟨_, _, _, _, _, _, rfl⟩
        · rintro δ ⟨a1, a2, a3, a4, a5, a6, rfl⟩
          have fr := FreadC good_len good_some
          simp_arith! only [g_law_3, fr, List.length_cons, List.length_nil]
          rintro d rfl
          refine ⟨by decide, by decide, by decide, by decide, ?_⟩
          have dm : dep (mD ([1, 1], [[0, -9]])) ≤ 32 := dep_meet _ _
          refine ⟨dm, ?_⟩
          have ee : eqD (mD ([1, 1], [[0, -9]])) (.tup [.tup [.int 1, .int 1], .tup [.tup [.int 0, .int (-9)]]]) = some true := eqD_self _
          rw [ee]
    · cases h'
end L2
namespace L2
open PySem PySem.Spec PyProof.Rows
theorem sign_at {i : Int} (h0 : 0 ≤ i) (h1 : i < 10) : ∃ c, atI (PySem.Str.ofString "0129:,- +a").cps.toList i = some c := by
  have hl : (PySem.Str.ofString "0129:,- +a").cps.toList.length = 10 := by decide +kernel
  refine ⟨(PySem.Str.ofString "0129:,- +a").cps.toList[i.toNat]'(by omega), ?_⟩
  have := atI_nat (xs := (PySem.Str.ofString "0129:,- +a").cps.toList) (j := i.toNat) (List.getElem?_eq_getElem (by omega))
  rw [Int.toNat_of_nonneg h0] at this
  exact this
theorem sign_len : (PySem.Str.ofString "0129:,- +a").length ≤ sizeLine := by decide +kernel
theorem s_len2 (a b : Str) : (a ++ b).length = a.length + b.length := by simp [Str.length, Str.cps_append]
theorem vc__law_spoilt : ∀ ds p, F__law_spoilt ds = some p → g__law_spoilt (retP p) (dstart ["_law_text_here", "_law_cell_here", "_law_at", "_law_sign"] ds)
  | [.str t, .int c], p, h => by
    simp only [F__law_spoilt] at h
    split at h
    · rename_i hl
      cases h
      show g__law_spoilt _ [.im (.str t), .im (.int c), .un, .un]
      have tz : t.length ≤ sizeLine := by rw [sizeLine_eq]; omega
      have sl : ∀ lo hi, (Txt.slice t lo hi).length ≤ 400 := fun lo hi => Nat.le_trans (Txt.slice_le t lo hi) hl
      obtain ⟨sg, es⟩ := sign_at (i := c / 512 % 10) (by omega) (by omega)
      have d1 : CDiv c 4 := ⟨by decide, by decide⟩
      have d2 : CDiv c 512 := ⟨by decide, by decide⟩
      have z1 : (0 : Int) < (t.length : Int) + 1 := by omega
      have ks : (⟨#[sg]⟩ : Str).length = 1 := rfl
      simp_arith! only [g__law_spoilt, g__law_spoilt_4, g__law_spoilt_3, g__law_spoilt_2, g__law_spoilt_1, cLenS, gIxS, gSlS, oAddS, d1, d2, tz, true_and, z1, sign_len, show (0 : Int) < 10 by decide, show (0 : Int) < 4 by decide]
      refine ⟨sg, es, ?_⟩
      have two : ∀ a b, (Txt.slice t none (some a)).length + (Txt.slice t b none).length ≤ sizeLine ∧ (Txt.slice t none (some a) ++ Txt.slice t b none).length ≤ 2000 := fun a b => by
        have h1 := sl none (some a)
        have h2 := sl b none
        rw [sizeLine_eq, s_len2]
        omega
      by_cases e0 : c % 4 = 0
      · have b0 : (c % 4 == 0) = true := by simpa using e0
        simp_arith! only [b0]
        exact ⟨by simp [dep], (two _ _).1, _, rfl, (two _ _).2⟩
      · have b0 : (c % 4 == 0) = false := by simpa using e0
        simp_arith! only [b0]
        refine ⟨by simp [dep], ?_⟩
        by_cases e1 : c % 4 = 1
        · have b1 : (c % 4 == 1) = true := by simpa using e1
          simp_arith! only [b1]
          have h1 := sl none (some (c / 4 % ((t.length : Int) + 1)))
          have h2 := sl (some (c / 4 % ((t.length : Int) + 1))) (some (c / 4 % ((t.length : Int) + 1) + 1))
          have h3 := sl (some (c / 4 % ((t.length : Int) + 1))) none
          refine ⟨by simp [dep], by rw [sizeLine_eq]; omega, by rw [sizeLine_eq, s_len2]; omega, _, rfl, by rw [s_len2, s_len2]; omega⟩
        · have b1 : (c % 4 == 1) = false := by simpa using e1
          simp_arith! only [b1]
          have h1 := sl none (some (c / 4 % ((t.length : Int) + 1)))
          have h3 := sl (some (c / 4 % ((t.length : Int) + 1) + c % 4 - 2)) none
          refine ⟨by simp [dep], by rw [sizeLine_eq, ks]; omega, by rw [sizeLine_eq, s_len2, ks]; omega, _, rfl, by rw [s_len2, s_len2, ks]; omega⟩
    · cases h
end L2
namespace L2
open PySem PySem.Spec PyProof.Rows
theorem vc_is_whole : ∀ ds d, F_is_whole ds = some d → g_is_whole (retD d) (dstart ["thing"] ds)
  | [x], d, h => by
    cases h
    show g_is_whole _ [.im x]
    cases x <;> simp [g_is_whole, gRet , gAndV, gOrV, gNotV, gInst, isSub_int, isSub_bool, isSub_tuple, gVar, gSeq, gAsg, gNm, gC, gF, gLst, gConsA, gNilA, gTupE, gCallB, gCallF, gCallD, gCallR, gOpt, gOptP, cLen, cAbs, cAll, cTuple, cList, gOp, oInt, oIntC, oAdd, oMul, oNe, oEq, oIs, oIsnot, eqD, dep, gIx, gChain, gChain3, gTest, isBl, gIfS, gIt, gIl, gRng1, gRng2, gApp, gExt, gFrz, gAsgO, gNext, gTru, gNot, gAnd, gOr, gPart, gNoP, gSlT, gCatL, gNeg, gNm2, gZip, gNotT, truD, gPeek, gPeekT, gPeekF, gEnumT, gEnumL, cInt, gPar, gIfE, eq_self, if_true, ↓reduceIte, Bool.false_eq_true, if_false, List.getElem?_cons_zero, List.getElem?_cons_succ, List.set_cons_zero, List.set_cons_succ, isWhole]
  | [], d, h => by cases h
  | _ :: _ :: _, d, h => by cases h
theorem vc_is_between : ∀ ds d, F_is_between ds = some d → g_is_between (retD d) (dstart ["thing", "least", "most"] ds)
  | [x, .int a, .int b], d, h => by
    cases h
    show g_is_between _ [.im x, .im (.int a), .im (.int b)]
    cases x with
    | int i =>
      simp [g_is_between, gRet , gAndV, gOrV, gNotV, gInst, isSub_int, isSub_bool, isSub_tuple, gVar, gSeq, gAsg, gNm, gC, gF, gLst, gConsA, gNilA, gTupE, gCallB, gCallF, gCallD, gCallR, gOpt, gOptP, cLen, cAbs, cAll, cTuple, cList, gOp, oInt, oIntC, oAdd, oMul, oNe, oEq, oIs, oIsnot, eqD, dep, gIx, gChain, gChain3, gTest, isBl, gIfS, gIt, gIl, gRng1, gRng2, gApp, gExt, gFrz, gAsgO, gNext, gTru, gNot, gAnd, gOr, gPart, gNoP, gSlT, gCatL, gNeg, gNm2, gZip, gNotT, truD, gPeek, gPeekT, gPeekF, gEnumT, gEnumL, cInt, gPar, gIfE, eq_self, if_true, ↓reduceIte, Bool.false_eq_true, if_false, List.getElem?_cons_zero, List.getElem?_cons_succ, List.set_cons_zero, List.set_cons_succ, F_is_whole, isWhole, isBetween]
      split <;> simp_all <;> omega
    | _ => simp [g_is_between, gRet , gAndV, gOrV, gNotV, gInst, isSub_int, isSub_bool, isSub_tuple, gVar, gSeq, gAsg, gNm, gC, gF, gLst, gConsA, gNilA, gTupE, gCallB, gCallF, gCallD, gCallR, gOpt, gOptP, cLen, cAbs, cAll, cTuple, cList, gOp, oInt, oIntC, oAdd, oMul, oNe, oEq, oIs, oIsnot, eqD, dep, gIx, gChain, gChain3, gTest, isBl, gIfS, gIt, gIl, gRng1, gRng2, gApp, gExt, gFrz, gAsgO, gNext, gTru, gNot, gAnd, gOr, gPart, gNoP, gSlT, gCatL, gNeg, gNm2, gZip, gNotT, truD, gPeek, gPeekT, gPeekF, gEnumT, gEnumL, cInt, gPar, gIfE, eq_self, if_true, ↓reduceIte, Bool.false_eq_true, if_false, List.getElem?_cons_zero, List.getElem?_cons_succ, List.set_cons_zero, List.set_cons_succ, F_is_whole, isWhole, isBetween]
theorem vc_is_tuple_of : ∀ ds d, F_is_tuple_of ds = some d → g_is_tuple_of (retD d) (dstart ["thing", "fewest", "most"] ds)
  | [x, .int a, .int b], d, h => by
    cases h
    show g_is_tuple_of _ [.im x, .im (.int a), .im (.int b)]
    cases x with
    | tup xs =>
      simp [g_is_tuple_of, gRet , gAndV, gOrV, gNotV, gInst, isSub_int, isSub_bool, isSub_tuple, gVar, gSeq, gAsg, gNm, gC, gF, gLst, gConsA, gNilA, gTupE, gCallB, gCallF, gCallD, gCallR, gOpt, gOptP, cLen, cAbs, cAll, cTuple, cList, gOp, oInt, oIntC, oAdd, oMul, oNe, oEq, oIs, oIsnot, eqD, dep, gIx, gChain, gChain3, gTest, isBl, gIfS, gIt, gIl, gRng1, gRng2, gApp, gExt, gFrz, gAsgO, gNext, gTru, gNot, gAnd, gOr, gPart, gNoP, gSlT, gCatL, gNeg, gNm2, gZip, gNotT, truD, gPeek, gPeekT, gPeekF, gEnumT, gEnumL, cInt, gPar, gIfE, eq_self, if_true, ↓reduceIte, Bool.false_eq_true, if_false, List.getElem?_cons_zero, List.getElem?_cons_succ, List.set_cons_zero, List.set_cons_succ, isTupleOf]
      split <;> simp_all <;> omega
    | _ => simp [g_is_tuple_of, gRet , gAndV, gOrV, gNotV, gInst, isSub_int, isSub_bool, isSub_tuple, gVar, gSeq, gAsg, gNm, gC, gF, gLst, gConsA, gNilA, gTupE, gCallB, gCallF, gCallD, gCallR, gOpt, gOptP, cLen, cAbs, cAll, cTuple, cList, gOp, oInt, oIntC, oAdd, oMul, oNe, oEq, oIs, oIsnot, eqD, dep, gIx, gChain, gChain3, gTest, isBl, gIfS, gIt, gIl, gRng1, gRng2, gApp, gExt, gFrz, gAsgO, gNext, gTru, gNot, gAnd, gOr, gPart, gNoP, gSlT, gCatL, gNeg, gNm2, gZip, gNotT, truD, gPeek, gPeekT, gPeekF, gEnumT, gEnumL, cInt, gPar, gIfE, eq_self, if_true, ↓reduceIte, Bool.false_eq_true, if_false, List.getElem?_cons_zero, List.getElem?_cons_succ, List.set_cons_zero, List.set_cons_succ, isTupleOf]
theorem vc_are_between : ∀ ds d, F_are_between ds = some d → g_are_between (retD d) (dstart ["parts", "least", "most"] ds)
  | [.tup xs, .int a, .int b], d, h => by
    have h : (if xs.length ≤ 1000 then some (D.bl (xs.all fun d => isBetween d a b)) else none) = some d := h
    split at h
    · rename_i hl
      cases h
      show g_are_between _ [.im (.tup xs), .im (.int a), .im (.int b)]
      simp_arith only [g_are_between, gComp, List.getElem?_cons_zero, List.getElem?_cons_succ]
      refine ⟨ends_le hl, fun x => .bl (isBetween x a b), fun x hx => ?_, ?_⟩
      · simp [δc, F_is_between]
      · rw [bools_mapf]
        simp [Function.comp_def, List.all_map]
    · cases h
theorem vc_is_deeds : ∀ ds d, F_is_deeds ds = some d → g_is_deeds (retD d) (dstart ["thing"] ds)
  | [x], d, h => by
    cases h
    show g_is_deeds _ [.im x]
    cases x with
    | tup xs =>
      by_cases h1 : 2 ≤ xs.length ∧ xs.length ≤ 3
      · have h2 : xs.length ≤ 1000 := by omega
        simp [g_is_deeds, gRet , gAndV, gOrV, gNotV, gInst, isSub_int, isSub_bool, isSub_tuple, gVar, gSeq, gAsg, gNm, gC, gF, gLst, gConsA, gNilA, gTupE, gCallB, gCallF, gCallD, gCallR, gOpt, gOptP, cLen, cAbs, cAll, cTuple, cList, gOp, oInt, oIntC, oAdd, oMul, oNe, oEq, oIs, oIsnot, eqD, dep, gIx, gChain, gChain3, gTest, isBl, gIfS, gIt, gIl, gRng1, gRng2, gApp, gExt, gFrz, gAsgO, gNext, gTru, gNot, gAnd, gOr, gPart, gNoP, gSlT, gCatL, gNeg, gNm2, gZip, gNotT, truD, gPeek, gPeekT, gPeekF, gEnumT, gEnumL, cInt, gPar, gIfE, eq_self, if_true, ↓reduceIte, Bool.false_eq_true, if_false, List.getElem?_cons_zero, List.getElem?_cons_succ, List.set_cons_zero, List.set_cons_succ, F_is_tuple_of, isTupleOf, F_are_between, isDeeds, h1, h2]
        intro h3
        omega
      · simp [g_is_deeds, gRet , gAndV, gOrV, gNotV, gInst, isSub_int, isSub_bool, isSub_tuple, gVar, gSeq, gAsg, gNm, gC, gF, gLst, gConsA, gNilA, gTupE, gCallB, gCallF, gCallD, gCallR, gOpt, gOptP, cLen, cAbs, cAll, cTuple, cList, gOp, oInt, oIntC, oAdd, oMul, oNe, oEq, oIs, oIsnot, eqD, dep, gIx, gChain, gChain3, gTest, isBl, gIfS, gIt, gIl, gRng1, gRng2, gApp, gExt, gFrz, gAsgO, gNext, gTru, gNot, gAnd, gOr, gPart, gNoP, gSlT, gCatL, gNeg, gNm2, gZip, gNotT, truD, gPeek, gPeekT, gPeekF, gEnumT, gEnumL, cInt, gPar, gIfE, eq_self, if_true, ↓reduceIte, Bool.false_eq_true, if_false, List.getElem?_cons_zero, List.getElem?_cons_succ, List.set_cons_zero, List.set_cons_succ, F_is_tuple_of, isTupleOf, F_are_between, isDeeds]
        split
        · omega
        · intro a b
          exact absurd ⟨a, b⟩ h1
    | _ => simp [g_is_deeds, gRet , gAndV, gOrV, gNotV, gInst, isSub_int, isSub_bool, isSub_tuple, gVar, gSeq, gAsg, gNm, gC, gF, gLst, gConsA, gNilA, gTupE, gCallB, gCallF, gCallD, gCallR, gOpt, gOptP, cLen, cAbs, cAll, cTuple, cList, gOp, oInt, oIntC, oAdd, oMul, oNe, oEq, oIs, oIsnot, eqD, dep, gIx, gChain, gChain3, gTest, isBl, gIfS, gIt, gIl, gRng1, gRng2, gApp, gExt, gFrz, gAsgO, gNext, gTru, gNot, gAnd, gOr, gPart, gNoP, gSlT, gCatL, gNeg, gNm2, gZip, gNotT, truD, gPeek, gPeekT, gPeekF, gEnumT, gEnumL, cInt, gPar, gIfE, eq_self, if_true, ↓reduceIte, Bool.false_eq_true, if_false, List.getElem?_cons_zero, List.getElem?_cons_succ, List.set_cons_zero, List.set_cons_succ, F_is_tuple_of, isTupleOf, isDeeds]
  | [], d, h => by cases h
  | _ :: _ :: _, d, h => by cases h
theorem vc_rows_of : ∀ ds d, F_rows_of ds = some d → g_rows_of (retD d) (dstart ["deeds", "rows", "many", "longer", "row", "deed"] ds)
  | [.tup es], d, h => by
    obtain ⟨ns, rfl, ho, rfl⟩ := onDeeds_eq (show onDeeds es (fun ns => D.tup ((rowsL ns).map dInts)) = some d from h)
    show g_rows_of _ [.im (.tup (ns.map D.int)), .un, .un, .un, .un, .un]
    simp_arith only [g_rows_of, g_rows_of_1, gFor]
    refine ⟨by decide, by decide, fun i δ => ∃ a b c e, δ = [.im (.tup (ns.map D.int)), .im (.lst ((rowsL (ns.take i)).map dInts)), a, b, c, e], ⟨.un, .un, .un, .un, rfl⟩, ?_, ?_⟩
    · rintro i d δ ed ⟨a, b, c, e, rfl⟩
      obtain ⟨hi, rfl⟩ := getm_map ed
      obtain ⟨f1, f2, f3, f4⟩ := row_facts ho hi
      generalize hR : rowsL (ns.take i) = R at *
      generalize hn : ns[i] = n at *
      simp_arith only []
      refine ⟨by decide, fun j δ => ∃ c e, δ = [.im (.tup (ns.map D.int)), .im (.lst (R.map dInts)), .im (.int n), .ow ((rowStep (R.take j) n).map dInts), c, e], ⟨c, e, rfl⟩, ?_, ?_⟩
      · rintro j d δ ed ⟨c, e, rfl⟩
        obtain ⟨hj, rfl⟩ := getm_map ed
        have fr := f4 R[j] (List.getElem_mem hj)
        simp_arith only []
        refine ⟨by omega, fun k δ => ∃ e, δ = [.im (.tup (ns.map D.int)), .im (.lst (R.map dInts)), .im (.int n), .ow ((rowStep (R.take j) n).map dInts ++ ((List.range k).map fun (m : Nat) => dInts (R[j] ++ [(m : Int)]))), .im (dInts R[j]), e], ⟨e, by simp⟩, ?_, ?_⟩
        · rintro k d δ ed ⟨e, rfl⟩
          unfold rangeD at ed
          obtain ⟨hk, rfl⟩ := getm_map ed
          rw [List.length_range] at hk
          simp_arith only [dInts, List.getElem_range, Int.zero_add]
          have hl : (rowStep (R.take j) n).length ≤ 81 := by
            rw [rowStep_length, List.length_take]
            exact Nat.le_trans (Nat.mul_le_mul (Nat.le_trans (Nat.min_le_right _ _) f3) (show n.toNat ≤ 3 by omega)) (by decide)
          refine ⟨ends_le (by simp), by simp; exact ends_le (by omega), ?_, ?_⟩
          · refine small1000 ?_
            simp
            omega
          · refine ⟨.im (.int (k : Int)), ?_⟩
            rw [List.range_succ, List.map_append, ← List.append_assoc]
            simp only [List.map_cons, List.map_nil, List.map_append, dInts]
        · rintro δ ⟨e, rfl⟩
          refine ⟨.im (dInts R[j]), e, ?_⟩
          rw [rowStep_take R n j hj, List.map_append, List.map_map]
          simp [rangeD, Function.comp_def]
      · rintro δ ⟨c, e, rfl⟩
        simp_arith only []
        rw [rowsL_take ns i hi, hR, hn, List.length_map, List.take_length]
        exact ⟨_, _, _, _, rfl⟩
    · rintro δ ⟨a, b, c, e, rfl⟩
      simp_arith only []
      rw [List.length_map, List.take_length]
theorem vc_is_pay_of_row : ∀ ds d, F_is_pay_of_row ds = some d → g_is_pay_of_row (retD d) (dstart ["thing", "hands"] ds)
  | [x, .int n], d, h => by
    have h : (if 0 ≤ n ∧ n ≤ 1000 then some (D.bl (isPayRow x n.toNat)) else none) = some d := h
    split at h
    · rename_i hn
      cases h
      show g_is_pay_of_row _ [.im x, .im (.int n)]
      cases x with
      | tup xs =>
        by_cases h1 : (xs.length : Int) = n
        · have h2 : xs.length ≤ 1000 := by omega
          have h3 : xs.length = n.toNat := by omega
          have e1 : isTupleOf (.tup xs) n n = true := by
            simp [isTupleOf]
            omega
          simp_arith only [g_is_pay_of_row, F_is_tuple_of, e1, F_are_between, isPayRow, if_pos h2, decide_eq_true h3, Bool.true_and]
        · have h3 : ¬ xs.length = n.toNat := by omega
          have h4 : (decide (n ≤ (xs.length : Int)) && decide ((xs.length : Int) ≤ n)) = false := by simp; omega
          simp_arith only [g_is_pay_of_row, F_is_tuple_of, isTupleOf, h4, isPayRow, decide_eq_false h3, Bool.false_and]
      | _ => simp [g_is_pay_of_row, gRet , gAndV, gOrV, gNotV, gInst, isSub_int, isSub_bool, isSub_tuple, gVar, gSeq, gAsg, gNm, gC, gF, gLst, gConsA, gNilA, gTupE, gCallB, gCallF, gCallD, gCallR, gOpt, gOptP, cLen, cAbs, cAll, cTuple, cList, gOp, oInt, oIntC, oAdd, oMul, oNe, oEq, oIs, oIsnot, eqD, dep, gIx, gChain, gChain3, gTest, isBl, gIfS, gIt, gIl, gRng1, gRng2, gApp, gExt, gFrz, gAsgO, gNext, gTru, gNot, gAnd, gOr, gPart, gNoP, gSlT, gCatL, gNeg, gNm2, gZip, gNotT, truD, gPeek, gPeekT, gPeekF, gEnumT, gEnumL, cInt, gPar, gIfE, eq_self, if_true, ↓reduceIte, Bool.false_eq_true, if_false, List.getElem?_cons_zero, List.getElem?_cons_succ, List.set_cons_zero, List.set_cons_succ, F_is_tuple_of, isTupleOf, isPayRow]
    · cases h
theorem vc_is_pay : ∀ ds d, F_is_pay ds = some d → g_is_pay (retD d) (dstart ["thing", "deeds", "many"] ds)
  | [x, .tup es], d, h => by
    obtain ⟨ns, rfl, ho, rfl⟩ := onDeeds_eq (show onDeeds es (fun ns => D.bl (isPay x ns)) = some d from h)
    show g_is_pay _ [.im x, .im (.tup (ns.map D.int)), .un]
    obtain ⟨l1, l2⟩ := rows_len ho
    obtain ⟨m1, m2⟩ := okDeeds_mem ho
    cases x with
    | tup xs =>
      simp_arith only [g_is_pay, g_is_pay_1, F_rows_of, onDeeds_of _ ho, List.getElem?_cons_zero, List.getElem?_cons_succ, List.set_cons_succ, List.set_cons_zero, List.length_map]
      by_cases h1 : xs.length = (rowsL ns).length
      · have h2 : xs.length ≤ 1000 := by omega
        have e1 : isTupleOf (.tup xs) (rowsL ns).length (rowsL ns).length = true := by
          simp [isTupleOf]
          omega
        simp_arith only [F_is_tuple_of, e1, gComp]
        refine ⟨ends_le h2, fun r => .bl (isPayRow r ns.length), fun r hr => ?_, ?_⟩
        · have h0 : (0 : Int) ≤ (ns.length : Int) ∧ (ns.length : Int) ≤ 1000 := by omega
          simp_arith only [δc, List.map_cons, List.map_nil, F_is_pay_of_row, List.length_map, if_pos h0, Int.toNat_natCast]
        · rw [bools_mapf]
          simp [Function.comp_def, List.all_map, isPay, h1]
      · have h4 : (decide (((rowsL ns).length : Int) ≤ (xs.length : Int)) && decide ((xs.length : Int) ≤ ((rowsL ns).length : Int))) = false := by simp; omega
        simp_arith only [F_is_tuple_of, isTupleOf, h4, isPay, decide_eq_false h1, Bool.false_and]
    | _ => simp [g_is_pay, g_is_pay_1, gRet , gAndV, gOrV, gNotV, gInst, isSub_int, isSub_bool, isSub_tuple, gVar, gSeq, gAsg, gNm, gC, gF, gLst, gConsA, gNilA, gTupE, gCallB, gCallF, gCallD, gCallR, gOpt, gOptP, cLen, cAbs, cAll, cTuple, cList, gOp, oInt, oIntC, oAdd, oMul, oNe, oEq, oIs, oIsnot, eqD, dep, gIx, gChain, gChain3, gTest, isBl, gIfS, gIt, gIl, gRng1, gRng2, gApp, gExt, gFrz, gAsgO, gNext, gTru, gNot, gAnd, gOr, gPart, gNoP, gSlT, gCatL, gNeg, gNm2, gZip, gNotT, truD, gPeek, gPeekT, gPeekF, gEnumT, gEnumL, cInt, gPar, gIfE, eq_self, if_true, ↓reduceIte, Bool.false_eq_true, if_false, List.getElem?_cons_zero, List.getElem?_cons_succ, List.set_cons_zero, List.set_cons_succ, F_rows_of, onDeeds_of _ ho, F_is_tuple_of, isTupleOf, isPay]
theorem vc_is_meeting : ∀ ds d, F_is_meeting ds = some d → g_is_meeting (retD d) (dstart ["thing"] ds)
  | [x], d, h => by
    cases h
    show g_is_meeting _ [.im x]
    cases x with
    | tup xs =>
      match xs with
      | [a, b] =>
        simp_arith only [g_is_meeting, F_is_tuple_of, isTupleOf, F_is_deeds, List.getElem?_cons_zero, List.getElem?_cons_succ]
        simp [atI, ixN]
        cases hd : isDeeds a with
        | false => simp [isMeeting, hd]
        | true =>
          obtain ⟨ns, rfl, ho, h2⟩ := isDeeds_of hd
          have hd' : isDeeds (.tup (ns.map D.int)) = true := hd
          simp [F_is_pay, dInts, onDeeds_of _ ho, isMeeting, ints_map, hd']
      | [] => simp [g_is_meeting, gRet , gAndV, gOrV, gNotV, gInst, isSub_int, isSub_bool, isSub_tuple, gVar, gSeq, gAsg, gNm, gC, gF, gLst, gConsA, gNilA, gTupE, gCallB, gCallF, gCallD, gCallR, gOpt, gOptP, cLen, cAbs, cAll, cTuple, cList, gOp, oInt, oIntC, oAdd, oMul, oNe, oEq, oIs, oIsnot, eqD, dep, gIx, gChain, gChain3, gTest, isBl, gIfS, gIt, gIl, gRng1, gRng2, gApp, gExt, gFrz, gAsgO, gNext, gTru, gNot, gAnd, gOr, gPart, gNoP, gSlT, gCatL, gNeg, gNm2, gZip, gNotT, truD, gPeek, gPeekT, gPeekF, gEnumT, gEnumL, cInt, gPar, gIfE, eq_self, if_true, ↓reduceIte, Bool.false_eq_true, if_false, List.getElem?_cons_zero, List.getElem?_cons_succ, List.set_cons_zero, List.set_cons_succ, F_is_tuple_of, isTupleOf, isMeeting]
      | [a] => simp [g_is_meeting, gRet , gAndV, gOrV, gNotV, gInst, isSub_int, isSub_bool, isSub_tuple, gVar, gSeq, gAsg, gNm, gC, gF, gLst, gConsA, gNilA, gTupE, gCallB, gCallF, gCallD, gCallR, gOpt, gOptP, cLen, cAbs, cAll, cTuple, cList, gOp, oInt, oIntC, oAdd, oMul, oNe, oEq, oIs, oIsnot, eqD, dep, gIx, gChain, gChain3, gTest, isBl, gIfS, gIt, gIl, gRng1, gRng2, gApp, gExt, gFrz, gAsgO, gNext, gTru, gNot, gAnd, gOr, gPart, gNoP, gSlT, gCatL, gNeg, gNm2, gZip, gNotT, truD, gPeek, gPeekT, gPeekF, gEnumT, gEnumL, cInt, gPar, gIfE, eq_self, if_true, ↓reduceIte, Bool.false_eq_true, if_false, List.getElem?_cons_zero, List.getElem?_cons_succ, List.set_cons_zero, List.set_cons_succ, F_is_tuple_of, isTupleOf, isMeeting]
      | a :: b :: c :: r =>
        have h4 : ((decide (2 ≤ (((a :: b :: c :: r).length : Nat) : Int))) && decide ((((a :: b :: c :: r).length : Nat) : Int) ≤ 2)) = false := by simp; omega
        simp_arith only [g_is_meeting, F_is_tuple_of, isTupleOf, h4, isMeeting]
    | _ => simp [g_is_meeting, gRet , gAndV, gOrV, gNotV, gInst, isSub_int, isSub_bool, isSub_tuple, gVar, gSeq, gAsg, gNm, gC, gF, gLst, gConsA, gNilA, gTupE, gCallB, gCallF, gCallD, gCallR, gOpt, gOptP, cLen, cAbs, cAll, cTuple, cList, gOp, oInt, oIntC, oAdd, oMul, oNe, oEq, oIs, oIsnot, eqD, dep, gIx, gChain, gChain3, gTest, isBl, gIfS, gIt, gIl, gRng1, gRng2, gApp, gExt, gFrz, gAsgO, gNext, gTru, gNot, gAnd, gOr, gPart, gNoP, gSlT, gCatL, gNeg, gNm2, gZip, gNotT, truD, gPeek, gPeekT, gPeekF, gEnumT, gEnumL, cInt, gPar, gIfE, eq_self, if_true, ↓reduceIte, Bool.false_eq_true, if_false, List.getElem?_cons_zero, List.getElem?_cons_succ, List.set_cons_zero, List.set_cons_succ, F_is_tuple_of, isTupleOf, isMeeting]
  | [], d, h => by cases h
  | _ :: _ :: _, d, h => by cases h
end L2
namespace L2
open PySem PySem.Spec PyProof.Rows
def top (i : Nat) : Stmt := PySem.Challenge.pw_pactkeep_k02_whole_texts.main.body.getD i (.Pass ⟨0, 0, 0, 0⟩)
abbrev s_is_whole : Stmt := top 5
abbrev s_is_meeting : Stmt := top 12
abbrev s_rows_of : Stmt := top 13
abbrev s_is_deeds : Stmt := top 14
abbrev s_is_pay : Stmt := top 15
abbrev s_is_pay_of_row : Stmt := top 16
abbrev s_is_tuple_of : Stmt := top 17
abbrev s_are_between : Stmt := top 18
abbrev s_is_between : Stmt := top 19
abbrev s_read : Stmt := top 21
abbrev s_numbers_of : Stmt := top 22
abbrev s_number_of : Stmt := top 23
abbrev s_written : Stmt := top 25
abbrev s_written_pays : Stmt := top 26
abbrev s__law_mix : Stmt := top 29
abbrev s__law_rows : Stmt := top 30
abbrev s__law_meeting : Stmt := top 31
abbrev s__law_text : Stmt := top 33
abbrev s__law_spoilt : Stmt := top 34
abbrev s__law_read : Stmt := top 35
abbrev s_law : Stmt := top 36
structure Txt (K : PySem.W.Frag) (mg : Str → Option Value) : Prop where
  n_ValueError : mg "ValueError" = none
  n_all : mg "all" = none
  n_bool : mg "bool" = none
  n_int : mg "int" = none
  n_isinstance : mg "isinstance" = none
  n_len : mg "len" = none
  n_range : mg "range" = none
  n_sorted : mg "sorted" = none
  n_str : mg "str" = none
  n_tuple : mg "tuple" = none
  c_FEWEST_HANDS : ∃ t, mg "FEWEST_HANDS" = some (.int (2) t)
  c_HIGHEST_PAY : ∃ t, mg "HIGHEST_PAY" = some (.int (9) t)
  c_LOWEST_PAY : ∃ t, mg "LOWEST_PAY" = some (.int (-9) t)
  c_MOST_DEEDS : ∃ t, mg "MOST_DEEDS" = some (.int (3) t)
  c_MOST_HANDS : ∃ t, mg "MOST_HANDS" = some (.int (3) t)
  x_NoText : ExcAt K mg "NoText"
  e_PactError : ∃ cl, mg "PactError" = some cl ∧ ∀ (c : Str) cls, (c = "NoText") → mg c = some cls → PySem.W.exmOne K cls cl = some true
  i_NoText_NoPact : ∃ C N : Addr, mg "NoText" = some (.ref C) ∧ mg "NoPact" = some (.ref N) ∧ XCls K C ∧ PySem.W.kitOne K (.ref C) (.ref C) = some true ∧ PySem.W.kitOne K (.ref C) (.ref N) = some false ∧ PySem.W.kitOne K (.ref C) (.type "ValueError") = some true
section
variable {P : Program} {w : World} {K : PySem.W.Frag} {mg : Str → Option Value} {base : Heap}
section
set_option maxHeartbeats 8000000
variable {f : Addr} {cdv : Value} {A : Around} {outer : List Env} {s : Shared} {H : Hp} {E : XK}
theorem sc_is_whole : FnScope ["thing"] ["thing"] (defScope s_is_whole) := by simp_all_arith!
theorem body_is_whole (T : Txt K mg) (hr : Room 0 (A.deeper (envOfC "is_whole" (defScope s_is_whole) s.heap.objs.size f cdv))) :
    DSs (cxOf CX0 P w K mg base ["thing"] "is_whole" (defScope s_is_whole) f cdv A outer s H E).nox (defBody s_is_whole) g_is_whole := by
  have hu := hr.units
  exact (dss_one (ds_ret (de_and (de_inst (T := "int") (by decide) (de_var (pv 0)) (pe_bltn rfl T.n_int bt_int rfl) (fun h1 h2 => pe_callB h1 rfl T.n_isinstance bt_isinstance h2)) (de_one (de_notT (de_inst (T := "bool") (by decide) (de_var (pv 0)) (pe_bltn rfl T.n_bool bt_bool rfl) (fun h1 h2 => pe_callB h1 rfl T.n_isinstance bt_isinstance h2)))))))
theorem sc_rows_of : FnScope ["deeds", "rows", "many", "longer", "row", "deed"] ["deeds"] (defScope s_rows_of) := by simp_all_arith!
theorem body_rows_of (T : Txt K mg) (hr : Room 0 (A.deeper (envOfC "rows_of" (defScope s_rows_of) s.heap.objs.size f cdv))) :
    DSs (cxOf CX0 P w K mg base ["deeds", "rows", "many", "longer", "row", "deed"] "rows_of" (defScope s_rows_of) f cdv A outer s H E).nox (defBody s_rows_of) g_rows_of := by
  have hu := hr.units
  exact (dss_cons (ds_asg (DF.toE (df_lst (da_cons (de_tup da_nil) da_nil))) (dg_name (pg_name (i := 1) sc_rows_of.nd rfl (Or.inl rfl))) (fun h1 h2 => ps_asg h1 h2)) (dss_cons (ds_for rfl PassesOwn.never (di_tup (de_var (pv 0))) (dg_name (pg_name (i := 2) sc_rows_of.nd rfl (Or.inl rfl))) (dss_cons (ds_asgO (i := 3) (df_lst da_nil) (fun h => ps_set (i := 3) sc_rows_of.nd rfl (Or.inl rfl) h)) (dss_cons (ds_for rfl PassesOwn.never (di_lst (de_var (pv 1))) (dg_name (pg_name (i := 4) sc_rows_of.nd rfl (Or.inl rfl))) (dss_one (ds_for rfl PassesOwn.never (di_rng1 rfl T.n_range (de_var (pv 2))) (dg_name (pg_name (i := 5) sc_rows_of.nd rfl (Or.inl rfl))) (dss_one (ds_app (i := 3) (de_op do_add (de_var (pv 4)) (de_tup (da_cons (de_var (pv 5)) da_nil))) (fun h => ps_expr (pe_bm PySem.F.plainAttrs_list PySem.F.slot_list_append PySem.F.type_list_append mt_append (pv 3) (pa_cons h pa_nil)))))))) (dss_frz 3 (dss_one (ds_asg (de_var (pv 3)) (dg_name (pg_name (i := 1) sc_rows_of.nd rfl (Or.inl rfl))) (fun h1 h2 => ps_asg h1 h2))))))) (dss_one (ds_ret (de_callG dc_tuple (da_cons (de_var (pv 1)) da_nil) (fun h1 h2 => pe_callTy h1 rfl T.n_tuple bt_tuple h2))))))
theorem sc_is_tuple_of : FnScope ["thing", "fewest", "most"] ["thing", "fewest", "most"] (defScope s_is_tuple_of) := by simp_all_arith!
theorem body_is_tuple_of (T : Txt K mg) (hr : Room 0 (A.deeper (envOfC "is_tuple_of" (defScope s_is_tuple_of) s.heap.objs.size f cdv))) :
    DSs (cxOf CX0 P w K mg base ["thing", "fewest", "most"] "is_tuple_of" (defScope s_is_tuple_of) f cdv A outer s H E).nox (defBody s_is_tuple_of) g_is_tuple_of := by
  have hu := hr.units
  exact (dss_one (ds_ret (de_and (de_inst (T := "tuple") (by decide) (de_var (pv 0)) (pe_bltn rfl T.n_tuple bt_tuple rfl) (fun h1 h2 => pe_callB h1 rfl T.n_isinstance bt_isinstance h2)) (de_one (de_chain do_le do_le (de_var (pv 1)) (de_callG dc_len (da_cons (de_var (pv 0)) da_nil) (fun h1 h2 => pe_callB h1 rfl T.n_len bt_len h2)) (de_var (pv 2)))))))
theorem sc_number_of : FnScope ["word", "number"] ["word"] (defScope s_number_of) := by simp_all_arith!
theorem body_number_of (T : Txt K mg) (hr : Room 0 (A.deeper (envOfC "number_of" (defScope s_number_of) s.heap.objs.size f cdv))) :
    DSsX (cx1 P w K mg base ["word", "number"] "number_of" (defScope s_number_of) f cdv A outer s H E) E (defBody s_number_of) g_number_of := by
  have hu := hr.units
  exact (dxs_cons (dx_lift (ds_for rfl PassesOwn.leaving (di_rng2 rfl T.n_range (de_globE rfl T.c_LOWEST_PAY) (de_op do_add (de_globE rfl T.c_HIGHEST_PAY) de_int) (hp := fun h => pi_range2 rfl T.n_range h)) (dg_name (pg_name (i := 1) sc_number_of.nd rfl (Or.inl rfl))) (dss_one (ds_if (dt_cmp (do_eq hu) (de_callG dc_str (da_cons (de_var (pv 1)) da_nil) (fun h1 h2 => pe_callTy h1 rfl T.n_str bt_str h2)) (de_var (pv 0))) (dss_one (ds_ret (de_var (pv 1)))) dss_nil)))) (dxs_one (dx_raise T.x_NoText rfl rfl xee1 (da_cons de_str da_nil))))
theorem sc_written_pays : FnScope ["pays"] ["pays"] (defScope s_written_pays) := by simp_all_arith!
theorem body_written_pays (T : Txt K mg) (hr : Room 0 (A.deeper (envOfC "written_pays" (defScope s_written_pays) s.heap.objs.size f cdv))) :
    DSs (cxOf CX0 P w K mg base ["pays"] "written_pays" (defScope s_written_pays) f cdv A outer s H E).nox (defBody s_written_pays) g_written_pays := by
  have hu := hr.units
  exact (dss_one (ds_ret (de_join de_str (DF.toE (df_comp (Nc := ["number"]) (fr := [none]) (ss := [0]) (compOk_of (sc := (defScope s_written_pays)) (N := ["pays"]) rfl rfl (by decide +kernel)) (by decide) rfl (di_tup (de_var (pv 0))) (fun Cc pins fp s3 H3 => dg_name (pg_name (i := 0) (show (["number"] : List Str).Nodup by decide +kernel) rfl (Or.inl rfl))) (fun Cc pins fp s3 H3 => (de_callG dc_str (da_cons (de_var (pv 0)) da_nil) (fun h1 h2 => pe_callTy h1 rfl T.n_str bt_str h2))) mono_nm)) (fun h1 h2 => pe_bm PySem.F.plainAttrs_str PySem.F.slot_str_join PySem.F.type_str_join mt_join h1 h2))))
theorem sc__law_mix : FnScope ["_law_cell_here", "_law_prime", "_law_many"] ["_law_cell_here", "_law_prime", "_law_many"] (defScope s__law_mix) := by simp_all_arith!
theorem body__law_mix (T : Txt K mg) (hr : Room 0 (A.deeper (envOfC "_law_mix" (defScope s__law_mix) s.heap.objs.size f cdv))) :
    DSs (cxOf CX0 P w K mg base ["_law_cell_here", "_law_prime", "_law_many"] "_law_mix" (defScope s__law_mix) f cdv A outer s H E).nox (defBody s__law_mix) g__law_mix := by
  have hu := hr.units
  exact (dss_one (ds_ret (de_op do_mod (de_op do_mod (de_op do_mul (de_var (pv 0)) de_int) (de_var (pv 1))) (de_var (pv 2)))))
theorem sc__law_rows : FnScope ["_law_deeds", "_law_found", "_law_many", "_law_more", "_law_row"] ["_law_deeds"] (defScope s__law_rows) := by simp_all_arith!
theorem body__law_rows (T : Txt K mg) (hr : Room 0 (A.deeper (envOfC "_law_rows" (defScope s__law_rows) s.heap.objs.size f cdv))) :
    DSs (cxOf CX0 P w K mg base ["_law_deeds", "_law_found", "_law_many", "_law_more", "_law_row"] "_law_rows" (defScope s__law_rows) f cdv A outer s H E).nox (defBody s__law_rows) g__law_rows := by
  have hu := hr.units
  exact (dss_cons (ds_asg (DF.toE (df_lst (da_cons (de_tup da_nil) da_nil))) (dg_name (pg_name (i := 1) sc__law_rows.nd rfl (Or.inl rfl))) (fun h1 h2 => ps_asg h1 h2)) (dss_cons (ds_for rfl PassesOwn.never (di_tup (de_var (pv 0))) (dg_name (pg_name (i := 2) sc__law_rows.nd rfl (Or.inl rfl))) (dss_cons (ds_asgO (i := 3) (df_lst da_nil) (fun h => ps_set (i := 3) sc__law_rows.nd rfl (Or.inl rfl) h)) (dss_cons (ds_for rfl PassesOwn.never (di_lst (de_var (pv 1))) (dg_name (pg_name (i := 4) sc__law_rows.nd rfl (Or.inr rfl))) (dss_one (ds_ext (i := 3) (df_comp (Nc := ["_law_deed", "_law_row"]) (fr := [none, some 4]) (ss := [0]) (compOk_of (sc := (defScope s__law_rows)) (N := ["_law_deeds", "_law_found", "_law_many", "_law_more", "_law_row"]) rfl rfl (by decide +kernel)) (by decide) rfl (di_rng1 rfl T.n_range (de_var (pv 2))) (fun Cc pins fp s3 H3 => dg_name (pg_name (i := 0) (show (["_law_deed", "_law_row"] : List Str).Nodup by decide +kernel) rfl (Or.inl rfl))) (fun Cc pins fp s3 H3 => (de_op do_add (de_var (pv 1)) (de_tup (da_cons (de_var (pv 0)) da_nil)))) mono_nm) (fun h => ps_expr (pe_bm PySem.F.plainAttrs_list PySem.F.slot_list_extend PySem.F.type_list_extend mt_extend (pv 3) (pa_cons h pa_nil)))))) (dss_frz 3 (dss_one (ds_asg (de_var (pv 3)) (dg_name (pg_name (i := 1) sc__law_rows.nd rfl (Or.inl rfl))) (fun h1 h2 => ps_asg h1 h2))))))) (dss_one (ds_ret (de_var (pv 1))))))
theorem sc__law_text : FnScope ["_law_meeting_here", "_law_text_here", "_law_many", "_law_pay"] ["_law_meeting_here"] (defScope s__law_text) := by simp_all_arith!
theorem body__law_text (T : Txt K mg) (hr : Room 0 (A.deeper (envOfC "_law_text" (defScope s__law_text) s.heap.objs.size f cdv))) :
    DSs (cxOf CX0 P w K mg base ["_law_meeting_here", "_law_text_here", "_law_many", "_law_pay"] "_law_text" (defScope s__law_text) f cdv A outer s H E).nox (defBody s__law_text) g__law_text := by
  have hu := hr.units
  exact (dss_cons (ds_asg de_str (dg_name (pg_name (i := 1) sc__law_text.nd rfl (Or.inl rfl))) (fun h1 h2 => ps_asg h1 h2)) (dss_cons (ds_for rfl PassesOwn.never (di_tup (de_ix (de_var (pv 0)) de_int (fun _ _ => rfl))) (dg_name (pg_name (i := 2) sc__law_text.nd rfl (Or.inl rfl))) (dss_one (ds_asg (de_op do_addS (de_op do_addS (de_var (pv 1)) (de_callG dc_str (da_cons (de_var (pv 2)) da_nil) (fun h1 h2 => pe_callTy h1 rfl T.n_str bt_str h2))) de_str) (dg_name (pg_name (i := 1) sc__law_text.nd rfl (Or.inl rfl))) (fun h1 h2 => ps_asg h1 h2)))) (dss_cons (ds_asg (de_op do_addS (de_var (pv 1)) de_str) (dg_name (pg_name (i := 1) sc__law_text.nd rfl (Or.inl rfl))) (fun h1 h2 => ps_asg h1 h2)) (dss_cons (ds_for rfl PassesOwn.never (di_tup (de_ix (de_var (pv 0)) de_int (fun _ _ => rfl))) (dg_name (pg_name (i := 3) sc__law_text.nd rfl (Or.inl rfl))) (dss_one (ds_asg (de_op do_addS (de_op do_addS (de_var (pv 1)) de_str) (de_join de_str (DF.toE (df_comp (Nc := ["_law_one"]) (fr := [none]) (ss := [0]) (compOk_of (sc := (defScope s__law_text)) (N := ["_law_meeting_here", "_law_text_here", "_law_many", "_law_pay"]) rfl rfl (by decide +kernel)) (by decide) rfl (di_tup (de_var (pv 3))) (fun Cc pins fp s3 H3 => dg_name (pg_name (i := 0) (show (["_law_one"] : List Str).Nodup by decide +kernel) rfl (Or.inl rfl))) (fun Cc pins fp s3 H3 => (de_callG dc_str (da_cons (de_var (pv 0)) da_nil) (fun h1 h2 => pe_callTy h1 rfl T.n_str bt_str h2))) mono_nm)) (fun h1 h2 => pe_bm PySem.F.plainAttrs_str PySem.F.slot_str_join PySem.F.type_str_join mt_join h1 h2))) (dg_name (pg_name (i := 1) sc__law_text.nd rfl (Or.inl rfl))) (fun h1 h2 => ps_asg h1 h2)))) (dss_one (ds_ret (de_var (pv 1))))))))
theorem sc__law_spoilt : FnScope ["_law_text_here", "_law_cell_here", "_law_at", "_law_sign"] ["_law_text_here", "_law_cell_here"] (defScope s__law_spoilt) := by simp_all_arith!
theorem body__law_spoilt (T : Txt K mg) (hr : Room 0 (A.deeper (envOfC "_law_spoilt" (defScope s__law_spoilt) s.heap.objs.size f cdv))) :
    DSs (cxOf CX0 P w K mg base ["_law_text_here", "_law_cell_here", "_law_at", "_law_sign"] "_law_spoilt" (defScope s__law_spoilt) f cdv A outer s H E).nox (defBody s__law_spoilt) g__law_spoilt := by
  have hu := hr.units
  exact (dss_cons (ds_asg (de_op do_mod (de_op do_div (de_var (pv 1)) de_int) (de_op do_add (de_callG dc_lenS (da_cons (de_var (pv 0)) da_nil) (fun h1 h2 => pe_callB h1 rfl T.n_len bt_len h2)) de_int)) (dg_name (pg_name (i := 2) sc__law_spoilt.nd rfl (Or.inl rfl))) (fun h1 h2 => ps_asg h1 h2)) (dss_cons (ds_asg (de_ixS de_str (de_op do_mod (de_op do_div (de_var (pv 1)) de_int) de_int) (fun _ _ => rfl)) (dg_name (pg_name (i := 3) sc__law_spoilt.nd rfl (Or.inl rfl))) (fun h1 h2 => ps_asg h1 h2)) (dss_cons (ds_if (dt_cmp (do_eq hu) (de_op do_mod (de_var (pv 1)) de_int) de_int) (dss_one (ds_ret (de_op do_addS (de_slS (de_var (pv 0)) do_none (do_some (de_var (pv 2)))) (de_slS (de_var (pv 0)) (do_some (de_op do_add (de_var (pv 2)) de_int)) do_none)))) dss_nil) (dss_cons (ds_if (dt_cmp (do_eq hu) (de_op do_mod (de_var (pv 1)) de_int) de_int) (dss_one (ds_ret (de_op do_addS (de_op do_addS (de_slS (de_var (pv 0)) do_none (do_some (de_var (pv 2)))) (de_slS (de_var (pv 0)) (do_some (de_var (pv 2))) (do_some (de_op do_add (de_var (pv 2)) de_int)))) (de_slS (de_var (pv 0)) (do_some (de_var (pv 2))) do_none)))) dss_nil) (dss_one (ds_ret (de_op do_addS (de_op do_addS (de_slS (de_var (pv 0)) do_none (do_some (de_var (pv 2)))) (de_var (pv 3))) (de_slS (de_var (pv 0)) (do_some (de_op do_sub (de_op do_add (de_var (pv 2)) (de_op do_mod (de_var (pv 1)) de_int)) de_int)) do_none))))))))
theorem sc_is_between : FnScope ["thing", "least", "most"] ["thing", "least", "most"] (defScope s_is_between) := by simp_all_arith!
theorem body_is_between (T : Txt K mg) (h_is_whole : DFn P w K mg base 1 "is_whole" F_is_whole) (hr : Room 1 (A.deeper (envOfC "is_between" (defScope s_is_between) s.heap.objs.size f cdv))) :
    DSs (cxOf CX0 P w K mg base ["thing", "least", "most"] "is_between" (defScope s_is_between) f cdv A outer s H E).nox (defBody s_is_between) g_is_between := by
  have hu := hr.units
  exact (dss_one (ds_ret (de_and (de_call h_is_whole (hr.mono (by decide)) rfl (da_cons (de_var (pv 0)) da_nil)) (de_one (de_chain do_le do_le (de_var (pv 1)) (de_var (pv 0)) (de_var (pv 2)))))))
theorem sc_numbers_of : FnScope ["words"] ["words"] (defScope s_numbers_of) := by simp_all_arith!
theorem body_numbers_of (T : Txt K mg) (h_number_of : DFnX P w K mg base 1 "number_of" F_number_of) (hr : Room 1 (A.deeper (envOfC "numbers_of" (defScope s_numbers_of) s.heap.objs.size f cdv))) :
    DSsX (cx1 P w K mg base ["words"] "numbers_of" (defScope s_numbers_of) f cdv A outer s H E) E (defBody s_numbers_of) g_numbers_of := by
  have hu := hr.units
  exact (dxs_one (dx_ret (dex_callG dc_tuple (dax_cons (DFx.toEx (dfx_comp (Nc := ["word"]) (fr := [none]) (ss := [0]) thru1 (compOk_of (sc := (defScope s_numbers_of)) (N := ["words"]) rfl rfl (by decide +kernel)) (by decide) rfl (di_lst (de_var (pv 0))) (fun Cc pins fp s3 H3 => dg_name (pg_name (i := 0) (show (["word"] : List Str).Nodup by decide +kernel) rfl (Or.inl rfl))) (fun Cc pins fp s3 H3 => (dex_call h_number_of passX (hr.mono (by decide)) rfl (da_cons (de_var (pv 0)) da_nil))))) dax_nil) (fun h1 h2 => pe_callTy h1 rfl T.n_tuple bt_tuple h2))))
theorem sc_written : FnScope ["meeting", "deeds", "pay"] ["meeting"] (defScope s_written) := by simp_all_arith!
theorem body_written (T : Txt K mg) (h_written_pays : DFn P w K mg base 1 "written_pays" F_written_pays) (hr : Room 1 (A.deeper (envOfC "written" (defScope s_written) s.heap.objs.size f cdv))) :
    DSs (cxOf CX0 P w K mg base ["meeting", "deeds", "pay"] "written" (defScope s_written) f cdv A outer s H E).nox (defBody s_written) g_written := by
  have hu := hr.units
  exact (dss_cons (ds_compO0 (i := 1) (Nc := ["many"]) (fr := [none]) (ss := [0]) (compOk_of (sc := (defScope s_written)) (N := ["meeting", "deeds", "pay"]) rfl rfl (by decide +kernel)) (by decide) rfl sc_written.nd rfl (Or.inl rfl) (di_tup (de_ix (de_var (pv 0)) de_int (fun _ _ => rfl))) (fun Cc pins fp s3 H3 => dg_name (pg_name (i := 0) (show (["many"] : List Str).Nodup by decide +kernel) rfl (Or.inl rfl))) (fun Cc pins fp s3 H3 => (de_callG dc_str (da_cons (de_var (pv 0)) da_nil) (fun h1 h2 => pe_callTy h1 rfl T.n_str bt_str h2))) mono_nm rfl) (dss_frz 1 (dss_cons (ds_compO0 (i := 2) (Nc := ["pays"]) (fr := [none]) (ss := [0]) (compOk_of (sc := (defScope s_written)) (N := ["meeting", "deeds", "pay"]) rfl rfl (by decide +kernel)) (by decide) rfl sc_written.nd rfl (Or.inl rfl) (di_tup (de_ix (de_var (pv 0)) de_int (fun _ _ => rfl))) (fun Cc pins fp s3 H3 => dg_name (pg_name (i := 0) (show (["pays"] : List Str).Nodup by decide +kernel) rfl (Or.inl rfl))) (fun Cc pins fp s3 H3 => (de_call h_written_pays (hr.mono (by decide)) rfl (da_cons (de_var (pv 0)) da_nil))) mono_nm rfl) (dss_frz 2 (dss_one (ds_ret (de_join de_str (DF.toE (df_cat (DF.toE (df_cat (de_var (pv 1)) (DF.toE (df_lst (da_cons de_str da_nil))))) (de_var (pv 2)))) (fun h1 h2 => pe_bm PySem.F.plainAttrs_str PySem.F.slot_str_join PySem.F.type_str_join mt_join h1 h2))))))))
theorem sc__law_meeting : FnScope ["_law_cell_here", "_law_deeds", "_law_wide", "_law_pay", "_law_k", "_law_seed", "_law_one", "_law_few"] ["_law_cell_here"] (defScope s__law_meeting) := by simp_all_arith!
theorem body__law_meeting (T : Txt K mg) (h__law_mix : DFn P w K mg base 1 "_law_mix" F__law_mix) (h__law_rows : DFn P w K mg base 1 "_law_rows" F__law_rows) (hr : Room 1 (A.deeper (envOfC "_law_meeting" (defScope s__law_meeting) s.heap.objs.size f cdv))) :
    DSs (cxOf CX0 P w K mg base ["_law_cell_here", "_law_deeds", "_law_wide", "_law_pay", "_law_k", "_law_seed", "_law_one", "_law_few"] "_law_meeting" (defScope s__law_meeting) f cdv A outer s H E).nox (defBody s__law_meeting) g__law_meeting := by
  have hu := hr.units
  exact (dss_cons (ds_asg (de_callG dc_tuple (da_cons (DF.toE (df_comp (Nc := ["_law_k", "_law_cell_here"]) (fr := [none, some 0]) (ss := [0]) (compOk_of (sc := (defScope s__law_meeting)) (N := ["_law_cell_here", "_law_deeds", "_law_wide", "_law_pay", "_law_k", "_law_seed", "_law_one", "_law_few"]) rfl rfl (by decide +kernel)) (by decide) rfl (di_rng1 rfl T.n_range (de_op do_add de_int (de_op do_div (de_call h__law_mix (hr.mono (by decide)) rfl (da_cons (de_var (pv 0)) (da_cons de_int (da_cons de_int da_nil)))) de_int))) (fun Cc pins fp s3 H3 => dg_name (pg_name (i := 0) (show (["_law_k", "_law_cell_here"] : List Str).Nodup by decide +kernel) rfl (Or.inl rfl))) (fun Cc pins fp s3 H3 => (de_op do_add de_int (de_call h__law_mix (hr.mono (by decide)) rfl (da_cons (de_op do_add (de_var (pv 1)) (de_op do_mul de_int (de_var (pv 0)))) (da_cons de_int (da_cons de_int da_nil)))))) mono_nm)) da_nil) (fun h1 h2 => pe_callTy h1 rfl T.n_tuple bt_tuple h2)) (dg_name (pg_name (i := 1) sc__law_meeting.nd rfl (Or.inl rfl))) (fun h1 h2 => ps_asg h1 h2)) (dss_cons (ds_if (dt_cmp (do_eq hu) (de_op do_mod (de_var (pv 0)) de_int) de_int) (dss_one (ds_asg (de_tup (da_cons de_int (da_cons de_int da_nil))) (dg_name (pg_name (i := 1) sc__law_meeting.nd rfl (Or.inl rfl))) (fun h1 h2 => ps_asg h1 h2))) dss_nil) (dss_cons (ds_asg (de_ix (DF.toE (df_lst (da_cons de_int (da_cons de_int (da_cons de_int da_nil))))) (de_call h__law_mix (hr.mono (by decide)) rfl (da_cons (de_var (pv 0)) (da_cons de_int (da_cons de_int da_nil)))) (fun _ _ => rfl)) (dg_name (pg_name (i := 2) sc__law_meeting.nd rfl (Or.inr rfl))) (fun h1 h2 => ps_asg h1 h2)) (dss_cons (ds_asgO (i := 3) (df_lst da_nil) (fun h => ps_set (i := 3) sc__law_meeting.nd rfl (Or.inl rfl) h)) (dss_cons (ds_for rfl PassesOwn.never (di_rng1 rfl T.n_range (de_callG dc_len (da_cons (de_call h__law_rows (hr.mono (by decide)) rfl (da_cons (de_var (pv 1)) da_nil)) da_nil) (fun h1 h2 => pe_callB h1 rfl T.n_len bt_len h2))) (dg_name (pg_name (i := 4) sc__law_meeting.nd rfl (Or.inl rfl))) (dss_cons (ds_asg (de_op do_add (de_var (pv 0)) (de_op do_mul de_int (de_var (pv 4)))) (dg_name (pg_name (i := 5) sc__law_meeting.nd rfl (Or.inr rfl))) (fun h1 h2 => ps_asg h1 h2)) (dss_cons (ds_compO0 (i := 6) (Nc := ["_law_hand", "_law_wide", "_law_seed"]) (fr := [none, some 2, some 5]) (ss := [0]) (compOk_of (sc := (defScope s__law_meeting)) (N := ["_law_cell_here", "_law_deeds", "_law_wide", "_law_pay", "_law_k", "_law_seed", "_law_one", "_law_few"]) rfl rfl (by decide +kernel)) (by decide) rfl sc__law_meeting.nd rfl (Or.inl rfl) (di_rng1 rfl T.n_range (de_callG dc_len (da_cons (de_var (pv 1)) da_nil) (fun h1 h2 => pe_callB h1 rfl T.n_len bt_len h2))) (fun Cc pins fp s3 H3 => dg_name (pg_name (i := 0) (show (["_law_hand", "_law_wide", "_law_seed"] : List Str).Nodup by decide +kernel) rfl (Or.inl rfl))) (fun Cc pins fp s3 H3 => (de_op do_sub (de_op do_add (de_call h__law_mix (hr.mono (by decide)) rfl (da_cons (de_op do_add (de_var (pv 2)) (de_op do_mul de_int (de_var (pv 0)))) (da_cons de_int (da_cons (de_op do_sub (de_op do_mul de_int (de_var (pv 1))) de_int) da_nil)))) de_int) (de_var (pv 1)))) mono_nm rfl) (dss_frz 6 (dss_one (ds_app (i := 3) (de_callG dc_tuple (da_cons (de_var (pv 6)) da_nil) (fun h1 h2 => pe_callTy h1 rfl T.n_tuple bt_tuple h2)) (fun h => ps_expr (pe_bm PySem.F.plainAttrs_list PySem.F.slot_list_append PySem.F.type_list_append mt_append (pv 3) (pa_cons h pa_nil))))))))) (dss_cons (ds_if (dt_cmp (do_eq hu) (de_op do_mod (de_var (pv 0)) de_int) de_int) (dss_cons (ds_asg (DF.toE (df_call dc_sorted (da_cons (DF.toE (df_comp (Nc := ["_law_k", "_law_cell_here"]) (fr := [none, some 0]) (ss := [0]) (compOk_of (sc := (defScope s__law_meeting)) (N := ["_law_cell_here", "_law_deeds", "_law_wide", "_law_pay", "_law_k", "_law_seed", "_law_one", "_law_few"]) rfl rfl (by decide +kernel)) (by decide) rfl (di_rng1 rfl T.n_range de_int) (fun Cc pins fp s3 H3 => dg_name (pg_name (i := 0) (show (["_law_k", "_law_cell_here"] : List Str).Nodup by decide +kernel) rfl (Or.inl rfl))) (fun Cc pins fp s3 H3 => (de_op do_sub (de_call h__law_mix (hr.mono (by decide)) rfl (da_cons (de_op do_add (de_var (pv 1)) (de_var (pv 0))) (da_cons de_int (da_cons de_int da_nil)))) de_int)) mono_nm)) da_nil) (fun h1 h2 => pe_callB h1 rfl T.n_sorted bt_sorted h2))) (dg_name (pg_name (i := 7) sc__law_meeting.nd rfl (Or.inl rfl))) (fun h1 h2 => ps_asg h1 h2)) (dss_one (ds_asgO (i := 3) (df_lst (da_cons (de_tup (da_cons (de_ix (de_var (pv 7)) de_int (fun _ _ => rfl)) (da_cons (de_ix (de_var (pv 7)) de_int (fun _ _ => rfl)) da_nil))) (da_cons (de_tup (da_cons (de_ix (de_var (pv 7)) de_int (fun _ _ => rfl)) (da_cons (de_ix (de_var (pv 7)) de_int (fun _ _ => rfl)) da_nil))) (da_cons (de_tup (da_cons (de_ix (de_var (pv 7)) de_int (fun _ _ => rfl)) (da_cons (de_ix (de_var (pv 7)) de_int (fun _ _ => rfl)) da_nil))) (da_cons (de_tup (da_cons (de_ix (de_var (pv 7)) de_int (fun _ _ => rfl)) (da_cons (de_ix (de_var (pv 7)) de_int (fun _ _ => rfl)) da_nil))) da_nil))))) (fun h => ps_set (i := 3) sc__law_meeting.nd rfl (Or.inl rfl) h)))) dss_nil) (dss_frz 3 (dss_one (ds_ret (de_tup (da_cons (de_var (pv 1)) (da_cons (de_callG dc_tuple (da_cons (de_var (pv 3)) da_nil) (fun h1 h2 => pe_callTy h1 rfl T.n_tuple bt_tuple h2)) da_nil))))))))))))
theorem sc_are_between : FnScope ["parts", "least", "most"] ["parts", "least", "most"] (defScope s_are_between) := by simp_all_arith!
theorem body_are_between (T : Txt K mg) (h_is_between : DFn P w K mg base 2 "is_between" F_is_between) (hr : Room 2 (A.deeper (envOfC "are_between" (defScope s_are_between) s.heap.objs.size f cdv))) :
    DSs (cxOf CX0 P w K mg base ["parts", "least", "most"] "are_between" (defScope s_are_between) f cdv A outer s H E).nox (defBody s_are_between) g_are_between := by
  have hu := hr.units
  exact (dss_one (ds_ret (de_callG (dc_all rfl) (da_cons (DF.toE (df_comp (Nc := ["part", "least", "most"]) (fr := [none, some 1, some 2]) (ss := [0]) (compOk_of (sc := (defScope s_are_between)) (N := ["parts", "least", "most"]) rfl rfl (by decide +kernel)) (by decide) rfl (di_tup (de_var (pv 0))) (fun Cc pins fp s3 H3 => dg_name (pg_name (i := 0) (show (["part", "least", "most"] : List Str).Nodup by decide +kernel) rfl (Or.inl rfl))) (fun Cc pins fp s3 H3 => (de_call h_is_between (hr.mono (by decide)) rfl (da_cons (de_var (pv 0)) (da_cons (de_var (pv 1)) (da_cons (de_var (pv 2)) da_nil))))) mono_nm)) da_nil) (fun h1 h2 => pe_callB h1 rfl T.n_all bt_all h2))))
theorem sc_is_deeds : FnScope ["thing"] ["thing"] (defScope s_is_deeds) := by simp_all_arith!
theorem body_is_deeds (T : Txt K mg) (h_is_tuple_of : DFn P w K mg base 1 "is_tuple_of" F_is_tuple_of) (h_are_between : DFn P w K mg base 3 "are_between" F_are_between) (hr : Room 3 (A.deeper (envOfC "is_deeds" (defScope s_is_deeds) s.heap.objs.size f cdv))) :
    DSs (cxOf CX0 P w K mg base ["thing"] "is_deeds" (defScope s_is_deeds) f cdv A outer s H E).nox (defBody s_is_deeds) g_is_deeds := by
  have hu := hr.units
  exact (dss_one (ds_ret (de_and (de_call h_is_tuple_of (hr.mono (by decide)) rfl (da_cons (de_var (pv 0)) (da_cons (de_globE rfl T.c_FEWEST_HANDS) (da_cons (de_globE rfl T.c_MOST_HANDS) da_nil)))) (de_one (de_call h_are_between (hr.mono (by decide)) rfl (da_cons (de_var (pv 0)) (da_cons de_int (da_cons (de_globE rfl T.c_MOST_DEEDS) da_nil))))))))
theorem sc_is_pay_of_row : FnScope ["thing", "hands"] ["thing", "hands"] (defScope s_is_pay_of_row) := by simp_all_arith!
theorem body_is_pay_of_row (T : Txt K mg) (h_is_tuple_of : DFn P w K mg base 1 "is_tuple_of" F_is_tuple_of) (h_are_between : DFn P w K mg base 3 "are_between" F_are_between) (hr : Room 3 (A.deeper (envOfC "is_pay_of_row" (defScope s_is_pay_of_row) s.heap.objs.size f cdv))) :
    DSs (cxOf CX0 P w K mg base ["thing", "hands"] "is_pay_of_row" (defScope s_is_pay_of_row) f cdv A outer s H E).nox (defBody s_is_pay_of_row) g_is_pay_of_row := by
  have hu := hr.units
  exact (dss_one (ds_ret (de_and (de_call h_is_tuple_of (hr.mono (by decide)) rfl (da_cons (de_var (pv 0)) (da_cons (de_var (pv 1)) (da_cons (de_var (pv 1)) da_nil)))) (de_one (de_call h_are_between (hr.mono (by decide)) rfl (da_cons (de_var (pv 0)) (da_cons (de_globE rfl T.c_LOWEST_PAY) (da_cons (de_globE rfl T.c_HIGHEST_PAY) da_nil))))))))
theorem sc_is_pay : FnScope ["thing", "deeds", "many"] ["thing", "deeds"] (defScope s_is_pay) := by simp_all_arith!
theorem body_is_pay (T : Txt K mg) (h_rows_of : DFn P w K mg base 1 "rows_of" F_rows_of) (h_is_tuple_of : DFn P w K mg base 1 "is_tuple_of" F_is_tuple_of) (h_is_pay_of_row : DFn P w K mg base 4 "is_pay_of_row" F_is_pay_of_row) (hr : Room 4 (A.deeper (envOfC "is_pay" (defScope s_is_pay) s.heap.objs.size f cdv))) :
    DSs (cxOf CX0 P w K mg base ["thing", "deeds", "many"] "is_pay" (defScope s_is_pay) f cdv A outer s H E).nox (defBody s_is_pay) g_is_pay := by
  have hu := hr.units
  exact (dss_cons (ds_asg (de_callG dc_len (da_cons (de_call h_rows_of (hr.mono (by decide)) rfl (da_cons (de_var (pv 1)) da_nil)) da_nil) (fun h1 h2 => pe_callB h1 rfl T.n_len bt_len h2)) (dg_name (pg_name (i := 2) sc_is_pay.nd rfl (Or.inl rfl))) (fun h1 h2 => ps_asg h1 h2)) (dss_one (ds_ret (de_and (de_call h_is_tuple_of (hr.mono (by decide)) rfl (da_cons (de_var (pv 0)) (da_cons (de_var (pv 2)) (da_cons (de_var (pv 2)) da_nil)))) (de_one (de_callG (dc_all rfl) (da_cons (DF.toE (df_comp (Nc := ["part", "deeds"]) (fr := [none, some 1]) (ss := [0]) (compOk_of (sc := (defScope s_is_pay)) (N := ["thing", "deeds", "many"]) rfl rfl (by decide +kernel)) (by decide) rfl (di_tup (de_var (pv 0))) (fun Cc pins fp s3 H3 => dg_name (pg_name (i := 0) (show (["part", "deeds"] : List Str).Nodup by decide +kernel) rfl (Or.inl rfl))) (fun Cc pins fp s3 H3 => (de_call h_is_pay_of_row (hr.mono (by decide)) rfl (da_cons (de_var (pv 0)) (da_cons (de_callG dc_len (da_cons (de_var (pv 1)) da_nil) (fun h1 h2 => pe_callB h1 rfl T.n_len bt_len h2)) da_nil)))) mono_nm)) da_nil) (fun h1 h2 => pe_callB h1 rfl T.n_all bt_all h2)))))))
theorem sc_is_meeting : FnScope ["thing"] ["thing"] (defScope s_is_meeting) := by simp_all_arith!
theorem body_is_meeting (T : Txt K mg) (h_is_tuple_of : DFn P w K mg base 1 "is_tuple_of" F_is_tuple_of) (h_is_deeds : DFn P w K mg base 4 "is_deeds" F_is_deeds) (h_is_pay : DFn P w K mg base 5 "is_pay" F_is_pay) (hr : Room 5 (A.deeper (envOfC "is_meeting" (defScope s_is_meeting) s.heap.objs.size f cdv))) :
    DSs (cxOf CX0 P w K mg base ["thing"] "is_meeting" (defScope s_is_meeting) f cdv A outer s H E).nox (defBody s_is_meeting) g_is_meeting := by
  have hu := hr.units
  exact (dss_one (ds_ret (de_and (de_call h_is_tuple_of (hr.mono (by decide)) rfl (da_cons (de_var (pv 0)) (da_cons de_int (da_cons de_int da_nil)))) (de_and (de_call h_is_deeds (hr.mono (by decide)) rfl (da_cons (de_ix (de_var (pv 0)) de_int (fun _ _ => rfl)) da_nil)) (de_one (de_call h_is_pay (hr.mono (by decide)) rfl (da_cons (de_ix (de_var (pv 0)) de_int (fun _ _ => rfl)) (da_cons (de_ix (de_var (pv 0)) de_int (fun _ _ => rfl)) da_nil))))))))
theorem sc_read : FnScope ["text", "words", "middle", "deeds", "pay"] ["text"] (defScope s_read) := by simp_all_arith!
theorem body_read (T : Txt K mg) (h_numbers_of : DFnX P w K mg base 2 "numbers_of" F_numbers_of) (h_is_meeting : DFn P w K mg base 6 "is_meeting" F_is_meeting) (hr : Room 6 (A.deeper (envOfC "read" (defScope s_read) s.heap.objs.size f cdv))) :
    DSsX (cx1 P w K mg base ["text", "words", "middle", "deeds", "pay"] "read" (defScope s_read) f cdv A outer s H E) E (defBody s_read) g_read := by
  have hu := hr.units
  exact (dxs_cons (dx_lift (ds_asg (DF.toE (df_split (de_var (pv 0)) de_str (fun h1 h2 => pe_bm PySem.F.plainAttrs_str PySem.F.slot_str_split PySem.F.type_str_split mt_split h1 h2))) (dg_name (pg_name (i := 1) sc_read.nd rfl (Or.inl rfl))) (fun h1 h2 => ps_asg h1 h2))) (dxs_cons (dx_if (dt_cmp (do_notin hu) de_str (de_var (pv 1))) (dxs_one (dx_raise T.x_NoText rfl rfl xee1 (da_cons de_str da_nil))) (dxs_lift dss_nil)) (dxs_cons (dx_lift (ds_asg (de_index hu (de_var (pv 1)) de_str (fun h1 h2 => pe_bm PySem.F.plainAttrs_list PySem.F.slot_list_index PySem.F.type_list_index (mt_index hu) h1 h2)) (dg_name (pg_name (i := 2) sc_read.nd rfl (Or.inl rfl))) (fun h1 h2 => ps_asg h1 h2))) (dxs_cons (dx_asg (dex_call h_numbers_of xee1.pass (hr.mono (by decide)) rfl (da_cons (DF.toE (df_slL (de_var (pv 1)) do_none (do_some (de_var (pv 2))))) da_nil)) (dg_name (pg_name (i := 3) sc_read.nd rfl (Or.inl rfl))) (fun h1 h2 => ps_asg h1 h2)) (dxs_cons (dx_asg (dex_callG dc_tuple (dax_cons (DFx.toEx (dfx_comp (Nc := ["word"]) (fr := [none]) (ss := [0]) thru1 (compOk_of (sc := (defScope s_read)) (N := ["text", "words", "middle", "deeds", "pay"]) rfl rfl (by decide +kernel)) (by decide) rfl (di_lst (DF.toE (df_slL (de_var (pv 1)) (do_some (de_op do_add (de_var (pv 2)) de_int)) do_none))) (fun Cc pins fp s3 H3 => dg_name (pg_name (i := 0) (show (["word"] : List Str).Nodup by decide +kernel) rfl (Or.inl rfl))) (fun Cc pins fp s3 H3 => (dex_call h_numbers_of passX (hr.mono (by decide)) rfl (da_cons (DF.toE (df_split (de_var (pv 0)) de_str (fun h1 h2 => pe_bm PySem.F.plainAttrs_str PySem.F.slot_str_split PySem.F.type_str_split mt_split h1 h2))) da_nil))))) dax_nil) (fun h1 h2 => pe_callTy h1 rfl T.n_tuple bt_tuple h2)) (dg_name (pg_name (i := 4) sc_read.nd rfl (Or.inl rfl))) (fun h1 h2 => ps_asg h1 h2)) (dxs_cons (dx_if (dt_not (dt_tru (de_call h_is_meeting (hr.mono (by decide)) rfl (da_cons (de_tup (da_cons (de_var (pv 3)) (da_cons (de_var (pv 4)) da_nil))) da_nil)) (fun _ => rfl))) (dxs_one (dx_raise T.x_NoText rfl rfl xee1 (da_cons de_str da_nil))) (dxs_lift dss_nil)) (dxs_one (dx_lift (ds_ret (de_tup (da_cons (de_var (pv 3)) (da_cons (de_var (pv 4)) da_nil))))))))))))
theorem sc__law_read : FnScope ["_law_text_here", "_law_found", "e"] ["_law_text_here"] (defScope s__law_read) := by simp_all_arith!
theorem body__law_read (T : Txt K mg) (h_read : DFnX P w K mg base 7 "read" F_read) (hr : Room 7 (A.deeper (envOfC "_law_read" (defScope s__law_read) s.heap.objs.size f cdv))) :
    DSs (cxOf CX0 P w K mg base ["_law_text_here", "_law_found", "e"] "_law_read" (defScope s__law_read) f cdv A outer s H E).nox (defBody s__law_read) g__law_read := by
  have hu := hr.units
  obtain ⟨cl_PactError, hcl_PactError, hcv_PactError⟩ := T.e_PactError
  obtain ⟨C6, N6, i1, i2, i3, i4, i5, i6⟩ := T.i_NoText_NoPact
  exact (dss_cons (ds_asg de_str (dg_name (pg_name (i := 1) sc__law_read.nd rfl (Or.inl rfl))) (fun h1 h2 => ps_asg h1 h2)) (dss_cons (ds_tryIf (n := 3) (i := 2) (cov := (fun c => c = "NoText")) (tv := (fun _ => true)) rfl rfl rfl sc__law_read.nd rfl rfl rfl hcl_PactError hcv_PactError (fun EE pn xe hp => (dxs_one (dx_asg (dex_call h_read hp (hr.mono (by decide)) rfl (da_cons (de_var (pv 0)) da_nil)) (dg_name (pg_name (i := 1) sc__law_read.nd rfl (Or.inl rfl))) (fun h1 h2 => ps_asg h1 h2)))) (fun ev pn a oe c cls h1 h2 h3 h4 => by have h3' : c = "NoText" := h3; subst h3'; have h5 := i1.symm.trans h4; cases h5; exact pt_three (i := 2) h1 h2 i3 i1 i2 T.n_ValueError T.n_isinstance i4 i5 i6 (fun _ => pv 2) rfl rfl rfl rfl) (fun ev pn => (dss_one (ds_asg de_non (dg_name (pg_name (i := 1) sc__law_read.nd rfl (Or.inl rfl))) (fun h1 h2 => ps_asg h1 h2))))) (dss_one (ds_ret (de_var (pv 1))))))
theorem sc_law : FnScope ["_law_script", "_law_cell_here", "_law_meeting_here", "_law_text_here", "_law_bad", "_law_found", "_law_some"] ["_law_script"] (defScope s_law) := by simp_all_arith!
theorem body_law (T : Txt K mg) (h__law_meeting : DFnR P w K mg base 2 "_law_meeting" F__law_meeting) (h__law_text : DFn P w K mg base 1 "_law_text" F__law_text) (h_written : DFn P w K mg base 2 "written" F_written) (h_read : DFnX P w K mg base 7 "read" F_read) (h__law_spoilt : DFnR P w K mg base 1 "_law_spoilt" F__law_spoilt) (h__law_read : DFn P w K mg base 8 "_law_read" F__law_read) (h_is_meeting : DFn P w K mg base 6 "is_meeting" F_is_meeting) (hr : Room 8 (A.deeper (envOfC "law" (defScope s_law) s.heap.objs.size f cdv))) :
    DSs (cxOf CX0 P w K mg base ["_law_script", "_law_cell_here", "_law_meeting_here", "_law_text_here", "_law_bad", "_law_found", "_law_some"] "law" (defScope s_law) f cdv A outer s H E).nox (defBody s_law) g_law := by
  have hu := hr.units
  exact (dss_cons (ds_for rfl PassesOwn.never (di_lst (DF.toE (df_slL (de_var (pv 0)) do_none (do_some de_int)))) (dg_name (pg_name (i := 1) sc_law.nd rfl (Or.inl rfl))) (dss_cons (ds_asg (de_callR h__law_meeting (hr.mono (by decide)) rfl (da_cons (de_var (pv 1)) da_nil)) (dg_name (pg_name (i := 2) sc_law.nd rfl (Or.inl rfl))) (fun h1 h2 => ps_asg h1 h2)) (dss_cons (ds_asg (de_call h__law_text (hr.mono (by decide)) rfl (da_cons (de_var (pv 2)) da_nil)) (dg_name (pg_name (i := 3) sc_law.nd rfl (Or.inl rfl))) (fun h1 h2 => ps_asg h1 h2)) (dss_cons (ds_if (DW.t (dw_or (dt_cmp (do_ne hu) (de_call h_written (hr.mono (by decide)) rfl (da_cons (de_var (pv 2)) da_nil)) (de_var (pv 3))) (dw_or1 (dt_cmp (do_ne hu) (de_callR (h_read.calm F_read_calm) (hr.mono (by decide)) rfl (da_cons (de_var (pv 3)) da_nil)) (de_var (pv 2)))))) (dss_one (ds_ret de_bl)) dss_nil) (dss_cons (ds_asg (de_callR h__law_spoilt (hr.mono (by decide)) rfl (da_cons (de_var (pv 3)) (da_cons (de_op do_div (de_var (pv 1)) de_int) da_nil))) (dg_name (pg_name (i := 4) sc_law.nd rfl (Or.inl rfl))) (fun h1 h2 => ps_asg h1 h2)) (dss_cons (ds_asg (de_call h__law_read (hr.mono (by decide)) rfl (da_cons (de_var (pv 4)) da_nil)) (dg_name (pg_name (i := 5) sc_law.nd rfl (Or.inl rfl))) (fun h1 h2 => ps_asg h1 h2)) (dss_one (ds_if (DW.t (dw_and (dt_cmp do_isnot2 (de_var (pv 5)) de_non) (dw_and1 (DW.t (dw_or (dt_not (dt_tru (de_call h_is_meeting (hr.mono (by decide)) rfl (da_cons (de_var (pv 5)) da_nil)) (fun _ => rfl))) (dw_or1 (dt_cmp (do_ne hu) (de_call h__law_text (hr.mono (by decide)) rfl (da_cons (de_var (pv 5)) da_nil)) (de_var (pv 4))))))))) (dss_one (ds_ret de_bl)) dss_nil)))))))) (dss_cons (ds_asg (DF.toE (df_lst (da_cons de_str (da_cons de_str (da_cons de_str (da_cons de_str (da_cons de_str (da_cons de_str (da_cons de_str (da_cons de_str da_nil)))))))))) (dg_name (pg_name (i := 6) sc_law.nd rfl (Or.inl rfl))) (fun h1 h2 => ps_asg h1 h2)) (dss_cons (ds_for rfl PassesOwn.never (di_lst (DF.toE (df_cat (de_var (pv 6)) (DF.toE (df_lst (da_cons de_str (da_cons de_str da_nil))))))) (dg_name (pg_name (i := 4) sc_law.nd rfl (Or.inl rfl))) (dss_one (ds_if (dt_cmp do_isnot2 (de_call h__law_read (hr.mono (by decide)) rfl (da_cons (de_var (pv 4)) da_nil)) de_non) (dss_one (ds_ret de_bl)) dss_nil))) (dss_one (ds_ret (de_cmp (do_eq hu) (de_callR (h_read.calm F_read_calm) (hr.mono (by decide)) rfl (da_cons de_str da_nil)) (de_tup (da_cons (de_tup (da_cons de_int (da_cons de_int da_nil))) (da_cons (de_tup (da_cons (de_tup (da_cons de_int (da_cons (de_neg de_int) da_nil))) da_nil)) da_nil)))))))))
end
end
end L2
namespace L2
open PySem PySem.Spec PyProof.Rows
theorem len_is_whole : ∀ ds d, F_is_whole ds = some d → ds.length = (["thing"] : List Str).length := by
  intro ds d h
  unfold F_is_whole at h
  split at h
  all_goals first | rfl | cases h
theorem len_rows_of : ∀ ds d, F_rows_of ds = some d → ds.length = (["deeds"] : List Str).length := by
  intro ds d h
  unfold F_rows_of at h
  split at h
  all_goals first | rfl | cases h
theorem len_is_tuple_of : ∀ ds d, F_is_tuple_of ds = some d → ds.length = (["thing", "fewest", "most"] : List Str).length := by
  intro ds d h
  unfold F_is_tuple_of at h
  split at h
  all_goals first | rfl | cases h
theorem len_number_of : ∀ ds d, F_number_of ds = some d → ds.length = (["word"] : List Str).length := by
  intro ds d h
  unfold F_number_of at h
  split at h
  all_goals first | rfl | cases h
theorem len_written_pays : ∀ ds d, F_written_pays ds = some d → ds.length = (["pays"] : List Str).length := by
  intro ds d h
  unfold F_written_pays at h
  split at h
  all_goals first | rfl | cases h
theorem len__law_mix : ∀ ds d, F__law_mix ds = some d → ds.length = (["_law_cell_here", "_law_prime", "_law_many"] : List Str).length := by
  intro ds d h
  unfold F__law_mix at h
  split at h
  all_goals first | rfl | cases h
theorem len__law_rows : ∀ ds d, F__law_rows ds = some d → ds.length = (["_law_deeds"] : List Str).length := by
  intro ds d h
  unfold F__law_rows at h
  split at h
  all_goals first | rfl | cases h
theorem len__law_text : ∀ ds d, F__law_text ds = some d → ds.length = (["_law_meeting_here"] : List Str).length := by
  intro ds d h
  unfold F__law_text at h
  split at h
  all_goals first | rfl | cases h
theorem len__law_spoilt : ∀ ds d, F__law_spoilt ds = some d → ds.length = (["_law_text_here", "_law_cell_here"] : List Str).length := by
  intro ds d h
  unfold F__law_spoilt at h
  split at h
  all_goals first | rfl | cases h
theorem len_is_between : ∀ ds d, F_is_between ds = some d → ds.length = (["thing", "least", "most"] : List Str).length := by
  intro ds d h
  unfold F_is_between at h
  split at h
  all_goals first | rfl | cases h
theorem len_numbers_of : ∀ ds d, F_numbers_of ds = some d → ds.length = (["words"] : List Str).length := by
  intro ds d h
  unfold F_numbers_of at h
  split at h
  all_goals first | rfl | cases h
theorem len_written : ∀ ds d, F_written ds = some d → ds.length = (["meeting"] : List Str).length := by
  intro ds d h
  unfold F_written at h
  split at h
  all_goals first | rfl | cases h
theorem len__law_meeting : ∀ ds d, F__law_meeting ds = some d → ds.length = (["_law_cell_here"] : List Str).length := by
  intro ds d h
  unfold F__law_meeting at h
  split at h
  all_goals first | rfl | cases h
theorem len_are_between : ∀ ds d, F_are_between ds = some d → ds.length = (["parts", "least", "most"] : List Str).length := by
  intro ds d h
  unfold F_are_between at h
  split at h
  all_goals first | rfl | cases h
theorem len_is_deeds : ∀ ds d, F_is_deeds ds = some d → ds.length = (["thing"] : List Str).length := by
  intro ds d h
  unfold F_is_deeds at h
  split at h
  all_goals first | rfl | cases h
theorem len_is_pay_of_row : ∀ ds d, F_is_pay_of_row ds = some d → ds.length = (["thing", "hands"] : List Str).length := by
  intro ds d h
  unfold F_is_pay_of_row at h
  split at h
  all_goals first | rfl | cases h
theorem len_is_pay : ∀ ds d, F_is_pay ds = some d → ds.length = (["thing", "deeds"] : List Str).length := by
  intro ds d h
  unfold F_is_pay at h
  split at h
  all_goals first | rfl | cases h
theorem len_is_meeting : ∀ ds d, F_is_meeting ds = some d → ds.length = (["thing"] : List Str).length := by
  intro ds d h
  unfold F_is_meeting at h
  split at h
  all_goals first | rfl | cases h
theorem len_read : ∀ ds d, F_read ds = some d → ds.length = (["text"] : List Str).length := by
  intro ds d h
  unfold F_read at h
  split at h
  all_goals first | rfl | cases h
theorem len__law_read : ∀ ds d, F__law_read ds = some d → ds.length = (["_law_text_here"] : List Str).length := by
  intro ds d h
  unfold F__law_read at h
  split at h
  all_goals first | rfl | cases h
theorem len_law : ∀ ds d, F_law ds = some d → ds.length = (["_law_script"] : List Str).length := by
  intro ds d h
  unfold F_law at h
  split at h
  all_goals first | rfl | cases h
theorem last_law {P : Program} {w : World} {K : PySem.W.Frag} {mg : Str → Option Value} {base : Heap} {f : Addr} {fd : FuncData} (T : Txt K mg) (H_is_whole : FunAt K mg "is_whole" s_is_whole ["thing"]) (H_rows_of : FunAt K mg "rows_of" s_rows_of ["deeds"]) (H_is_tuple_of : FunAt K mg "is_tuple_of" s_is_tuple_of ["thing", "fewest", "most"]) (H_number_of : FunAt K mg "number_of" s_number_of ["word"]) (H_written_pays : FunAt K mg "written_pays" s_written_pays ["pays"]) (H__law_mix : FunAt K mg "_law_mix" s__law_mix ["_law_cell_here", "_law_prime", "_law_many"]) (H__law_rows : FunAt K mg "_law_rows" s__law_rows ["_law_deeds"]) (H__law_text : FunAt K mg "_law_text" s__law_text ["_law_meeting_here"]) (H__law_spoilt : FunAt K mg "_law_spoilt" s__law_spoilt ["_law_text_here", "_law_cell_here"]) (H_is_between : FunAt K mg "is_between" s_is_between ["thing", "least", "most"]) (H_numbers_of : FunAt K mg "numbers_of" s_numbers_of ["words"]) (H_written : FunAt K mg "written" s_written ["meeting"]) (H__law_meeting : FunAt K mg "_law_meeting" s__law_meeting ["_law_cell_here"]) (H_are_between : FunAt K mg "are_between" s_are_between ["parts", "least", "most"]) (H_is_deeds : FunAt K mg "is_deeds" s_is_deeds ["thing"]) (H_is_pay_of_row : FunAt K mg "is_pay_of_row" s_is_pay_of_row ["thing", "hands"]) (H_is_pay : FunAt K mg "is_pay" s_is_pay ["thing", "deeds"]) (H_is_meeting : FunAt K mg "is_meeting" s_is_meeting ["thing"]) (H_read : FunAt K mg "read" s_read ["text"]) (H__law_read : FunAt K mg "_law_read" s__law_read ["_law_text_here"]) (FL : Fun K "law" "law" s_law f fd) : FnOk P w K mg base CX0 9 f fd ["_law_script"] (spR K F_law) := by
  have h_is_whole : DFn P w K mg base 1 "is_whole" F_is_whole := by
    obtain ⟨f, fd, Fn, hm, bi⟩ := H_is_whole
    exact fnD Fn sc_is_whole len_is_whole (fun cdv A outer s H E hr => body_is_whole T  hr) vc_is_whole hm bi
  have h_rows_of : DFn P w K mg base 1 "rows_of" F_rows_of := by
    obtain ⟨f, fd, Fn, hm, bi⟩ := H_rows_of
    exact fnD Fn sc_rows_of len_rows_of (fun cdv A outer s H E hr => body_rows_of T  hr) vc_rows_of hm bi
  have h_is_tuple_of : DFn P w K mg base 1 "is_tuple_of" F_is_tuple_of := by
    obtain ⟨f, fd, Fn, hm, bi⟩ := H_is_tuple_of
    exact fnD Fn sc_is_tuple_of len_is_tuple_of (fun cdv A outer s H E hr => body_is_tuple_of T  hr) vc_is_tuple_of hm bi
  have h_number_of : DFnX P w K mg base 1 "number_of" F_number_of := by
    obtain ⟨f, fd, Fn, hm, bi⟩ := H_number_of
    exact fnX Fn sc_number_of len_number_of (fun cdv A outer s H E hr => body_number_of T  hr) vc_number_of hm bi
  have h_written_pays : DFn P w K mg base 1 "written_pays" F_written_pays := by
    obtain ⟨f, fd, Fn, hm, bi⟩ := H_written_pays
    exact fnD Fn sc_written_pays len_written_pays (fun cdv A outer s H E hr => body_written_pays T  hr) vc_written_pays hm bi
  have h__law_mix : DFn P w K mg base 1 "_law_mix" F__law_mix := by
    obtain ⟨f, fd, Fn, hm, bi⟩ := H__law_mix
    exact fnD Fn sc__law_mix len__law_mix (fun cdv A outer s H E hr => body__law_mix T  hr) vc__law_mix hm bi
  have h__law_rows : DFn P w K mg base 1 "_law_rows" F__law_rows := by
    obtain ⟨f, fd, Fn, hm, bi⟩ := H__law_rows
    exact fnD Fn sc__law_rows len__law_rows (fun cdv A outer s H E hr => body__law_rows T  hr) vc__law_rows hm bi
  have h__law_text : DFn P w K mg base 1 "_law_text" F__law_text := by
    obtain ⟨f, fd, Fn, hm, bi⟩ := H__law_text
    exact fnD Fn sc__law_text len__law_text (fun cdv A outer s H E hr => body__law_text T  hr) vc__law_text hm bi
  have h__law_spoilt : DFnR P w K mg base 1 "_law_spoilt" F__law_spoilt := by
    obtain ⟨f, fd, Fn, hm, bi⟩ := H__law_spoilt
    exact fnR Fn sc__law_spoilt len__law_spoilt (fun cdv A outer s H E hr => body__law_spoilt T  hr) vc__law_spoilt hm bi
  have h_is_between : DFn P w K mg base 2 "is_between" F_is_between := by
    obtain ⟨f, fd, Fn, hm, bi⟩ := H_is_between
    exact fnD Fn sc_is_between len_is_between (fun cdv A outer s H E hr => body_is_between T h_is_whole hr) vc_is_between hm bi
  have h_numbers_of : DFnX P w K mg base 2 "numbers_of" F_numbers_of := by
    obtain ⟨f, fd, Fn, hm, bi⟩ := H_numbers_of
    exact fnX Fn sc_numbers_of len_numbers_of (fun cdv A outer s H E hr => body_numbers_of T h_number_of hr) vc_numbers_of hm bi
  have h_written : DFn P w K mg base 2 "written" F_written := by
    obtain ⟨f, fd, Fn, hm, bi⟩ := H_written
    exact fnD Fn sc_written len_written (fun cdv A outer s H E hr => body_written T h_written_pays hr) vc_written hm bi
  have h__law_meeting : DFnR P w K mg base 2 "_law_meeting" F__law_meeting := by
    obtain ⟨f, fd, Fn, hm, bi⟩ := H__law_meeting
    exact fnR Fn sc__law_meeting len__law_meeting (fun cdv A outer s H E hr => body__law_meeting T h__law_mix h__law_rows hr) vc__law_meeting hm bi
  have h_are_between : DFn P w K mg base 3 "are_between" F_are_between := by
    obtain ⟨f, fd, Fn, hm, bi⟩ := H_are_between
    exact fnD Fn sc_are_between len_are_between (fun cdv A outer s H E hr => body_are_between T h_is_between hr) vc_are_between hm bi
  have h_is_deeds : DFn P w K mg base 4 "is_deeds" F_is_deeds := by
    obtain ⟨f, fd, Fn, hm, bi⟩ := H_is_deeds
    exact fnD Fn sc_is_deeds len_is_deeds (fun cdv A outer s H E hr => body_is_deeds T h_is_tuple_of h_are_between hr) vc_is_deeds hm bi
  have h_is_pay_of_row : DFn P w K mg base 4 "is_pay_of_row" F_is_pay_of_row := by
    obtain ⟨f, fd, Fn, hm, bi⟩ := H_is_pay_of_row
    exact fnD Fn sc_is_pay_of_row len_is_pay_of_row (fun cdv A outer s H E hr => body_is_pay_of_row T h_is_tuple_of h_are_between hr) vc_is_pay_of_row hm bi
  have h_is_pay : DFn P w K mg base 5 "is_pay" F_is_pay := by
    obtain ⟨f, fd, Fn, hm, bi⟩ := H_is_pay
    exact fnD Fn sc_is_pay len_is_pay (fun cdv A outer s H E hr => body_is_pay T h_rows_of h_is_tuple_of h_is_pay_of_row hr) vc_is_pay hm bi
  have h_is_meeting : DFn P w K mg base 6 "is_meeting" F_is_meeting := by
    obtain ⟨f, fd, Fn, hm, bi⟩ := H_is_meeting
    exact fnD Fn sc_is_meeting len_is_meeting (fun cdv A outer s H E hr => body_is_meeting T h_is_tuple_of h_is_deeds h_is_pay hr) vc_is_meeting hm bi
  have h_read : DFnX P w K mg base 7 "read" F_read := by
    obtain ⟨f, fd, Fn, hm, bi⟩ := H_read
    exact fnX Fn sc_read len_read (fun cdv A outer s H E hr => body_read T h_numbers_of h_is_meeting hr) vc_read hm bi
  have h__law_read : DFn P w K mg base 8 "_law_read" F__law_read := by
    obtain ⟨f, fd, Fn, hm, bi⟩ := H__law_read
    exact fnD Fn sc__law_read len__law_read (fun cdv A outer s H E hr => body__law_read T h_read hr) vc__law_read hm bi
  exact fnR0 FL sc_law len_law (fun cdv A outer s H E hr => body_law T h__law_meeting h__law_text h_written h_read h__law_spoilt h__law_read h_is_meeting hr) vc_law
theorem walk_law {l : PySem.W.OpenLaw} {q : Program} {loose : List Str} {XP : (Str → Option Value) → Heap → Prop} {YP : World → Heap → Prop} {d : DefRec} {K : Params → PySem.W.Frag} (hn : l.most = some 63) (hdf : d.params.defaults = []) (hY : ∀ (w : World) (h : Heap), YP w h → (K w.params).In h)
    (F : ∀ (w : World) (mg : Str → Option Value) (fa : Addr) (h : Heap), (K w.params).In h → h.Ns mainGlobals mg → mg d.name = some (.ref fa) →
      ∃ fd : FuncData, (∀ (s : Shared) (u : Value), BindsTo s fd ⟨[u], []⟩ [("_law_script", u)]) ∧ ∀ base : Heap, (K w.params).In base → base.Ns mainGlobals mg → FnOk l.prog w (K w.params) mg base CX0 9 fa fd ["_law_script"] (spR (K w.params) F_law)) :
    PySem.W.WalkO q loose XP YP l.row.toRowW d [] (fun f vs => PySem.call f vs) :=
  walk_ofK (n := 63) (k := 9) (x := "_law_script") (CX := CX0) (sp := fun K => spR K F_law) hn (by decide) hdf ⟨rfl, by decide, by decide⟩ hY F (fun K H a ns _ _ hS => ⟨H, [.lst (ns.map D.int)], fun d => d = .bl true, Same.refl _, .cons (den_lst.mpr ⟨a, ns.map V.int, rfl, hS, dens_ints ns⟩) .nil, by simp [F_law, ints_map], fun d v C' H' hd _ nv => by subst hd; exact den_bl.mp nv⟩) fun _ _ _ _ z => z
theorem txt_of {K : PySem.W.Frag} {mg : Str → Option Value} {h : Heap} (X : K.In h) (G : h.Ns mainGlobals mg) (z_ValueError : PySem.W.nsIn K mainGlobals "ValueError" = some none) (z_all : PySem.W.nsIn K mainGlobals "all" = some none) (z_bool : PySem.W.nsIn K mainGlobals "bool" = some none) (z_int : PySem.W.nsIn K mainGlobals "int" = some none) (z_isinstance : PySem.W.nsIn K mainGlobals "isinstance" = some none) (z_len : PySem.W.nsIn K mainGlobals "len" = some none) (z_range : PySem.W.nsIn K mainGlobals "range" = some none) (z_sorted : PySem.W.nsIn K mainGlobals "sorted" = some none) (z_str : PySem.W.nsIn K mainGlobals "str" = some none) (z_tuple : PySem.W.nsIn K mainGlobals "tuple" = some none) {t_FEWEST_HANDS : Tok} (v_FEWEST_HANDS : PySem.W.nsIn K mainGlobals "FEWEST_HANDS" = some (some (.int (2) t_FEWEST_HANDS))) {t_HIGHEST_PAY : Tok} (v_HIGHEST_PAY : PySem.W.nsIn K mainGlobals "HIGHEST_PAY" = some (some (.int (9) t_HIGHEST_PAY))) {t_LOWEST_PAY : Tok} (v_LOWEST_PAY : PySem.W.nsIn K mainGlobals "LOWEST_PAY" = some (some (.int (-9) t_LOWEST_PAY))) {t_MOST_DEEDS : Tok} (v_MOST_DEEDS : PySem.W.nsIn K mainGlobals "MOST_DEEDS" = some (some (.int (3) t_MOST_DEEDS))) {t_MOST_HANDS : Tok} (v_MOST_HANDS : PySem.W.nsIn K mainGlobals "MOST_HANDS" = some (some (.int (3) t_MOST_HANDS))) {C_NoPact : Addr} (c_NoPact : PySem.W.nsIn K mainGlobals "NoPact" = some (some (.ref C_NoPact))) {C_NoText : Addr} (c_NoText : PySem.W.nsIn K mainGlobals "NoText" = some (some (.ref C_NoText))) {C_PactError : Addr} (c_PactError : PySem.W.nsIn K mainGlobals "PactError" = some (some (.ref C_PactError))) (q_NoText : PySem.W.excIn K C_NoText [.type "ValueError", .type "Exception", .type "BaseException", .type "object"] "ValueError.__new__" = true) (m_NoText_PactError : PySem.W.exmOne K (.ref C_NoText) (.ref C_PactError) = some true) {ci_NoText : _} (i0_NoText : PySem.W.clsIn K C_NoText = some ci_NoText) (i1_NoText : PySem.W.mroIn K C_NoText (.type "object") = some true) (i2_NoText : PySem.W.mroIn K C_NoText (.type "BaseException") = some true) (i3_NoText : PySem.W.findIn K (.ref C_NoText) "__class__" = some (some (.builtin "object.__class__"))) (i4_NoText : PySem.W.findIn K (.ref C_NoText) "__getattribute__" = some (some (.builtin "BaseException.__getattribute__"))) (i5_NoText : PySem.W.findIn K (.ref C_NoText) "__getattr__" = some none) (i6_NoText : PySem.W.kitOne K (.ref C_NoText) (.ref C_NoText) = some true) (i7_NoText : PySem.W.kitOne K (.ref C_NoText) (.ref C_NoPact) = some false) (i8_NoText : PySem.W.kitOne K (.ref C_NoText) (.type "ValueError") = some true) : Txt K mg :=
  ⟨PySem.W.mg_none_of X G z_ValueError, PySem.W.mg_none_of X G z_all, PySem.W.mg_none_of X G z_bool, PySem.W.mg_none_of X G z_int, PySem.W.mg_none_of X G z_isinstance, PySem.W.mg_none_of X G z_len, PySem.W.mg_none_of X G z_range, PySem.W.mg_none_of X G z_sorted, PySem.W.mg_none_of X G z_str, PySem.W.mg_none_of X G z_tuple, ⟨_, PySem.W.mg_of X G v_FEWEST_HANDS⟩, ⟨_, PySem.W.mg_of X G v_HIGHEST_PAY⟩, ⟨_, PySem.W.mg_of X G v_LOWEST_PAY⟩, ⟨_, PySem.W.mg_of X G v_MOST_DEEDS⟩, ⟨_, PySem.W.mg_of X G v_MOST_HANDS⟩, exc_of X G c_NoText q_NoText, ⟨.ref C_PactError, PySem.W.mg_of X G c_PactError, fun c cls hc hm => by
    rcases hc with rfl
    · rw [PySem.W.mg_of X G c_NoText] at hm; cases hm; exact m_NoText_PactError⟩, ⟨C_NoText, C_NoPact, PySem.W.mg_of X G c_NoText, PySem.W.mg_of X G c_NoPact, ⟨by rw [i0_NoText]; rfl, i1_NoText, i2_NoText, i3_NoText, i4_NoText, i5_NoText⟩, i6_NoText, i7_NoText, i8_NoText⟩⟩
theorem law_mk {l : PySem.W.OpenLaw} {w : World} {K : PySem.W.Frag} {h : Heap} {mg : Str → Option Value} {fa f : Addr} {od an : Option Addr} {sl : Array (Option Value)} {oc kV dc pm cd ct : Value} (X : K.In h) (G : h.Ns mainGlobals mg) (hfa : mg "law" = some (.ref fa)) (T : Txt K mg) (H_is_whole : FunAt K mg "is_whole" s_is_whole ["thing"]) (H_rows_of : FunAt K mg "rows_of" s_rows_of ["deeds"]) (H_is_tuple_of : FunAt K mg "is_tuple_of" s_is_tuple_of ["thing", "fewest", "most"]) (H_number_of : FunAt K mg "number_of" s_number_of ["word"]) (H_written_pays : FunAt K mg "written_pays" s_written_pays ["pays"]) (H__law_mix : FunAt K mg "_law_mix" s__law_mix ["_law_cell_here", "_law_prime", "_law_many"]) (H__law_rows : FunAt K mg "_law_rows" s__law_rows ["_law_deeds"]) (H__law_text : FunAt K mg "_law_text" s__law_text ["_law_meeting_here"]) (H__law_spoilt : FunAt K mg "_law_spoilt" s__law_spoilt ["_law_text_here", "_law_cell_here"]) (H_is_between : FunAt K mg "is_between" s_is_between ["thing", "least", "most"]) (H_numbers_of : FunAt K mg "numbers_of" s_numbers_of ["words"]) (H_written : FunAt K mg "written" s_written ["meeting"]) (H__law_meeting : FunAt K mg "_law_meeting" s__law_meeting ["_law_cell_here"]) (H_are_between : FunAt K mg "are_between" s_are_between ["parts", "least", "most"]) (H_is_deeds : FunAt K mg "is_deeds" s_is_deeds ["thing"]) (H_is_pay_of_row : FunAt K mg "is_pay_of_row" s_is_pay_of_row ["thing", "hands"]) (H_is_pay : FunAt K mg "is_pay" s_is_pay ["thing", "deeds"]) (H_is_meeting : FunAt K mg "is_meeting" s_is_meeting ["thing"]) (H_read : FunAt K mg "read" s_read ["text"]) (H__law_read : FunAt K mg "_law_read" s__law_read ["_law_text_here"])
    (a : PySem.W.nsIn K mainGlobals "law" = some (some (.ref f))) (ll : K.lookup f = some ⟨oc, od, .func (PySem.W.fnOf "law" "law" (defArgs s_law) (defBody s_law) (defScope s_law) .none kV dc pm an cd ct), sl⟩) (c : PySem.W.codeIn K cd "law" = true) (k : PySem.W.keepIn K (.ref f) = true) :
    ∃ fd : FuncData, (∀ (s : Shared) (v : Value), BindsTo s fd ⟨[v], []⟩ [("_law_script", v)]) ∧ ∀ base : Heap, K.In base → base.Ns mainGlobals mg → FnOk l.prog w K mg base CX0 9 fa fd ["_law_script"] (spR K F_law) := by
  have e := hfa.symm.trans (PySem.W.mg_of X G a)
  cases e
  exact ⟨PySem.W.fnOf "law" "law" (defArgs s_law) (defBody s_law) (defScope s_law) .none kV dc pm an cd ct, fun s v => .of_eq rfl, fun base _ _ => last_law T H_is_whole H_rows_of H_is_tuple_of H_number_of H_written_pays H__law_mix H__law_rows H__law_text H__law_spoilt H_is_between H_numbers_of H_written H__law_meeting H_are_between H_is_deeds H_is_pay_of_row H_is_pay H_is_meeting H_read H__law_read (fun_mk (st := s_law) ll c k)⟩
end L2
def PySem.W.Fast.tw3529284382479593296 : Nat := 0
def PySem.W.Fast.tw6886181046212445103 : Nat := 0
def PySem.W.Fast.tw11275070457876693713 : Nat := 0
def PySem.W.Fast.tw16939557335850157080 : Nat := 0
def PySem.W.Fast.tw14724215344242449876 : Nat := 0
def PySem.W.Fast.tw2252632085614157337 : Nat := 0
def PySem.W.Fast.tw6064039517458981352 : Nat := 0
def PySem.W.Fast.tw16571653964855341298 : Nat := 0
def PySem.W.Fast.tw1487926532051911953 : Nat := 0
def PySem.W.Fast.tw3225700863717453565 : Nat := 0
def PySem.W.Fast.tw3962848543676041906 : Nat := 0
def PySem.W.Fast.tw156765809404906093 : Nat := 0
def PySem.W.Fast.tw11062148207033328849 : Nat := 0
def PySem.W.Fast.tw6441473074494620647 : Nat := 0
def PySem.W.Fast.tw13626444092632375953 : Nat := 0
def PySem.W.Fast.tw9479972903478234515 : Nat := 0
open PySem PySem.W PyProof.Rows
set_option maxRecDepth 100000 in
set_option maxHeartbeats 0 in
theorem PySem.Challenge.cw_pactkeep_k02_whole_texts_holds : PySem.Challenge.rw_pactkeep_k02_whole_texts.Holds := by
  w_on; o_law; k_head; (case hw => w_witness2)
  k_fill
  refine L2.walk_law (l := PySem.Challenge.rw_pactkeep_k02_whole_texts) rfl rfl (fun w h Y => PySem.W.kIn_of Y) ?F
  case F =>
    intro w mg fa h KX G hmg
    have T : L2.Txt (L2.KOf KX) mg := by
      dsimp only [L2.KOf]
      refine' L2.txt_of KX G ?z_ValueError ?z_all ?z_bool ?z_int ?z_isinstance ?z_len ?z_range ?z_sorted ?z_str ?z_tuple ?v_FEWEST_HANDS ?v_HIGHEST_PAY ?v_LOWEST_PAY ?v_MOST_DEEDS ?v_MOST_HANDS ?c_NoPact ?c_NoText ?c_PactError ?q_NoText ?m_NoText_PactError ?i0_NoText ?i1_NoText ?i2_NoText ?i3_NoText ?i4_NoText ?i5_NoText ?i6_NoText ?i7_NoText ?i8_NoText
      (case z_ValueError => k_is); (case z_all => k_is); (case z_bool => k_is); (case z_int => k_is); (case z_isinstance => k_is); (case z_len => k_is); (case z_range => k_is); (case z_sorted => k_is); (case z_str => k_is); (case z_tuple => k_is); (case v_FEWEST_HANDS => k_is); (case v_HIGHEST_PAY => k_is); (case v_LOWEST_PAY => k_is); (case v_MOST_DEEDS => k_is); (case v_MOST_HANDS => k_is); (case c_NoPact => k_is); (case c_NoText => k_is); (case c_PactError => k_is); (case q_NoText => first | k_exc | kts_exm | kit_is | k_is); (case m_NoText_PactError => first | k_exc | kts_exm | kit_is | k_is); (case i0_NoText => first | k_exc | kts_exm | kit_is | k_is); (case i1_NoText => first | k_exc | kts_exm | kit_is | k_is); (case i2_NoText => first | k_exc | kts_exm | kit_is | k_is); (case i3_NoText => first | k_exc | kts_exm | kit_is | k_is); (case i4_NoText => first | k_exc | kts_exm | kit_is | k_is); (case i5_NoText => first | k_exc | kts_exm | kit_is | k_is); (case i6_NoText => first | k_exc | kts_exm | kit_is | k_is); (case i7_NoText => first | k_exc | kts_exm | kit_is | k_is); (case i8_NoText => first | k_exc | kts_exm | kit_is | k_is)
    have H_is_whole : L2.FunAt (L2.KOf KX) mg "is_whole" L2.s_is_whole ["thing"] := by
      dsimp only [L2.KOf]
      refine' L2.funAt_of KX G ?a ?l ?c ?k (fun _ _ _ _ _ _ => L2.us1 fun _ => rfl)
      (case a => k_is); (case l => k_is); (case c => k_is); (case k => k_is)
    have H_rows_of : L2.FunAt (L2.KOf KX) mg "rows_of" L2.s_rows_of ["deeds"] := by
      dsimp only [L2.KOf]
      refine' L2.funAt_of KX G ?a ?l ?c ?k (fun _ _ _ _ _ _ => L2.us1 fun _ => rfl)
      (case a => k_is); (case l => k_is); (case c => k_is); (case k => k_is)
    have H_is_tuple_of : L2.FunAt (L2.KOf KX) mg "is_tuple_of" L2.s_is_tuple_of ["thing", "fewest", "most"] := by
      dsimp only [L2.KOf]
      refine' L2.funAt_of KX G ?a ?l ?c ?k (fun _ _ _ _ _ _ => L2.us3 fun _ _ _ => rfl)
      (case a => k_is); (case l => k_is); (case c => k_is); (case k => k_is)
    have H_number_of : L2.FunAt (L2.KOf KX) mg "number_of" L2.s_number_of ["word"] := by
      dsimp only [L2.KOf]
      refine' L2.funAt_of KX G ?a ?l ?c ?k (fun _ _ _ _ _ _ => L2.us1 fun _ => rfl)
      (case a => k_is); (case l => k_is); (case c => k_is); (case k => k_is)
    have H_written_pays : L2.FunAt (L2.KOf KX) mg "written_pays" L2.s_written_pays ["pays"] := by
      dsimp only [L2.KOf]
      refine' L2.funAt_of KX G ?a ?l ?c ?k (fun _ _ _ _ _ _ => L2.us1 fun _ => rfl)
      (case a => k_is); (case l => k_is); (case c => k_is); (case k => k_is)
    have H__law_mix : L2.FunAt (L2.KOf KX) mg "_law_mix" L2.s__law_mix ["_law_cell_here", "_law_prime", "_law_many"] := by
      dsimp only [L2.KOf]
      refine' L2.funAt_of KX G ?a ?l ?c ?k (fun _ _ _ _ _ _ => L2.us3 fun _ _ _ => rfl)
      (case a => k_is); (case l => k_is); (case c => k_is); (case k => k_is)
    have H__law_rows : L2.FunAt (L2.KOf KX) mg "_law_rows" L2.s__law_rows ["_law_deeds"] := by
      dsimp only [L2.KOf]
      refine' L2.funAt_of KX G ?a ?l ?c ?k (fun _ _ _ _ _ _ => L2.us1 fun _ => rfl)
      (case a => k_is); (case l => k_is); (case c => k_is); (case k => k_is)
    have H__law_text : L2.FunAt (L2.KOf KX) mg "_law_text" L2.s__law_text ["_law_meeting_here"] := by
      dsimp only [L2.KOf]
      refine' L2.funAt_of KX G ?a ?l ?c ?k (fun _ _ _ _ _ _ => L2.us1 fun _ => rfl)
      (case a => k_is); (case l => k_is); (case c => k_is); (case k => k_is)
    have H__law_spoilt : L2.FunAt (L2.KOf KX) mg "_law_spoilt" L2.s__law_spoilt ["_law_text_here", "_law_cell_here"] := by
      dsimp only [L2.KOf]
      refine' L2.funAt_of KX G ?a ?l ?c ?k (fun _ _ _ _ _ _ => L2.us2 fun _ _ => rfl)
      (case a => k_is); (case l => k_is); (case c => k_is); (case k => k_is)
    have H_is_between : L2.FunAt (L2.KOf KX) mg "is_between" L2.s_is_between ["thing", "least", "most"] := by
      dsimp only [L2.KOf]
      refine' L2.funAt_of KX G ?a ?l ?c ?k (fun _ _ _ _ _ _ => L2.us3 fun _ _ _ => rfl)
      (case a => k_is); (case l => k_is); (case c => k_is); (case k => k_is)
    have H_numbers_of : L2.FunAt (L2.KOf KX) mg "numbers_of" L2.s_numbers_of ["words"] := by
      dsimp only [L2.KOf]
      refine' L2.funAt_of KX G ?a ?l ?c ?k (fun _ _ _ _ _ _ => L2.us1 fun _ => rfl)
      (case a => k_is); (case l => k_is); (case c => k_is); (case k => k_is)
    have H_written : L2.FunAt (L2.KOf KX) mg "written" L2.s_written ["meeting"] := by
      dsimp only [L2.KOf]
      refine' L2.funAt_of KX G ?a ?l ?c ?k (fun _ _ _ _ _ _ => L2.us1 fun _ => rfl)
      (case a => k_is); (case l => k_is); (case c => k_is); (case k => k_is)
    have H__law_meeting : L2.FunAt (L2.KOf KX) mg "_law_meeting" L2.s__law_meeting ["_law_cell_here"] := by
      dsimp only [L2.KOf]
      refine' L2.funAt_of KX G ?a ?l ?c ?k (fun _ _ _ _ _ _ => L2.us1 fun _ => rfl)
      (case a => k_is); (case l => k_is); (case c => k_is); (case k => k_is)
    have H_are_between : L2.FunAt (L2.KOf KX) mg "are_between" L2.s_are_between ["parts", "least", "most"] := by
      dsimp only [L2.KOf]
      refine' L2.funAt_of KX G ?a ?l ?c ?k (fun _ _ _ _ _ _ => L2.us3 fun _ _ _ => rfl)
      (case a => k_is); (case l => k_is); (case c => k_is); (case k => k_is)
    have H_is_deeds : L2.FunAt (L2.KOf KX) mg "is_deeds" L2.s_is_deeds ["thing"] := by
      dsimp only [L2.KOf]
      refine' L2.funAt_of KX G ?a ?l ?c ?k (fun _ _ _ _ _ _ => L2.us1 fun _ => rfl)
      (case a => k_is); (case l => k_is); (case c => k_is); (case k => k_is)
    have H_is_pay_of_row : L2.FunAt (L2.KOf KX) mg "is_pay_of_row" L2.s_is_pay_of_row ["thing", "hands"] := by
      dsimp only [L2.KOf]
      refine' L2.funAt_of KX G ?a ?l ?c ?k (fun _ _ _ _ _ _ => L2.us2 fun _ _ => rfl)
      (case a => k_is); (case l => k_is); (case c => k_is); (case k => k_is)
    have H_is_pay : L2.FunAt (L2.KOf KX) mg "is_pay" L2.s_is_pay ["thing", "deeds"] := by
      dsimp only [L2.KOf]
      refine' L2.funAt_of KX G ?a ?l ?c ?k (fun _ _ _ _ _ _ => L2.us2 fun _ _ => rfl)
      (case a => k_is); (case l => k_is); (case c => k_is); (case k => k_is)
    have H_is_meeting : L2.FunAt (L2.KOf KX) mg "is_meeting" L2.s_is_meeting ["thing"] := by
      dsimp only [L2.KOf]
      refine' L2.funAt_of KX G ?a ?l ?c ?k (fun _ _ _ _ _ _ => L2.us1 fun _ => rfl)
      (case a => k_is); (case l => k_is); (case c => k_is); (case k => k_is)
    have H_read : L2.FunAt (L2.KOf KX) mg "read" L2.s_read ["text"] := by
      dsimp only [L2.KOf]
      refine' L2.funAt_of KX G ?a ?l ?c ?k (fun _ _ _ _ _ _ => L2.us1 fun _ => rfl)
      (case a => k_is); (case l => k_is); (case c => k_is); (case k => k_is)
    have H__law_read : L2.FunAt (L2.KOf KX) mg "_law_read" L2.s__law_read ["_law_text_here"] := by
      dsimp only [L2.KOf]
      refine' L2.funAt_of KX G ?a ?l ?c ?k (fun _ _ _ _ _ _ => L2.us1 fun _ => rfl)
      (case a => k_is); (case l => k_is); (case c => k_is); (case k => k_is)
    refine' L2.law_mk KX G hmg T H_is_whole H_rows_of H_is_tuple_of H_number_of H_written_pays H__law_mix H__law_rows H__law_text H__law_spoilt H_is_between H_numbers_of H_written H__law_meeting H_are_between H_is_deeds H_is_pay_of_row H_is_pay H_is_meeting H_read H__law_read ?al ?ll ?cl ?kl
    (case al => k_is); (case ll => k_is); (case cl => k_is); (case kl => k_is)
