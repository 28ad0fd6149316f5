import PyProof.Rows.All
import Wide.All
import OpenK.AllK
import Wide.FinOn
import Lean
import PyProof.EqAt
import PyProof.EqKinds
import PyProof.TupleCall
import PyProof.NeKinds
import PyProof.ZipIter
import PyProof.Rows.SortShell
import PyProof.Rows.SortWalk
import PyProof.EnumMake
import PyProof.Rows.SumAny
import PyProof.Rows.SumGenD
import KE.KTryMore
import OpenK.KOwn
import PyProof.ExcArgsOwn
import PyProof.IsiTuple
import PyProof.ExcAttrAll.ValueError
import PyProof.FitsBits
import PySem.Challenge.RW_pactkeep_k05_whole_strays
set_option Elab.async false
set_option linter.all false
set_option maxRecDepth 100000
namespace L2
open PySem PySem.Spec PyProof.Rows
abbrev Key := Sum Int Str
def keyIs : Key → Value → Bool
  | .inl k, v => Value.isInt k v
  | .inr x, v => Value.isStrOf x v
def keyH (w : World) : Key → Int
  | .inl k => hashInt k
  | .inr x => hashStr w x
theorem keyIs_shape : ∀ {k : Key} {v : Value}, keyIs k v = true → (∃ i t, k = Sum.inl i ∧ v = Value.int i t) ∨ (∃ x t, k = Sum.inr x ∧ v = Value.str x t)
  | .inl i, v, h => by
    obtain ⟨t, e⟩ := Value.isInt_shape (k := i) (v := v) h
    exact .inl ⟨i, t, rfl, e⟩
  | .inr x, v, h => by
    obtain ⟨t, e⟩ := Value.isStrOf_shape (x := x) (v := v) h
    exact .inr ⟨x, t, rfl, e⟩
theorem keyIs_int (i : Int) (t : Tok) : keyIs (.inl i) (.int i t) = true := by simp [keyIs, Value.isInt]
theorem keyIs_str (x : Str) (t : Tok) : keyIs (.inr x) (.str x t) = true := by simp [keyIs, Value.isStrOf]
theorem key_ll (a b : Int) : decide ((Sum.inl a : Key) = Sum.inl b) = (a == b) := by
  by_cases e : a = b
  · subst e; simp
  · have h : ¬ (Sum.inl a : Key) = Sum.inl b := fun q => e (Sum.inl.inj q)
    rw [decide_eq_false h]
    exact (beq_eq_false_iff_ne.mpr e).symm
theorem key_rr (a b : Str) : decide ((Sum.inr a : Key) = Sum.inr b) = decide (a = b) := by
  by_cases e : a = b
  · subst e; simp
  · have h : ¬ (Sum.inr a : Key) = Sum.inr b := fun q => e (Sum.inr.inj q)
    rw [decide_eq_false h, decide_eq_false e]
theorem key_lr (a : Int) (b : Str) : decide ((Sum.inl a : Key) = Sum.inr b) = false := decide_eq_false (fun q => nomatch q)
theorem key_rl (a : Str) (b : Int) : decide ((Sum.inr a : Key) = Sum.inl b) = false := decide_eq_false (fun q => nomatch q)
def mixKind (prog : Program) (w : World) : PySem.KeyKind prog w Key where
  is := keyIs
  hash := keyH w
  inj := fun v a b ha hb => by
    rcases keyIs_shape ha with ⟨i, t, rfl, rfl⟩ | ⟨x, t, rfl, rfl⟩
    · rcases keyIs_shape hb with ⟨j, u, rfl, e⟩ | ⟨y, u, rfl, e⟩
      · injection e with e1 _; rw [e1]
      · exact nomatch e
    · rcases keyIs_shape hb with ⟨j, u, rfl, e⟩ | ⟨y, u, rfl, e⟩
      · exact nomatch e
      · injection e with e1 _; rw [e1]
  byValue := fun k v h => by
    rcases keyIs_shape h with ⟨i, t, rfl, rfl⟩ | ⟨x, t, rfl, rfl⟩ <;> rfl
  pyHash := fun hv h => by
    rcases keyIs_shape hv with ⟨i, t, rfl, rfl⟩ | ⟨x, t, rfl, rfl⟩
    · exact wpAny_pyHash_int h
    · exact wpAny_pyHash_str h
  eqBool := fun hu hv h => by
    rcases keyIs_shape hu with ⟨i, t, rfl, rfl⟩ | ⟨x, t, rfl, rfl⟩
    · rcases keyIs_shape hv with ⟨j, u, rfl, rfl⟩ | ⟨y, u, rfl, rfl⟩
      · rw [key_ll] at h; exact wpAny_eqBool_int h
      · rw [key_lr] at h; exact SeqAt.EqAt.int_str i t y u _ _ _ _ h
    · rcases keyIs_shape hv with ⟨j, u, rfl, rfl⟩ | ⟨y, u, rfl, rfl⟩
      · rw [key_rl] at h; exact SeqAt.EqAt.str_int x t j u _ _ _ _ h
      · rw [key_rr] at h; exact wpAny_eqBool_str h
  «strs» := fun k x t v h => by
    rcases keyIs_shape h with ⟨i, u, rfl, e⟩ | ⟨y, u, rfl, e⟩
    · exact nomatch e
    · injection e with e1 _
      subst e1
      cases v <;> rfl
theorem mixKind_is (prog : Program) (w : World) (k : Key) (v : Value) : (mixKind prog w).is k v = keyIs k v := rfl
theorem mixKind_int (prog : Program) (w : World) (i : Int) (t : Tok) : (mixKind prog w).is (.inl i) (.int i t) = true := keyIs_int i t
theorem mixKind_str (prog : Program) (w : World) (x : Str) (t : Tok) : (mixKind prog w).is (.inr x) (.str x t) = true := keyIs_str x t
end L2
namespace L2
open PySem PySem.Spec PyProof.Rows
inductive V where
  | non | bl (b : Bool) | int (i : Int) | str (x : Str) | byt (b : Array UInt8) | flt (b : UInt64) | ref (a : Addr) | ty (n : String)
  deriving DecidableEq
def RelV : V → Value → Prop
  | .non, u => u = Value.none
  | .bl b, u => u = Value.bool b
  | .int i, u => ∃ t, u = Value.int i t
  | .str x, u => ∃ t, u = Value.str x t
  | .byt b, u => ∃ t, u = Value.bytes b t
  | .flt b, u => ∃ t, u = Value.float b t
  | .ref a, u => u = Value.ref a
  | .ty n, u => u = Value.type n
abbrev Vals : List V → List Value → Prop := Paired RelV
theorem Vals.length {xs : List V} {us : List Value} (r : Vals xs us) : xs.length = us.length := Paired.length r
theorem Vals.get : ∀ {xs : List V} {us : List Value} {i : Nat} {x : V}, Vals xs us → xs[i]? = some x → ∃ u, us[i]? = some u ∧ RelV x u
  | _, _, _, _, .nil, e => by simp at e
  | _, _, 0, _, .cons r _, e => by simp at e; subst e; exact ⟨_, rfl, r⟩
  | _, _, i + 1, x, .cons _ t, e => by
    obtain ⟨u, h1, h2⟩ := Vals.get (i := i) (x := x) t (by simpa using e)
    exact ⟨u, by simpa using h1, h2⟩
theorem Vals.append : ∀ {xs ys : List V} {us ws : List Value}, Vals xs us → Vals ys ws → Vals (xs ++ ys) (us ++ ws)
  | _, _, _, _, .nil, s => s
  | _, _, _, _, .cons r t, s => .cons r (Vals.append t s)
theorem Vals.take : ∀ {xs : List V} {us : List Value} (n : Nat), Vals xs us → Vals (xs.take n) (us.take n)
  | _, _, 0, _ => .nil
  | _, _, _ + 1, .nil => .nil
  | _, _, n + 1, .cons r t => .cons r (Vals.take n t)
theorem Vals.drop : ∀ {xs : List V} {us : List Value} (n : Nat), Vals xs us → Vals (xs.drop n) (us.drop n)
  | _, _, 0, r => r
  | _, _, _ + 1, .nil => .nil
  | _, _, n + 1, .cons _ t => Vals.drop n t
def RelO : Option V → Option Value → Prop
  | some v, some u => RelV v u
  | none, none => True
  | _, _ => False
def KV {κ : Type} : List (κ × V) → List (κ × Value) → Prop := Paired fun (p : κ × V) (q : κ × Value) => p.1 = q.1 ∧ RelV p.2 q.2
def kV : Key → V
  | .inl i => .int i
  | .inr x => .str x
inductive HO where
  | lst (xs : List V)
  | tup (xs : List V)
  | dK (kvs : List (Key × V)) | dT (kvs : List (List Key × V))
  | set (S : Int → Bool) (n : Nat)
  | ins (C dx : Addr) (fs : List (Str × V))
  | own (x : Addr)
  | xd (fs : List (Str × V))
  | met (f x : Addr)
  | rng (lo hi : Int)
  | frz (o : Obj) (u : HO)
  | tbl (ps : Array Value)
  | tab (l c : Value) (q : Str)
  | ext (φ : Heap → Prop)
abbrev Hp := Addr → Option HO
def upd (H : Hp) (a : Addr) (o : HO) : Hp := fun b => if b = a then some o else H b
theorem upd_same {H : Hp} {a : Addr} {o : HO} : upd H a o a = some o := by unfold upd; rw [if_pos rfl]
theorem upd_ne {H : Hp} {a b : Addr} {o : HO} (h : b ≠ a) : upd H a o b = H b := by unfold upd; rw [if_neg h]
theorem ne_of {H : Hp} {a b : Addr} {o u : HO} (h : H a = some o) (h' : H b = some u) (d : o ≠ u) : a ≠ b := by
  intro e; subst e; rw [h] at h'; exact d (Option.some.inj h')
theorem ne_of_none {H : Hp} {a b : Addr} {o : HO} (h : H a = some o) (h' : H b = none) : a ≠ b := by
  intro e; subst e; rw [h] at h'; cases h'
section
variable (P : Program) (w : World)
def ObjOk (H : Hp) (h : Heap) (a : Addr) : HO → Prop
  | .lst xs => xs.length ≤ sizeLine ∧ ∃ (its : List Value) (n : Nat), Vals xs its ∧ h.get? a = some { cls := .type "list", data := .seq its.toArray n }
  | .tup xs => xs.length ≤ sizeLine ∧ ∃ its : List Value, Vals xs its ∧ IsTup h a its.toArray
  | .dK kvs => kvs.length ≤ sizeLine ∧ (a == sysModules) = false ∧ ∃ vs, KV kvs vs ∧ h.DictOf (mixKind P w) a vs
  | .dT kvs => kvs.length ≤ sizeLine ∧ (a == sysModules) = false ∧ ∃ xs : List (List Key × Addr × Value),
      Paired (fun (p : List Key × V) (q : List Key × Addr × Value) => p.1 = q.1 ∧ H q.2.1 = some (.tup (p.1.map kV)) ∧ RelV p.2 q.2.2) kvs xs ∧
      ∃ o es ep, h.get? a = some o ∧ o.ExactDict ∧ o.data = .dict es ep ∧ es.toList = xs.map (entryOfKey (tupleKind (mixKind P w))) ∧ (xs.map (·.1)).Nodup
  | .set S n => h.SetOf (intKind P w) a S n
  | .ins C dx fs => H dx = some (.own a) ∧ fs.length ≤ 1000 ∧ dx ≠ a ∧ h.get? a = some (PySem.W.instObj C dx) ∧
      ∃ mA, h.Ns1 dx mA ∧ (∀ f, RelO (fs.lookup f) (mA f)) ∧ PySem.Within mA (fs.map (·.1))
  | .own _ => ∃ o, h.get? a = some o
  | .xd fs => ∃ mA, h.Ns1 a mA ∧ ∀ f, RelO (fs.lookup f) (mA f)
  | .rng lo hi => ∃ t u v, h.get? a = some { cls := .type "range", data := .fields #[.int lo t, .int hi u, .int 1 v] }
  | .frz o u => h.get? a = some o ∧ ObjOk H h a u
  | .tbl ps => h.get? a = some { cls := .none, data := .fields ps }
  | .tab l c q => ∃ ps : Array Value, h.get? a = some { cls := .none, data := .fields ps } ∧ (ps = #[] ∨ ∃ (d : Addr) (oc : Obj) (u : HO) (vs : Array Value) (t : Tok), ps = #[l, c, .ref d] ∧ H d = some (.frz oc u) ∧ oc.data = .fields vs ∧ vs[1]? = some (.str q t))
  | .met f x => h.get? a = some (PySem.W.methodObj (.ref f) (.ref x))
  | .ext φ => φ h ∧ (∃ o, h.get? a = some o) ∧ ∀ h1 h2 : Heap, φ h1 → (∀ o, h1.get? a = some o → h2.get? a = some o) → φ h2
def HOk (H : Hp) (h : Heap) : Prop := ∀ a o, H a = some o → ObjOk P w H h a o
end
section
variable {P : Program} {w : World} {H H' : Hp} {h h' : Heap} {a : Addr} {o : HO}
theorem ObjOk.lt (x : ObjOk P w H h a o) : a < h.objs.size := by
  cases o with
  | lst xs => obtain ⟨_, _, _, _, e⟩ := x; exact Heap.lt_size e
  | tup xs => obtain ⟨_, _, _, p⟩ := x; exact p.lt
  | dK kvs => obtain ⟨_, _, _, _, o, _, _, e, _⟩ := x; exact Heap.lt_size e
  | dT kvs => obtain ⟨_, _, _, _, o, _, _, e, _⟩ := x; exact Heap.lt_size e
  | set S n => obtain ⟨o, _, _, _, e, _⟩ := x; exact Heap.lt_size e
  | ins C dx fs => obtain ⟨_, _, _, e, _⟩ := x; exact Heap.lt_size e
  | own y => obtain ⟨_, e⟩ := x; exact Heap.lt_size e
  | xd fs => obtain ⟨_, ⟨_, _, _, e, _⟩, _⟩ := x; exact Heap.lt_size e
  | rng lo hi => obtain ⟨_, _, _, e⟩ := x; exact Heap.lt_size e
  | frz ob u => obtain ⟨e, _⟩ := x; exact Heap.lt_size e
  | tbl ps => exact Heap.lt_size (show h.get? a = some _ from x)
  | tab l c q => obtain ⟨_, e, _⟩ := x; exact Heap.lt_size e
  | met f y => exact Heap.lt_size (show h.get? a = some _ from x)
  | ext φ => obtain ⟨_, ⟨_, e⟩, _⟩ := x; exact Heap.lt_size e
theorem Paired.mapP {α β : Type} {F G : α → β → Prop} : ∀ {l₁ : List α} {l₂ : List β}, Paired F l₁ l₂ → (∀ a b, F a b → G a b) → Paired G l₁ l₂
  | _, _, .nil, _ => .nil
  | _, _, .cons r t, f => .cons (f _ _ r) (Paired.mapP t f)
theorem ObjOk.stay (x : ObjOk P w H h a o) (k : ∀ b u, (b = a ∨ H b = some (.own a)) → h.get? b = some u → h'.get? b = some u)
    (ho : ∀ b, H b = some (.own a) → H' b = some (.own a)) (ht : ∀ b xs, H b = some (.tup xs) → H' b = some (.tup xs)) (hz : ∀ b o u, H b = some (.frz o u) → H' b = some (.frz o u)) : ObjOk P w H' h' a o := by
  induction o with
  | lst xs => obtain ⟨z, its, n, r, e⟩ := x; exact ⟨z, its, n, r, k _ _ (.inl rfl) e⟩
  | tup xs => obtain ⟨z, its, r, ob, e, c⟩ := x; exact ⟨z, its, r, ob, k _ _ (.inl rfl) e, c⟩
  | dK kvs => obtain ⟨z, y, vs, r, ob, es, ep, e, c⟩ := x; exact ⟨z, y, vs, r, ob, es, ep, k _ _ (.inl rfl) e, c⟩
  | dT kvs =>
    obtain ⟨z, y, xs, r, ob, es, ep, e, c⟩ := x
    exact ⟨z, y, xs, Paired.mapP r fun p q z => ⟨z.1, ht _ _ z.2.1, z.2.2⟩, ob, es, ep, k _ _ (.inl rfl) e, c⟩
  | set S n => obtain ⟨ob, es, ep, t, e, c⟩ := x; exact ⟨ob, es, ep, t, k _ _ (.inl rfl) e, c⟩
  | ins C dx fs =>
    obtain ⟨d, z, ne, e, mA, ⟨od, es, ep, e2, c⟩, r⟩ := x
    exact ⟨ho _ d, z, ne, k _ _ (.inl rfl) e, mA, ⟨od, es, ep, k _ _ (.inr d) e2, c⟩, r⟩
  | own y => obtain ⟨ob, e⟩ := x; exact ⟨ob, k _ _ (.inl rfl) e⟩
  | xd fs => obtain ⟨mA, ⟨od, es, ep, e, c⟩, r⟩ := x; exact ⟨mA, ⟨od, es, ep, k _ _ (.inl rfl) e, c⟩, r⟩
  | rng lo hi => obtain ⟨t, u, v, e⟩ := x; exact ⟨t, u, v, k _ _ (.inl rfl) e⟩
  | frz ob u ih => obtain ⟨e, q⟩ := x; exact ⟨k _ _ (.inl rfl) e, ih q⟩
  | tbl ps =>
    have e : h.get? a = some { cls := .none, data := .fields ps } := x
    show h'.get? a = some { cls := .none, data := .fields ps }
    exact k a _ (.inl rfl) e
  | tab l c q =>
    obtain ⟨ps, e, z⟩ := x
    refine ⟨ps, k _ _ (.inl rfl) e, ?_⟩
    rcases z with z | ⟨d, oc, u, vs, t, z1, z2, z3⟩
    · exact .inl z
    · exact .inr ⟨d, oc, u, vs, t, z1, hz _ _ _ z2, z3⟩
  | met f y =>
    have e : h.get? a = some (PySem.W.methodObj (.ref f) (.ref y)) := x
    show h'.get? a = some (PySem.W.methodObj (.ref f) (.ref y))
    exact k a _ (.inl rfl) e
  | ext φ => obtain ⟨p, ⟨o, e⟩, st⟩ := x; exact ⟨st _ _ p fun o q => k _ _ (.inl rfl) q, ⟨o, k _ _ (.inl rfl) e⟩, st⟩
theorem HOk.lt (x : HOk P w H h) (e : H a = some o) : a < h.objs.size := (x a o e).lt
theorem HOk.fresh (x : HOk P w H h) (e : h.objs.size ≤ a) : H a = none := by
  cases q : H a with
  | none => rfl
  | some u => exact absurd (Nat.lt_of_lt_of_le (x.lt q) e) (Nat.lt_irrefl _)
theorem HOk.kept (x : HOk P w H h) (k : ∀ b u, h.get? b = some u → h'.get? b = some u) : HOk P w H h' := fun a o e =>
  (x a o e).stay (fun b u _ q => k b u q) (fun _ q => q) (fun _ _ q => q) fun _ _ _ q => q
theorem HOk.laid (x : HOk P w H h) (k : ∀ b u, h.get? b = some u → h'.get? b = some u) (hp : h.objs.size ≤ a) (new : ObjOk P w (upd H a o) h' a o) : HOk P w (upd H a o) h' := fun b u e => by
  have hn := x.fresh hp
  by_cases hb : b = a
  · subst hb; rw [upd_same] at e; cases e; exact new
  · rw [upd_ne hb] at e
    exact (x b u e).stay (fun c v _ q => k c v q) (fun c q => by rw [upd_ne (ne_of_none q hn)]; exact q) (fun c xs q => by rw [upd_ne (ne_of_none q hn)]; exact q) fun c ob u q => by rw [upd_ne (ne_of_none q hn)]; exact q
end
def Rd (H : Hp) (a : Addr) (u : HO) : Prop := H a = some u ∨ ∃ o, H a = some (.frz o u)
theorem Rd.ok {P : Program} {w : World} {H : Hp} {h : Heap} {a : Addr} {u : HO} (r : Rd H a u) (x : HOk P w H h) : ObjOk P w H h a u := by
  rcases r with r | ⟨o, r⟩
  · exact x a u r
  · obtain ⟨_, q⟩ := x a _ r
    exact q
def Mut : Option HO → Prop
  | some (.lst _) => True
  | some (.dK _) => True
  | some (.dT _) => True
  | some (.set _ _) => True
  | some (.ins _ _ _) => True
  | some (.tab _ _ _) => True
  | some (.ext _) => True
  | _ => False
section
variable {P : Program} {w : World} {H : Hp} {h h' : Heap} {x e : Addr} {o' : HO}
theorem HOk.write (ok : HOk P w H h) (mu : Mut (H x)) (he : e = x ∨ H e = some (.own x)) (k : ∀ b u, b ≠ e → h.get? b = some u → h'.get? b = some u) (heo : ∃ u, h'.get? e = some u)
    (new : ObjOk P w (upd H x o') h' x o') : HOk P w (upd H x o') h' := fun b u q => by
  have nown : ∀ c y, H c = some (.own y) → c ≠ x := fun c y r z => by subst z; rw [r] at mu; exact mu
  have ntup : ∀ c xs, H c = some (.tup xs) → c ≠ x := fun c xs r z => by subst z; rw [r] at mu; exact mu
  by_cases hb : b = x
  · subst hb; rw [upd_same] at q; cases q; exact new
  · rw [upd_ne hb] at q
    by_cases hbe : b = e
    · have q' : H b = some (.own x) := by
        rcases he with z | z
        · exact absurd (hbe.trans z) hb
        · rw [hbe]; exact z
      rw [q] at q'; cases q'
      obtain ⟨v, hv⟩ := heo
      exact ⟨v, by rw [hbe]; exact hv⟩
    · refine (ok b u q).stay (fun c v hc r => k c v ?_ r) (fun c r => by rw [upd_ne (nown c b r)]; exact r) (fun c xs r => by rw [upd_ne (ntup c xs r)]; exact r) fun c ob u r => by rw [upd_ne (fun z => by subst z; rw [r] at mu; exact mu)]; exact r
      rcases hc with rfl | hc
      · exact hbe
      · rintro rfl
        rcases he with z | z
        · exact nown c b hc z
        · rw [hc] at z; cases z; exact hb rfl
end
structure Un (fs ex : List Addr) (H H' : Hp) (h h' : Heap) : Prop where
  keep : ∀ b o, h.get? b = some o → H b = none → b ∉ fs → b ∉ ex → h'.get? b = some o
  slot : ∀ b o, h.get? b = some o → H b = none → b ∈ fs → b ∉ ex → ∃ sl, h'.get? b = some { o with slots := sl }
  free : ∀ b o, h.get? b = some o → H b = none → b ∉ ex → H' b = none
  there : ∀ b o, h.get? b = some o → b ∉ ex → ∃ o', h'.get? b = some o'
  tups : ∀ b xs, H b = some (.tup xs) → H' b = some (.tup xs)
  frzs : ∀ b o u, H b = some (.frz o u) → H' b = some (.frz o u)
  tbls : ∀ b ps, H b = some (.tbl ps) → ∃ more, H' b = some (.tbl (ps ++ more))
section
variable {fs fs' ex ex' : List Addr} {H H1 H2 : Hp} {h h1 h2 h' : Heap} {a x e : Addr} {o : HO}
theorem Un.any (u : Un fs ex H H1 h h1) {b : Addr} {ob : Obj} (q : h.get? b = some ob) (n : H b = none) (hx : b ∉ ex) : ∃ sl, h1.get? b = some { ob with slots := sl } := by
  by_cases hb : b ∈ fs
  · exact u.slot b ob q n hb hx
  · exact ⟨ob.slots, u.keep b ob q n hb hx⟩
theorem Un.kept (k : ∀ b u, h.get? b = some u → h'.get? b = some u) : Un fs ex H H h h' :=
  ⟨fun b ob q _ _ _ => k b ob q, fun b ob q _ _ _ => ⟨ob.slots, k b ob q⟩, fun _ _ _ n _ => n, fun b ob q _ => ⟨ob, k b ob q⟩, fun _ _ q => q, fun _ _ _ q => q, fun _ ps q => ⟨#[], by rw [q]; simp⟩⟩
theorem Un.refl : Un fs ex H H h h := Un.kept fun _ _ q => q
theorem Un.laid (k : ∀ b u, h.get? b = some u → h'.get? b = some u) (hp : h.objs.size ≤ a) (hn : H a = none) : Un fs ex H (upd H a o) h h' where
  keep := fun b u q _ _ _ => k b u q
  slot := fun b u q _ _ _ => ⟨u.slots, k b u q⟩
  free := fun b u q n _ => by rw [upd_ne (Nat.ne_of_lt (Nat.lt_of_lt_of_le (Heap.lt_size q) hp))]; exact n
  there := fun b u q _ => ⟨u, k b u q⟩
  tups := fun b xs q => by rw [upd_ne (ne_of_none q hn)]; exact q
  frzs := fun b u xs q => by rw [upd_ne (ne_of_none q hn)]; exact q
  tbls := fun b ps q => ⟨#[], by rw [upd_ne (ne_of_none q hn), q]; simp⟩
theorem Un.write (mu : Mut (H x)) (he : e = x ∨ H e = some (.own x)) (k : ∀ b u, b ≠ e → h.get? b = some u → h'.get? b = some u) (heo : ∃ u, h'.get? e = some u) : Un fs ex H (upd H x o) h h' := by
  have hx : ∀ b, H b = none → b ≠ x := fun b n z => by subst z; rw [n] at mu; exact mu
  have hb : ∀ b, H b = none → b ≠ e := fun b n z => by
    subst z
    rcases he with r | r
    · exact hx b n r
    · rw [n] at r; cases r
  have hm : ∀ b u, H b = some u → ¬ Mut (some u) → b ≠ x := fun b u q nm z => by subst z; rw [q] at mu; exact nm mu
  refine ⟨fun b u q n _ _ => k b u (hb b n) q, fun b u q n _ _ => ⟨u.slots, k b u (hb b n) q⟩, fun b u q n _ => by rw [upd_ne (hx b n)]; exact n, fun b u q _ => ?_,
    fun b xs q => by rw [upd_ne (hm b _ q fun z => z)]; exact q, fun b u xs q => by rw [upd_ne (hm b _ q fun z => z)]; exact q, fun b ps q => ⟨#[], by rw [upd_ne (hm b _ q fun z => z), q]; simp⟩⟩
  by_cases hbe : b = e
  · subst hbe; exact heo
  · exact ⟨u, k b u hbe q⟩
end
def trk (h : Heap) (H : Hp) : List Addr := (List.range h.objs.size).filter fun a => (H a).isSome
def hidT (h : Heap) (H : Hp) : Heap := PySem.W.hideAll h (trk h H)
theorem hidT_size (h : Heap) (H : Hp) : (hidT h H).objs.size = h.objs.size := PySem.W.hideAll_size _ _
theorem hidT_get {h : Heap} {H : Hp} {b : Addr} {o : Obj} (e : h.get? b = some o) (n : H b = none) : (hidT h H).get? b = some o :=
  PySem.W.hideAll_get _ e fun hm => by
    have q : (H b).isSome = true := (List.mem_filter.mp hm).2
    rw [n] at q; simp at q
theorem of_hidT {h : Heap} {H : Hp} {b : Addr} {o : Obj} (e : (hidT h H).get? b = some o) : h.get? b = some o ∧ H b = none := by
  have e' : h.get? b = some o := PySem.W.of_hideAll (trk h H) e
  refine ⟨e', ?_⟩
  cases q : H b with
  | none => rfl
  | some x =>
    have hm : b ∈ trk h H := List.mem_filter.mpr ⟨List.mem_range.mpr (Heap.lt_size e'), by simp [q]⟩
    have z : (hidT h H).get? b = none := PySem.W.hideAll_none (trk h H) hm
    rw [z] at e; cases e
end L2
namespace L2
open PySem PySem.Spec PyProof.Rows
structure Mod (K : PySem.W.Frag) (mg : Str → Option Value) (base : Heap) : Prop where
  kin : K.In base
  glob : base.Ns mainGlobals mg
  blt : ∃ mb, base.Ns builtinsNs mb ∧ ∀ x : Str, x ≠ "__name__" → mb x = bootBuiltins x
  nolimit : base.NoLimit
structure Cx where
  prog : Program
  w : World
  K : PySem.W.Frag
  mg : Str → Option Value
  base : Heap
  A : Around
  N : List Str
  s₀ : Shared
  H₀ : Hp
  env : Env
  outer : List Env
  stack : List Env
  ex : List Addr
  fn : Str → Bool
  calm : Bool
  pn : List (Addr × Obj)
  xe : Value → Shared → Prop
def frs (l : List Env) : List Addr := l.filterMap (·.frame)
abbrev Cx.fs (X : Cx) : List Addr := frs X.outer
def Vis (sc : Scope) (x : Str) : Prop := sc.names.lookup x = some .local ∨ sc.names.lookup x = some .cell ∨ sc.names.lookup x = some .free
def Loc (sc : Scope) (x : Str) : Prop := sc.names.lookup x = some .local ∨ sc.names.lookup x = some .cell
def Look (env : Env) (h : Heap) (m : Str → Option Value) (x : Str) (u : Value) : Prop :=
  (env.kindOf x = some .local ∧ m x = some u) ∨ ((env.kindOf x = some .cell ∨ env.kindOf x = some .free) ∧ ∃ c, env.cells.lookup x = some c ∧ h.IsCell c (some u))
structure Cx.Ok (X : Cx) : Prop where
  mod : Mod X.K X.mg X.base
  kind : X.env.scope.kind = .function
  glob : X.env.globals = mainGlobals
  blt : X.env.builtins = builtinsNs
  above : X.s₀.heap.objs.size ≤ X.env.locals
  inj : ∀ x y c, X.env.cells.lookup x = some c → X.env.cells.lookup y = some c → x = y
  has : ∀ x, (X.env.kindOf x = some .cell ∨ X.env.kindOf x = some .free) → ∃ c, X.env.cells.lookup x = some c
  cab : ∀ x c, X.fn x = true → X.env.cells.lookup x = some c → X.s₀.heap.objs.size ≤ c
  hd : X.calm = true → X.A.handled = none
  frames : X.A.frames = some X.stack
  stk : X.stack = X.outer ∨ (X.stack = X.env :: X.outer ∧ X.env.frame = some X.env.locals)
  exf : ∀ b ∈ X.ex, b ≠ X.env.locals ∧ ∀ x c, X.env.cells.lookup x = some c → c ≠ b
  bs : ∀ b o, X.base.get? b = some o → X.s₀.heap.get? b = some o ∧ X.H₀ b = none
  bsz : X.base.objs.size ≤ X.s₀.heap.objs.size
  noex : ∀ b o, X.base.get? b = some o → b ∉ X.ex
  exfs : ∀ b ∈ X.ex, b ∉ X.fs
  funs : X.s₀.heap.FunFrames X.base X.outer
  frf : ∀ b ∈ X.fs, X.H₀ b = none
structure Inv (X : Cx) (pins : List (Addr × Obj)) (σ : List (Option V)) (H : Hp) (s : Shared) : Prop where
  ok : X.Ok
  os : s.os = X.s₀.os
  bare : AllBare s.gens
  base : Un X.fs X.ex X.H₀ H X.s₀.heap s.heap
  loc : ∃ m, s.heap.Ns X.env.locals m ∧ ∀ (i : Nat) (x : Str) (v : V), X.N[i]? = some x → σ[i]? = some (some v) → Vis X.env.scope x → ∃ u, RelV v u ∧ Look X.env s.heap m x u
  cell : ∀ x c, X.env.cells.lookup x = some c → ∃ v, s.heap.IsCell c v
  free : H X.env.locals = none
  freeC : ∀ x c, X.env.cells.lookup x = some c → H c = none
  pin : ∀ p ∈ X.pn ++ pins, s.heap.get? p.1 = some p.2 ∧ H p.1 = none ∧ p.1 ≠ X.env.locals ∧ p.1 ∉ X.fs ∧ ∀ v, p.2.data ≠ .cell v
  hok : HOk X.prog X.w H s.heap
  len : σ.length = X.N.length
section
variable {X : Cx} {pins : List (Addr × Obj)} {σ : List (Option V)} {H H' : Hp} {s : Shared} {h' : Heap}
theorem Cx.Ok.nofr (ok : X.Ok) {b : Addr} {o : Obj} (e : X.base.get? b = some o) : b ∉ X.fs := fun hb => by
  have := (ok.funs.mem hb).1
  rw [e] at this; cases this
theorem Inv.bs (I : Inv X pins σ H s) : ∀ b o, X.base.get? b = some o → s.heap.get? b = some o ∧ H b = none := fun b o e =>
  ⟨I.base.keep b o (I.ok.bs b o e).1 (I.ok.bs b o e).2 (I.ok.nofr e) (I.ok.noex b o e), I.base.free b o (I.ok.bs b o e).1 (I.ok.bs b o e).2 (I.ok.noex b o e)⟩
theorem Inv.bk (I : Inv X pins σ H s) : ∀ b o, X.base.get? b = some o → s.heap.get? b = some o := fun b o e => (I.bs b o e).1
theorem Inv.mod (I : Inv X pins σ H s) : Mod X.K X.mg X.base := I.ok.mod
theorem Inv.kIn (I : Inv X pins σ H s) : X.K.In s.heap := I.ok.mod.kin.keeps I.bk
theorem Inv.lt (I : Inv X pins σ H s) : X.env.locals < s.heap.objs.size := let ⟨_, hn, _⟩ := I.loc; hn.lt
theorem Inv.sz (I : Inv X pins σ H s) : X.s₀.heap.objs.size ≤ s.heap.objs.size := Nat.le_trans I.ok.above (Nat.le_of_lt I.lt)
theorem Inv.nofs (I : Inv X pins σ H s) {a : Addr} (h : s.heap.objs.size ≤ a) : a ∉ X.fs := fun hb => by
  obtain ⟨_, o, ho, _⟩ := I.ok.funs.mem hb
  exact absurd (Nat.lt_of_lt_of_le (Heap.lt_size ho) (Nat.le_trans I.sz h)) (Nat.lt_irrefl _)
theorem Inv.cne (I : Inv X pins σ H s) : ∀ x c, X.env.cells.lookup x = some c → c ≠ X.env.locals := fun x c e z => by
  obtain ⟨v, o, ho, hd⟩ := I.cell x c e
  obtain ⟨m, ⟨o', es, ep, ho', hd', _⟩, _⟩ := I.loc
  rw [z, ho'] at ho; cases ho; rw [hd'] at hd; cases hd
theorem Inv.funs (I : Inv X pins σ H s) : s.heap.FunFrames X.base X.outer := by
  have all : ∀ (l : List Env), (∀ b ∈ frs l, b ∈ X.fs) → X.s₀.heap.FunFrames X.base l → s.heap.FunFrames X.base l := by
    intro l
    induction l with
    | nil => intro _ _; trivial
    | cons env r ih =>
      intro hs hl
      obtain ⟨hk, ⟨L, o, hf, hn, ho, hd⟩, hr⟩ := hl
      have hL : L ∈ X.fs := hs L (by unfold frs; rw [List.filterMap_cons, hf]; exact List.mem_cons_self)
      obtain ⟨sl, e⟩ := I.base.slot L o ho (I.ok.frf L hL) hL fun z => I.ok.exfs L z hL
      exact ⟨hk, ⟨L, _, hf, hn, e, hd⟩, ih (fun b hb => hs b (by unfold frs; rw [List.filterMap_cons, hf]; exact List.mem_cons_of_mem _ hb)) hr⟩
  exact all X.outer (fun _ hb => hb) I.ok.funs
theorem Inv.stack (I : Inv X pins σ H s) : s.heap.FunFrames X.base X.stack := by
  rcases I.ok.stk with e | ⟨e, hf⟩
  · rw [e]; exact I.funs
  · rw [e]
    obtain ⟨m, hn, _⟩ := I.loc
    refine .cons (by rw [I.ok.kind]; decide) hf hn ?_ I.funs
    exact Heap.get?_none_of_le (Nat.le_trans I.ok.bsz I.ok.above)
theorem Inv.stkSub (I : Inv X pins σ H s) : ∀ b ∈ frs X.stack, b ∈ X.env.locals :: X.fs := fun b hb => by
  rcases I.ok.stk with e | ⟨e, hf⟩
  · rw [e] at hb; exact List.mem_cons_of_mem _ hb
  · rw [e] at hb
    unfold frs at hb
    rw [List.filterMap_cons, hf] at hb
    exact hb
theorem Inv.stkFree (I : Inv X pins σ H s) : ∀ b ∈ frs X.stack, H b = none := fun b hb => by
  rcases List.mem_cons.mp (I.stkSub b hb) with e | hb
  · rw [e]; exact I.free
  · obtain ⟨_, o, ho, _⟩ := I.ok.funs.mem hb
    exact I.base.free b o ho (I.ok.frf b hb) fun z => I.ok.exfs b z hb
theorem Inv.step {g' : Array GenState} {t' : Nat} {d' : Drawn} {ch : List Addr} (I : Inv X pins σ H s)
    (hch : ∀ b ∈ ch, (b ∈ X.ex ∨ X.s₀.heap.objs.size ≤ b) ∧ b ≠ X.env.locals ∧ (∀ x c, X.env.cells.lookup x = some c → c ≠ b) ∧ ∀ p ∈ X.pn ++ pins, p.1 ≠ b)
    (keep : ∀ b o, b ≠ X.env.locals → b ∉ X.fs → b ∉ ch → s.heap.get? b = some o → H b = none → h'.get? b = some o)
    (slot : ∀ b o, b ≠ X.env.locals → b ∈ X.fs → b ∉ ch → s.heap.get? b = some o → H b = none → ∃ sl, h'.get? b = some { o with slots := sl }) (free : ∀ b o, b ∉ ch → s.heap.get? b = some o → H b = none → H' b = none)
    (there : ∀ b o, b ∉ ch → s.heap.get? b = some o → ∃ o', h'.get? b = some o')
    (tups : ∀ b xs, H b = some (.tup xs) → H' b = some (.tup xs)) (frzs : ∀ b o u, H b = some (.frz o u) → H' b = some (.frz o u)) (tbls : ∀ b ps, H b = some (.tbl ps) → ∃ more, H' b = some (.tbl (ps ++ more)))
    (ns : ∀ m, s.heap.Ns X.env.locals m → h'.Ns X.env.locals m) (hok : HOk X.prog X.w H' h') (hg : AllBare g') :
    Inv X pins σ H' { s with heap := h', gens := g', drawn := d', toks := t' } := by
  have neL : ∀ b o, X.s₀.heap.get? b = some o → b ≠ X.env.locals := fun b o e => Nat.ne_of_lt (Nat.lt_of_lt_of_le (Heap.lt_size e) I.ok.above)
  have neC : ∀ b o, X.s₀.heap.get? b = some o → b ∉ X.ex → b ∉ ch := fun b o e hx hb => by
    rcases (hch b hb).1 with z | z
    · exact hx z
    · exact absurd (Nat.lt_of_lt_of_le (Heap.lt_size e) z) (Nat.lt_irrefl _)
  have cellK : ∀ x c, X.env.cells.lookup x = some c → ∀ v, s.heap.IsCell c v → h'.IsCell c v := fun x c e v ⟨o, ho, hd⟩ => by
    have nch : c ∉ ch := fun z => (hch c z).2.2.1 x c e rfl
    by_cases hc : c ∈ X.fs
    · obtain ⟨sl, q⟩ := slot c o (I.cne x c e) hc nch ho (I.freeC x c e)
      exact ⟨_, q, hd⟩
    · exact ⟨o, keep c o (I.cne x c e) hc nch ho (I.freeC x c e), hd⟩
  refine ⟨I.ok, I.os, hg, ⟨fun b o e n hb hx => ?_, fun b o e n hb hx => ?_, fun b o e n hx => ?_, fun b o e hx => ?_, fun b xs e => tups b xs (I.base.tups b xs e), fun b o xs e => frzs b o xs (I.base.frzs b o xs e), fun b ps e => ?_⟩, ?_, fun x c e => ?_, ?_, fun x c e => ?_, fun p hp => ?_, hok, I.len⟩
  · exact keep b o (neL b o e) hb (neC b o e hx) (I.base.keep b o e n hb hx) (I.base.free b o e n hx)
  · obtain ⟨sl, e1⟩ := I.base.slot b o e n hb hx
    obtain ⟨sl', e2⟩ := slot b _ (neL b o e) hb (neC b o e hx) e1 (I.base.free b o e n hx)
    exact ⟨sl', e2⟩
  · obtain ⟨o', e1⟩ := I.base.there b o e hx
    exact free b o' (neC b o e hx) e1 (I.base.free b o e n hx)
  · obtain ⟨o', e1⟩ := I.base.there b o e hx
    exact there b o' (neC b o e hx) e1
  · obtain ⟨m1, e1⟩ := I.base.tbls b ps e
    obtain ⟨m2, e2⟩ := tbls b _ e1
    exact ⟨m1 ++ m2, by rw [e2, Array.append_assoc]⟩
  · obtain ⟨m, hn, hl⟩ := I.loc
    refine ⟨m, ns m hn, fun i x v e1 e2 e3 => ?_⟩
    obtain ⟨u, r, l⟩ := hl i x v e1 e2 e3
    refine ⟨u, r, ?_⟩
    rcases l with l | ⟨k, c, e, z⟩
    · exact .inl l
    · exact .inr ⟨k, c, e, cellK x c e _ z⟩
  · obtain ⟨v, z⟩ := I.cell x c e
    exact ⟨v, cellK x c e v z⟩
  · obtain ⟨m, ⟨o, _, _, ho, _⟩, _⟩ := I.loc
    exact free _ o (fun z => (hch _ z).2.1 rfl) ho I.free
  · obtain ⟨v, o, ho, hd⟩ := I.cell x c e
    exact free c o (fun z => (hch c z).2.2.1 x c e rfl) ho (I.freeC x c e)
  · obtain ⟨e, n, ne, nf, d⟩ := I.pin p hp
    have nch : p.1 ∉ ch := fun z => (hch p.1 z).2.2.2 p hp rfl
    exact ⟨keep p.1 p.2 ne nf nch e n, free p.1 p.2 nch e n, ne, nf, d⟩
theorem Inv.un {t' : Nat} (I : Inv X pins σ H s) (u : Un X.fs [] H H' s.heap h') (hok : HOk X.prog X.w H' h') : Inv X pins σ H' { s with heap := h', toks := t' } := by
  obtain ⟨m, ⟨o, es, ep, ho, r⟩, _⟩ := id I.loc
  obtain ⟨sl, hL⟩ := u.any ho I.free (by simp)
  exact I.step (g' := s.gens) (d' := s.drawn) (ch := []) (fun _ z => nomatch z) (fun b o _ hb _ e n => u.keep b o e n hb (by simp)) (fun b o _ hb _ e n => u.slot b o e n hb (by simp)) (fun b o _ e n => u.free b o e n (by simp)) (fun b o _ e => u.there b o e (by simp)) u.tups u.frzs u.tbls (fun m' hm => by
    obtain ⟨o', es', ep', ho', r'⟩ := hm
    rw [ho] at ho'; cases ho'
    exact ⟨_, es', ep', hL, r'⟩) hok I.bare
theorem Inv.call {g' : Array GenState} {t' : Nat} {d' : Drawn} {ch : List Addr} (I : Inv X pins σ H s) (u : Un (frs X.stack) ch H H' s.heap h') (hok : HOk X.prog X.w H' h') (hg : AllBare g')
    (hch : ∀ b ∈ ch, (b ∈ X.ex ∨ X.s₀.heap.objs.size ≤ b) ∧ b ≠ X.env.locals ∧ (∀ x c, X.env.cells.lookup x = some c → c ≠ b) ∧ ∀ p ∈ X.pn ++ pins, p.1 ≠ b) :
    Inv X pins σ H' { s with heap := h', gens := g', drawn := d', toks := t' } := by
  obtain ⟨m, ⟨o, es, ep, ho, r⟩, _⟩ := id I.loc
  obtain ⟨sl, hL⟩ := u.any ho I.free fun z => (hch _ z).2.1 rfl
  exact I.step (ch := ch) hch (fun b o hL hb hc e n => u.keep b o e n (fun z => (List.mem_cons.mp (I.stkSub b z)).elim hL hb) hc) (fun b o _ _ hc e n => u.any e n hc) (fun b o hc e n => u.free b o e n hc) (fun b o hc e => u.there b o e hc) u.tups u.frzs u.tbls (fun m' hm => by
    obtain ⟨o', es', ep', ho', r'⟩ := hm
    rw [ho] at ho'; cases ho'
    exact ⟨_, es', ep', hL, r'⟩) hok hg
theorem Inv.turned {t' : Nat} {it : Addr} (I : Inv X pins σ H s) (k : ∀ b o, b ≠ it → s.heap.get? b = some o → h'.get? b = some o) (hn : H it = none) (hL : it ≠ X.env.locals)
    (h1 : it ∈ X.ex ∨ X.s₀.heap.objs.size ≤ it) (h2 : ∀ x c, X.env.cells.lookup x = some c → c ≠ it) (h3 : ∀ p ∈ X.pn ++ pins, p.1 ≠ it) : Inv X pins σ H { s with heap := h', toks := t' } := by
  have nit : ∀ b u, H b = some u → b ≠ it := fun b u e z => by rw [z, hn] at e; cases e
  refine I.step (g' := s.gens) (d' := s.drawn) (ch := [it]) (fun b hb => ?_) (fun b o _ _ hc e _ => k b o (fun z => hc (by simp [z])) e) (fun b o _ _ hc e _ => ⟨o.slots, k b o (fun z => hc (by simp [z])) e⟩) (fun _ _ _ _ n => n)
    (fun b o hc e => ⟨o, k b o (fun z => hc (by simp [z])) e⟩) (fun _ _ e => e) (fun _ _ _ e => e) (fun b ps e => ⟨#[], by rw [e]; simp⟩) (fun m hm => ?_) (fun b u e => ?_) I.bare
  · have e : b = it := by simpa using hb
    subst e
    exact ⟨h1, hL, h2, h3⟩
  · obtain ⟨o, es, ep, ho, r⟩ := hm
    exact ⟨o, es, ep, k _ o (Ne.symm hL) ho, r⟩
  · refine (I.hok b u e).stay (fun c v hc q => k c v ?_ q) (fun _ q => q) (fun _ _ q => q) fun _ _ _ q => q
    rcases hc with z | z
    · rw [z]; exact nit b u e
    · exact nit c _ z
theorem Inv.tok (I : Inv X pins σ H s) (t : Nat) : Inv X pins σ H { s with toks := t } := I.un (h' := s.heap) (t' := t) Un.refl I.hok
theorem Inv.kept {t' : Nat} (I : Inv X pins σ H s) (k : ∀ b u, s.heap.get? b = some u → h'.get? b = some u) : Inv X pins σ H { s with heap := h', toks := t' } := I.un (Un.kept k) (I.hok.kept k)
theorem Inv.laid {a : Addr} {o : HO} {t' : Nat} (I : Inv X pins σ H s) (k : ∀ b u, s.heap.get? b = some u → h'.get? b = some u) (hp : s.heap.objs.size ≤ a) (new : ObjOk X.prog X.w (upd H a o) h' a o) :
    Inv X pins σ (upd H a o) { s with heap := h', toks := t' } := I.un (Un.laid k hp (I.hok.fresh hp)) (I.hok.laid k hp new)
theorem Inv.write {x e : Addr} {o : HO} {t' : Nat} (I : Inv X pins σ H s) (mu : Mut (H x)) (he : e = x ∨ H e = some (.own x)) (k : ∀ b u, b ≠ e → s.heap.get? b = some u → h'.get? b = some u) (heo : ∃ u, h'.get? e = some u)
    (new : ObjOk X.prog X.w (upd H x o) h' x o) : Inv X pins σ (upd H x o) { s with heap := h', toks := t' } := I.un (Un.write mu he k heo) (I.hok.write mu he k heo new)
theorem Inv.weak {σ' : List (Option V)} (I : Inv X pins σ H s) (hl : σ'.length = σ.length) (w : ∀ (i : Nat) v, σ'[i]? = some (some v) → σ[i]? = some (some v)) : Inv X pins σ' H s :=
  ⟨I.ok, I.os, I.bare, I.base, let ⟨m, hn, hl'⟩ := I.loc; ⟨m, hn, fun i x v e1 e2 e3 => hl' i x v e1 (w i v e2) e3⟩, I.cell, I.free, I.freeC, I.pin, I.hok, hl.trans I.len⟩
theorem Inv.pins_of {pins' : List (Addr × Obj)} (I : Inv X pins σ H s) (h : ∀ p ∈ pins', s.heap.get? p.1 = some p.2 ∧ H p.1 = none ∧ p.1 ≠ X.env.locals ∧ p.1 ∉ X.fs ∧ ∀ v, p.2.data ≠ .cell v) : Inv X pins' σ H s :=
  ⟨I.ok, I.os, I.bare, I.base, I.loc, I.cell, I.free, I.freeC, fun p hp => (List.mem_append.mp hp).elim (fun z => I.pin p (List.mem_append_left _ z)) (h p), I.hok, I.len⟩
theorem nodup_ix {N : List Str} (hN : N.Nodup) {i j : Nat} {x : Str} (a : N[i]? = some x) (b : N[j]? = some x) : i = j := by
  obtain ⟨h1, e1⟩ := List.getElem?_eq_some_iff.mp a
  obtain ⟨h2, e2⟩ := List.getElem?_eq_some_iff.mp b
  exact (List.getElem_inj hN).mp (e1.trans e2.symm)
theorem store_ok2 {M : Model} {A : Around} {E : Value → Shared → Prop} {i : Nat} {x : Str} {v : V} {u : Value} {Q : Unit → Shared → Prop} (I : Inv X pins σ H s) (hN : X.N.Nodup) (hi : X.N[i]? = some x) (hx : Loc X.env.scope x) (r : RelV v u)
    (h : ∀ s', Inv X pins (σ.set i (some v)) H s' → (∃ a, Heap.SameBut a s.heap s'.heap ∧ (a = X.env.locals ∨ X.env.cells.lookup x = some a)) → Q () s') (hf : X.fn x = true ∨ X.env.scope.names.lookup x = some .local := by first | exact .inl rfl | exact .inr rfl | assumption) : wpAny M A (storeName X.env x u) Q E s := by
  obtain ⟨m, hn, hl⟩ := id I.loc
  have hcls : (X.env.scope.kind == .class || (X.env.scope.kind == .module && X.env.locals != X.env.globals)) = false := by rw [I.ok.kind]; rfl
  have hiσ : i < σ.length := by rw [I.len]; exact (List.getElem?_eq_some_iff.mp hi).1
  have cne := I.cne
  have tracked : ∀ {a : Addr} {h' : Heap}, (∃ o, s.heap.get? a = some o ∧ H a = none) → Heap.SameBut a s.heap h' → HOk X.prog X.w H h' := fun {a h'} ha hs b ob e => by
    obtain ⟨_, _, hfree⟩ := ha
    refine (I.hok b ob e).stay (fun c w' hc q => (hs.2 c ?_).trans q) (fun _ q => q) (fun _ _ q => q) fun _ _ _ q => q
    rintro rfl
    rcases hc with rfl | hc
    · rw [hfree] at e; cases e
    · rw [hfree] at hc; cases hc
  rcases hx with hk | hk
  · refine wpAny_storeName_local hk hn (fun h' hn' hs => ?_) hcls
    obtain ⟨oL, _, _, hoL, _⟩ := id hn
    refine h _ ⟨I.ok, I.os, I.bare, ⟨fun b o e n hb hx => ?_, fun b o e n hb hx => ?_, I.base.free, fun b o e hx => ?_, I.base.tups, I.base.frzs, I.base.tbls⟩, ⟨_, hn', fun j y v' e1 e2 e3 => ?_⟩, fun y c e => ?_, I.free, I.freeC, fun p hp => ?_, tracked ⟨oL, hoL, I.free⟩ hs, by simpa using I.len⟩ ⟨_, hs, .inl rfl⟩
    · exact (hs.2 b (Nat.ne_of_lt (Nat.lt_of_lt_of_le (Heap.lt_size e) I.ok.above))).trans (I.base.keep b o e n hb hx)
    · obtain ⟨sl, e1⟩ := I.base.slot b o e n hb hx
      exact ⟨sl, (hs.2 b (Nat.ne_of_lt (Nat.lt_of_lt_of_le (Heap.lt_size e) I.ok.above))).trans e1⟩
    · obtain ⟨o', e1⟩ := I.base.there b o e hx
      exact ⟨o', (hs.2 b (Nat.ne_of_lt (Nat.lt_of_lt_of_le (Heap.lt_size e) I.ok.above))).trans e1⟩
    · by_cases hj : j = i
      · subst hj
        rw [hi] at e1; cases e1
        rw [List.getElem?_set_self hiσ] at e2
        cases e2
        exact ⟨u, r, .inl ⟨hk, by simp⟩⟩
      · rw [List.getElem?_set_ne (Ne.symm hj)] at e2
        obtain ⟨u', r', q⟩ := hl j y v' e1 e2 e3
        refine ⟨u', r', ?_⟩
        rcases q with ⟨k, e⟩ | ⟨k, c, e, z⟩
        · refine .inl ⟨k, ?_⟩
          have : y ≠ x := fun e => hj (nodup_ix hN e1 (e ▸ hi))
          simp [this, e]
        · exact .inr ⟨k, c, e, z.sameBut hs (cne y c e)⟩
    · obtain ⟨w', z⟩ := I.cell y c e
      exact ⟨w', z.sameBut hs (cne y c e)⟩
    · obtain ⟨e, n, ne, nf, d⟩ := I.pin p hp
      exact ⟨(hs.2 p.1 ne).trans e, n, ne, nf, d⟩
  · have hfn : X.fn x = true := by
      rcases hf with z | z
      · exact z
      · rw [z] at hk; cases hk
    obtain ⟨c, hc⟩ := I.ok.has x (.inl hk)
    obtain ⟨w', z⟩ := I.cell x c hc
    refine wpAny_storeName_cell I.ok.kind hk hc z (fun h' hc' hs => ?_)
    obtain ⟨oc, hoc, hocd⟩ := id z
    refine h { s with heap := h' } ⟨I.ok, I.os, I.bare, ⟨fun b o e n hb hx => ?_, fun b o e n hb hx => ?_, I.base.free, fun b o e hx => ?_, I.base.tups, I.base.frzs, I.base.tbls⟩, ⟨m, hn.sameBut hs (Ne.symm (cne x c hc)), fun j y v' e1 e2 e3 => ?_⟩, fun y c' e => ?_, I.free, I.freeC, fun p hp => ?_, tracked ⟨oc, hoc, I.freeC x c hc⟩ hs, by simpa using I.len⟩ ⟨c, hs, .inr hc⟩
    · exact (hs.2 b (Nat.ne_of_lt (Nat.lt_of_lt_of_le (Heap.lt_size e) (I.ok.cab x c hfn hc)))).trans (I.base.keep b o e n hb hx)
    · obtain ⟨sl, e1⟩ := I.base.slot b o e n hb hx
      exact ⟨sl, (hs.2 b (Nat.ne_of_lt (Nat.lt_of_lt_of_le (Heap.lt_size e) (I.ok.cab x c hfn hc)))).trans e1⟩
    · obtain ⟨o', e1⟩ := I.base.there b o e hx
      exact ⟨o', (hs.2 b (Nat.ne_of_lt (Nat.lt_of_lt_of_le (Heap.lt_size e) (I.ok.cab x c hfn hc)))).trans e1⟩
    · by_cases hj : j = i
      · subst hj
        rw [hi] at e1; cases e1
        rw [List.getElem?_set_self hiσ] at e2
        cases e2
        exact ⟨u, r, .inr ⟨.inl hk, c, hc, hc'⟩⟩
      · rw [List.getElem?_set_ne (Ne.symm hj)] at e2
        obtain ⟨u', r', q⟩ := hl j y v' e1 e2 e3
        refine ⟨u', r', ?_⟩
        rcases q with q | ⟨k, c', e, z'⟩
        · exact .inl q
        · refine .inr ⟨k, c', e, z'.sameBut hs ?_⟩
          rintro rfl
          exact hj (nodup_ix hN e1 (I.ok.inj _ _ _ e hc ▸ hi))
    · by_cases hcc : c' = c
      · subst hcc; exact ⟨_, hc'⟩
      · obtain ⟨w2, z2⟩ := I.cell y c' e
        exact ⟨w2, z2.sameBut hs hcc⟩
    · obtain ⟨e, n, ne, nf, d⟩ := I.pin p hp
      refine ⟨(hs.2 p.1 ?_).trans e, n, ne, nf, d⟩
      intro q
      rw [q, hoc] at e
      have q' : oc = p.2 := Option.some.inj e
      exact d w' (by rw [← q']; exact hocd)
theorem store_ok {M : Model} {A : Around} {E : Value → Shared → Prop} {i : Nat} {x : Str} {v : V} {u : Value} {Q : Unit → Shared → Prop} (I : Inv X pins σ H s) (hN : X.N.Nodup) (hi : X.N[i]? = some x) (hx : Loc X.env.scope x) (r : RelV v u)
    (h : ∀ s', Inv X pins (σ.set i (some v)) H s' → Q () s') (hf : X.fn x = true ∨ X.env.scope.names.lookup x = some .local := by first | exact .inl rfl | exact .inr rfl | assumption) : wpAny M A (storeName X.env x u) Q E s :=
  store_ok2 I hN hi hx r (fun s' I' _ => h s' I') hf
theorem Inv.call' {s' : Shared} {ch : List Addr} (I : Inv X pins σ H s) (ho : s'.os = s.os) (u : Un (frs X.stack) ch H H' s.heap s'.heap) (hok : HOk X.prog X.w H' s'.heap) (hg : AllBare s'.gens)
    (hch : ∀ b ∈ ch, (b ∈ X.ex ∨ X.s₀.heap.objs.size ≤ b) ∧ b ≠ X.env.locals ∧ (∀ x c, X.env.cells.lookup x = some c → c ≠ b) ∧ ∀ p ∈ X.pn ++ pins, p.1 ≠ b) : Inv X pins σ H' s' := by
  obtain ⟨h', g', d', t', o'⟩ := s'
  have e : o' = s.os := ho
  subst e
  exact I.call (g' := g') (t' := t') (d' := d') u hok hg hch
end
abbrev XK := Value → Option Addr → Hp → Prop
abbrev St := List (Option V)
abbrev VK := V → Hp → Prop
abbrev TE := St → Hp → VK → Prop
abbrev TT := St → Hp → (Bool → Hp → Prop) → Prop
abbrev TA := St → Hp → (List V → Hp → Prop) → Prop
structure Ends where
  nx : St → Hp → Prop
  rt : VK
  bk : St → Hp → Prop := fun _ _ => False
  ct : St → Hp → Prop := fun _ _ => False
abbrev TS := Ends → St → Hp → Prop
def EP (X : Cx) (pins : List (Addr × Obj)) (σ : St) (Q : VK) (u : Value) (s' : Shared) : Prop := ∃ v H', Inv X pins σ H' s' ∧ RelV v u ∧ Q v H'
def TP (X : Cx) (pins : List (Addr × Obj)) (σ : St) (Q : Bool → Hp → Prop) (b : Bool) (s' : Shared) : Prop := ∃ H', Inv X pins σ H' s' ∧ Q b H'
def AP (X : Cx) (pins : List (Addr × Obj)) (σ : St) (Q : List V → Hp → Prop) (us : List Value) (s' : Shared) : Prop := ∃ vs H', Inv X pins σ H' s' ∧ Vals vs us ∧ Q vs H'
def SP (X : Cx) (pins : List (Addr × Obj)) (D : Ends) (f : Flow) (s' : Shared) : Prop :=
  match f with
  | .next => ∃ σ' H', Inv X pins σ' H' s' ∧ D.nx σ' H'
  | .brk => ∃ σ' H', Inv X pins σ' H' s' ∧ D.bk σ' H'
  | .cont => ∃ σ' H', Inv X pins σ' H' s' ∧ D.ct σ' H'
  | .ret u => ∃ v σ' H', Inv X pins σ' H' s' ∧ RelV v u ∧ D.rt v H'
def PE (X : Cx) (e : Expr) (t : TE) : Prop :=
  ∀ (pins : List (Addr × Obj)) (s : Shared) (σ : St) (H : Hp) (Q : VK), Inv X pins σ H s → t σ H Q → wpAny (model X.prog X.w) X.A (eval e X.env) (EP X pins σ Q) X.xe s
def PT (X : Cx) (e : Expr) (t : TT) : Prop :=
  ∀ (pins : List (Addr × Obj)) (s : Shared) (σ : St) (H : Hp) (Q : Bool → Hp → Prop), Inv X pins σ H s → t σ H Q → wpAny (model X.prog X.w) X.A (isTrue e X.env (eval e X.env)) (TP X pins σ Q) X.xe s
def PW (X : Cx) (e : Expr) (t : TT) : Prop :=
  ∀ (whole : Sem Value) (pins : List (Addr × Obj)) (s : Shared) (σ : St) (H : Hp) (Q : Bool → Hp → Prop), Inv X pins σ H s → t σ H Q → wpAny (model X.prog X.w) X.A (isTrue e X.env whole) (TP X pins σ Q) X.xe s
theorem PW.pt {X : Cx} {e : Expr} {t : TT} (h : PW X e t) : PT X e t := h _
def PA (X : Cx) (es : List Expr) (t : TA) : Prop :=
  ∀ (pos : Pos) (pins : List (Addr × Obj)) (s : Shared) (σ : St) (H : Hp) (Q : List V → Hp → Prop), Inv X pins σ H s → t σ H Q → wpAny (model X.prog X.w) X.A (spliced (backTo pos (starEach es X.env))) (AP X pins σ Q) X.xe s
def PS (X : Cx) (st : Stmt) (t : TS) : Prop :=
  ∀ (pins : List (Addr × Obj)) (s : Shared) (σ : St) (H : Hp) (D : Ends), Inv X pins σ H s → t D σ H → wpAny (model X.prog X.w) X.A (exec st X.env) (SP X pins D) X.xe s
def PSs (X : Cx) (st : List Stmt) (t : TS) : Prop :=
  ∀ (pins : List (Addr × Obj)) (s : Shared) (σ : St) (H : Hp) (D : Ends), Inv X pins σ H s → t D σ H → wpAny (model X.prog X.w) X.A (execs st X.env) (SP X pins D) X.xe s
theorem thn {α : Type} {t : Sem α} {Q Q' : α → Shared → Prop} {M : Model} {A : Around} {E : Value → Shared → Prop} {s : Shared} (h : wpAny M A t Q E s) (hQ : ∀ a s, Q a s → Q' a s) : wpAny M A t Q' E s := wpAny_mono h hQ fun _ _ x => x
end L2
namespace L2
open PySem PySem.Spec PyProof.Rows
section
variable {X : Cx}
def tVar (i : Nat) : TE := fun σ H Q => ∃ v, σ[i]? = some (some v) ∧ Q v H
def tC (v : V) : TE := fun _ H Q => Q v H
theorem pe_var {i : Nat} {x : Str} {pos : Pos} (hN : X.N[i]? = some x) (hv : Vis X.env.scope x) (hd : (x == ("__debug__" : Str)) = false := by decide) (hcd : (x == ("__classdict__" : Str)) = false := by decide) : PE X (.Name x pos) (tVar i) := by
  intro pins s σ H Q I h
  obtain ⟨v, e, h⟩ := h
  obtain ⟨m, hn, hl⟩ := I.loc
  obtain ⟨u, r, l⟩ := hl i x v hN e hv
  have fin : EP X pins σ Q u s := ⟨v, H, I, r, h⟩
  rcases l with ⟨hk, hm⟩ | ⟨hk, c, hc, hcell⟩
  · exact wpAny_Name (wpAny_loadName_local I.ok.kind hk hn hm fin) hd
  · rcases hk with hk | hk
    · exact wpAny_Name (wpAny_loadName_cell I.ok.kind hk hc hcell fin) hd
    · exact wpAny_Name (wpAny_loadName_free I.ok.kind hk hc hcell fin hcd) hd
theorem pe_int {i j pos} : PE X (.Constant (.int i) j pos) (tC (.int i)) := fun _ _ _ H _ I h => wpAny_Constant_int ⟨.int i, H, I.tok _, ⟨_, rfl⟩, h⟩
theorem pe_bl {b j pos} : PE X (.Constant (.bool b) j pos) (tC (.bl b)) := fun _ _ _ H _ I h => Constant_bool ⟨.bl b, H, I, rfl, h⟩
theorem pe_non {j pos} : PE X (.Constant .none j pos) (tC .non) := fun _ _ _ H _ I h => Constant_none ⟨.non, H, I, rfl, h⟩
def Gl (X : Cx) (x : Str) : Prop := X.env.kindOf x = some .globalImplicit
theorem ld_glob {E : Value → Shared → Prop} {pins : List (Addr × Obj)} {s : Shared} {σ : St} {H : Hp} {x : Str} {u : Value} {pos : Pos} {Q : Value → Shared → Prop} (I : Inv X pins σ H s) (hg : Gl X x) (hm : X.mg x = some u) (h : Q u s)
    (hd : (x == ("__debug__" : Str)) = false := by decide) : wpAny (model X.prog X.w) X.A (eval (.Name x pos) X.env) Q E s :=
  Calls.Name_function_global I.ok.kind hg (Calls.loadGlobal_global (by rw [I.ok.glob]; exact I.mod.glob.keeps I.bk) hm h) hd
theorem ld_blt {E : Value → Shared → Prop} {pins : List (Addr × Obj)} {s : Shared} {σ : St} {H : Hp} {x : Str} {u : Value} {pos : Pos} {Q : Value → Shared → Prop} (I : Inv X pins σ H s) (hg : Gl X x) (hm : X.mg x = none) (hv : bootBuiltins x = some u) (h : Q u s)
    (hn : x ≠ "__name__" := by decide) (hd : (x == ("__debug__" : Str)) = false := by decide) : wpAny (model X.prog X.w) X.A (eval (.Name x pos) X.env) Q E s := by
  obtain ⟨mb, h1, h2⟩ := I.mod.blt
  exact Calls.Name_function_global I.ok.kind hg (Calls.loadGlobal_builtin (by rw [I.ok.glob]; exact I.mod.glob.keeps I.bk) hm (by rw [I.ok.blt]; exact h1.keeps I.bk) ((h2 x hn).trans hv) h) hd
theorem pe_bltn {x : Str} {v : V} {u : Value} {pos : Pos} (hg : Gl X x) (hm : X.mg x = none) (hv : bootBuiltins x = some u) (r : RelV v u) (hn : x ≠ "__name__" := by decide) (hd : (x == ("__debug__" : Str)) = false := by decide) : PE X (.Name x pos) (tC v) :=
  fun _ _ _ H _ I h => ld_blt I hg hm hv ⟨v, H, I, r, h⟩ hn hd
variable {a b : Expr} {ta tb : TE} {pos : Pos}
def PC (X : Cx) (op : CmpOp) (a b : Expr) (t : TE) : Prop :=
  ∀ (pins : List (Addr × Obj)) (s : Shared) (σ : St) (H : Hp) (Q : VK), Inv X pins σ H s → t σ H Q →
    wpAny (model X.prog X.w) X.A (eval a X.env) (fun v s₁ => wpAny (model X.prog X.w) X.A (eval b X.env) (fun u s₂ => wpAny (model X.prog X.w) X.A (compareOp op v u) (EP X pins σ Q) X.xe s₂) X.xe s₁) X.xe s
def tB (t : TE) : TT := fun σ H Q => t σ H fun x H1 => ∃ c, x = .bl c ∧ Q c H1
theorem pt_cmp {op : CmpOp} {t : TE} (h : PC X op a b t) (h1 : behindInMarks op b = false := by first | exact nobehind _ (by decide) (by decide) | rfl) : PT X (.Compare a [op] [b] pos) (tB t) := by
  intro pins s σ H Q I hw
  refine wpAny_isTrue_Compare1 (thn (h pins s σ H _ I hw) fun v s1 h1 => thn h1 fun u s2 h2 => thn h2 fun c s3 ⟨x, H1, I1, r1, q1⟩ => ?_) h1
  obtain ⟨d, rfl, q⟩ := q1
  cases r1
  exact wpAny_truthy_bool ⟨H1, I1, q⟩
variable {tA tB' : TT} {rest : List Expr}
def tAnd (t u : TT) : TT := fun σ H Q => t σ H fun c H1 => if c = true then u σ H1 Q else Q false H1
def tOr (t u : TT) : TT := fun σ H Q => t σ H fun c H1 => if c = true then Q true H1 else u σ H1 Q
def tNot (t : TT) : TT := fun σ H Q => t σ H fun c H1 => Q (!c) H1
theorem pw_and1 (ha : PT X a tA) : PW X (.BoolOp .And [a] pos) tA := by
  intro wh pins s σ H Q I h
  refine isTrue_and (thn (ha pins s σ H Q I h) fun c s1 e => ?_)
  cases c with
  | true => exact isTrue_and_nil e
  | false => exact e
theorem pw_or1 (ha : PT X a tA) : PW X (.BoolOp .Or [a] pos) tA := by
  intro wh pins s σ H Q I h
  refine isTrue_or (thn (ha pins s σ H Q I h) fun c s1 e => ?_)
  cases c with
  | false => exact isTrue_or_nil e
  | true => exact e
theorem pw_and (ha : PT X a tA) (hb : PW X (.BoolOp .And (b :: rest) pos) tB') : PW X (.BoolOp .And (a :: b :: rest) pos) (tAnd tA tB') := by
  intro wh pins s σ H Q I h
  refine isTrue_and (thn (ha pins s σ H _ I h) fun c s1 ⟨H1, I1, q1⟩ => ?_)
  cases c with
  | true => exact hb wh pins s1 σ H1 Q I1 q1
  | false => exact ⟨H1, I1, q1⟩
theorem pw_or (ha : PT X a tA) (hb : PW X (.BoolOp .Or (b :: rest) pos) tB') : PW X (.BoolOp .Or (a :: b :: rest) pos) (tOr tA tB') := by
  intro wh pins s σ H Q I h
  refine isTrue_or (thn (ha pins s σ H _ I h) fun c s1 ⟨H1, I1, q1⟩ => ?_)
  cases c with
  | true => exact ⟨H1, I1, q1⟩
  | false => exact hb wh pins s1 σ H1 Q I1 q1
theorem pt_not (ha : PT X a tA) : PT X (.UnaryOp .Not a pos) (tNot tA) := by
  intro pins s σ H Q I h
  exact isTrue_not (ha pins s σ H (fun c H1 => Q (!c) H1) I h)
def tAndV (ta tb : TE) : TE := fun σ H Q => ta σ H fun x H1 => ∃ c, x = .bl c ∧ if c = true then tb σ H1 Q else Q (.bl false) H1
theorem pe_one {op} {t : TE} (h : PE X a t) : PE X (.BoolOp op [a] pos) t := fun pins s σ H Q I hw => BoolOp_one (h pins s σ H Q I hw)
theorem pe_and (ha : PE X a ta) (hb : PE X (.BoolOp .And (b :: rest) pos) tb) : PE X (.BoolOp .And (a :: b :: rest) pos) (tAndV ta tb) := by
  intro pins s σ H Q I h
  refine BoolOp_and (thn (ha pins s σ H _ I h) fun v s1 ⟨x, H1, I1, r1, q1⟩ => ?_)
  obtain ⟨c, rfl, q1⟩ := q1
  cases r1
  refine wpAny_truthy_bool ?_
  cases c with
  | true => exact hb pins s1 σ H1 Q I1 q1
  | false => exact ⟨.bl false, H1, I1, rfl, q1⟩
end
end L2
namespace L2
open PySem PySem.Spec PyProof.Rows
def SqL (K : PySem.W.Frag) (H : Hp) (a : Addr) (xs : List V) : Prop :=
  Rd H a (.lst xs) ∨
    ∃ (o : Obj) (its : Array Value) (n : Nat), K.lookup a = some o ∧ o.cls = .type "list" ∧ o.dict = none ∧ o.data = .seq its n ∧ its.size ≤ sizeLine ∧ Vals xs its.toList
def SqT (K : PySem.W.Frag) (H : Hp) (a : Addr) (xs : List V) : Prop :=
  Rd H a (.tup xs) ∨
    ∃ (o : Obj) (its : Array Value) (n : Nat), K.lookup a = some o ∧ o.cls = .type "tuple" ∧ o.data = .seq its n ∧ its.size ≤ sizeLine ∧ Vals xs its.toList
def absV : Value → Option V
  | .none => some .non
  | .bool b => some (.bl b)
  | .int i _ => some (.int i)
  | .str x _ => some (.str x)
  | .bytes b _ => some (.byt b)
  | .float b _ => some (.flt b)
  | .ref a => some (.ref a)
  | .type n => some (.ty n)
  | _ => none
theorem RelV.abs {x : V} {u : Value} (r : RelV x u) : absV u = some x := by
  cases x with
  | non => cases r; rfl
  | bl _ => cases r; rfl
  | int _ => obtain ⟨t, rfl⟩ := r; rfl
  | str _ => obtain ⟨t, rfl⟩ := r; rfl
  | byt _ => obtain ⟨t, rfl⟩ := r; rfl
  | flt _ => obtain ⟨t, rfl⟩ := r; rfl
  | ref _ => cases r; rfl
  | ty _ => cases r; rfl
theorem RelV.inj {x y : V} {u : Value} (r : RelV x u) (q : RelV y u) : x = y := Option.some.inj (r.abs.symm.trans q.abs)
theorem Vals.inj : ∀ {xs ys : List V} {us : List Value}, Vals xs us → Vals ys us → xs = ys
  | _, _, _, .nil, .nil => rfl
  | _, _, _, .cons r t, .cons r' t' => by rw [r.inj r', Vals.inj t t']
section
variable {X : Cx} {pins : List (Addr × Obj)} {σ : St} {H : Hp} {s : Shared} {a : Addr} {xs ys : List V}
theorem SqL.of {K : PySem.W.Frag} (h : H a = some (.lst xs)) : SqL K H a xs := .inl (.inl h)
theorem SqT.of {K : PySem.W.Frag} (h : H a = some (.tup xs)) : SqT K H a xs := .inl (.inl h)
theorem Inv.list (I : Inv X pins σ H s) (h : SqL X.K H a xs) : ∃ its : List Value, Vals xs its ∧ PlainL s.heap a its.toArray ∧ xs.length ≤ sizeLine := by
  rcases h with h | ⟨o, its, n, hk, hc, hd, hs, hz, r⟩
  · obtain ⟨z, its, n, r, e⟩ := h.ok I.hok
    exact ⟨its, r, ⟨_, n, e, rfl, rfl, rfl⟩, z⟩
  · refine ⟨its.toList, r, ⟨o, n, I.kIn a o hk, hc, hd, by simpa using hs⟩, ?_⟩
    have e := r.length
    simp only [Array.length_toList] at e
    omega
theorem Inv.tuple (I : Inv X pins σ H s) (h : SqT X.K H a xs) : ∃ its : List Value, Vals xs its ∧ IsTup s.heap a its.toArray ∧ xs.length ≤ sizeLine := by
  rcases h with h | ⟨o, its, n, hk, hc, hs, hz, r⟩
  · obtain ⟨z, its, r, p⟩ := h.ok I.hok
    exact ⟨its, r, p, z⟩
  · refine ⟨its.toList, r, ⟨o, I.kIn a o hk, hc, n, by simpa using hs⟩, ?_⟩
    have e := r.length
    simp only [Array.length_toList] at e
    omega
theorem Inv.list_inj (I : Inv X pins σ H s) (h : SqL X.K H a xs) (h' : SqL X.K H a ys) : xs = ys := by
  obtain ⟨its, r, ⟨o, n, e, _, _, d⟩, _⟩ := I.list h
  obtain ⟨its', r', ⟨o', n', e', _, _, d'⟩, _⟩ := I.list h'
  rw [e] at e'; cases e'
  rw [d] at d'
  injection d' with d1 _
  have : its = its' := by simpa using congrArg Array.toList d1
  subst this
  exact r.inj r'
theorem Inv.tuple_inj (I : Inv X pins σ H s) (h : SqT X.K H a xs) (h' : SqT X.K H a ys) : xs = ys := by
  obtain ⟨its, r, ⟨o, e, _, n, d⟩, _⟩ := I.tuple h
  obtain ⟨its', r', ⟨o', e', _, n', d'⟩, _⟩ := I.tuple h'
  rw [e] at e'; cases e'
  rw [d] at d'
  injection d' with d1 _
  have : its = its' := by simpa using congrArg Array.toList d1
  subst this
  exact r.inj r'
end
abbrev Cx.wish (X : Cx) (E : Value → Shared → Prop) : Cx := { X with xe := E }
abbrev Cx.nox (X : Cx) : Cx := X.wish fun _ _ => False
theorem Cx.Ok.wish {X : Cx} (ok : X.Ok) (E : Value → Shared → Prop) : (X.wish E).Ok :=
  ⟨ok.mod, ok.kind, ok.glob, ok.blt, ok.above, ok.inj, ok.has, ok.cab, ok.hd, ok.frames, ok.stk, ok.exf, ok.bs, ok.bsz, ok.noex, ok.exfs, ok.funs, ok.frf⟩
theorem Cx.Ok.unwish {X : Cx} {E : Value → Shared → Prop} (ok : (X.wish E).Ok) : X.Ok :=
  ⟨ok.mod, ok.kind, ok.glob, ok.blt, ok.above, ok.inj, ok.has, ok.cab, ok.hd, ok.frames, ok.stk, ok.exf, ok.bs, ok.bsz, ok.noex, ok.exfs, ok.funs, ok.frf⟩
section
variable {X : Cx} {pins : List (Addr × Obj)} {σ : St} {H : Hp} {s : Shared} {E : Value → Shared → Prop}
theorem Inv.wish (I : Inv X pins σ H s) (E : Value → Shared → Prop) : Inv (X.wish E) pins σ H s := ⟨I.ok.wish E, I.os, I.bare, I.base, I.loc, I.cell, I.free, I.freeC, I.pin, I.hok, I.len⟩
theorem Inv.unwish (I : Inv (X.wish E) pins σ H s) : Inv X pins σ H s := ⟨I.ok.unwish, I.os, I.bare, I.base, I.loc, I.cell, I.free, I.freeC, I.pin, I.hok, I.len⟩
theorem SP.unwish {D : Ends} {f : Flow} {s' : Shared} (h : SP (X.wish E) pins D f s') : SP X pins D f s' := by
  cases f with
  | next => obtain ⟨σ', H', I, q⟩ := h; exact ⟨σ', H', I.unwish, q⟩
  | brk => obtain ⟨σ', H', I, q⟩ := h; exact ⟨σ', H', I.unwish, q⟩
  | cont => obtain ⟨σ', H', I, q⟩ := h; exact ⟨σ', H', I.unwish, q⟩
  | ret u => obtain ⟨v, σ', H', I, r, q⟩ := h; exact ⟨v, σ', H', I.unwish, r, q⟩
theorem PSs.nox {st : List Stmt} {t : TS} (h : PSs X.nox st t) : PSs X st t := fun pins s σ H D I hw =>
  wpAny_mono (h pins s σ H D (I.wish _) hw) (fun _ _ q => q.unwish) fun _ _ z => False.elim z
end
section
variable {X : Cx} {st : Stmt} {rest : List Stmt} {t u : TS} {e : Expr} {te : TE} {pos : Pos}
def tNext : TS := fun D σ H => D.nx σ H
def tSeq (t u : TS) : TS := fun D σ H => t { D with nx := u D } σ H
theorem pss_nil : PSs X [] tNext := fun _ _ σ H _ I h => wpAny_execs_nil ⟨σ, H, I, h⟩
theorem pss_cons (h1 : PS X st t) (h2 : PSs X rest u) : PSs X (st :: rest) (tSeq t u) := by
  intro pins s σ H D I h
  refine wpAny_execs_cons (thn (h1 pins s σ H { D with nx := u D } I h) fun f s1 q => ?_)
  cases f with
  | next =>
    obtain ⟨σ', H', I', q⟩ := q
    exact h2 pins s1 σ' H' D I' q
  | ret v => exact q
  | brk => exact q
  | cont => exact q
theorem pss_one (h1 : PS X st t) : PSs X [st] t := by
  intro pins s σ H D I h
  refine wpAny_execs_cons (thn (h1 pins s σ H D I h) fun f s1 q => ?_)
  cases f with
  | next => exact wpAny_execs_nil q
  | ret v => exact q
  | brk => exact q
  | cont => exact q
theorem Inv.quiet {pins : List (Addr × Obj)} {σ : St} {H : Hp} {s : Shared} (I : Inv X pins σ H s) : interactive X.env = false := by simp [interactive, I.ok.kind]
def tDrop (te : TE) : TS := fun D σ H => te σ H fun _ H1 => D.nx σ H1
theorem ps_expr (he : PE X e te) (hs : swapsWith e none pos.line X.env = pure false := by rfl) : PS X (.Expr e pos) (tDrop te) := by
  intro pins s σ H D I h
  exact wpAny_Expr_any (thn (he pins s σ H _ I h) fun v s1 ⟨x, H1, I1, r1, q1⟩ => ⟨σ, H1, I1, q1⟩) I.quiet hs
def tRet (te : TE) : TS := fun D σ H => te σ H D.rt
theorem ps_ret (he : PE X e te) : PS X (.Return (some e) pos) (tRet te) := by
  intro pins s σ H D I h
  exact wpAny_Return_some (thn (he pins s σ H _ I h) fun v s1 ⟨x, H1, I1, r1, q1⟩ => ⟨x, σ, H1, I1, r1, q1⟩)
def tIfS (c : TT) (t u : TS) : TS := fun D σ H => c σ H fun b H1 => if b = true then t D σ H1 else u D σ H1
theorem ps_if {c : Expr} {a b : List Stmt} {tc : TT} (hc : PT X c tc) (ha : PSs X a t) (hb : PSs X b u) : PS X (.If c a b pos) (tIfS tc t u) := by
  intro pins s σ H D I h
  refine wpAny_If (thn (hc pins s σ H _ I h) fun d s1 ⟨H1, I1, q1⟩ => ?_)
  cases d with
  | true => exact ha pins s1 σ H1 D I1 q1
  | false => exact hb pins s1 σ H1 D I1 q1
end
abbrev TG := V → St → Hp → (St → Hp → Prop) → Prop
abbrev TGs := List V → St → Hp → (St → Hp → Prop) → Prop
def PG (X : Cx) (target : Expr) (t : TG) : Prop :=
  ∀ (pins : List (Addr × Obj)) (s : Shared) (σ : St) (H : Hp) (v : V) (u : Value) (Q : St → Hp → Prop), Inv X pins σ H s → RelV v u → t v σ H Q →
    wpAny (model X.prog X.w) X.A (assign target X.env u) (fun _ s' => ∃ σ' H', Inv X pins σ' H' s' ∧ Q σ' H') X.xe s
def PGs (X : Cx) (ts : List Expr) (t : TGs) : Prop :=
  ∀ (pins : List (Addr × Obj)) (s : Shared) (σ : St) (H : Hp) (vs : List V) (us : List Value) (Q : St → Hp → Prop), Inv X pins σ H s → Vals vs us → t vs σ H Q →
    wpAny (model X.prog X.w) X.A (assignInOrder ((assignEach ts X.env).map (·.2)) us) (fun _ s' => ∃ σ' H', Inv X pins σ' H' s' ∧ Q σ' H') X.xe s
section
variable {X : Cx} {pos : Pos}
def gName (i : Nat) : TG := fun v σ H Q => Q (σ.set i (some v)) H
theorem pg_name {i : Nat} {x : Str} (hN : X.N.Nodup) (hi : X.N[i]? = some x) (hx : Loc X.env.scope x) (hf : X.fn x = true ∨ X.env.scope.names.lookup x = some .local := by first | exact .inl rfl | exact .inr rfl | assumption) : PG X (.Name x pos) (gName i) := by
  intro pins s σ H v u Q I r h
  exact wpAny_assign_Name (store_ok I hN hi hx r (fun s' I' => ⟨_, H, I', h⟩) hf)
def gNil : TGs := fun vs σ H Q => vs = [] ∧ Q σ H
def gCons (t : TG) (u : TGs) : TGs := fun vs σ H Q => ∃ v r, vs = v :: r ∧ t v σ H fun σ' H' => u r σ' H' Q
theorem pgs_nil : PGs X [] gNil := by
  intro pins s σ H vs us Q I r h
  obtain ⟨e, h⟩ := h
  subst e
  cases r
  exact assignInOrder_nil ⟨σ, H, I, h⟩
theorem pgs_cons {e : Expr} {es : List Expr} {t : TG} {u : TGs} (h1 : PG X e t) (h2 : PGs X es u)
    (hs : (assignEach (e :: es) X.env).map (·.2) = assign e X.env :: (assignEach es X.env).map (·.2) := by rfl) : PGs X (e :: es) (gCons t u) := by
  intro pins s σ H vs us Q I r h
  obtain ⟨v, vr, e1, h⟩ := h
  subst e1
  cases r with
  | cons r rr =>
    rw [hs]
    refine assignInOrder_cons (thn (h1 pins s σ H _ _ _ I r h) fun _ s1 ⟨σ1, H1, I1, q1⟩ => ?_)
    exact h2 pins s1 σ1 H1 _ _ Q I1 rr q1
def gTup (K : PySem.W.Frag) (n : Nat) (t : TGs) : TG := fun v σ H Q => ∃ a xs, v = .ref a ∧ SqT K H a xs ∧ xs.length = n ∧ t xs σ H Q
theorem pg_tup {es : List Expr} {k : Nat} {t : TGs} {n : Nat} (hc : X.calm = true) (h : PGs X es t)
    (hn : (assignEach es X.env).length = n := by rfl) (hst : (assignEach es X.env).findIdx? (·.1) = none := by rfl) : PG X (.Tuple es k pos) (gTup X.K n t) := by
  intro pins s σ H v u Q I r hw
  obtain ⟨a, xs, e1, hq, hl, hw⟩ := hw
  subst e1
  cases r
  obtain ⟨its, rv, ht, hz⟩ := I.tuple hq
  refine assign_Tuple_tuple (I.ok.hd hc) ht (by simp [hn, ← hl, rv.length]) hst fun h' hx => ?_
  have I1 : Inv X pins σ H { s with heap := h' } := I.kept (t' := s.toks) fun b o e => hx b o (Nat.ne_of_lt (Heap.lt_size e)) e
  exact h pins _ σ H xs _ Q I1 (by simpa using rv) hw
def tAsg (te : TE) (g : TG) : TS := fun D σ H => te σ H fun x H1 => g x σ H1 D.nx
theorem ps_asg {tg e : Expr} {te : TE} {g : TG} (he : PE X e te) (hg : PG X tg g) (hs : swapsWithSole [tg] e pos.line X.env = pure false := by rfl) (hw : swappedStores [tg] e X.env = pure none := by rfl)
    (h1 : (assignEach [tg] X.env).map (·.2) = [assign tg X.env] := by rfl) : PS X (.Assign [tg] e pos) (tAsg te g) := by
  intro pins s σ H D I h
  refine wpAny_Assign_stores (thn (he pins s σ H _ I h) fun v s1 ⟨x, H1, I1, r1, q1⟩ => ?_) hs hw
  rw [h1]
  exact thn (hg pins s1 σ H1 x v _ I1 r1 q1) fun _ s2 q => q
theorem ps_set {i : Nat} {x : Str} {e : Expr} {te : TE} {pos' : Pos} (hN : X.N.Nodup) (hi : X.N[i]? = some x) (hx : Loc X.env.scope x) (he : PE X e te) (hs : swapsWith e (some (.Name x pos')) pos.line X.env = pure false := by rfl) (hf : X.fn x = true ∨ X.env.scope.names.lookup x = some .local := by first | exact .inl rfl | exact .inr rfl | assumption) :
    PS X (.Assign [.Name x pos'] e pos) (tAsg te (gName i)) := by
  intro pins s σ H D I h
  refine wpAny_Assign_Name (thn (he pins s σ H _ I h) fun v s1 ⟨y, H1, I1, r1, q1⟩ => ?_) hs
  exact store_ok I1 hN hi hx r1 (fun s2 I2 => ⟨_, H1, I2, q1⟩) hf
def tPar (i j : Nat) (ta : TA) : TS := fun D σ H => ta σ H fun vs H1 => ∃ v w, vs = [v, w] ∧ D.nx ((σ.set i (some v)).set j (some w)) H1
theorem ps_par {i j : Nat} {x y : Str} {a b : Expr} {ta : TA} {px py pt : Pos} {kt k2 pt2} (hc : X.calm = true) (hN : X.N.Nodup) (hi : X.N[i]? = some x) (hj : X.N[j]? = some y) (hij : i ≠ j)
    (hx : X.env.scope.names.lookup x = some .local) (hy : X.env.scope.names.lookup y = some .local) (ha : PA X [a, b] ta)
    (hw : swappedStores [.Tuple [.Name x px, .Name y py] kt pt] (.Tuple [a, b] k2 pt2) X.env = pure (some [x, y]))
    (hs : swapsWithSole [.Tuple [.Name x px, .Name y py] kt pt] (.Tuple [a, b] k2 pt2) pos.line X.env = pure false := by rfl) :
    PS X (.Assign [.Tuple [.Name x px, .Name y py] kt pt] (.Tuple [a, b] k2 pt2) pos) (tPar i j ta) := by
  intro pins s σ H D I h
  rw [exec_Assign_arm]
  refine wpAny_bind (wpAny_standAt ?_)
  rw [hs]
  refine wpAny_bind (wpAny_pure ?_)
  rw [if_neg (by decide)]
  refine wpAny_bind (Tuple_ (thn (ha _ pins s σ H _ I h) fun us s1 ⟨vs, H1, I1, r1, q1⟩ => ?_))
  obtain ⟨v, w, e1, q1⟩ := q1
  subst e1
  obtain ⟨u1, u2, rfl, rv, rw'⟩ : ∃ u1 u2, us = [u1, u2] ∧ RelV v u1 ∧ RelV w u2 := by
    cases r1 with
    | cons p q =>
      cases q with
      | cons p' q' =>
        cases q'
        exact ⟨_, _, rfl, p, p'⟩
  refine wpAny_newObj_type ?_ (by show 2 ≤ sizeLine; decide)
  have I2 : Inv X pins σ H1 { s1 with heap := s1.heap.push { cls := .type "tuple", data := .seq [u1, u2].toArray } } := I1.kept (t' := s1.toks) fun b o e => Heap.get?_push_of_some _ e
  rw [hw]
  refine wpAny_bind (wpAny_pure ?_)
  show wpAny (model X.prog X.w) X.A (do rule "assign.swapped-stores"; let items ← unpackItems (.ref s1.heap.objs.size) 2 none; assignInOrder [fun v => bindName X.env y v, fun v => bindName X.env x v] items.reverse; pure Flow.next) _ _ _
  refine wpAny_bind (wpAny_rule (wpAny_bind (unpackItems_tuple (items := #[u1, u2]) (I.ok.hd hc) (IsTup.new s1.heap _) fun h' hx' => ?_)))
  have I3 := I2.kept (h' := h') (t' := s1.toks) fun b o e => hx' b o (Nat.ne_of_lt (Heap.lt_size e)) e
  show wpAny _ _ (assignInOrder [fun v => bindName X.env y v, fun v => bindName X.env x v] [u2, u1] >>= fun _ => pure Flow.next) _ _ _
  refine wpAny_bind (assignInOrder_cons (wpAny_bindName (store_ok I3 hN hj (.inl hy) rw' (fun s2 I4 => ?_) (.inr hy))))
  refine assignInOrder_cons (wpAny_bindName (store_ok I4 hN hi (.inl hx) rv (fun s3 I5 => assignInOrder_nil (wpAny_pure ?_)) (.inr hx)))
  rw [List.set_comm _ _ (Ne.symm hij)] at I5
  exact ⟨_, H1, I5, q1⟩
end
section
variable {X : Cx} {pos : Pos}
def tWhile (c : TT) (tb : TS) : TS := fun D σ H => ∃ W : Nat → St → Hp → Prop, (∃ m, W m σ H) ∧ ∀ m σ H, W m σ H →
  c σ H fun b H1 => if b = true then ∃ N : St → Hp → Prop, (∀ σ' H', N σ' H' → ∃ m', m' < m ∧ W m' σ' H') ∧ tb { D with nx := N, ct := N, bk := D.nx } σ H1 else D.nx σ H1
theorem ps_while {c : Expr} {body : List Stmt} {tc : TT} {tb : TS} (hp : PassesOwn (model X.prog X.w) X.A X.env X.xe) (hc : PT X c tc) (hb : PSs X body tb) : PS X (.While c body [] pos) (tWhile tc tb) := by
  intro pins s σ H D I h
  obtain ⟨W, ⟨m0, w0⟩, turn⟩ := h
  refine wpAny_While (codeAny_whileLoop (fun n s' => ∃ σ' H', Inv X pins σ' H' s' ∧ W n σ' H') ?_ m0 ⟨σ, H, I, w0⟩)
  rintro n s1 ⟨σ1, H1, I1, w1⟩
  refine wpAny_passesOwn hp (thn (hc pins s1 σ1 H1 _ I1 (turn n σ1 H1 w1)) fun b s2 ⟨H2, I2, q2⟩ => ?_)
  cases b with
  | true =>
    obtain ⟨N, hN, q2⟩ := q2
    rw [if_pos rfl]
    refine wpAny_passesOwn hp (thn (hb pins s2 σ1 H2 _ I2 q2) fun f s3 q3 => ?_)
    cases f with
    | next =>
      obtain ⟨σ3, H3, I3, n3⟩ := q3
      obtain ⟨m', hm, w3⟩ := hN σ3 H3 n3
      exact ⟨m', hm, σ3, H3, I3, w3⟩
    | cont =>
      obtain ⟨σ3, H3, I3, n3⟩ := q3
      obtain ⟨m', hm, w3⟩ := hN σ3 H3 n3
      exact ⟨m', hm, σ3, H3, I3, w3⟩
    | brk => exact q3
    | ret v => exact q3
  | false =>
    rw [if_neg Bool.false_ne_true]
    exact wpAny_execs_nil ⟨σ1, H2, I2, q2⟩
end
structure It where
  go : Nat → Hp → Prop
  yld : Nat → Hp → V → Hp → Prop
  stop : Nat → Hp → Prop
def FpOk (X : Cx) (pins : List (Addr × Obj)) (H : Hp) (b : Addr) : Prop :=
  H b = none ∧ b ≠ X.env.locals ∧ b ∉ X.fs ∧ (b ∈ X.ex ∨ X.s₀.heap.objs.size ≤ b) ∧ (∀ x c, X.env.cells.lookup x = some c → c ≠ b) ∧ ∀ p ∈ X.pn ++ pins, p.1 ≠ b
theorem Inv.fpOk {X : Cx} {pins : List (Addr × Obj)} {σ : St} {H H' : Hp} {s : Shared} {b : Addr} (I : Inv X pins σ H s) (hb : s.heap.objs.size ≤ b) (hn : H' b = none) : FpOk X pins H' b := by
  refine ⟨hn, Nat.ne_of_gt (Nat.lt_of_lt_of_le I.lt hb), I.nofs hb, .inr (Nat.le_trans I.sz hb), fun x c e z => ?_, fun p hp z => ?_⟩
  · obtain ⟨v, q⟩ := I.cell x c e
    exact absurd (Nat.lt_of_lt_of_le q.lt (by rw [z]; exact hb)) (Nat.lt_irrefl _)
  · exact absurd (Nat.lt_of_lt_of_le (Heap.lt_size (I.pin p hp).1) (by rw [z]; exact hb)) (Nat.lt_irrefl _)
structure Turn (P : Program) (w : World) (K : PySem.W.Frag) (tg : Expr) (J : It) (fp : List Addr) (it : Addr) (tn : Nat → Heap → Prop) : Prop where
  mem : it ∈ fp
  obj : ∀ i h, tn i h → ∀ b ∈ fp, ∃ o, h.get? b = some o ∧ ∀ v, o.data ≠ .cell v
  keep : ∀ i h h', tn i h → (∀ b ∈ fp, ∀ o, h.get? b = some o → h'.get? b = some o) → tn i h'
  item : ∀ (X : Cx), X.prog = P → X.w = w → X.K = K → X.calm = true → ∀ (i : Nat) (pins : List (Addr × Obj)) (s : Shared) (σ : St) (H : Hp) (E : Value → Shared → Prop), Inv X pins σ H s → (∀ b ∈ fp, FpOk X pins H b) → tn i s.heap → J.go i H →
    wpAny (model P w) X.A (pyNext (.ref it)) (fun r s1 => ∃ u, r = some u ∧
      wpAny (model P w) X.A (letOwnedTupleGo tg (.ref it) u) (fun _ s2 => ∃ x H', Inv X pins σ H' s2 ∧ RelV x u ∧ J.yld i H x H' ∧ tn (i + 1) s2.heap ∧ ∀ b ∈ fp, H' b = none) E s1) E s
  done : ∀ (X : Cx), X.prog = P → X.w = w → X.K = K → X.calm = true → ∀ (i : Nat) (pins : List (Addr × Obj)) (s : Shared) (σ : St) (H : Hp) (E : Value → Shared → Prop), Inv X pins σ H s → (∀ b ∈ fp, FpOk X pins H b) → tn i s.heap → J.stop i H →
    wpAny (model P w) X.A (pyNext (.ref it)) (fun r s1 => r = none ∧ Inv X pins σ H s1) E s
  self : ∀ (A : Around) (i : Nat) (s : Shared) (Q : Value → Shared → Prop) (E : Value → Shared → Prop), tn i s.heap → Q (.ref it) s → wpAny (model P w) A (pyIter (.ref it)) Q E s
abbrev TI := St → Hp → (It → Hp → Prop) → Prop
def PIE (X : Cx) (pins : List (Addr × Obj)) (σ : St) (tg : Expr) (R : It → Hp → Prop) (itv : Value) (s2 : Shared) : Prop :=
  ∃ (it : Addr) (fp : List Addr) (tn : Nat → Heap → Prop) (J : It) (H' : Hp), itv = .ref it ∧ Inv X pins σ H' s2 ∧ Turn X.prog X.w X.K tg J fp it tn ∧ tn 0 s2.heap ∧ (∀ b ∈ fp, FpOk X pins H' b) ∧ R J H'
def PI (X : Cx) (tg iter : Expr) (wi : TI) : Prop :=
  ∀ (pins : List (Addr × Obj)) (s : Shared) (σ : St) (H : Hp) (R : It → Hp → Prop), Inv X pins σ H s → wi σ H R →
    wpAny (model X.prog X.w) X.A (eval iter X.env) (fun v s1 => wpAny (model X.prog X.w) X.A (pyIter v) (PIE X pins σ tg R) X.xe s1) X.xe s
theorem go_of {M : Model} {A : Around} {E : Value → Shared → Prop} {s : Shared} {tg : Expr} {it : Addr} {u : Value} {o : Obj} {n : String} {vs : Array Value} {Q : Unit → Shared → Prop} (ho : s.heap.get? it = some o) (hc : o.cls = .type n) (hd : o.data = .fields vs)
    (hn : ["enumerate", "zip", "dict_itemiterator", "dict_reverseitemiterator", "odict_iterator", "itertools.zip_longest", "itertools.pairwise"].contains n = false) (hQ : Q () s) : wpAny M A (letOwnedTupleGo tg (.ref it) u) Q E s := by
  unfold letOwnedTupleGo
  cases tg <;> first
    | exact wpAny_pure hQ
    | (cases u <;> first
        | exact wpAny_pure hQ
        | (refine wpAny_bind (wpAny_load ho ?_)
           rw [hc, hd]
           show wpAny M A (if (["enumerate", "zip", "dict_itemiterator", "dict_reverseitemiterator", "odict_iterator", "itertools.zip_longest", "itertools.pairwise"].contains n && vs[0]? == some (rawInt _)) = true then _ else _) Q E s
           rw [if_neg (by intro h; rw [hn, Bool.false_and] at h; cases h)]
           exact wpAny_pure hQ))
def Itl (K : PySem.W.Frag) (a : Addr) : It :=
  ⟨fun i H => ∃ xs x, SqL K H a xs ∧ xs[i]? = some x, fun i H x H' => H' = H ∧ ∀ xs, SqL K H a xs → xs[i]? = some x, fun i H => ∃ xs, SqL K H a xs ∧ xs.length ≤ i⟩
def Itt (K : PySem.W.Frag) (a : Addr) : It :=
  ⟨fun i H => ∃ xs x, SqT K H a xs ∧ xs[i]? = some x, fun i H x H' => H' = H ∧ ∀ xs, SqT K H a xs → xs[i]? = some x, fun i H => ∃ xs, SqT K H a xs ∧ xs.length ≤ i⟩
def Itr (lo : Int) (n : Nat) : It := ⟨fun i _ => i < n, fun i H x H' => H' = H ∧ x = .int (lo + i), fun i _ => n ≤ i⟩
theorem turn_list {P : Program} {w : World} {K : PySem.W.Frag} {tg : Expr} (a it : Addr) : Turn P w K tg (Itl K a) [it] it (fun i h => h.IsListIter it a i) where
  mem := by simp
  obj := fun i h st b hb => by
    have e : b = it := by simpa using hb
    subst e
    obtain ⟨o, e, c, d⟩ := st
    exact ⟨o, e, fun v z => by rw [d] at z; cases z⟩
  keep := fun i h h' st k => st.at fun o e => k it (by simp) o e
  item := by
    intro X hP hw hK hc i pins s σ H E I hf st hg
    subst hP hw hK
    obtain ⟨xs, x, hq, hx⟩ := hg
    obtain ⟨its, rv, p, hz⟩ := I.list hq
    obtain ⟨u, hu, ru⟩ := rv.get hx
    obtain ⟨f0, f1, f2, f3, f4, f5⟩ := hf it (by simp)
    refine wpAny_pyNext_list_item st p.isList (x := u) (by simpa using hu) fun h' st' sb => ?_
    have I1 : Inv X pins σ H { s with heap := h' } := I.turned (t' := s.toks) (fun b o hb e => (sb.2 b hb).trans e) f0 f1 f3 f4 f5
    obtain ⟨o, e, c, d⟩ := id st'
    exact ⟨u, rfl, go_of (s := { s with heap := h' }) e c d (by decide) ⟨x, H, I1, ru, ⟨rfl, fun ys hy => by rw [I.list_inj hy hq]; exact hx⟩, st', fun b hb => (hf b hb).1⟩⟩
  done := by
    intro X hP hw hK hc i pins s σ H E I hf st hg
    subst hP hw hK
    obtain ⟨xs, hq, hx⟩ := hg
    obtain ⟨its, rv, p, hz⟩ := I.list hq
    obtain ⟨f0, f1, f2, f3, f4, f5⟩ := hf it (by simp)
    have hl := rv.length
    exact wpAny_pyNext_list_end (I.ok.hd hc) st p.isList (by simp; omega) fun h' eb => ⟨rfl, I.turned (t' := s.toks) (fun b o hb e => eb b o hb e) f0 f1 f3 f4 f5⟩
  self := fun _ _ _ _ _ st h => wpAny_pyIter_listiter st h
theorem turn_tuple {P : Program} {w : World} {K : PySem.W.Frag} {tg : Expr} (a it : Addr) : Turn P w K tg (Itt K a) [it] it (fun i h => h.IsTupleIter it a i) where
  mem := by simp
  obj := fun i h st b hb => by
    have e : b = it := by simpa using hb
    subst e
    obtain ⟨o, e, c, d⟩ := st
    exact ⟨o, e, fun v z => by rw [d] at z; cases z⟩
  keep := fun i h h' st k => st.at fun o e => k it (by simp) o e
  item := by
    intro X hP hw hK hc i pins s σ H E I hf st hg
    subst hP hw hK
    obtain ⟨xs, x, hq, hx⟩ := hg
    obtain ⟨its, rv, p, hz⟩ := I.tuple hq
    obtain ⟨u, hu, ru⟩ := rv.get hx
    obtain ⟨f0, f1, f2, f3, f4, f5⟩ := hf it (by simp)
    refine wpAny_pyNext_tuple_item st (show s.heap.IsTuple a its.toArray from p) (x := u) (by simpa using hu) fun h' st' sb => ?_
    have I1 : Inv X pins σ H { s with heap := h' } := I.turned (t' := s.toks) (fun b o hb e => (sb.2 b hb).trans e) f0 f1 f3 f4 f5
    obtain ⟨o, e, c, d⟩ := id st'
    exact ⟨u, rfl, go_of (s := { s with heap := h' }) e c d (by decide) ⟨x, H, I1, ru, ⟨rfl, fun ys hy => by rw [I.tuple_inj hy hq]; exact hx⟩, st', fun b hb => (hf b hb).1⟩⟩
  done := by
    intro X hP hw hK hc i pins s σ H E I hf st hg
    subst hP hw hK
    obtain ⟨xs, hq, hx⟩ := hg
    obtain ⟨its, rv, p, hz⟩ := I.tuple hq
    obtain ⟨f0, f1, f2, f3, f4, f5⟩ := hf it (by simp)
    have hl := rv.length
    exact wpAny_pyNext_tuple_end (I.ok.hd hc) st (show s.heap.IsTuple a its.toArray from p) (by simp; omega) fun h' eb => ⟨rfl, I.turned (t' := s.toks) (fun b o hb e => eb b o hb e) f0 f1 f3 f4 f5⟩
  self := fun _ _ _ _ _ st h => wpAny_pyIter_tupleiter st h
theorem turn_range {P : Program} {w : World} {K : PySem.W.Frag} {tg : Expr} (it : Addr) (lo : Int) (n : Nat) : Turn P w K tg (Itr lo n) [it] it (fun i h => IsRangeIter h it (lo + (i : Nat) * 1) ((n : Int) - (i : Nat)) 1) where
  mem := by simp
  obj := fun i h st b hb => by
    have e : b = it := by simpa using hb
    subst e
    exact ⟨_, st, fun v z => by
      have z' : Data.fields _ = Data.cell v := z
      cases z'⟩
  keep := fun i h h' st k => k it (by simp) _ st
  item := by
    intro X hP hw hK hc i pins s σ H E I hf st hg
    subst hP hw hK
    obtain ⟨f0, f1, f2, f3, f4, f5⟩ := hf it (by simp)
    have W := Walks.range (prog := X.prog) (w := X.w) (I.ok.hd hc) it lo 1 n
    refine W.item i s _ _ hg st fun v h' tk hv st' kk => ?_
    obtain ⟨t, rfl⟩ := hv
    have I1 : Inv X pins σ H { s with heap := h', toks := tk } := I.turned (fun b o hb e => kk b o (by simpa using hb) e) f0 f1 f3 f4 f5
    refine ⟨_, rfl, go_of (s := { s with heap := h', toks := tk }) (n := "range_iterator") st' rfl rfl (by decide) ⟨.int (lo + i), H, I1, ⟨t, ?_⟩, ⟨rfl, rfl⟩, st', fun b hb => (hf b hb).1⟩⟩
    rw [Int.mul_one]
  done := by
    intro X hP hw hK hc i pins s σ H E I hf st hg
    subst hP hw hK
    obtain ⟨f0, f1, f2, f3, f4, f5⟩ := hf it (by simp)
    exact wpAny_pyNext_range_end (I.ok.hd hc) st (by have : n ≤ i := hg; omega) fun h' eb => ⟨rfl, I.turned (t' := s.toks) (fun b o hb e => eb b o hb e) f0 f1 f3 f4 f5⟩
  self := fun _ _ _ _ _ st h => wpAny_pyIter_rangeiter st h
end L2
namespace L2
open PySem PySem.Spec PyProof.Rows
section
variable {X : Cx} {tg : Expr}
def iList (K : PySem.W.Frag) (tl : TE) : TI := fun σ H R => tl σ H fun x H1 => ∃ a, x = .ref a ∧ (∃ xs, SqL K H1 a xs) ∧ R (Itl K a) H1
def iTup (K : PySem.W.Frag) (tl : TE) : TI := fun σ H R => tl σ H fun x H1 => ∃ a, x = .ref a ∧ (∃ xs, SqT K H1 a xs) ∧ R (Itt K a) H1
theorem pi_list {l : Expr} {tl : TE} (hl : PE X l tl) : PI X tg l (iList X.K tl) := by
  intro pins s σ H R I h
  refine thn (hl pins s σ H _ I h) fun v s1 ⟨x, H1, I1, r1, q1⟩ => ?_
  obtain ⟨a, e, ⟨xs, hq⟩, q⟩ := q1
  subst e
  cases r1
  obtain ⟨its, rv, p, hz⟩ := I1.list hq
  refine wpAny_pyIter_list p.isList ?_
  refine ⟨s1.heap.objs.size, [s1.heap.objs.size], _, _, H1, rfl, I1.kept (t' := s1.toks) fun b o e => Heap.get?_push_of_some _ e, turn_list a _, ⟨_, Heap.get?_push_size _ rfl, rfl, rfl⟩, fun b hb => ?_, q⟩
  have e : b = s1.heap.objs.size := by simpa using hb
  subst e
  exact I1.fpOk (Nat.le_refl _) (I1.hok.fresh (Nat.le_refl _))
theorem pi_tup {l : Expr} {tl : TE} (hl : PE X l tl) : PI X tg l (iTup X.K tl) := by
  intro pins s σ H R I h
  refine thn (hl pins s σ H _ I h) fun v s1 ⟨x, H1, I1, r1, q1⟩ => ?_
  obtain ⟨a, e, ⟨xs, hq⟩, q⟩ := q1
  subst e
  cases r1
  obtain ⟨its, rv, p, hz⟩ := I1.tuple hq
  refine wpAny_pyIter_tuple (show s1.heap.IsTuple a its.toArray from p) ?_
  refine ⟨s1.heap.objs.size, [s1.heap.objs.size], _, _, H1, rfl, I1.kept (t' := s1.toks) fun b o e => Heap.get?_push_of_some _ e, turn_tuple a _, ⟨_, Heap.get?_push_size _ rfl, rfl, rfl⟩, fun b hb => ?_, q⟩
  have e : b = s1.heap.objs.size := by simpa using hb
  subst e
  exact I1.fpOk (Nat.le_refl _) (I1.hok.fresh (Nat.le_refl _))
theorem range_it {pins : List (Addr × Obj)} {σ : St} {H : Hp} {s : Shared} {R : It → Hp → Prop} {E : Value → Shared → Prop} {lo hi : Int} {t u v : Tok} {tk : Nat} (I : Inv X pins σ H s) (h1 : -(2 ^ 62) ≤ lo) (h2 : lo < 2 ^ 62) (h3 : -(2 ^ 62) ≤ hi) (h4 : hi < 2 ^ 62)
    (q : R (Itr lo (hi - lo).toNat) H) : wpAny (model X.prog X.w) X.A (pyIter (.ref s.heap.objs.size)) (PIE X pins σ tg R) E { s with heap := s.heap.push { cls := .type "range", data := .fields #[.int lo t, .int hi u, .int 1 v] }, toks := tk } := by
  refine wpAny_pyIter_range (IsRange.new ..) (small_one h1 h2 h3 h4) ?_
  have I1 : Inv X pins σ H { s with heap := s.heap.push { cls := .type "range", data := .fields #[.int lo t, .int hi u, .int 1 v] }, toks := tk } := I.kept fun b o e => Heap.get?_push_of_some _ e
  refine ⟨(s.heap.push { cls := .type "range", data := .fields #[.int lo t, .int hi u, .int 1 v] }).objs.size, [(s.heap.push { cls := .type "range", data := .fields #[.int lo t, .int hi u, .int 1 v] }).objs.size], _, _, H, rfl,
    I1.kept (t' := tk) fun b o e => Heap.get?_push_of_some _ e, turn_range _ lo (hi - lo).toNat, ?_, fun b hb => ?_, q⟩
  · have e1 : lo + ((0 : Nat) : Int) * 1 = lo := by simp
    have e2 : (((hi - lo).toNat : Nat) : Int) - ((0 : Nat) : Int) = Builtin.Range.rangeSize lo hi 1 := by rw [rangeSize_one]; split <;> omega
    show IsRangeIter _ _ (lo + ((0 : Nat) : Int) * 1) ((((hi - lo).toNat : Nat) : Int) - ((0 : Nat) : Int)) 1
    rw [e1, e2]
    exact Heap.get?_push_size _ rfl
  · have e : b = (s.heap.push { cls := .type "range", data := .fields #[.int lo t, .int hi u, .int 1 v] }).objs.size := by simpa using hb
    subst e
    exact I1.fpOk (Nat.le_refl _) (I1.hok.fresh (Nat.le_refl _))
def iRng1 (ta : TA) : TI := fun σ H R => ta σ H fun vs H1 => ∃ j : Int, vs = [.int j] ∧ -(2 ^ 62) ≤ j ∧ j < 2 ^ 62 ∧ R (Itr 0 j.toNat) H1
def iRng2 (ta : TA) : TI := fun σ H R => ta σ H fun vs H1 => ∃ i j : Int, vs = [.int i, .int j] ∧ (-(2 ^ 62) ≤ i ∧ i < 2 ^ 62 ∧ -(2 ^ 62) ≤ j ∧ j < 2 ^ 62) ∧ R (Itr i (j - i).toNat) H1
theorem pi_range1 {a : Expr} {ta : TA} {p pos : Pos} (hg : Gl X "range") (hm : X.mg "range" = none) (ha : PA X [a] ta) (hs : starEach [a] X.env = [(false, eval a X.env)] := by rfl) : PI X tg (.Call (.Name "range" p) [a] [] pos) (iRng1 ta) := by
  intro pins s σ H R I h
  refine Call_ (ld_blt I hg hm boot_range (PyProof.Rows.callWith_type1 (thn (ha pos pins s σ H _ I h) fun us s1 ⟨vs, H1, I1, r1, q1⟩ => ?_) hs rfl))
  obtain ⟨j, e, q1, q2, q⟩ := q1
  subst e
  cases r1 with
  | cons r rr =>
    cases rr
    obtain ⟨t, rfl⟩ := r
    exact call_range_1 (range_it I1 (by omega) (by omega) q1 q2 (by simpa using q))
theorem pi_range2 {a b : Expr} {ta : TA} {p pos : Pos} (hg : Gl X "range") (hm : X.mg "range" = none) (ha : PA X [a, b] ta) (hs : starEach [a, b] X.env = [(false, eval a X.env), (false, eval b X.env)] := by rfl) (hs2 : starEach [b] X.env = [(false, eval b X.env)] := by rfl) :
    PI X tg (.Call (.Name "range" p) [a, b] [] pos) (iRng2 ta) := by
  intro pins s σ H R I h
  refine Call_ (ld_blt I hg hm boot_range (PyProof.Rows.callWith_type1 (thn (ha pos pins s σ H _ I h) fun us s1 ⟨vs, H1, I1, r1, q1⟩ => ?_) (by rw [hs, hs2]) (by rw [hs2]; rfl)))
  obtain ⟨i, j, e, ⟨q1, q2, q3, q4⟩, q⟩ := q1
  subst e
  cases r1 with
  | cons r rr =>
    cases rr with
    | cons r' rr =>
      cases rr
      obtain ⟨t, rfl⟩ := r
      obtain ⟨t', rfl⟩ := r'
      exact call_range_2 (range_it I1 q1 q2 q3 q4 q)
def tFor (wi : TI) (g : TG) (tb : TS) : TS := fun D σ H => wi σ H fun J H1 => ∃ W : Nat → Nat → St → Hp → Prop, (∃ m, W 0 m σ H1) ∧ ∀ i m σ H, W i m σ H →
  (J.stop i H ∧ D.nx σ H) ∨ (J.go i H ∧ ∃ N : St → Hp → Prop, (∀ σ' H', N σ' H' → ∃ m', m' < m ∧ W (i + 1) m' σ' H') ∧ ∀ x H', J.yld i H x H' → g x σ H' fun σ2 H2 => tb { D with nx := N, ct := N, bk := D.nx } σ2 H2)
def pinsAt (fp : List Addr) (h : Heap) : List (Addr × Obj) := fp.filterMap fun b => (h.get? b).map fun o => (b, o)
theorem mem_pinsAt {fp : List Addr} {h : Heap} {b : Addr} {o : Obj} (hb : b ∈ fp) (e : h.get? b = some o) : (b, o) ∈ pinsAt fp h := List.mem_filterMap.mpr ⟨b, hb, by rw [e]; rfl⟩
theorem of_pinsAt {fp : List Addr} {h : Heap} {p : Addr × Obj} (hp : p ∈ pinsAt fp h) : p.1 ∈ fp ∧ h.get? p.1 = some p.2 := by
  obtain ⟨b, hb, e⟩ := List.mem_filterMap.mp hp
  cases q : h.get? b with
  | none => rw [q] at e; cases e
  | some o =>
    rw [q] at e
    have e' : (b, o) = p := Option.some.inj e
    subst e'
    exact ⟨hb, q⟩
theorem Inv.pinned {pins : List (Addr × Obj)} {σ : St} {H : Hp} {s : Shared} {fp : List Addr} (I : Inv X pins σ H s) (hf : ∀ b ∈ fp, FpOk X pins H b) (ho : ∀ b ∈ fp, ∃ o, s.heap.get? b = some o ∧ ∀ v, o.data ≠ .cell v) : Inv X (pins ++ pinsAt fp s.heap) σ H s :=
  I.pins_of fun p hp => (List.mem_append.mp hp).elim (fun z => I.pin p (List.mem_append_right _ z)) fun z => by
    obtain ⟨hb, e⟩ := of_pinsAt z
    obtain ⟨f0, f1, f2, _⟩ := hf p.1 hb
    obtain ⟨o, e', d⟩ := ho p.1 hb
    rw [e] at e'; cases e'
    exact ⟨e, f0, f1, f2, d⟩
theorem Inv.unpinned {pins pl : List (Addr × Obj)} {σ : St} {H : Hp} {s : Shared} (I : Inv X (pins ++ pl) σ H s) : Inv X pins σ H s := I.pins_of fun p hp => I.pin p (List.mem_append_right _ (List.mem_append_left _ hp))
theorem ps_for {iter : Expr} {body : List Stmt} {wi : TI} {g : TG} {tb : TS} {pos : Pos} (hp : PassesOwn (model X.prog X.w) X.A X.env X.xe) (hc : X.calm = true) (hi : PI X tg iter wi) (hg : PG X tg g) (hb : PSs X body tb)
    (hs : ∀ x, foldedSetIterable iter X.env x = pure x := by intro _; rfl) : PS X (.For tg iter body [] pos) (tFor wi g tb) := by
  intro pins s σ H D I h
  refine wpAny_For (thn (hi pins s σ H _ I h) fun v s1 h1 => thn h1 fun itv s2 h2 => ?_) hs
  obtain ⟨it, fp, tn, J, H2, e, I2, T, st2, f2, W, ⟨m0, w0⟩, turn⟩ := h2
  subst e
  have stat : ∀ {H' : Hp}, (∀ b ∈ fp, H' b = none) → ∀ b ∈ fp, FpOk X pins H' b := fun hn b hb => ⟨hn b hb, (f2 b hb).2⟩
  refine codeAny_forLoop_any (fun n s' => ∃ i σ' H', Inv X pins σ' H' s' ∧ tn i s'.heap ∧ (∀ b ∈ fp, H' b = none) ∧ W i n σ' H') ?_ m0 ⟨0, σ, H2, I2, st2, fun b hb => (f2 b hb).1, w0⟩
  rintro n s3 ⟨i, σ3, H3, I3, st3, fr3, w3⟩
  rcases turn i n σ3 H3 w3 with ⟨stop, qn⟩ | ⟨go, N, hN, step⟩
  · refine wpAny_passesOwn hp (thn (T.done X rfl rfl rfl hc i pins s3 σ3 H3 X.xe I3 (stat fr3) st3 stop) fun r s4 ⟨hr, I4⟩ => ?_)
    subst hr
    exact wpAny_execs_nil ⟨σ3, H3, I4, qn⟩
  · refine wpAny_passesOwn hp (thn (T.item X rfl rfl rfl hc i pins s3 σ3 H3 X.xe I3 (stat fr3) st3 go) fun r s4 ⟨u, hr, h4⟩ => ?_)
    subst hr
    refine wpAny_passesOwn hp (thn h4 fun _ s5 ⟨x, H5, I5, r5, y5, st5, fr5⟩ => ?_)
    have I5' := I5.pinned (stat fr5) (T.obj _ _ st5)
    refine wpAny_passesOwn hp (thn (hg _ s5 σ3 H5 x u _ I5' r5 (step x H5 y5)) fun _ s6 ⟨σ6, H6, I6, q6⟩ => ?_)
    refine wpAny_passesOwn hp (thn (hb _ s6 σ6 H6 _ I6 q6) fun f s7 q7 => ?_)
    have again : ∀ {σ7 : St} {H7 : Hp}, Inv X (pins ++ pinsAt fp s5.heap) σ7 H7 s7 → N σ7 H7 → ∃ m, m < n ∧ ∃ i σ' H', Inv X pins σ' H' s7 ∧ tn i s7.heap ∧ (∀ b ∈ fp, H' b = none) ∧ W i m σ' H' := fun {σ7 H7} I7 n7 => by
      obtain ⟨m', hm, w7⟩ := hN σ7 H7 n7
      refine ⟨m', hm, i + 1, σ7, H7, I7.unpinned, T.keep _ _ _ st5 fun b hb o e => (I7.pin (b, o) (List.mem_append_right _ (List.mem_append_right _ (mem_pinsAt hb e)))).1, fun b hb => ?_, w7⟩
      obtain ⟨o, e, d⟩ := T.obj _ _ st5 b hb
      exact (I7.pin (b, o) (List.mem_append_right _ (List.mem_append_right _ (mem_pinsAt hb e)))).2.1
    cases f with
    | next => obtain ⟨σ7, H7, I7, n7⟩ := q7; exact again I7 n7
    | cont => obtain ⟨σ7, H7, I7, n7⟩ := q7; exact again I7 n7
    | brk => obtain ⟨σ7, H7, I7, q7⟩ := q7; exact ⟨σ7, H7, I7.unpinned, q7⟩
    | ret v => obtain ⟨x7, σ7, H7, I7, r7, q7⟩ := q7; exact ⟨x7, σ7, H7, I7.unpinned, r7, q7⟩
end
end L2
namespace L2
open PySem PySem.Spec PyProof.Rows
abbrev R2 := V → V → Hp → VK → Prop
def OpR (X : Cx) (f : Value → Value → Sem Value) (r : R2) : Prop :=
  ∀ (pins : List (Addr × Obj)) (s : Shared) (σ : St) (H : Hp) (x y : V) (v u : Value) (Q : VK), Inv X pins σ H s → RelV x v → RelV y u → r x y H Q →
    wpAny (model X.prog X.w) X.A (f v u) (EP X pins σ Q) X.xe s
def UnR (X : Cx) (f : Value → Sem Value) (r : V → Hp → VK → Prop) : Prop :=
  ∀ (pins : List (Addr × Obj)) (s : Shared) (σ : St) (H : Hp) (x : V) (v : Value) (Q : VK), Inv X pins σ H s → RelV x v → r x H Q →
    wpAny (model X.prog X.w) X.A (f v) (EP X pins σ Q) X.xe s
def CallR (X : Cx) (f : Value) (r : List V → Hp → VK → Prop) : Prop :=
  ∀ (pins : List (Addr × Obj)) (s : Shared) (σ : St) (H : Hp) (xs : List V) (us : List Value) (Q : VK), Inv X pins σ H s → Vals xs us → r xs H Q →
    wpAny (model X.prog X.w) X.A (call f us) (EP X pins σ Q) X.xe s
def TruR (X : Cx) (r : V → Hp → (Bool → Hp → Prop) → Prop) : Prop :=
  ∀ (pins : List (Addr × Obj)) (s : Shared) (σ : St) (H : Hp) (x : V) (v : Value) (Q : Bool → Hp → Prop), Inv X pins σ H s → RelV x v → r x H Q →
    wpAny (model X.prog X.w) X.A (truthy v) (TP X pins σ Q) X.xe s
def tOp (r : R2) (ta tb : TE) : TE := fun σ H Q => ta σ H fun x H1 => tb σ H1 fun y H2 => r x y H2 Q
def tUn (r : V → Hp → VK → Prop) (ta : TE) : TE := fun σ H Q => ta σ H fun x H1 => r x H1 Q
def rI (C : Int → Int → Prop) (g : Int → Int → V) : R2 := fun x y H Q => ∃ i j, x = .int i ∧ y = .int j ∧ C i j ∧ Q (g i j) H
def rI0 (g : Int → Int → V) : R2 := fun x y H Q => ∃ i j, x = .int i ∧ y = .int j ∧ Q (g i j) H
def rU (g : Int → V) : V → Hp → VK → Prop := fun x H Q => ∃ i, x = .int i ∧ Q (g i) H
section
variable {X : Cx} {a b c : Expr} {ta tb tc : TE} {pos : Pos}
theorem binT (ha : PE X a ta) (hb : PE X b tb) {pins : List (Addr × Obj)} {s : Shared} {σ : St} {H : Hp} {R : V → V → Hp → Prop} (I : Inv X pins σ H s)
    (h : ta σ H fun x H1 => tb σ H1 fun y H2 => R x y H2) {Q : Value → Shared → Prop} {f : Value → Value → Sem Value}
    (hf : ∀ v u s2 x y H2, Inv X pins σ H2 s2 → RelV x v → RelV y u → R x y H2 → wpAny (model X.prog X.w) X.A (f v u) Q X.xe s2) :
    wpAny (model X.prog X.w) X.A (eval a X.env) (fun v s₁ => wpAny (model X.prog X.w) X.A (eval b X.env) (fun u s₂ => wpAny (model X.prog X.w) X.A (f v u) Q X.xe s₂) X.xe s₁) X.xe s := by
  refine thn (ha pins s σ H _ I h) fun v s1 ⟨x, H1, I1, r1, q1⟩ => ?_
  refine thn (hb pins s1 σ H1 _ I1 q1) fun u s2 ⟨y, H2, I2, r2, q2⟩ => ?_
  exact hf v u s2 x y H2 I2 r1 r2 q2
theorem pe_op {op : Operator} {r : R2} (ho : OpR X (binaryOp op) r) (ha : PE X a ta) (hb : PE X b tb) : PE X (.BinOp a op b pos) (tOp r ta tb) := by
  intro pins s σ H Q I h
  exact wpAny_BinOp (binT ha hb I h fun v u s2 x y H2 I2 rx ry q => ho pins s2 σ H2 x y v u Q I2 rx ry q)
theorem pe_un {op : UnaryOp} {r : V → Hp → VK → Prop} (ho : UnR X (unaryOp op) r) (ha : PE X a ta) : PE X (.UnaryOp op a pos) (tUn r ta) := by
  intro pins s σ H Q I h
  exact UnaryOp_ (thn (ha pins s σ H _ I h) fun v s1 ⟨x, H1, I1, r1, q1⟩ => ho pins s1 σ H1 x v Q I1 r1 q1)
theorem opI {f : Value → Value → Sem Value} {C : Int → Int → Prop} {g : Int → Int → Int}
    (rule : ∀ (i j : Int) (t u : Tok) (s : Shared) (Q : Value → Shared → Prop) (E : Value → Shared → Prop), C i j → Q (.int (g i j) s.toks) { s with toks := s.toks + 1 } → wpAny (model X.prog X.w) X.A (f (.int i t) (.int j u)) Q E s) :
    OpR X f (rI C fun i j => .int (g i j)) := by
  intro pins s σ H x y v u Q I rx ry h
  obtain ⟨i, j, rfl, rfl, hc, q⟩ := h
  obtain ⟨t, rfl⟩ := rx
  obtain ⟨t', rfl⟩ := ry
  exact rule i j t t' s _ _ hc ⟨.int (g i j), H, I.tok _, ⟨_, rfl⟩, q⟩
theorem opI0 {f : Value → Value → Sem Value} {g : Int → Int → Int}
    (rule : ∀ (i j : Int) (t u : Tok) (s : Shared) (Q : Value → Shared → Prop) (E : Value → Shared → Prop), Q (.int (g i j) s.toks) { s with toks := s.toks + 1 } → wpAny (model X.prog X.w) X.A (f (.int i t) (.int j u)) Q E s) :
    OpR X f (rI0 fun i j => .int (g i j)) := by
  intro pins s σ H x y v u Q I rx ry h
  obtain ⟨i, j, rfl, rfl, q⟩ := h
  obtain ⟨t, rfl⟩ := rx
  obtain ⟨t', rfl⟩ := ry
  exact rule i j t t' s _ _ ⟨.int (g i j), H, I.tok _, ⟨_, rfl⟩, q⟩
theorem opB0 {f : Value → Value → Sem Value} {g : Int → Int → Bool}
    (rule : ∀ (i j : Int) (t u : Tok) (s : Shared) (Q : Value → Shared → Prop) (E : Value → Shared → Prop), Q (.bool (g i j)) s → wpAny (model X.prog X.w) X.A (f (.int i t) (.int j u)) Q E s) :
    OpR X f (rI0 fun i j => .bl (g i j)) := by
  intro pins s σ H x y v u Q I rx ry h
  obtain ⟨i, j, rfl, rfl, q⟩ := h
  obtain ⟨t, rfl⟩ := rx
  obtain ⟨t', rfl⟩ := ry
  exact rule i j t t' s _ _ ⟨.bl (g i j), H, I, rfl, q⟩
def CDiv (i j : Int) : Prop := 0 < j ∧ j < 1073741824
def CMul (i j : Int) : Prop := (-(2 ^ 64) < i ∧ i < 2 ^ 64) ∨ (-(2 ^ 64) < j ∧ j < 2 ^ 64)
theorem CMul.ok {i j : Int} (h : CMul i j) : IntMulOk i j := by
  rcases h with ⟨h1, h2⟩ | ⟨h1, h2⟩
  · exact .of_left (intBits_le_64 h1 h2)
  · exact .of_right (intBits_le_64 h1 h2)
theorem op_add : OpR X (binaryOp .Add) (rI0 fun i j => .int (i + j)) := opI0 fun _ _ _ _ _ _ _ q => add_int q
theorem op_sub : OpR X (binaryOp .Sub) (rI0 fun i j => .int (i - j)) := opI0 fun _ _ _ _ _ _ _ q => sub_int q
theorem op_mul : OpR X (binaryOp .Mult) (rI CMul fun i j => .int (i * j)) := opI fun _ _ _ _ _ _ _ hc q => mul_int q hc.ok
theorem op_fdiv : OpR X (binaryOp .FloorDiv) (rI CDiv fun i j => .int (i / j)) := opI fun i j _ _ _ _ _ hc q => by
  have h1 : (0 : Int) < j := hc.1
  have h2 : j < 1073741824 := hc.2
  exact floordiv_int (by omega) (by rw [Int.fdiv_eq_ediv_of_nonneg i (by omega)]; exact q) (.inl (PyProof.noPylong_small (by omega)))
theorem op_mod : OpR X (binaryOp .Mod) (rI (fun _ j => 0 < j) fun i j => .int (i % j)) := opI fun i j _ _ _ _ _ hc q => by
  have h1 : (0 : Int) < j := hc
  exact mod_int' (by omega) (by rw [Int.fmod_eq_emod_of_nonneg i (by omega)]; exact q)
theorem unI {f : Value → Sem Value} {g : Int → Int}
    (rule : ∀ (i : Int) (t : Tok) (s : Shared) (Q : Value → Shared → Prop) (E : Value → Shared → Prop), Q (.int (g i) s.toks) { s with toks := s.toks + 1 } → wpAny (model X.prog X.w) X.A (f (.int i t)) Q E s) :
    UnR X f (rU fun i => .int (g i)) := by
  intro pins s σ H x v Q I rx h
  obtain ⟨i, rfl, q⟩ := h
  obtain ⟨t, rfl⟩ := rx
  exact rule i t s _ _ ⟨.int (g i), H, I.tok _, ⟨_, rfl⟩, q⟩
theorem un_neg : UnR X (unaryOp .USub) (rU fun i => .int (-i)) := unI fun _ _ _ _ _ q => neg_int q
end
section
variable {X : Cx} {a b c : Expr} {ta tb tc : TE} {pos : Pos}
theorem fin_bl {pins : List (Addr × Obj)} {σ : St} {H : Hp} {s : Shared} {Q : VK} {k k' : Bool} (I : Inv X pins σ H s) (q : Q (.bl k) H) (e : k = k') : EP X pins σ Q (.bool k') s := by
  subst e
  exact ⟨.bl k, H, I, rfl, q⟩
theorem op_lt : OpR X (compareOp .Lt) (rI0 fun i j => .bl (decide (i < j))) := opB0 fun _ _ _ _ _ _ _ q => lt_int q
theorem op_le : OpR X (compareOp .LtE) (rI0 fun i j => .bl (decide (i ≤ j))) := opB0 fun _ _ _ _ _ _ _ q => le_int q
theorem op_gt : OpR X (compareOp .Gt) (rI0 fun i j => .bl (decide (j < i))) := opB0 fun _ _ _ _ _ _ _ q => gt_int q
theorem op_isN : OpR X (compareOp .Is) (fun x y H Q => y = .non ∧ Q (.bl (decide (x = .non))) H) := by
  intro pins s σ H x y v u Q I rx ry h
  obtain ⟨rfl, q⟩ := h
  cases ry
  refine is_none_gen (fin_bl I q ?_)
  cases x <;> first
    | (cases rx; rfl)
    | (obtain ⟨t, rfl⟩ := rx; rfl)
theorem op_notN : OpR X (compareOp .IsNot) (fun x y H Q => y = .non ∧ Q (.bl (!decide (x = .non))) H) := by
  intro pins s σ H x y v u Q I rx ry h
  obtain ⟨rfl, q⟩ := h
  cases ry
  refine isnot_none_gen (fin_bl I q ?_)
  cases x <;> first
    | (cases rx; rfl)
    | (obtain ⟨t, rfl⟩ := rx; rfl)
theorem OpR.or {f : Value → Value → Sem Value} {r r' : R2} (h : OpR X f r) (h' : OpR X f r') : OpR X f (fun x y H Q => r x y H Q ∨ r' x y H Q) := by
  intro pins s σ H x y v u Q I rx ry q
  rcases q with q | q
  · exact h pins s σ H x y v u Q I rx ry q
  · exact h' pins s σ H x y v u Q I rx ry q
theorem nomark (b : Expr) {op : CmpOp} (h : op ≠ .In := by decide) (h2 : op ≠ .NotIn := by decide) : behindInMarks op b = false := by
  have e1 : (op == CmpOp.In) = false := by cases op <;> first | rfl | exact absurd rfl h
  have e2 : (op == CmpOp.NotIn) = false := by cases op <;> first | rfl | exact absurd rfl h2
  cases b <;> simp [behindInMarks, e1, e2]
theorem pe_cmpR {op : CmpOp} {r : R2} (ho : OpR X (compareOp op) r) (ha : PE X a ta) (hb : PE X b tb) (hm : behindInMarks op b = false) : PE X (.Compare a [op] [b] pos) (tOp r ta tb) := by
  intro pins s σ H Q I h
  exact wpAny_Compare1 (binT ha hb I h fun v u s2 x y H2 I2 rx ry q => ho pins s2 σ H2 x y v u Q I2 rx ry q) hm
def tTest (t : TE) : TT := fun σ H Q => t σ H fun x H' => ∃ k, x = .bl k ∧ Q k H'
theorem pt_cmpR {op : CmpOp} {r : R2} (ho : OpR X (compareOp op) r) (ha : PE X a ta) (hb : PE X b tb) (hm : behindInMarks op b = false) : PT X (.Compare a [op] [b] pos) (tTest (tOp r ta tb)) := by
  intro pins s σ H Q I h
  refine wpAny_isTrue_Compare1 (thn (ha pins s σ H _ I h) fun v s1 ⟨x, H1, I1, r1, q1⟩ => thn (hb pins s1 σ H1 _ I1 q1) fun u s2 ⟨y, H2, I2, r2, q2⟩ =>
    thn (ho pins s2 σ H2 x y v u _ I2 r1 r2 q2) fun c s3 ⟨z, H3, I3, r3, k, e, q3⟩ => ?_) hm
  subst e
  cases r3
  exact wpAny_truthy_bool ⟨H3, I3, q3⟩
def tChain (r r' : R2) (ta tb tc : TE) : TE := fun σ H Q => ta σ H fun x H1 => tb σ H1 fun y H2 => r x y H2 fun z H3 => ∃ k, z = .bl k ∧
  (if k = true then tc σ H3 fun w' H4 => r' y w' H4 Q else Q (.bl false) H3)
theorem pt_chain {op op' : CmpOp} {r r' : R2} (ho : OpR X (compareOp op) r) (ho' : OpR X (compareOp op') r') (ha : PE X a ta) (hb : PE X b tb) (hc : PE X c tc)
    (hm : lastMarks [op, op'] [b, c] = false := by with_unfolding_all rfl) : PT X (.Compare a [op, op'] [b, c] pos) (tTest (tChain r r' ta tb tc)) := by
  intro pins s σ H Q I h
  refine isTrue_chain (thn (ha pins s σ H _ I h) fun v s1 ⟨x, H1, I1, r1, q1⟩ => test_link (thn (hb pins s1 σ H1 _ I1 q1) fun u s2 ⟨y, H2, I2, r2, q2⟩ =>
    thn (ho pins s2 σ H2 x y v u _ I2 r1 r2 q2) fun d s3 ⟨z, H3, I3, r3, k, e, q3⟩ => ?_)) hm
  subst e
  cases r3
  refine wpAny_truthy_bool ?_
  cases k with
  | false =>
    obtain ⟨k', e', q'⟩ := q3
    cases e'
    exact ite_ff ⟨H3, I3, q'⟩
  | true =>
    refine ite_tt (test_last (thn (hc pins s3 σ H3 _ I3 q3) fun w' s4 ⟨z', H4, I4, r4, q4⟩ => thn (ho' pins s4 σ H4 y z' u w' _ I4 r2 r4 q4) fun d' s5 ⟨z2, H5, I5, r5, k2, e2, q5⟩ => ?_))
    subst e2
    cases r5
    exact wpAny_truthy_bool ⟨H5, I5, q5⟩
def TruV (K : PySem.W.Frag) (x : V) (H : Hp) (k : Bool) : Prop :=
  match x with
  | .non => k = false
  | .bl b => k = b
  | .int i => k = (i != 0)
  | .str y => y.length ≤ sizeLine ∧ k = ((y.length : Int) != 0)
  | .byt y => y.size ≤ sizeLine ∧ k = ((y.size : Int) != 0)
  | .ref p => (∃ xs, SqL K H p xs ∧ k = !xs.isEmpty) ∨ (∃ xs, SqT K H p xs ∧ k = !xs.isEmpty) ∨ ∃ kvs, H p = some (.dK kvs) ∧ k = !kvs.isEmpty
  | _ => False
theorem isEmpty_kv {κ : Type} {kvs : List (κ × V)} {vs : List (κ × Value)} (r : KV kvs vs) : (!vs.isEmpty) = !kvs.isEmpty := by
  cases r <;> rfl
theorem isEmpty_of {xs : List V} {its : List Value} (r : Vals xs its) : (!its.toArray.isEmpty) = !xs.isEmpty := by
  cases r <;> simp
theorem line63 : (sizeLine : Nat) < 2 ^ 63 := by rw [sizeLine_eq]; decide
theorem tru_ok : TruR X (fun x H Q => ∃ k, TruV X.K x H k ∧ Q k H) := by
  intro pins s σ H x v Q I rx h
  obtain ⟨k, e, q⟩ := h
  have hl := line63
  have hs : sizeLine = 16777216 := sizeLine_eq
  cases x with
  | non =>
    cases rx
    have e' : k = false := e
    subst e'
    exact truthy_none ⟨H, I, q⟩
  | bl b =>
    cases rx
    have e' : k = b := e
    subst e'
    exact wpAny_truthy_bool ⟨H, I, q⟩
  | int i =>
    obtain ⟨t, rfl⟩ := rx
    have e' : k = (i != 0) := e
    subst e'
    exact PySem.P.truthy_int ⟨H, I, q⟩
  | str y =>
    obtain ⟨t, rfl⟩ := rx
    obtain ⟨hy, e'⟩ : y.length ≤ sizeLine ∧ k = ((y.length : Int) != 0) := e
    subst e'
    exact PySem.P.truthy_str (by omega) ⟨H, I.tok _, q⟩
  | byt y =>
    obtain ⟨t, rfl⟩ := rx
    obtain ⟨hy, e'⟩ : y.size ≤ sizeLine ∧ k = ((y.size : Int) != 0) := e
    subst e'
    exact PySem.W.truthy_bytes (by omega) ⟨H, I.tok _, q⟩
  | ref p =>
    cases rx
    have e' : (∃ xs, SqL X.K H p xs ∧ k = !xs.isEmpty) ∨ (∃ xs, SqT X.K H p xs ∧ k = !xs.isEmpty) ∨ ∃ kvs, H p = some (.dK kvs) ∧ k = !kvs.isEmpty := e
    rcases e' with ⟨xs, hx, e'⟩ | ⟨xs, hx, e'⟩ | ⟨kvs, hx, e'⟩
    · subst e'
      obtain ⟨its, r, pl, hz⟩ := I.list hx
      have hlen := r.length
      exact wpAny_truthy_list pl.isList (by simp only [List.size_toArray]; omega) ⟨H, I.tok _, by rw [isEmpty_of r]; exact q⟩
    · subst e'
      obtain ⟨its, r, pl, hz⟩ := I.tuple hx
      have hlen := r.length
      exact truthy_tuple pl (by simp only [List.size_toArray]; omega) ⟨H, I.tok _, by rw [isEmpty_of r]; exact q⟩
    · subst e'
      obtain ⟨hz, hS, vs, r, m⟩ : kvs.length ≤ sizeLine ∧ (p == sysModules) = false ∧ ∃ vs, KV kvs vs ∧ s.heap.DictOf (mixKind X.prog X.w) p vs := I.hok p _ hx
      have hlen : kvs.length = vs.length := Paired.length r
      exact wpAny_truthy_dict hS m (by omega) ⟨H, I.tok _, by rw [isEmpty_kv r]; exact q⟩
  | _ => exact (show False from e).elim
theorem pt_truth (ha : PE X a ta) (he : ∀ whole, isTrue a X.env whole = (do let v ← whole; standAt a.pos; holding [v] (truthy v))) :
    PT X a (fun σ H Q => ta σ H fun x H' => ∃ k, TruV X.K x H' k ∧ Q k H') := by
  intro pins s σ H Q I h
  exact isTrue_plain (thn (ha pins s σ H _ I h) fun v s1 ⟨x, H1, I1, r1, q1⟩ => tru_ok pins s1 σ H1 x v Q I1 r1 q1) (he _)
theorem vals1 {x : V} {us : List Value} (r : Vals [x] us) : ∃ u, us = [u] ∧ RelV x u := by
  cases r with
  | cons r1 r2 => cases r2; exact ⟨_, rfl, r1⟩
theorem vals2 {x y : V} {us : List Value} (r : Vals [x, y] us) : ∃ u w', us = [u, w'] ∧ RelV x u ∧ RelV y w' := by
  cases r with
  | cons r1 r2 =>
    cases r2 with
    | cons r3 r4 => cases r4; exact ⟨_, _, rfl, r1, r3⟩
theorem call_abs : CallR X (.builtin "abs") (fun xs H Q => ∃ i, xs = [.int i] ∧ Q (.int (if i < 0 then -i else i)) H) := by
  intro pins s σ H xs us Q I r h
  obtain ⟨i, rfl, q⟩ := h
  obtain ⟨u, rfl, t, rfl⟩ := vals1 r
  exact call_abs_int fun u tk => ⟨.int (if i < 0 then -i else i), H, I.tok _, ⟨_, rfl⟩, q⟩
end
end L2
namespace L2
open PySem PySem.Spec PyProof.Rows
structure ObjM (h : Heap) (x dx C : Addr) (mA : Str → Option Value) : Prop where
  obj : h.get? x = some (PySem.W.instObj C dx)
  ns : h.Ns1 dx mA
  ne : dx ≠ x
theorem lookIn_ns {h : Heap} {dx : Addr} {mA : Str → Option Value} (n : h.Ns1 dx mA) : ∃ od, h.get? dx = some od ∧ ∀ name, PySem.W.lookIn name od = some (mA name) := by
  obtain ⟨o, es, ep, ho, hd, hk, _, hm⟩ := n
  refine ⟨o, ho, fun name => ?_⟩
  have e := hm name
  unfold nsFind findBy at e
  rw [← Array.find?_toList] at e
  unfold PySem.W.lookIn
  rw [hd]
  dsimp only
  split
  · rename_i y q
    rw [q] at e
    exact congrArg some e
  · rename_i q
    rw [q] at e
    have a : es.toList.any (·.refKey) = false := by
      rw [List.any_eq_false]
      intro y hy
      obtain ⟨z, t, hkey⟩ := hk y (Array.mem_toList_iff.mp hy)
      simp [DictEntry.refKey, hkey]
    have a' : ¬ es.toList.any (·.refKey) = true := by rw [a]; exact Bool.false_ne_true
    rw [if_neg a']
    exact congrArg some e
theorem ObjM.look {h : Heap} {x dx C : Addr} {mA : Str → Option Value} (I : ObjM h x dx C mA) : ∃ od, PySem.W.InstAt h x (PySem.W.instObj C dx) C (some od) ∧ ∀ name, PySem.W.lookIn name od = some (mA name) :=
  let ⟨od, ho, hl⟩ := lookIn_ns I.ns
  ⟨od, ⟨I.obj, rfl, rfl, ho⟩, hl⟩
section
variable {prog : Program} {w : World} {A : Around} {E : Value → Shared → Prop} {s : Shared} {K : PySem.W.Frag} {x dx C f : Addr} {mA : Str → Option Value} {name : Str} {v : Value}
end
theorem RelO.some_of {v : V} {o : Option Value} (r : RelO (some v) o) : ∃ u, o = some u ∧ RelV v u := by
  cases o with
  | none => exact (show False from r).elim
  | some u => exact ⟨u, rfl, r⟩
section
variable {P : Program} {w : World} {H H' : Hp} {h h' : Heap} {a C dx : Addr} {fs fs' : List (Str × V)}
theorem ins_get (hok : HOk P w H h) (e : H a = some (.ins C dx fs)) : ∃ mA, ObjM h a dx C mA ∧ (∀ f, RelO (fs.lookup f) (mA f)) ∧ PySem.Within mA (fs.map (·.1)) ∧ fs.length ≤ 1000 ∧ H dx = some (.own a) := by
  obtain ⟨d, z, ne, ob, mA, n, r, q⟩ := (show ObjOk P w H h a (.ins C dx fs) from hok a _ e)
  exact ⟨mA, ⟨ob, n, ne⟩, r, q, z, d⟩
end
structure Cls (K : PySem.W.Frag) (C : Addr) : Prop where
  pg : PySem.W.plainGet K C Str.empty = true
  hd : PySem.W.hasDictIn K C = true
  po : PySem.W.plainOver K C = true
  sa : PySem.W.findIn K (.ref C) "__setattr__" = some (some (.builtin "object.__setattr__"))
theorem Cls.get {K : PySem.W.Frag} {C : Addr} (c : Cls K C) (f : Str) : PySem.W.plainGet K C f = true := c.pg
section
variable {X : Cx} {pins : List (Addr × Obj)} {σ : St} {H : Hp} {s : Shared} {a C dx : Addr} {fs : List (Str × V)} {f : Str} {v : V} {A : Around} {E : Value → Shared → Prop}
end
section
variable {X : Cx} {o e value : Expr} {f : Str} {pos pos' tpos : Pos} {ta tv : TE}
end
section
variable {X : Cx} {pins : List (Addr × Obj)} {σ : St} {H : Hp} {s : Shared} {A : Around} {E : Value → Shared → Prop} {Q : Value → Shared → Prop} {c : Value} {b : Bool}
inductive TyOf (K : PySem.W.Frag) (H : Hp) : V → Value → Prop where
  | non : TyOf K H .non (.type "NoneType")
  | bl (x : Bool) : TyOf K H (.bl x) (.type "bool")
  | int (i : Int) : TyOf K H (.int i) (.type "int")
  | str (x : Str) : TyOf K H (.str x) (.type "str")
  | flt (x : UInt64) : TyOf K H (.flt x) (.type "float")
  | lst {a : Addr} {xs : List V} (e : H a = some (.lst xs)) : TyOf K H (.ref a) (.type "list")
  | frz {a : Addr} {o : Obj} {xs : List V} (e : H a = some (.frz o (.lst xs))) : TyOf K H (.ref a) (.type "list")
  | tup {a : Addr} {xs : List V} (e : H a = some (.tup xs)) : TyOf K H (.ref a) (.type "tuple")
  | dK {a : Addr} {kvs : List (Key × V)} (e : H a = some (.dK kvs)) : TyOf K H (.ref a) (.type "dict")
  | dT {a : Addr} {kvs : List (List Key × V)} (e : H a = some (.dT kvs)) : TyOf K H (.ref a) (.type "dict")
  | ins {a C dx : Addr} {fs : List (Str × V)} (e : H a = some (.ins C dx fs)) (cl : Cls K C) (ha : PySem.W.findIn K (.ref C) "__class__" = some (some (.builtin "object.__class__")))
      (hn : PySem.W.specialIn K (.builtin "object.__class__") "__get__" = some (some (.builtin "getset_descriptor.__get__"))) (htk : PySem.W.takesIn K (.builtin "object.__class__") = some true)
      (hm : PySem.W.mroIn K C (.type "object") = some true) : TyOf K H (.ref a) (.ref C)
theorem isinst_ok {x : V} {u t : Value} (I : Inv X pins σ H s) (rx : RelV x u) (ty : TyOf X.K H x t) (e : PySem.W.kitOne X.K t c = some b) (h : ∀ tk, Q (.bool b) { s with toks := tk }) :
    wpAny (model X.prog X.w) A (call (.builtin "isinstance") [u, c]) Q E s := by
  cases ty with
  | non => cases (show u = Value.none from rx); exact PySem.W.kia_one PySem.W.kitx_none I.kIn True.intro e (fun z => nomatch z) h
  | bl y => cases (show u = Value.bool y from rx); exact PySem.W.kia_one PySem.W.kitx_bool I.kIn True.intro e (fun z => nomatch z) h
  | int i => obtain ⟨t, q⟩ := (show ∃ t, u = Value.int i t from rx); cases q; exact PySem.W.kia_one PySem.W.kitx_int I.kIn True.intro e (fun z => nomatch z) h
  | str y => obtain ⟨t, q⟩ := (show ∃ t, u = Value.str y t from rx); cases q; exact PySem.W.kia_one PySem.W.kitx_str I.kIn True.intro e (fun z => nomatch z) h
  | flt y => obtain ⟨t, q⟩ := (show ∃ t, u = Value.float y t from rx); cases q; exact PySem.W.kia_one PySem.W.kitx_float I.kIn True.intro e (fun z => nomatch z) h
  | @lst a xs ea =>
    cases (show u = Value.ref a from rx)
    obtain ⟨_, _, n, _, h1⟩ := (show ObjOk X.prog X.w H s.heap a (.lst xs) from I.hok a _ ea)
    exact PySem.W.kia_one PySem.W.kitx_list I.kIn ⟨_, h1, rfl⟩ e (fun z => nomatch z) h
  | @frz a ob xs ea =>
    cases (show u = Value.ref a from rx)
    obtain ⟨_, _, _, n, _, h1⟩ := (show ObjOk X.prog X.w H s.heap a (.frz ob (.lst xs)) from I.hok a _ ea)
    exact PySem.W.kia_one PySem.W.kitx_list I.kIn ⟨_, h1, rfl⟩ e (fun z => nomatch z) h
  | @tup a xs ea =>
    cases (show u = Value.ref a from rx)
    obtain ⟨_, _, _, p⟩ := (show ObjOk X.prog X.w H s.heap a (.tup xs) from I.hok a _ ea)
    obtain ⟨o, h1, h2, _⟩ := p
    exact PySem.W.kia_one PySem.W.kitx_tuple I.kIn ⟨o, h1, h2⟩ e (fun z => nomatch z) h
  | @dK a kvs ea =>
    cases (show u = Value.ref a from rx)
    obtain ⟨_, _, vs, _, p⟩ := (show ObjOk X.prog X.w H s.heap a (.dK kvs) from I.hok a _ ea)
    obtain ⟨o, es, ep, h1, h2, _⟩ := p
    exact PySem.W.kia_one PySem.W.kitx_dict I.kIn ⟨o, h1, h2.1⟩ e (fun z => nomatch z) h
  | @dT a kvs ea =>
    cases (show u = Value.ref a from rx)
    obtain ⟨_, _, xs, _, o, es, ep, h1, h2, _⟩ := (show ObjOk X.prog X.w H s.heap a (.dT kvs) from I.hok a _ ea)
    exact PySem.W.kia_one PySem.W.kitx_dict I.kIn ⟨o, h1, h2.1⟩ e (fun z => nomatch z) h
  | @ins a C dx fs ea cl ha hn htk hm =>
    cases (show u = Value.ref a from rx)
    obtain ⟨mA, O, _⟩ := ins_get I.hok ea
    obtain ⟨od, J, _⟩ := O.look
    exact PySem.W.kia_one (PySem.W.kitx_own (cl.get _) cl.hd ha hn htk hm) I.kIn J e (fun z => nomatch z) h
end
end L2
namespace L2
open PySem PySem.Spec PyProof.Rows
structure Room (k : Nat) (A : Around) : Prop where
  hd : A.handled = none
  dp : A.depth + 3 * k + 5 < recursionLimit
  un : A.units + 16 * k + 200 < cLine
theorem Room.mono {j k : Nat} {A : Around} (r : Room k A) (h : j ≤ k) : Room j A := ⟨r.hd, by have := r.dp; omega, by have := r.un; omega⟩
theorem Room.deeper {k : Nat} {A : Around} (r : Room (k + 1) A) (env : Env) : Room k (A.deeper env) :=
  ⟨r.hd, by have := r.dp; show A.depth + 1 + 3 * k + 5 < _; omega, by have := r.un; show A.units + 3 + 16 * k + 200 < _; omega⟩
theorem Room.depth {k : Nat} {A : Around} (r : Room k A) : A.depth < recursionLimit := by have := r.dp; omega
theorem Room.units {k : Nat} {A : Around} (r : Room k A) : A.units + 64 < cLine := by have := r.un; omega
def tNil : TA := fun _ H Q => Q [] H
def tCons (ta : TE) (tr : TA) : TA := fun σ H Q => ta σ H fun x H1 => tr σ H1 fun xs H2 => Q (x :: xs) H2
section
variable {X : Cx} {e : Expr} {es : List Expr} {te : TE} {t : TA} {pos : Pos}
theorem pa_nil : PA X [] tNil := fun _ _ _ _ H Q I h => Calls.spliced_nil ⟨[], H, I, .nil, h⟩
theorem pa_cons (ha : PE X e te) (hr : PA X es t) (hs : starEach (e :: es) X.env = (false, eval e X.env) :: starEach es X.env := by rfl) : PA X (e :: es) (tCons te t) := by
  intro pos pins s σ H Q I h
  rw [hs]
  show wpAny _ _ (spliced ((false, eval e X.env) :: backTo pos (starEach es X.env))) _ _ s
  refine Calls.spliced_cons (thn (ha pins s σ H _ I h) fun u s1 ⟨x, H1, I1, r1, q1⟩ => ?_)
  exact thn (hr pos pins s1 σ H1 _ I1 q1) fun us s2 ⟨xs, H2, I2, r2, q2⟩ => ⟨x :: xs, H2, I2, .cons r1 r2, q2⟩
def tTup (t : TA) : TE := fun σ H Q => t σ H fun xs H1 => xs.length ≤ sizeLine ∧ ∀ p, H1 p = none → Q (.ref p) (upd H1 p (.tup xs))
def tLst (t : TA) : TE := fun σ H Q => t σ H fun xs H1 => xs.length ≤ sizeLine ∧ ∀ p, H1 p = none → Q (.ref p) (upd H1 p (.lst xs))
theorem pe_tup {x1} (h : PA X es t) : PE X (.Tuple es x1 pos) (tTup t) := by
  intro pins s σ H Q I hq
  refine wpAny_Tuple_spliced (thn (h pos pins s σ H _ I hq) fun us s1 ⟨xs, H1, I1, r, z, q⟩ => ⟨by rw [← r.length]; exact z, ?_⟩)
  have hf : H1 s1.heap.objs.size = none := I1.hok.fresh (Nat.le_refl _)
  refine ⟨.ref s1.heap.objs.size, upd H1 s1.heap.objs.size (.tup xs), I1.laid (t' := s1.toks) (fun b u e => Heap.get?_push_of_some _ e) (Nat.le_refl _) ?_, rfl, q _ hf⟩
  exact ⟨z, us, r, ⟨_, Heap.get?_push_size _ rfl, rfl, _, rfl⟩⟩
theorem pe_lst (h : PA X es t) : PE X (.List es pos) (tLst t) := by
  intro pins s σ H Q I hq
  refine wpAny_List_spliced (thn (h pos pins s σ H _ I hq) fun us s1 ⟨xs, H1, I1, r, z, q⟩ => ⟨by rw [← r.length]; exact z, ?_⟩)
  have hf : H1 s1.heap.objs.size = none := I1.hok.fresh (Nat.le_refl _)
  refine ⟨.ref s1.heap.objs.size, upd H1 s1.heap.objs.size (.lst xs), I1.laid (t' := s1.toks) (fun b u e => Heap.get?_push_of_some _ e) (Nat.le_refl _) ?_, rfl, q _ hf⟩
  exact ⟨z, us, 0, r, Heap.get?_push_size _ rfl⟩
end
abbrev Sp := List V → Hp → VK → XK → Prop
abbrev CXT := List Env → Hp → Shared → XK → Value → Shared → Prop
structure Env0 (P : Program) (w : World) (K : PySem.W.Frag) (mg : Str → Option Value) (base : Heap) (A : Around) (outer : List Env) (s : Shared) (H : Hp) : Prop where
  frames : A.frames = some outer
  mod : Mod K mg base
  bs : ∀ b o, base.get? b = some o → s.heap.get? b = some o ∧ H b = none
  bsz : base.objs.size ≤ s.heap.objs.size
  funs : s.heap.FunFrames base outer
  frf : ∀ b ∈ frs outer, H b = none
  hok : HOk P w H s.heap
  bare : AllBare s.gens
def CE (outer : List Env) (P : Program) (w : World) (H : Hp) (s : Shared) (Q : VK) (u : Value) (s' : Shared) : Prop :=
  ∃ v H', s'.os = s.os ∧ AllBare s'.gens ∧ Un (frs outer) [] H H' s.heap s'.heap ∧ HOk P w H' s'.heap ∧ RelV v u ∧ Q v H'
def CR (CX : CXT) (outer : List Env) (P : Program) (w : World) (H : Hp) (s : Shared) (Q : VK) (E : XK) (r : Result) (s' : Shared) : Prop :=
  match r with
  | .ok (.ret u) => CE outer P w H s Q u s'
  | .ok _ => False
  | .error e => CX outer H s E e s'
structure FnOk (P : Program) (w : World) (K : PySem.W.Frag) (mg : Str → Option Value) (base : Heap) (CX : CXT) (k : Nat) (f : Addr) (fd : FuncData) (ps : List Str) (sp : Sp) : Prop where
  len : ∀ vs H Q E, sp vs H Q E → vs.length = ps.length
  run : ∀ (A : Around) (outer : List Env) (s : Shared) (H : Hp) (args : Args) (us : List Value) (vs : List V) (Q : VK) (E : XK), Room k A → Env0 P w K mg base A outer s H → BindsTo s fd args (ps.zip us) → Vals vs us → sp vs H Q E →
    codeAny (model P w) A (.call (.ref f) args) (CR CX outer P w H s Q E) s
section
variable {X : Cx} {pins : List (Addr × Obj)} {σ : St} {H : Hp} {s s' : Shared}
theorem Inv.env0 (I : Inv X pins σ H s) : Env0 X.prog X.w X.K X.mg X.base X.A X.stack s H :=
  ⟨I.ok.frames, I.ok.mod, I.bs, Nat.le_trans I.ok.bsz I.sz, I.stack, I.stkFree, I.hok, I.bare⟩
theorem Inv.after {Q : VK} {u : Value} (I : Inv X pins σ H s) (h : CE X.stack X.prog X.w H s Q u s') : EP X pins σ Q u s' := by
  obtain ⟨v, H', os, bare, un, hok, r, q⟩ := h
  obtain ⟨hh, g, d, t, os'⟩ := s'
  obtain rfl : os' = s.os := os
  exact ⟨v, H', I.call (h' := hh) (g' := g) (d' := d) (t' := t) (ch := []) un hok bare (fun b z => absurd z (by simp)), r, q⟩
end
def tCall (sp : Sp) (dvs : List V) (E : XK) (t : TA) : TE := fun σ H Q => t σ H fun vs H1 => sp (vs ++ dvs) H1 Q E
def Binds (K : PySem.W.Frag) (fd : FuncData) (ps : List Str) (ds : List Value) : Prop :=
  ∀ (s : Shared) (us : List Value), K.In s.heap → (us ++ ds).length = ps.length → BindsTo s fd ⟨us, []⟩ (ps.zip (us ++ ds))
theorem Binds.all {K : PySem.W.Frag} {fd : FuncData} {ps : List Str} (h : ∀ us : List Value, us.length = ps.length → bindArgs fd ⟨us, []⟩ = pure (ps.zip us)) : Binds K fd ps [] := fun s us _ hl => by
  rw [List.append_nil] at hl ⊢
  exact .of_eq (h us hl)
def Passes (CX : CXT) (X : Cx) (E : XK) : Prop := ∀ (pins : List (Addr × Obj)) (σ : St) (H : Hp) (s : Shared) (e : Value) (s' : Shared), Inv X pins σ H s → CX X.stack H s E e s' → X.xe e s'
section
variable {X : Cx} {CX : CXT} {k : Nat} {f C : Addr} {fd : FuncData} {ps : List Str} {sp : Sp} {dvs : List V} {ds : List Value} {E : XK} {x m : Str} {p pos apos : Pos} {e o : Expr} {es : List Expr} {ta : TE} {t : TA}
theorem run_fn {pins : List (Addr × Obj)} {σ : St} {H : Hp} {s : Shared} {Q : VK} {us : List Value} {vs : List V} (F : FnOk X.prog X.w X.K X.mg X.base CX k f fd ps sp) (hr : Room k X.A) (hb : Binds X.K fd ps ds) (hd : Vals dvs ds) (hx : Passes CX X E)
    (I : Inv X pins σ H s) (r : Vals vs us) (h : sp (vs ++ dvs) H Q E) : wpAny (model X.prog X.w) X.A (call (.ref f) us) (EP X pins σ Q) X.xe s := by
  have r2 : Vals (vs ++ dvs) (us ++ ds) := r.append hd
  have hl : (us ++ ds).length = ps.length := by rw [← r2.length]; exact F.len _ _ _ _ h
  refine wpAny_call (codeAny_mono (F.run X.A X.stack s H ⟨us, []⟩ (us ++ ds) (vs ++ dvs) Q E hr I.env0 (hb s us I.kIn hl) r2 h) fun r s' hq => ?_)
  cases r with
  | error e => exact hx pins σ H s e s' I hq
  | ok fl =>
    cases fl with
    | ret u => exact I.after hq
    | next => exact False.elim hq
    | brk => exact False.elim hq
    | cont => exact False.elim hq
theorem pe_call (F : FnOk X.prog X.w X.K X.mg X.base CX k f fd ps sp) (hr : Room k X.A) (hg : Gl X x) (hm : X.mg x = some (.ref f)) (hk : PySem.W.keepIn X.K (.ref f) = true) (hb : Binds X.K fd ps ds) (hd : Vals dvs ds) (hx : Passes CX X E)
    (ha : PA X (e :: es) t) (hdb : (x == ("__debug__" : Str)) = false := by decide) (he : starEach (e :: es) X.env = (false, eval e X.env) :: starEach es X.env := by rfl) (hpl : (backTo pos (starEach es X.env)).any (·.1) = false := by rfl) :
    PE X (.Call (.Name x p) (e :: es) [] pos) (tCall sp dvs E t) := by
  intro pins s σ H Q I h
  refine wpAny_Call_Name_kw (ld_glob I hg hm ?_ hdb)
  refine PySem.W.callWith_K (h₀ := X.base) I.ok.mod.kin hk (thn (ha pos pins s σ H _ I h) fun us s1 ⟨vs, H1, I1, r, q⟩ => ⟨I1.kIn, ?_⟩) he hpl
  exact run_fn F hr hb hd hx I1 r q
end
section
variable {X : Cx} {CX : CXT} {k : Nat} {f C : Addr} {fd : FuncData} {ps ks : List Str} {sp : Sp} {E : XK} {x m : Str} {p pos apos kpos : Pos} {e o : Expr} {es : List Expr} {kws : List Keyword} {te ta : TE} {t tk : TA} {nm : Option Str}
variable {g : List Value → List Value → List Value} {gV : List V → List V → List V}
end
structure FnScope (N P : List Str) (sc : Scope) : Prop where
  kind : sc.kind = .function
  co : sc.isCoroutine = false
  gen : sc.isGenerator = false
  nd : N.Nodup
  pre : N.take P.length = P
  par : ∀ x ∈ P, sc.names.lookup x = some .local ∨ sc.names.lookup x = some .cell
  nofree : ∀ y ∈ sc.names, y.2 ≠ .free
theorem bindL_out {kindOf : Str → Option NameKind} {x : Str} : ∀ {binds : List (Str × Value)} {m : Str → Option Value}, (∀ v, (x, v) ∉ binds) → bindL kindOf binds m x = m x
  | [], _, _ => rfl
  | (n, v) :: r, m, h => by
    unfold bindL
    rw [bindL_out fun w hw => h w (List.mem_cons_of_mem _ hw)]
    split
    · have : x ≠ n := by rintro rfl; exact h v List.mem_cons_self
      simp [this]
    · rfl
theorem bindC_out {kindOf : Str → Option NameKind} {x : Str} : ∀ {binds : List (Str × Value)} {m : Str → Option Value}, (∀ v, (x, v) ∉ binds) → bindC kindOf binds m x = m x
  | [], _, _ => rfl
  | (n, v) :: r, m, h => by
    unfold bindC
    rw [bindC_out fun w hw => h w (List.mem_cons_of_mem _ hw)]
    split
    · rfl
    · have : x ≠ n := by rintro rfl; exact h v List.mem_cons_self
      simp [this]
theorem bindL_get {kindOf : Str → Option NameKind} {x : Str} {v : Value} : ∀ {P : List Str} {vs : List Value} {i : Nat} {m : Str → Option Value}, P.Nodup → P[i]? = some x → vs[i]? = some v → kindOf x = some .local →
    bindL kindOf (P.zip vs) m x = some v
  | [], _, _, _, _, h, _, _ => by simp at h
  | _ :: _, [], _, _, _, _, h, _ => by simp at h
  | p :: P, w :: vs, 0, m, nd, h1, h2, hk => by
    simp at h1 h2; subst h1; subst h2
    show bindL kindOf ((p, w) :: P.zip vs) m p = _
    unfold bindL
    rw [bindL_out fun v hv => (List.nodup_cons.mp nd).1 (List.of_mem_zip hv).1, if_pos hk]
    simp
  | p :: P, w :: vs, i + 1, m, nd, h1, h2, hk => by
    show bindL kindOf ((p, w) :: P.zip vs) m x = _
    unfold bindL
    exact bindL_get (i := i) (List.nodup_cons.mp nd).2 (by simpa using h1) (by simpa using h2) hk
theorem bindC_get {kindOf : Str → Option NameKind} {x : Str} {v : Value} : ∀ {P : List Str} {vs : List Value} {i : Nat} {m : Str → Option Value}, P.Nodup → P[i]? = some x → vs[i]? = some v → kindOf x ≠ some .local →
    bindC kindOf (P.zip vs) m x = some v
  | [], _, _, _, _, h, _, _ => by simp at h
  | _ :: _, [], _, _, _, _, h, _ => by simp at h
  | p :: P, w :: vs, 0, m, nd, h1, h2, hk => by
    simp at h1 h2; subst h1; subst h2
    show bindC kindOf ((p, w) :: P.zip vs) m p = _
    unfold bindC
    rw [bindC_out fun v hv => (List.nodup_cons.mp nd).1 (List.of_mem_zip hv).1, if_neg hk]
    simp
  | p :: P, w :: vs, i + 1, m, nd, h1, h2, hk => by
    show bindC kindOf ((p, w) :: P.zip vs) m x = _
    unfold bindC
    exact bindC_get (i := i) (List.nodup_cons.mp nd).2 (by simpa using h1) (by simpa using h2) hk
def start (N : List Str) (vs : List V) : St := vs.map some ++ List.replicate (N.length - vs.length) none
def cxOf (CX : CXT) (P : Program) (w : World) (K : PySem.W.Frag) (mg : Str → Option Value) (base : Heap) (N : List Str) (qual : Str) (scope : Scope) (f : Addr) (cd : Value) (A : Around) (outer : List Env) (s : Shared) (H : Hp) (E : XK) : Cx where
  prog := P
  w := w
  K := K
  mg := mg
  base := base
  A := A.deeper (envOfC qual scope s.heap.objs.size f cd)
  N := N
  s₀ := s
  H₀ := H
  env := envOfC qual scope s.heap.objs.size f cd
  outer := outer
  stack := envOfC qual scope s.heap.objs.size f cd :: outer
  ex := []
  calm := true
  fn := fun _ => true
  pn := []
  xe := fun e s' => wpAny (model P w) (A.deeper (envOfC qual scope s.heap.objs.size f cd)) (leaving (envOfC qual scope s.heap.objs.size f cd) e) (fun _ s'' => CX outer H s E e s'') (fun e' s'' => CX outer H s E e' s'') s'
theorem cell_has {sc : Scope} {n : Nat} {x : Str} (h : sc.names.lookup x = some .cell) : ∃ c, (cellsFrom n sc.names []).lookup x = some c := by
  have q := PySem.W.cellsFrom_some sc.names n [] (.inl h)
  exact Option.isSome_iff_exists.mp q
theorem inv_start {CX : CXT} {P : Program} {w : World} {K : PySem.W.Frag} {mg : Str → Option Value} {base : Heap} {N ps : List Str} {qual : Str} {scope : Scope} {f : Addr} {cd : Value} {A : Around} {outer : List Env} {s s1 : Shared} {H : Hp} {E : XK} {us : List Value} {vs : List V}
    (S : FnScope N ps scope) (hd : A.handled = none) (e0 : Env0 P w K mg base A outer s H) (hl : vs.length = ps.length) (r : Vals vs us)
    (x : InCallC s s.heap.objs.size (bindL (envOfC qual scope s.heap.objs.size f cd).kindOf (ps.zip us) fun _ => none) (cellsFrom (s.heap.objs.size + 1) scope.names []) (bindC (envOfC qual scope s.heap.objs.size f cd).kindOf (ps.zip us) fun _ => none) s1) :
    Inv (cxOf CX P w K mg base N qual scope f cd A outer s H E) [] (start N vs) H s1 := by
  have hpl : ps.length ≤ N.length := by have := congrArg List.length S.pre; rw [List.length_take] at this; omega
  obtain ⟨h1, tk, rfl, hk⟩ := x.done
  have noA : ∀ b : Addr, b ∉ (cxOf CX P w K mg base N qual scope f cd A outer s H E).ex := fun b z => absurd (show b ∈ ([] : List Addr) from z) (by simp)
  refine ⟨⟨e0.mod, S.kind, rfl, rfl, Nat.le_refl _, fun y z c h1 h2 => ?_, fun y hy => ?_, fun y c _ h => ?_, fun _ => hd, Around.frames_deeper e0.frames, .inr ⟨rfl, rfl⟩, fun b z => absurd z (noA b), e0.bs, e0.bsz, fun b _ _ => noA b, fun b z => absurd z (noA b), e0.funs, e0.frf⟩,
    rfl, e0.bare, Un.kept hk, ⟨_, x.toInCall.ns, fun i y v h1 h2 h3 => ?_⟩, fun y c h => ⟨_, x.cell y c h⟩, e0.hok.fresh (Nat.le_refl _), fun y c h => ?_, fun p hp => absurd (show p ∈ ([] : List (Addr × Obj)) from hp) (by simp), e0.hok.kept hk, ?_⟩
  · exact name_of_addr x.apart (PySem.mem_of_lookup h1) (PySem.mem_of_lookup h2)
  · have hy : scope.names.lookup y = some .cell ∨ scope.names.lookup y = some .free := hy
    rcases hy with hy | hy
    · exact cell_has hy
    · exact absurd rfl (S.nofree _ (PySem.mem_of_lookup hy))
  · exact Nat.le_of_lt (x.above y c (PySem.mem_of_lookup h))
  · have hi : i < vs.length := by
      unfold start at h2
      by_cases hi : i < vs.length
      · exact hi
      · rw [List.getElem?_append_right (by simpa using hi)] at h2
        rw [List.getElem?_replicate] at h2
        split at h2 <;> cases h2
    have ha : vs[i]? = some v := by
      unfold start at h2
      rw [List.getElem?_append_left (by simpa using hi), List.getElem?_map] at h2
      cases e : vs[i]? with
      | none => rw [e] at h2; cases h2
      | some a => rw [e] at h2; cases h2; rfl
    obtain ⟨u, hu, rv⟩ := r.get ha
    have hp : ps[i]? = some y := by
      rw [← S.pre, List.getElem?_take_of_lt (by omega)]; exact h1
    have ndP : ps.Nodup := by rw [← S.pre]; exact S.nd.sublist (List.take_sublist _ _)
    refine ⟨u, rv, ?_⟩
    rcases S.par y (List.mem_of_getElem? hp) with k | k
    · exact .inl ⟨k, bindL_get ndP hp hu k⟩
    · obtain ⟨c, e⟩ := cell_has (n := s.heap.objs.size + 1) k
      refine .inr ⟨.inl k, c, e, ?_⟩
      have q := x.cell y c e
      rw [bindC_get ndP hp hu (by show scope.names.lookup y ≠ _; rw [k]; decide)] at q
      exact q
  · exact e0.hok.fresh (Nat.le_of_lt (x.above y c (PySem.mem_of_lookup h)))
  · unfold start
    show _ = N.length
    rw [List.length_append, List.length_map, List.length_replicate]
    omega
theorem fn_of {CX : CXT} {P : Program} {w : World} {K : PySem.W.Frag} {mg : Str → Option Value} {base : Heap} {k : Nat} {f : Addr} {name qual : Str} {params : Arguments} {body : List Stmt} {scope : Scope} {dV kV doc pm cdv ct oc : Value} {an od : Option Addr}
    {osl : Array (Option Value)} {N ps : List Str} {sp : Sp} (lk : K.lookup f = some ⟨oc, od, .func (PySem.W.fnOf name qual params body scope dV kV doc pm an cdv ct), osl⟩) (hcd : PySem.W.codeIn K cdv qual = true) (S : FnScope N ps scope)
    (len : ∀ vs H Q E, sp vs H Q E → vs.length = ps.length)
    (hbody : ∀ (A : Around) (outer : List Env) (s : Shared) (H : Hp) (vs : List V) (Q : VK) (E : XK), Room k (A.deeper (envOfC qual scope s.heap.objs.size f cdv)) → sp vs H Q E →
      ∃ t, PSs (cxOf CX P w K mg base N qual scope f cdv A outer s H E) body t ∧ t { nx := fun _ H' => Q .non H', rt := Q } (start N vs) H) :
    FnOk P w K mg base CX (k + 1) f (PySem.W.fnOf name qual params body scope dV kV doc pm an cdv ct) ps sp := by
  refine ⟨len, fun A outer s H args us vs Q E hr e0 hb r hsp => ?_⟩
  have hl := len _ _ _ _ hsp
  have KX : K.In s.heap := e0.mod.kin.keeps fun b o e => (e0.bs b o e).1
  have lim : s.heap.NoLimit := e0.mod.nolimit.keeps fun b o e => (e0.bs b o e).1
  have hkind : ∀ y ∈ ps.zip us, scope.names.lookup y.1 = some .local ∨ (scope.names.lookup y.1 = some .cell ∧ ((cellsFrom (s.heap.objs.size + 1) scope.names []).lookup y.1).isSome = true) := fun ⟨n, v⟩ hy => by
    rcases S.par n (List.of_mem_zip hy).1 with q | q
    · exact .inl q
    · exact .inr ⟨q, PySem.W.cellsFrom_some _ _ _ (.inl q)⟩
  refine codeAny_call_function hr.depth (KX _ _ lk) rfl S.co S.gen rfl (PySem.W.codeRec_of KX hcd) (hb _ _ _ _ ?_)
  refine wpAny_newFunctionEnv_cells S.kind hkind fun env he s1 x => ?_
  subst he
  refine ⟨lim.keeps x.toInCall.keep, codeAny_func ?_⟩
  obtain ⟨t, ht, hq⟩ := hbody A outer s H vs Q E (hr.deeper _) hsp
  have I : Inv (cxOf CX P w K mg base N qual scope f cdv A outer s H E) [] (start N vs) H s1 := inv_start S hr.hd e0 hl r x
  refine wpAny_mono (ht [] s1 (start N vs) H _ I hq) (fun fl s' hs => ?_) fun e s' hs => hs
  have fin : ∀ {σ' : St} {H' : Hp} {v : V} {u : Value}, Inv (cxOf CX P w K mg base N qual scope f cdv A outer s H E) [] σ' H' s' → RelV v u → Q v H' → CE outer P w H s Q u s' :=
    fun {σ' H' v u} J rv q => ⟨v, H', J.os, J.bare, J.base, J.hok, rv, q⟩
  cases fl with
  | ret u =>
    obtain ⟨v, σ', H', J, rv, q⟩ := hs
    exact fin J rv q
  | next =>
    obtain ⟨σ', H', J, q⟩ := hs
    exact fin (v := V.non) (u := Value.none) J rfl q
  | brk =>
    obtain ⟨_, _, _, q⟩ := hs
    exact False.elim q
  | cont =>
    obtain ⟨_, _, _, q⟩ := hs
    exact False.elim q
end L2
namespace L2
open PySem PySem.Spec PyProof.Rows
section
variable {X : Cx} {x : Str} {p pos : Pos} {e : Expr} {es : List Expr} {t : TA} {id T : String} {r : List V → Hp → VK → Prop}
def tCB (r : List V → Hp → VK → Prop) (t : TA) : TE := fun σ H Q => t σ H fun vs H1 => r vs H1 Q
theorem pe_callB (hc : CallR X (.builtin id) r) (hg : Gl X x) (hm : X.mg x = none) (hv : bootBuiltins x = some (.builtin id)) (ha : PA X (e :: es) t) (hn : x ≠ "__name__" := by decide) (hdb : (x == ("__debug__" : Str)) = false := by decide)
    (he : starEach (e :: es) X.env = (false, eval e X.env) :: starEach es X.env := by rfl) (hpl : (backTo pos (starEach es X.env)).any (·.1) = false := by rfl) : PE X (.Call (.Name x p) (e :: es) [] pos) (tCB r t) := by
  intro pins s σ H Q I h
  refine wpAny_Call_Name_kw (ld_blt I hg hm hv ?_ hn hdb)
  exact PyProof.Rows.callWith_builtin1 (thn (ha pos pins s σ H _ I h) fun us s1 ⟨vs, H1, I1, r1, q1⟩ => hc pins s1 σ H1 vs us Q I1 r1 q1) he hpl
theorem pe_callTy (hc : CallR X (.type T) r) (hg : Gl X x) (hm : X.mg x = none) (hv : bootBuiltins x = some (.type T)) (ha : PA X (e :: es) t) (hn : x ≠ "__name__" := by decide) (hdb : (x == ("__debug__" : Str)) = false := by decide)
    (he : starEach (e :: es) X.env = (false, eval e X.env) :: starEach es X.env := by rfl) (hpl : (backTo pos (starEach es X.env)).any (·.1) = false := by rfl) : PE X (.Call (.Name x p) (e :: es) [] pos) (tCB r t) := by
  intro pins s σ H Q I h
  refine wpAny_Call_Name_kw (ld_blt I hg hm hv ?_ hn hdb)
  exact PyProof.Rows.callWith_type1 (thn (ha pos pins s σ H _ I h) fun us s1 ⟨vs, H1, I1, r1, q1⟩ => hc pins s1 σ H1 vs us Q I1 r1 q1) he hpl
end
end L2
namespace HT
open PySem PyProof.Rows
section
open PySem.SeqAt
open PySem.AutoSeq1 (wpAny_loadPart')
open PySem.MeetsSeq PySem.MeetsSeq2 PySem.MeetsSeq3
end
section
variable {prog : Program} {w : World} {A : Around} {E : Value → Shared → Prop} {s : Shared}
theorem cat_tup {t b : Addr} {vs ws : List Value} {Q : Value → Shared → Prop} (ht : IsTup s.heap t vs.toArray) (hb : IsTup s.heap b ws.toArray) (hv : vs ≠ [])
    (h1 : ws = [] → Q (.ref t) s) (h2 : ws ≠ [] → Q (.ref s.heap.objs.size) { s with heap := s.heap.push { cls := .type "tuple", data := .seq (vs ++ ws).toArray } })
    (hsz : vs.length + ws.length ≤ sizeLine) : wpAny (model prog w) A (binaryOp .Add (.ref t) (.ref b)) Q E s := by
  obtain ⟨⟨cls, dd, data, sl⟩, ho, hc, n, hd⟩ := id ht
  obtain ⟨⟨cls2, dd2, data2, sl2⟩, ho2, hc2, n2, hd2⟩ := id hb
  simp only at hc hd hc2 hd2
  subst hc hd hc2 hd2
  have e : vs.toArray ++ ws.toArray = (vs ++ ws).toArray := by simp
  by_cases hw : ws = []
  · exact concat_meets ⟨_, ho, rfl⟩ ⟨_, ho2, rfl⟩ noFill_tuple_add seq_tuple_add PySem.F.slot_tuple_add PySem.F.entry_tuple_add (PySem.F.args_tuple_add_2 _ _)
      (tuple_addW1 t b vs.toArray ws.toArray n n2 dd dd2 sl sl2 (by simpa using hv) (by simp [hw])) ⟨ho, ho2, h1 hw⟩
  · refine concat_meets ⟨_, ho, rfl⟩ ⟨_, ho2, rfl⟩ noFill_tuple_add seq_tuple_add PySem.F.slot_tuple_add PySem.F.entry_tuple_add (PySem.F.args_tuple_add_2 _ _)
      (tuple_addW2 t b vs.toArray ws.toArray n n2 dd dd2 sl sl2 (by simpa using hv) (by simpa using hw) (by rw [List.size_toArray, List.size_toArray]; exact hsz)) ⟨ho, ho2, ?_⟩
    rw [e]
    exact h2 hw
def sIx (n d : Nat) : Option Int → Nat
  | none => d
  | some v => if v < 0 then (v + (n : Int)).toNat else min v.toNat n
theorem sIx_none (n d : Nat) : sIx n d none = d := rfl
theorem sIx_nat (n d k : Nat) : sIx n d (some (k : Int)) = min k n := by
  show (if (k : Int) < 0 then ((k : Int) + (n : Int)).toNat else min (k : Int).toNat n) = min k n
  rw [if_neg (by omega), Int.toNat_natCast]
theorem sIx_le (n d : Nat) (hd : d ≤ n) (o : Option Int) : sIx n d o ≤ n := by
  cases o with
  | none => exact hd
  | some v =>
    show (if v < 0 then (v + (n : Int)).toNat else min v.toNat n) ≤ n
    by_cases hv : v < 0
    · rw [if_pos hv]; omega
    · rw [if_neg hv]; exact Nat.min_le_right _ _
theorem clip_eq (v : Int) (n d : Nat) : (if v < 0 then max (v + (n : Int)) 0 else min v (n : Int)) = ((sIx n d (some v) : Nat) : Int) := by
  show (if v < 0 then max (v + (n : Int)) 0 else min v (n : Int)) = (((if v < 0 then (v + (n : Int)).toNat else min v.toNat n) : Nat) : Int)
  by_cases hv : v < 0
  · simp only [if_pos hv]; omega
  · simp only [if_neg hv]; omega
theorem adjust_gen (lo hi : Option Int) (n : Nat) : Builtin.Slice.sliceAdjust lo hi 1 (n : Int) = (((sIx n 0 lo : Nat) : Int), ((sIx n n hi : Nat) : Int)) := by
  have h1 : ¬ ((1 : Int) < 0) := by omega
  unfold Builtin.Slice.sliceAdjust
  simp only [h1, if_false]
  refine Prod.ext ?_ ?_
  · cases lo with
    | none => rfl
    | some v => exact clip_eq v n 0
  · cases hi with
    | none => rfl
    | some v => exact clip_eq v n n
theorem places_gen (i j : Nat) : Builtin.Slice.slicePlaces (i : Int) (j : Int) 1 = j - i := by
  unfold Builtin.Slice.slicePlaces
  have h1 : (1 : Int) > 0 := by omega
  simp only [h1, if_true, Int.ediv_one]
  split <;> omega
theorem slicePart_ {v : Value} {o : Option Int} {Q : Option Int → Shared → Prop} (p : IsPart v o) (h : Q o s) : wpAny (model prog w) A (Builtin.Slice.slicePartIndex v) Q E s := by
  cases p with
  | none => exact slicePart_none h
  | int i t => exact slicePart_int h
theorem sliceApplied_gen {sl : Addr} {vl vu : Value} {lo hi : Option Int} {n : Nat} {Q : Int × Int × Nat → Shared → Prop} (hs : s.heap.IsSliceOf sl vl vu .none) (pl : IsPart vl lo) (pu : IsPart vu hi)
    (h : Q (((sIx n 0 lo : Nat) : Int), 1, sIx n n hi - sIx n 0 lo) s) : wpAny (model prog w) A (Builtin.Slice.sliceApplied (.ref sl) (pure (n : Int))) Q E s := by
  obtain ⟨os, hos, hcs, hds⟩ := id hs
  unfold Builtin.Slice.sliceApplied Builtin.Slice.sliceFields
  refine wpAny_bind (wpAny_bind (wpAny_field hos hds (x := vl) rfl (wpAny_bind (wpAny_field hos hds (x := vu) rfl (wpAny_bind (wpAny_field hos hds (x := .none) rfl (wpAny_pure ?_)))))))
  refine wpAny_bind (slicePart_none ?_)
  show wpAny _ _ (if ((1 : Int) == 0) = true then _ else _) _ _ s
  rw [if_neg (by decide)]
  refine wpAny_bind (slicePart_ pl (wpAny_bind (slicePart_ pu (wpAny_bind (wpAny_pure ?_)))))
  show wpAny _ _ (match Builtin.Slice.sliceAdjust lo hi 1 (n : Int) with | (lo, hi) => pure (lo, (1 : Int), Builtin.Slice.slicePlaces lo hi 1)) _ _ s
  rw [adjust_gen lo hi n]
  show wpAny _ _ (pure (((sIx n 0 lo : Nat) : Int), (1 : Int), Builtin.Slice.slicePlaces ((sIx n 0 lo : Nat) : Int) ((sIx n n hi : Nat) : Int) 1)) _ _ s
  rw [places_gen]
  exact wpAny_pure h
theorem pick_gen (xs : Array Value) (i k : Nat) : ((List.range k).filterMap fun (m : Nat) => xs[((i : Int) + (m : Int) * 1).toNat]?).toArray = ((xs.toList.drop i).take k).toArray := by
  have e : (fun (m : Nat) => xs[((i : Int) + (m : Int) * 1).toNat]?) = fun m => xs[i + m]? := by
    funext m
    have : ((i : Int) + (m : Int) * 1).toNat = i + m := by omega
    rw [this]
  rw [e]
  have := pick_run xs i k
  rw [List.filterMap_map] at this
  have e2 : ((fun x => xs[x]?) ∘ fun x => i + x) = fun m => xs[i + m]? := rfl
  rw [e2] at this
  rw [this]
theorem getItem_tuple_cut {t sl : Addr} {items : Array Value} {vl vu : Value} {lo hi : Option Int} {Q : Value → Shared → Prop} (ht : IsTup s.heap t items) (hs : s.heap.IsSliceOf sl vl vu .none) (pl : IsPart vl lo) (pu : IsPart vu hi)
    (hw : ¬ (sIx items.size 0 lo = 0 ∧ sIx items.size items.size hi = items.size))
    (h : Q (.ref s.heap.objs.size) { s with heap := s.heap.push { cls := .type "tuple", data := .seq ((items.toList.drop (sIx items.size 0 lo)).take (sIx items.size items.size hi - sIx items.size 0 lo)).toArray } })
    (hsz : items.size ≤ sizeLine) : wpAny (model prog w) A (getItem (.ref t) (.ref sl)) Q E s := by
  have htake : sizeOk (.seq ((items.toList.drop (sIx items.size 0 lo)).take (sIx items.size items.size hi - sIx items.size 0 lo)).toArray) := by
    show ((items.toList.drop (sIx items.size 0 lo)).take (sIx items.size items.size hi - sIx items.size 0 lo)).toArray.size ≤ sizeLine
    rw [List.size_toArray, List.length_take, List.length_drop, Array.length_toList]
    omega
  have hj : sIx items.size items.size hi ≤ items.size := sIx_le _ _ (Nat.le_refl _) hi
  obtain ⟨os, hos, hcs, hds⟩ := id hs
  have hTs : s.TypeIs (.ref sl) "slice" := ⟨os, hos, hcs⟩
  unfold getItem
  try with_reducible refine wpAny_holding ?_
  first | refine wpAny_bind (wpAny_pure ?_) | skip
  refine wpAny_bind (wpAny_sequenceKey ht.typeIs (by decide) ?_)
  refine wpAny_bind (wpAny_callSpecial?_slot (name := Str.ofString "__getitem__") ht.typeIs PyProof.Rows.slot_tuple_getitem
    (wpAny_call_entry PyProof.Rows.slot_tuple_getitem ht.typeIs entry_tuple_getitem ?_ (args_tuple_getitem _ _)))
  show wpAny _ _ (Builtin.Tuple.tupleItemsOf (.ref t) >>= _) _ _ s
  refine wpAny_bind (tupleItemsOf_ ht ?_)
  refine wpAny_bind (wpAny_typeOf hTs ?_)
  rw [if_pos (by decide)]
  refine wpAny_bind (sliceApplied_gen hs pl pu ?_)
  have hno : ¬ ((((sIx items.size 0 lo : Nat) : Int) == 0 && (1 : Int) == 1 && (sIx items.size items.size hi - sIx items.size 0 lo) == items.size) = true) := by
    intro q
    rw [Bool.and_eq_true, Bool.and_eq_true] at q
    have q1 : ((sIx items.size 0 lo : Nat) : Int) = 0 := eq_of_beq q.1.1
    have q2 : sIx items.size items.size hi - sIx items.size 0 lo = items.size := eq_of_beq q.2
    exact hw ⟨by omega, by omega⟩
  show wpAny _ _ (if (((sIx items.size 0 lo : Nat) : Int) == 0 && (1 : Int) == 1 && (sIx items.size items.size hi - sIx items.size 0 lo) == items.size) = true then _ else _) _ _ s
  rw [if_neg hno, pick_gen]
  first
    | exact wpAny_bind (m := Builtin.Tuple.tupleExact _) (wpAny_newObj_type (wpAny_pure ⟨_, rfl, wpAny_pure h⟩) htake)
    | exact wpAny_bind (m := Builtin.Tuple.tupleExact _) (wpAny_newObj_type (wpAny_bind (wpAny_pure (wpAny_pure ⟨_, rfl, wpAny_pure h⟩))) htake)
    | exact wpAny_bind (wpAny_bind (m := Builtin.Tuple.tupleExact _) (wpAny_newObj_type (wpAny_pure (wpAny_pure ⟨_, rfl, wpAny_pure h⟩)) htake))
    | exact wpAny_bind (wpAny_bind (m := Builtin.Tuple.tupleExact _) (wpAny_newObj_type (wpAny_pure ⟨_, rfl, wpAny_pure h⟩) htake))
end
end HT
namespace L2
open PySem PySem.Spec PyProof.Rows
abbrev TO := St → Hp → (Option Int → Hp → Prop) → Prop
def PO (X : Cx) (e : Option Expr) (t : TO) : Prop :=
  ∀ (pins : List (Addr × Obj)) (s : Shared) (σ : St) (H : Hp) (Q : Option Int → Hp → Prop), Inv X pins σ H s → t σ H Q →
    wpAny (model X.prog X.w) X.A (evalPart e X.env) (fun u s' => ∃ o H', Inv X pins σ H' s' ∧ IsPart u o ∧ Q o H') X.xe s
def tNoPart : TO := fun _ H Q => Q none H
def tPart (t : TE) : TO := fun σ H Q => t σ H fun x H1 => ∃ i, x = .int i ∧ Q (some i) H1
theorem intsAre_of {ns : List Int} : ∀ {us : List Value}, Vals (ns.map V.int) us → IntsAre us ns := by
  induction ns with
  | nil => intro us r; rw [List.map_nil] at r; cases r; exact .nil
  | cons n ns ih =>
    intro us r
    rw [List.map_cons] at r
    cases r with
    | cons r1 r2 =>
      obtain ⟨t, e⟩ := r1
      subst e
      exact .cons n t (ih r2)
section
variable {X : Cx} {e : Expr} {te : TE} {lo hi : Option Expr} {tl th : TO} {pos p2 : Pos}
theorem po_none : PO X none tNoPart := by
  intro pins s σ H Q I h
  rw [evalPart_none]
  exact wpAny_pure ⟨none, H, I, .none, h⟩
theorem po_some (h : PE X e te) : PO X (some e) (tPart te) := by
  intro pins s σ H Q I hw
  rw [evalPart_some]
  refine thn (h pins s σ H _ I hw) fun u s1 ⟨x, H1, I1, r1, q1⟩ => ?_
  obtain ⟨i, rfl, q⟩ := q1
  obtain ⟨t, rfl⟩ := r1
  exact ⟨some i, H1, I1, .int i t, q⟩
def SlR (X : Cx) (r : V → Option Int → Option Int → Hp → VK → Prop) : Prop :=
  ∀ (pins : List (Addr × Obj)) (s : Shared) (σ : St) (H : Hp) (x : V) (v vl vu : Value) (lo hi : Option Int) (sl : Addr) (Q : VK), Inv X pins σ H s → RelV x v → s.heap.IsSliceOf sl vl vu .none → IsPart vl lo → IsPart vu hi → r x lo hi H Q →
    ∃ T id, typeLookup (.type T) "__getitem__" = pure (some (.builtin id)) ∧ s.TypeIs v T ∧ wpAny (model X.prog X.w) X.A (getItem v (.ref sl)) (EP X pins σ Q) X.xe s
theorem SlR.or {r r' : V → Option Int → Option Int → Hp → VK → Prop} (h : SlR X r) (h' : SlR X r') : SlR X (fun x lo hi H Q => r x lo hi H Q ∨ r' x lo hi H Q) := by
  intro pins s σ H x v vl vu lo hi sl Q I rx hs pl pu q
  rcases q with q | q
  · exact h pins s σ H x v vl vu lo hi sl Q I rx hs pl pu q
  · exact h' pins s σ H x v vl vu lo hi sl Q I rx hs pl pu q
def tSl (r : V → Option Int → Option Int → Hp → VK → Prop) (te : TE) (tl th : TO) : TE := fun σ H Q => te σ H fun x H1 => tl σ H1 fun l H2 => th σ H2 fun u H3 => r x l u H3 Q
theorem pe_slice {r : V → Option Int → Option Int → Hp → VK → Prop} (hr : SlR X r) (he : PE X e te) (hl : PO X lo tl) (hu : PO X hi th) : PE X (.Subscript e (.Slice lo hi none p2) pos) (tSl r te tl th) := by
  intro pins s σ H Q I h
  refine Subscript_ (thn (he pins s σ H _ I h) fun v s1 ⟨x, H1, I1, r1, q1⟩ => ?_)
  refine wpAny_Slice (thn (hl pins s1 σ H1 _ I1 q1) fun vl s2 ⟨l, H2, I2, pl, q2⟩ => thn (hu pins s2 σ H2 _ I2 q2) fun vu s3 ⟨u, H3, I3, pu, q3⟩ => ?_)
  rw [evalPart_none]
  refine wpAny_pure ?_
  have I4 : Inv X pins σ H3 { s3 with heap := s3.heap.push { cls := .type "slice", data := .fields #[vl, vu, .none] } } := I3.kept (t' := s3.toks) fun b ob q => Heap.get?_push_of_some _ q
  obtain ⟨T, id, hT, ht, hg⟩ := hr pins { s3 with heap := s3.heap.push { cls := .type "slice", data := .fields #[vl, vu, .none] } } σ H3 x v vl vu l u s3.heap.objs.size Q I4 r1 (Heap.IsSliceOf.new ..) pl pu q3
  show wpAny (model X.prog X.w) X.A (subscriptTail e (.Slice lo hi none p2) v (.ref s3.heap.objs.size)) (EP X pins σ Q) X.xe { s3 with heap := s3.heap.push { cls := .type "slice", data := .fields #[vl, vu, .none] } }
  exact tail_any (ops := [.ref s3.heap.objs.size, v]) ht hT hg (by with_unfolding_all rfl)
def cutV (xs : List V) (lo hi : Option Int) : List V := (xs.drop (HT.sIx xs.length 0 lo)).take (HT.sIx xs.length xs.length hi - HT.sIx xs.length 0 lo)
theorem cutV_length (xs : List V) (lo hi : Option Int) : (cutV xs lo hi).length ≤ xs.length := by
  unfold cutV
  rw [List.length_take, List.length_drop]
  omega
def rSlT (K : PySem.W.Frag) : V → Option Int → Option Int → Hp → VK → Prop := fun x lo hi H Q => ∃ a xs, x = .ref a ∧ SqT K H a xs ∧
  ¬ (HT.sIx xs.length 0 lo = 0 ∧ HT.sIx xs.length xs.length hi = xs.length) ∧ ∀ p, H p = none → Q (.ref p) (upd H p (.tup (cutV xs lo hi)))
theorem sl_tup : SlR X (rSlT X.K) := by
  intro pins s σ H x v vl vu lo hi sl Q I rx hs pl pu h
  obtain ⟨a, xs, rfl, hx, hw, q⟩ := h
  cases rx
  obtain ⟨its, r, ht, hz⟩ := I.tuple hx
  have hlen : its.toArray.size = xs.length := by rw [List.size_toArray]; exact r.length.symm
  refine ⟨"tuple", _, PyProof.Rows.slot_tuple_getitem.lookup, ht.typeIs, ?_⟩
  refine HT.getItem_tuple_cut ht hs pl pu (by rw [hlen]; exact hw) ?_ (by rw [hlen]; exact hz)
  rw [hlen]
  refine ⟨.ref s.heap.objs.size, _, I.laid (t' := s.toks) (o := .tup (cutV xs lo hi)) (fun b ob q => Heap.get?_push_of_some _ q) (Nat.le_refl _) ?_, rfl, q _ (I.hok.fresh (Nat.le_refl _))⟩
  exact ⟨Nat.le_trans (cutV_length xs lo hi) hz, _, (r.drop (HT.sIx xs.length 0 lo)).take (HT.sIx xs.length xs.length hi - HT.sIx xs.length 0 lo), IsTup.new _ _⟩
def rCatT (K : PySem.W.Frag) : R2 := fun x y H Q => ∃ a b xs ys, x = .ref a ∧ y = .ref b ∧ SqT K H a xs ∧ SqT K H b ys ∧ xs ≠ [] ∧ xs.length + ys.length ≤ sizeLine ∧
  (ys = [] → Q (.ref a) H) ∧ (ys ≠ [] → ∀ p, H p = none → Q (.ref p) (upd H p (.tup (xs ++ ys))))
theorem Vals.nil_iff {xs : List V} {us : List Value} (r : Vals xs us) : us = [] ↔ xs = [] := by
  cases r with
  | nil => simp
  | cons _ _ => simp
theorem op_catT : OpR X (binaryOp .Add) (rCatT X.K) := by
  intro pins s σ H x y v u Q I rx ry h
  obtain ⟨a, b, xs, ys, rfl, rfl, ha, hb, hx, hz, q1, q2⟩ := h
  cases rx
  cases ry
  obtain ⟨its, r1, p1, _⟩ := I.tuple ha
  obtain ⟨its2, r2, p2, _⟩ := I.tuple hb
  refine HT.cat_tup p1 p2 (fun z => hx (r1.nil_iff.mp z)) (fun z => ⟨.ref a, H, I, rfl, q1 (r2.nil_iff.mp z)⟩) (fun z => ?_) (by rw [← r1.length, ← r2.length]; exact hz)
  refine ⟨.ref s.heap.objs.size, _, I.laid (t' := s.toks) (o := .tup (xs ++ ys)) (fun b ob q => Heap.get?_push_of_some _ q) (Nat.le_refl _) ?_, rfl, q2 (fun w => z (r2.nil_iff.mpr w)) _ (I.hok.fresh (Nat.le_refl _))⟩
  exact ⟨by rw [List.length_append]; exact hz, _, r1.append r2, IsTup.new _ _⟩
end
end L2
namespace L2
open PySem PySem.Spec PyProof.Rows
def ixN (n : Nat) (i : Int) : Option Nat := if 0 ≤ i then (if i < n then some i.toNat else none) else if -(n : Int) ≤ i then some (i + n).toNat else none
def atI {α : Type} (xs : List α) (i : Int) : Option α := (ixN xs.length i).bind fun j => xs[j]?
theorem ixN_seq {n : Nat} {i : Int} {j : Nat} (h : ixN n i = some j) : seqIndex? i n = some j ∧ j < n ∧ -(n : Int) ≤ i ∧ i < n := by
  unfold ixN at h
  by_cases h0 : 0 ≤ i
  · rw [if_pos h0] at h
    by_cases h1 : i < n
    · rw [if_pos h1] at h
      have e : i.toNat = j := Option.some.inj h
      exact ⟨by rw [seqIndex_of h0 h1, e], by omega, by omega, h1⟩
    · rw [if_neg h1] at h; cases h
  · rw [if_neg h0] at h
    by_cases h1 : -(n : Int) ≤ i
    · rw [if_pos h1] at h
      have e : (i + n).toNat = j := Option.some.inj h
      exact ⟨by rw [seqIndex_neg (by omega) h1, e], by omega, h1, by omega⟩
    · rw [if_neg h1] at h; cases h
theorem atI_get {α : Type} {xs : List α} {i : Int} {v : α} (h : atI xs i = some v) : ∃ j, seqIndex? i xs.length = some j ∧ xs[j]? = some v ∧ j < xs.length ∧ -(xs.length : Int) ≤ i ∧ i < xs.length := by
  unfold atI at h
  cases e : ixN xs.length i with
  | none => rw [e] at h; cases h
  | some j =>
    rw [e] at h
    obtain ⟨h1, h2, h3, h4⟩ := ixN_seq e
    exact ⟨j, h1, h, h2, h3, h4⟩
def PlainIx (b : Expr) : Prop := ∀ o i, subscripted b false o i = operate [o, i] (getItem o i)
def IxR (X : Cx) (r : R2) : Prop :=
  ∀ (value slice : Expr) (pins : List (Addr × Obj)) (s : Shared) (σ : St) (H : Hp) (x y : V) (v u : Value) (Q : VK), Inv X pins σ H s → RelV x v → RelV y u → r x y H Q →
    subscripted slice false v u = operate [v, u] (getItem v u) → wpAny (model X.prog X.w) X.A (subscriptTail value slice v u) (EP X pins σ Q) X.xe s
def MtR (X : Cx) (id : String) (r : V → List V → Hp → VK → Prop) : Prop :=
  ∀ (pins : List (Addr × Obj)) (s : Shared) (σ : St) (H : Hp) (x : V) (xs : List V) (v : Value) (us : List Value) (Q : VK), Inv X pins σ H s → RelV x v → Vals xs us → r x xs H Q →
    wpAny (model X.prog X.w) X.A (call (.builtin id) (v :: us)) (EP X pins σ Q) X.xe s
section
variable {X : Cx} {a b : Expr} {ta tb : TE} {pos : Pos}
theorem IxR.or {r r' : R2} (h : IxR X r) (h' : IxR X r') : IxR X (fun x y H Q => r x y H Q ∨ r' x y H Q) := by
  intro value slice pins s σ H x y v u Q I rx ry q hs
  rcases q with q | q
  · exact h value slice pins s σ H x y v u Q I rx ry q hs
  · exact h' value slice pins s σ H x y v u Q I rx ry q hs
theorem pe_ix {r : R2} (hr : IxR X r) (ha : PE X a ta) (hb : PE X b tb) (hs : PlainIx b) : PE X (.Subscript a b pos) (tOp r ta tb) := by
  intro pins s σ H Q I h
  exact Subscript_ (binT ha hb I h fun v u s2 x y H2 I2 rx ry q => hr a b pins s2 σ H2 x y v u Q I2 rx ry q (hs _ _))
def rIxL (K : PySem.W.Frag) : R2 := fun x y H Q => ∃ p xs i v, x = .ref p ∧ y = .int i ∧ SqL K H p xs ∧ atI xs i = some v ∧ Q v H
def rIxT (K : PySem.W.Frag) : R2 := fun x y H Q => ∃ p xs i v, x = .ref p ∧ y = .int i ∧ SqT K H p xs ∧ atI xs i = some v ∧ Q v H
def rIxS : R2 := fun x y H Q => ∃ z i c, x = .str z ∧ y = .int i ∧ z.length ≤ sizeLine ∧ atI z.cps.toList i = some c ∧ Q (.str ⟨#[c]⟩) H
theorem ix_list : IxR X (rIxL X.K) := by
  intro value slice pins s σ H x y v u Q I rx ry h hs
  obtain ⟨p, xs, i, z, rfl, rfl, hq, he, q⟩ := h
  cases rx
  obtain ⟨t, rfl⟩ := ry
  obtain ⟨its, r, pl, hz⟩ := I.list hq
  obtain ⟨j, h1, h2, h3, h4, h5⟩ := atI_get he
  obtain ⟨w, ew, rw'⟩ := r.get h2
  have hl := r.length
  have hn := line63
  have fin : EP X pins σ Q w s := ⟨z, H, I, rw', q⟩
  by_cases h0 : 0 ≤ i
  · have hj : i.toNat = j := by
      rw [seqIndex_of h0 h5] at h1
      exact Option.some.inj h1
    exact item_listR pl.isList h0 (by omega) (by rw [hj]; simpa using ew) fin hs
  · have hj : (i + (its.toArray.size : Int)).toNat = j := by
      rw [seqIndex_neg (by omega) h4] at h1
      rw [List.size_toArray, ← hl]
      exact Option.some.inj h1
    exact subscriptTail_builtinR (x := w) pl.isList.typeIs slot_list_getitem.lookup
      (wpAny_getItem_list_neg (Q := fun r s' => r = w ∧ EP X pins σ Q r s') pl.isList (by omega) (by rw [List.size_toArray] <;> omega) (by omega) (by rw [hj]; simpa using ew) ⟨rfl, fin⟩) hs
theorem ix_tup : IxR X (rIxT X.K) := by
  intro value slice pins s σ H x y v u Q I rx ry h hs
  obtain ⟨p, xs, i, z, rfl, rfl, hq, he, q⟩ := h
  cases rx
  obtain ⟨t, rfl⟩ := ry
  obtain ⟨its, r, pl, hz⟩ := I.tuple hq
  obtain ⟨j, h1, h2, h3, h4, h5⟩ := atI_get he
  obtain ⟨w, ew, rw'⟩ := r.get h2
  have hl := r.length
  have hn := line63
  have fin : EP X pins σ Q w s := ⟨z, H, I, rw', q⟩
  exact subscriptTail_builtinR (x := w) pl.typeIs slot_tuple_getitem.lookup
    (getItem_tuple (j := j) (Q := fun r s' => r = w ∧ EP X pins σ Q r s') pl (by omega) (by omega) (by rw [List.size_toArray, ← hl]; exact h1) (by simpa using ew) ⟨rfl, fin⟩) hs
theorem ix_str : IxR X rIxS := by
  intro value slice pins s σ H x y v u Q I rx ry h hs
  obtain ⟨z, i, c, rfl, rfl, hz, he, q⟩ := h
  obtain ⟨t, rfl⟩ := rx
  obtain ⟨t', rfl⟩ := ry
  obtain ⟨j, h1, h2, h3, h4, h5⟩ := atI_get he
  have hl : z.cps.toList.length = z.length := by simp [Str.length]
  rw [hl] at h1 h4 h5
  have hn := line63
  exact tail_any (typeIs_str s z t) slot_str_getitem.lookup (getItem_str (c := c) (by
    have e1 : decide (i < -(2 ^ 63 : Int)) = false := decide_eq_false (by omega)
    have e2 : decide (i ≥ 2 ^ 63) = false := decide_eq_false (by omega)
    rw [e1, e2, Bool.or_false]) (by rw [h1]; simpa using h2) ⟨.str ⟨#[c]⟩, H, I.tok _, ⟨_, rfl⟩, q⟩) hs
def rIx (K : PySem.W.Frag) : R2 := fun x y H Q => rIxL K x y H Q ∨ rIxT K x y H Q ∨ rIxS x y H Q
theorem ix_seq : IxR X (rIx X.K) := ix_list.or (ix_tup.or ix_str)
theorem slice_bounds (lo hi : Option Int) (n : Nat) : (sliceBounds lo hi none n).1 = ((HT.sIx n 0 lo : Nat) : Int) ∧ (sliceBounds lo hi none n).2.1 = ((HT.sIx n n hi : Nat) : Int) ∧ (sliceBounds lo hi none n).2.2 = 1 := by
  refine ⟨?_, ?_, rfl⟩
  · cases lo with
    | none => simp [sliceBounds, HT.sIx]
    | some i =>
      simp only [sliceBounds, HT.sIx, Option.getD_none, show (1 : Int) > 0 by decide, if_true]
      by_cases h : i < 0
      · simp only [h, if_true] <;> omega
      · simp only [h, if_false] <;> omega
  · cases hi with
    | none => simp [sliceBounds, HT.sIx]
    | some i =>
      simp only [sliceBounds, HT.sIx, Option.getD_none, show (1 : Int) > 0 by decide, if_true]
      by_cases h : i < 0
      · simp only [h, if_true] <;> omega
      · simp only [h, if_false] <;> omega
theorem slicePick_cut (its : List Value) (lo hi : Option Int) : slicePick its.toArray lo hi none = ((its.drop (HT.sIx its.length 0 lo)).take (HT.sIx its.length its.length hi - HT.sIx its.length 0 lo)).toArray := by
  obtain ⟨h1, h2, h3⟩ := slice_bounds lo hi its.toArray.size
  unfold slicePick
  rw [h1, h2, h3]
  simp only [sliceRange_one, pick_run, List.size_toArray] <;> rfl
def rSlL (K : PySem.W.Frag) : V → Option Int → Option Int → Hp → VK → Prop := fun x lo hi H Q => ∃ a xs, x = .ref a ∧ SqL K H a xs ∧ ∀ p, H p = none → Q (.ref p) (upd H p (.lst (cutV xs lo hi)))
theorem sl_list : SlR X (rSlL X.K) := by
  intro pins s σ H x v vl vu lo hi sl Q I rx hs pl pu h
  obtain ⟨a, xs, rfl, hx, q⟩ := h
  cases rx
  obtain ⟨its, r, ht, hz⟩ := I.list hx
  have hlen := r.length
  refine ⟨"list", _, slot_list_getitem.lookup, ht.isList.typeIs, ?_⟩
  refine wpAny_getItem_list_slice ht.isList hs pl pu .none (by simp) ?_ (by rw [List.size_toArray] <;> omega)
  rw [slicePick_cut, ← hlen]
  refine ⟨.ref s.heap.objs.size, _, I.laid (t' := s.toks) (o := .lst (cutV xs lo hi)) (fun b ob q => Heap.get?_push_of_some _ q) (Nat.le_refl _) ?_, rfl, q _ (I.hok.fresh (Nat.le_refl _))⟩
  exact ⟨Nat.le_trans (cutV_length xs lo hi) hz, _, 0, (r.drop (HT.sIx xs.length 0 lo)).take (HT.sIx xs.length xs.length hi - HT.sIx xs.length 0 lo), Heap.get?_push_size _ rfl⟩
theorem call_len_seq : CallR X (.builtin "len") (fun xs H Q => ∃ p ys, xs = [.ref p] ∧ (SqL X.K H p ys ∨ SqT X.K H p ys) ∧ Q (.int ys.length) H) := by
  intro pins s σ H xs us Q I r h
  obtain ⟨p, ys, rfl, hq, q⟩ := h
  obtain ⟨u, rfl, rx⟩ := vals1 r
  cases rx
  have hn := line63
  rcases hq with hq | hq
  · obtain ⟨its, r', pl, hz⟩ := I.list hq
    have hlen := r'.length
    exact Calls.call_len_list pl.isList (by simp only [List.size_toArray] <;> omega) ⟨.int ys.length, H, I.tok _, ⟨s.toks + 1, by rw [List.size_toArray, hlen]⟩, q⟩
  · obtain ⟨its, r', pl, hz⟩ := I.tuple hq
    have hlen := r'.length
    exact len_tuple pl (by simp only [List.size_toArray] <;> omega) ⟨.int ys.length, H, I.tok _, ⟨s.toks + 1, by rw [List.size_toArray, hlen]⟩, q⟩
theorem call_tuple_of : CallR X (.type "tuple") (fun xs H Q => ∃ p ys, xs = [.ref p] ∧ ((SqL X.K H p ys ∧ ∀ l, H l = none → Q (.ref l) (upd H l (.tup ys))) ∨ (SqT X.K H p ys ∧ Q (.ref p) H))) := by
  intro pins s σ H xs us Q I r h
  obtain ⟨p, ys, rfl, h⟩ := h
  obtain ⟨u, rfl, rx⟩ := vals1 r
  cases rx
  rcases h with ⟨hq, q⟩ | ⟨hq, q⟩
  · obtain ⟨its, r', pl, hz⟩ := I.list hq
    have hlen := r'.length
    refine call_tuple_list pl.isList (fun h' kp => ?_) (by simp only [List.size_toArray] <;> omega)
    have I1 : Inv X pins σ H { s with heap := h' } := I.kept (t' := s.toks) kp
    have I2 : Inv X pins σ (upd H h'.objs.size (.tup ys)) { s with heap := h'.push { cls := .type "tuple", data := .seq its.toArray } } :=
      I1.laid (t' := s.toks) (fun b o e => Heap.get?_push_of_some _ e) (Nat.le_refl _) (show ObjOk X.prog X.w _ _ _ (.tup ys) from ⟨hz, its, r', IsTup.new _ _⟩)
    exact ⟨.ref h'.objs.size, _, I2, rfl, q _ (I1.hok.fresh (Nat.le_refl _))⟩
  · obtain ⟨its, r', pl, hz⟩ := I.tuple hq
    exact call_tuple_same pl ⟨.ref p, H, I, rfl, q⟩
def tyV (K : PySem.W.Frag) (T : String) (x : V) (H : Hp) : Prop := match x with
  | .str _ => T = "str"
  | .int _ => T = "int"
  | .ref p => (T = "list" ∧ ∃ xs, SqL K H p xs) ∨ (T = "tuple" ∧ ∃ o, K.lookup p = some o ∧ o.cls = .type "tuple" ∧ o.dict = none) ∨
      (T = "dict" ∧ ((∃ kvs, H p = some (.dK kvs)) ∨ ∃ kvs, H p = some (.dT kvs))) ∨ (T = "set" ∧ ∃ S n, H p = some (.set S n))
  | _ => False
theorem tyV_is {pins : List (Addr × Obj)} {σ : St} {H : Hp} {s : Shared} {T : String} {x : V} {v : Value} (I : Inv X pins σ H s) (r : RelV x v) (ty : tyV X.K T x H) :
    s.TypeIs v T ∧ ∀ a, v = .ref a → ∃ ob, s.heap.get? a = some ob ∧ ob.dict = none := by
  cases x with
  | str z =>
    obtain ⟨t, rfl⟩ := r
    cases (show T = "str" from ty)
    exact ⟨typeIs_str s z t, fun _ e => nomatch e⟩
  | int i =>
    obtain ⟨t, rfl⟩ := r
    cases (show T = "int" from ty)
    exact ⟨typeIs_int s i t, fun _ e => nomatch e⟩
  | ref p =>
    cases r
    rcases ty with ⟨rfl, xs, hq⟩ | ⟨rfl, o, hk, hc, hd⟩ | ⟨rfl, hk⟩ | ⟨rfl, S, n, hk⟩
    · obtain ⟨its, _, pl, _⟩ := I.list hq
      refine ⟨pl.isList.typeIs, fun a e => ?_⟩
      cases e
      obtain ⟨o, n, e, c, hd, _⟩ := pl
      exact ⟨o, e, hd⟩
    · refine ⟨⟨o, I.kIn p o hk, hc⟩, fun a e => ?_⟩
      cases e
      exact ⟨o, I.kIn _ o hk, hd⟩
    · have z : ∃ o, s.heap.get? p = some o ∧ o.ExactDict := by
        rcases hk with ⟨kvs, hk⟩ | ⟨kvs, hk⟩
        · obtain ⟨_, _, _, _, o, _, _, e, ex, _⟩ := I.hok p _ hk
          exact ⟨o, e, ex⟩
        · obtain ⟨_, _, _, _, o, _, _, e, ex, _⟩ := I.hok p _ hk
          exact ⟨o, e, ex⟩
      obtain ⟨o, e, ex⟩ := z
      refine ⟨⟨o, e, ex.1⟩, fun a e2 => ?_⟩
      cases e2
      exact ⟨o, e, ex.2.1⟩
    · obtain ⟨o, _, _, _, e, ex, _⟩ := I.hok p _ hk
      refine ⟨⟨o, e, ex.1⟩, fun a e2 => ?_⟩
      cases e2
      exact ⟨o, e, ex.2.1⟩
  | _ => exact False.elim ty
def tBM (K : PySem.W.Frag) (T : String) (r : V → List V → Hp → VK → Prop) (to : TE) (t : TA) : TE := fun σ H Q => to σ H fun x H1 => tyV K T x H1 ∧ t σ H1 fun xs H2 => r x xs H2 Q
variable {o e : Expr} {es : List Expr} {to : TE} {t : TA} {name : Str} {apos cpos : Pos} {T id : String} {r : V → List V → Hp → VK → Prop}
theorem pe_bm (pa : PlainAttrs T) (slot : Slot T name id) (hty : typeOf (.builtin id) = pure (.type "method_descriptor")) (hm : MtR X id r) (ho : PE X o to) (ha : PA X (e :: es) t)
    (hbase : attributeBase o name X.env (eval o X.env) = eval o X.env := by rfl)
    (hfew : ((backTo cpos (starEach (e :: es) X.env)).all (fun x => !x.1) && (backToKw cpos (keywordEach [] X.env)).all (fun x => x.1.isSome)
      && decide ((e :: es).length + ([] : List Keyword).length + (if ([] : List Keyword).isEmpty then 0 else 1) < 30)) = true := by rfl)
    (hline : (apos.endLine == cpos.line) = true := by rfl) (hs : starEach (e :: es) X.env = (false, eval e X.env) :: starEach es X.env := by rfl) (hplain : (backTo cpos (starEach es X.env)).any (·.1) = false := by rfl) :
    PE X (.Call (.Attribute o name apos) (e :: es) [] cpos) (tBM X.K T r to t) := by
  intro pins s σ H Q I h
  refine wpAny_Call_method_late hbase hfew hline rfl (thn (ho pins s σ H _ I h) fun v s1 ⟨x, H1, I1, r1, ty, q1⟩ => ?_)
  obtain ⟨h1, h2⟩ := tyV_is I1 r1 ty
  refine ⟨T, id, pa, slot, hty, h1, h2, ?_⟩
  have hA := ha cpos pins s1 σ H1 _ I1 q1
  rw [hs] at hA ⊢
  refine Calls.callWith_builtin (by show (false || (backTo cpos (starEach es X.env)).any (·.1)) = false; rw [hplain] <;> rfl) (Calls.evalArgs_plain ?_)
  exact thn hA fun us s2 ⟨vs, H2, I2, r2, q2⟩ => hm pins s2 σ H2 x vs v us Q I2 r1 r2 q2
/- xs.append(e), list.index on a module's tuple .. are MtR facts of 06m -/
end
end L2
namespace L2
open PySem PySem.Spec PyProof.Rows
def MtM (X : Cx) (id : String) (r : V → List V → Hp → VK → Prop) : Prop :=
  ∀ (pins : List (Addr × Obj)) (s : Shared) (σ : St) (H : Hp) (x : V) (xs : List V) (v : Value) (us : List Value) (Q : VK), Inv X pins σ H s → RelV x v → Vals xs us → r x xs H Q →
    wpAny (model X.prog X.w) X.A (call (.builtin id) (v :: us)) (EP X pins σ Q) X.xe s
theorem Vals.one : ∀ {x : V} {us : List Value}, Vals [x] us → ∃ u, us = [u] ∧ RelV x u
  | _, _, .cons r .nil => ⟨_, rfl, r⟩
theorem Vals.rep {xs : List V} {us : List Value} (h : Vals xs us) : ∀ k : Nat, Vals (List.replicate k xs).flatten (List.replicate k us).flatten
  | 0 => .nil
  | k + 1 => by
    rw [List.replicate_succ, List.replicate_succ, List.flatten_cons, List.flatten_cons]
    exact Vals.append h (Vals.rep h k)
theorem foldl_rep (its : List Value) : ∀ (k : Nat) (acc : List Value),
    List.foldl (fun x1 x2 => x1 ++ x2) acc.toArray (List.replicate k its.toArray) = (acc ++ (List.replicate k its).flatten).toArray
  | 0, acc => by simp
  | k + 1, acc => by
    have e : acc.toArray ++ its.toArray = (acc ++ its).toArray := by simp
    have e2 : (acc ++ its) ++ (List.replicate k its).flatten = acc ++ (List.replicate (k + 1) its).flatten := by
      rw [List.replicate_succ, List.flatten_cons, List.append_assoc]
    rw [← e2, ← foldl_rep its k (acc ++ its), ← e, List.replicate_succ, List.foldl_cons]
section
variable {X : Cx} {pins : List (Addr × Obj)} {σ : St} {H : Hp} {s : Shared} {l b : Addr} {xs ys zs : List V}
theorem Inv.lset {its its' : List Value} {n : Nat} {f : Array Value → Array Value} {t' : Nat} (I : Inv X pins σ H s) (hH : H l = some (.lst xs))
    (e : s.heap.get? l = some { cls := .type "list", data := .seq its.toArray n }) (hf : f its.toArray = its'.toArray) (hv : Vals ys its') (hz : ys.length ≤ sizeLine) :
    Inv X pins σ (upd H l (.lst ys)) { s with heap := s.heap.update l (Obj.mapSeq f), toks := t' } := by
  have q := PySem.IsL.update e f
  rw [hf] at q
  refine I.write (x := l) (e := l) (by rw [hH]; exact trivial) (.inl rfl) (fun b' u hb hu => (Heap.get?_update_other s.heap (Obj.mapSeq f) (Ne.symm hb)).trans hu) ⟨_, q⟩ ?_
  exact ⟨hz, its', _, hv, q⟩
theorem Inv.lnew {its : List Value} {t' : Nat} (I : Inv X pins σ H s) (hv : Vals ys its) (hz : ys.length ≤ sizeLine) :
    Inv X pins σ (upd H s.heap.objs.size (.lst ys)) { s with heap := s.heap.push { cls := .type "list", data := .seq its.toArray }, toks := t' } :=
  I.laid (fun _ _ q => Heap.get?_push_of_some _ q) (Nat.le_refl _) ⟨hz, its, 0, hv, Heap.get?_push_size _ rfl⟩
theorem Inv.fresh (I : Inv X pins σ H s) : H s.heap.objs.size = none := I.hok.fresh (Nat.le_refl _)
theorem Inv.lstM (I : Inv X pins σ H s) (hH : H l = some (.lst xs)) : xs.length ≤ sizeLine ∧ ∃ (its : List Value) (n : Nat), Vals xs its ∧ xs.length = its.length ∧ s.heap.get? l = some { cls := .type "list", data := .seq its.toArray n } := by
  obtain ⟨z, its, n, r, e⟩ := I.hok l _ hH
  exact ⟨z, its, n, r, r.length, e⟩
theorem notLongL {n : Nat} (h : n ≤ sizeLine) : Builtin.List.listTooLong n = false := by
  unfold Builtin.List.listTooLong
  exact decide_eq_false (by omega)
end
section
variable {X : Cx}
def rAppend : V → List V → Hp → VK → Prop := fun x vs H Q => ∃ l xs y, x = .ref l ∧ vs = [y] ∧ H l = some (.lst xs) ∧ xs.length < sizeLine ∧ Q .non (upd H l (.lst (xs ++ [y])))
theorem mt_append : MtM X "list.append" rAppend := by
  intro pins s σ H x vs v us Q I rx rv h
  obtain ⟨l, xs, y, rfl, rfl, hH, hz, q⟩ := h
  cases rx
  obtain ⟨u, rfl, ru⟩ := rv.one
  obtain ⟨z, its, n, r, hl, e⟩ := I.lstM hH
  refine call_meets F.slot_list_append ⟨_, e, rfl⟩ F.entry_list_append (F.args_list_append_2 _ _) (PySem.list_append l its.toArray n u (by rw [List.size_toArray]; omega)) ⟨e, ?_⟩
  refine ⟨.non, _, I.lset (its' := its ++ [u]) hH e (by simp) (r.append (.cons ru .nil)) ?_, rfl, q⟩
  rw [List.length_append, List.length_singleton]
  omega
def rExtend : V → List V → Hp → VK → Prop := fun x vs H Q => ∃ l b xs zs, x = .ref l ∧ vs = [.ref b] ∧ H l = some (.lst xs) ∧ H b = some (.lst zs) ∧ xs.length + zs.length ≤ sizeLine ∧ Q .non (upd H l (.lst (xs ++ zs)))
theorem mt_extend : MtM X "list.extend" rExtend := by
  intro pins s σ H x vs v us Q I rx rv h
  obtain ⟨l, b, xs, zs, rfl, rfl, hH, hB, hz, q⟩ := h
  cases rx
  obtain ⟨u, rfl, ru⟩ := rv.one
  cases ru
  obtain ⟨z, its, n, r, hl, e⟩ := I.lstM hH
  obtain ⟨z2, its2, n2, r2, hl2, e2⟩ := I.lstM hB
  have hsz : its.toArray.size + its2.toArray.size ≤ sizeLine := by rw [List.size_toArray, List.size_toArray]; omega
  have hlong : ¬ (!its.toArray.isEmpty && Builtin.List.listTooLong (its.toArray.size + its2.toArray.size)) = true := by
    rw [notLongL hsz, Bool.and_false]
    exact Bool.false_ne_true
  refine call_meets F.slot_list_extend ⟨_, e, rfl⟩ F.entry_list_extend (F.args_list_extend_2 _ _)
    (AutoSeq1.list_extend_list_list_0 l its.toArray n b its2.toArray n2 hlong (by rw [List.size_toArray]; omega) (by omega)) ⟨e, e2, ?_⟩
  refine ⟨.non, _, I.lset (its' := its ++ its2) hH e (by simp) (r.append r2) ?_, rfl, q⟩
  rw [List.length_append]
  omega
def rRep : R2 := fun x y H Q => ∃ l k xs, x = .ref l ∧ y = .int k ∧ H l = some (.lst xs) ∧ -(2 ^ 63) ≤ k ∧ k < 2 ^ 63 ∧ xs.length * k.toNat ≤ sizeLine ∧
  ∀ p, H p = none → Q (.ref p) (upd H p (.lst (List.replicate k.toNat xs).flatten))
theorem len_rep {α : Type} (xs : List α) (k : Nat) : (List.replicate k xs).flatten.length = k * xs.length := by
  induction k with
  | zero => simp
  | succ k ih => rw [List.replicate_succ, List.flatten_cons, List.length_append, ih, Nat.succ_mul, Nat.add_comm]
theorem op_rep : OpR X (binaryOp .Mult) rRep := by
  intro pins s σ H x y v u Q I rx ry h
  obtain ⟨l, k, xs, rfl, rfl, hH, h1, h2, hz, q⟩ := h
  cases rx
  obtain ⟨t, rfl⟩ := ry
  obtain ⟨z, its, n, r, hl, e⟩ := I.lstM hH
  have hlen : its.toArray.size * k.toNat ≤ sizeLine := by rw [List.size_toArray, ← hl]; exact hz
  have hcap : ¬ its.toArray.size * k.toNat > (2 ^ 63 - 1) / 8 := by
    have : (sizeLine : Nat) ≤ (2 ^ 63 - 1) / 8 := by decide
    omega
  have hfit : ¬ (!Builtin.List.listFitsIndex k) = true := by
    rw [fitsIndex_both h1 h2]
    exact Bool.false_ne_true
  have hlong : ¬ Builtin.List.listTooLong (its.toArray.size * k.toNat) = true := by
    rw [notLongL hlen]
    exact Bool.false_ne_true
  have hnew : List.foldl (fun x1 x2 => x1 ++ x2) #[] (List.replicate (if its.toArray.isEmpty = true then 0 else k.toNat) its.toArray) = (List.replicate k.toNat its).flatten.toArray := by
    have f0 : ∀ m : Nat, List.foldl (fun x1 x2 => x1 ++ x2) #[] (List.replicate m its.toArray) = (List.replicate m its).flatten.toArray := fun m => by
      have := foldl_rep its m []
      rw [List.nil_append] at this
      exact this
    rw [f0]
    cases its with
    | nil => simp
    | cons a r' => rw [if_neg (by simp)]
  refine wpAny_binaryOp_repeat_ref (T := "list") (U := "int") (by decide) ⟨_, e, rfl⟩ (fun s' => typeIs_int s' k t) noFill_list_mul F.fills_int_mul F.slot_int_rmul repeat_list F.slot_int_index.lookup
    (call_meets F.slot_int_rmul (typeIs_int s k t) F.entry_int_rmul (F.args_int_rmul_2 _ _) (int___rmul___int_list k t l its.toArray n)
      ⟨e, rfl, ⟨_, e, rfl⟩, call_meets F.slot_list_mul ⟨_, e, rfl⟩ F.entry_list_mul (F.args_list_mul_2 _ _) (AutoListH.list___mul___list_int_3 l its.toArray n k t hfit hcap hlong) ⟨e, ?_⟩⟩)
  rw [hnew]
  exact ⟨.ref _, _, I.lnew (t' := s.toks) (r.rep k.toNat) (by rw [len_rep, Nat.mul_comm]; exact hz), rfl, q _ I.fresh⟩
end
section
variable {prog : Program} {w : World} {A : Around} {E : Value → Shared → Prop} {s : Shared}
end
section
variable {X : Cx}
end
end L2
namespace Att
open PySem PySem.W PySem.Calls PyProof.Rows
theorem ints_of_wellAll {P : Params} {h : Heap} : ∀ (ns : List Int) (vs : List Value), WellAll P h vs (ns.map WData.int) → IntsAre vs ns := by
  intro ns
  induction ns with
  | nil =>
    intro vs w
    rw [List.map_nil] at w
    cases w
    exact .nil
  | cons n ns ih =>
    intro vs w
    rw [List.map_cons] at w
    cases w with
    | cons a b =>
      cases a
      exact .cons _ _ (ih _ b)
theorem script_of {l : OpenLaw} {n : Nat} (hn : l.most = some n) {P : Params} {h : Heap} {args : List WData} {vals : List Value}
    (hpre : l.row.toRowW.claim.pre args = true) (hwl : WellAll P h vals args) :
    ∃ a vs ns, vals = [Value.ref a] ∧ args = [WData.list (ns.map WData.int)] ∧ h.get? a = some { cls := .type "list", data := .seq vs.toArray } ∧ IntsAre vs ns ∧ ns.length ≤ n := by
  have hsh : WShape.hasAll [] args [.list .int] = true := (pre_splitW hpre).1
  have hc : l.pre.holds [] { args := args } = true := (pre_splitW hpre).2
  obtain ⟨d, r, rfl, h1, h2⟩ := hasAllW_cons hsh
  obtain rfl := hasAllW_nil h2
  obtain ⟨xs, rfl, h3⟩ := hasW_list h1
  obtain ⟨ns, rfl⟩ := items_int h3
  have hlen : ns.length ≤ n := by
    unfold OpenLaw.pre at hc
    have h4 : (WTm.not (.lt (.lit (.int (n : Int))) (.len (.arg 0)))).holds [] { args := [.list (ns.map .int)] } = true := by
      have h4 := (holds_andW hc).1
      rw [hn] at h4
      exact h4
    have h5 := condW_of h4 (w_not (w_lt w_lit (w_len_list (w_arg rfl))))
    rw [List.length_map] at h5
    refine Nat.le_of_not_lt fun q => ?_
    have q' : (n : Int) < ((ns.length : Nat) : Int) := by omega
    first
      | (rw [decide_eq_true q'] at h5; exact absurd h5 (by decide))
      | (simp at h5; omega)
  cases hwl with
  | cons w1 w2 =>
    cases w2
    cases w1 with
    | list ho hall => exact ⟨_, _, ns, rfl, rfl, ho, ints_of_wellAll ns _ hall, hlen⟩
theorem post_true (l : OpenLaw) (args : List WData) : l.row.toRowW.claim.post args (.bool true) args = true :=
  postW_of (r := l.row.toRowW) (X := (true == true))
    (show WShape.has [] (.bool true) .bool = true by first | rfl | decide | simp [WShape.has, WShape.arms, WShape.armsAll])
    (show (WTm.eq .res (.lit (.bool true))).value [] { args := args, res := some (.bool true), after := args } = some (.bool (true == true)) from w_eq_bool (w_res rfl) w_lit) rfl
theorem attach_call {l : OpenLaw} {n : Nat} {q : Program} {loose : List Str} {XP : (Str → Option Value) → Heap → Prop} {YP : World → Heap → Prop} {d : DefRec}
    (hn : l.most = some n) (hdf : d.params.defaults = [])
    (call : ∀ (w : World) (s₀ s₁ : Shared) (mg mb : Str → Option Value) (fa : Addr) (o : Obj) (pm cd doc : Value) (a : Addr) (vs : List Value) (ns : List Int),
      Ground q loose [] XP w s₀ mg mb s₁.heap → YP w s₁.heap →
      s₁.heap.get? fa = some o → o.data = .func (docDef d.name d.params d.body d.scope pm cd doc) → s₁.heap.CodeRec cd d.name → mg d.name = some (.ref fa) →
      s₁.heap.get? a = some { cls := .type "list", data := .seq vs.toArray } → IntsAre vs ns → ns.length ≤ n → s₁.gens = #[] →
      codeAny (model l.prog w) callerA (.call (.ref fa) ⟨[.ref a], []⟩) (fun r s' => r = .ok (.ret (.bool true)) ∧ OldK s₁.heap s'.heap ∧ s'.os = s₁.os ∧ AllBare s'.gens) s₁) :
    WalkO q loose XP YP l.row.toRowW d [] (fun f vs => PySem.call f vs) := by
  intro w s₀ s₁ mg mb G Y fa o pm cd doc dV kV ho hd hcd hD hmg hg args vals as hpre hlay hrd hwl hlo
  obtain rfl : dV = .none := Dflts.none hD hdf
  obtain rfl : kV = .none := Dflts.noKw hD
  obtain ⟨a, vs, ns, rfl, rfl, hobj, hints, hlen⟩ := script_of hn hpre hwl
  refine enter_call (codeAny_mono (call w s₀ s₁ mg mb fa o pm cd doc a vs ns G Y ho (fd_plain hd) hcd hmg hobj hints hlen hg) fun r s' hq => ?_)
  obtain ⟨rfl, h2, h3, h4⟩ := hq
  exact ⟨.inl ⟨.bool true, .bool true, [], rfl, fun _ => rfl, .bool true, post_true l _, fun _ => ⟨List.Pairwise.nil, fun _ hm => (nomatch hm)⟩⟩, h2, h3, h4⟩
section
variable {prog : Program} {w : World} {A : Around} {E : Value → Shared → Prop} {s : Shared} {K : Frag}
end
end Att
namespace L2
open PySem PySem.Spec PyProof.Rows
theorem vals_ints : ∀ {vs : List Value} {ns : List Int}, IntsAre vs ns → Vals (ns.map V.int) vs
  | _, _, .nil => .nil
  | _, _, .cons n t h => .cons ⟨t, rfl⟩ (vals_ints h)
def Only (H : Hp) : Prop := ∀ b, H b = none ∨ ∃ o xs, H b = some (.frz o (.lst xs))
theorem law_call {P : Program} {w : World} {K : PySem.W.Frag} {mg mb : Str → Option Value} {CX : CXT} {k : Nat} {fa a : Addr} {fd : FuncData} {x : Str} {sp : Sp} {s₁ : Shared} {vs : List Value} {ns : List Int}
    (KX : K.In s₁.heap) (hns : s₁.heap.Ns mainGlobals mg) (hb : s₁.heap.Ns builtinsNs mb) (hbb : ∀ x : Str, x ≠ "__name__" → mb x = bootBuiltins x) (hlim : s₁.heap.NoLimit) (hg : s₁.gens = #[])
    (ha : s₁.heap.get? a = some { cls := .type "list", data := .seq vs.toArray }) (hi : IntsAre vs ns) (hl : ns.length ≤ sizeLine) (hr : Room k callerA)
    (F : ∀ base : Heap, K.In base → base.Ns mainGlobals mg → FnOk P w K mg base CX k fa fd [x] sp) (hbind : ∀ (s : Shared) (u : Value), BindsTo s fd ⟨[u], []⟩ [(x, u)])
    (hsp : ∀ H : Hp, Only H → SqL K H a (ns.map V.int) → sp [.ref a] H (fun v _ => v = .bl true) fun _ _ _ => False)
    (hCX : ∀ H e s', CX [] H s₁ (fun _ _ _ => False) e s' → False) :
    codeAny (model P w) callerA (.call (.ref fa) ⟨[.ref a], []⟩) (fun r s' => r = .ok (.ret (.bool true)) ∧ OldK s₁.heap s'.heap ∧ s'.os = s₁.os ∧ AllBare s'.gens) s₁ := by
  have rv := vals_ints hi
  have lenV := hi.length
  have core : ∀ H : Hp, Only H → SqL K H a (ns.map V.int) → HOk P w H s₁.heap → (∀ b, H b ≠ none → b = a) → (H a ≠ none → K.lookup a = none) →
      codeAny (model P w) callerA (.call (.ref fa) ⟨[.ref a], []⟩) (fun r s' => r = .ok (.ret (.bool true)) ∧ OldK s₁.heap s'.heap ∧ s'.os = s₁.os ∧ AllBare s'.gens) s₁ := by
    intro H hO hS hok hA hK
    have base_of : ∀ {b : Addr} {o : Obj}, s₁.heap.get? b = some o → H b = none → (hidT s₁.heap H).get? b = some o := fun e n => hidT_get e n
    have noA : ∀ {b : Addr} {o : Obj} {es : Array DictEntry} {ep : Nat}, s₁.heap.get? b = some o → o.data = .dict es ep → H b = none := fun {b o es ep} e d => by
      cases q : H b with
      | none => rfl
      | some u =>
        have e' : b = a := hA b (by rw [q]; simp)
        subst e'
        rw [ha] at e; cases e
        have d' : Data.seq vs.toArray _ = Data.dict es ep := d
        cases d'
    have nsK : ∀ {b : Addr} {m : Str → Option Value}, s₁.heap.Ns b m → (hidT s₁.heap H).Ns b m := fun {b m} ⟨o, es, ep, e, d, r⟩ => ⟨o, es, ep, base_of e (noA e d), d, r⟩
    have hKb : K.In (hidT s₁.heap H) := fun b o e => base_of (KX b o e) (by
      cases q : H b with
      | none => rfl
      | some u =>
        have e' : b = a := hA b (by rw [q]; simp)
        subst e'
        rw [hK (by rw [q]; simp)] at e; cases e)
    have hM : Mod K mg (hidT s₁.heap H) := ⟨hKb, nsK hns, ⟨mb, nsK hb, hbb⟩, let ⟨mc, h1, h2⟩ := hlim; ⟨mc, nsK h1, h2⟩⟩
    have e0 : Env0 P w K mg (hidT s₁.heap H) callerA [] s₁ H := ⟨rfl, hM, fun b o e => of_hidT e, Nat.le_of_eq (hidT_size _ _), trivial, fun b hb => absurd (show b ∈ ([] : List Addr) from hb) (by simp), hok, .of_eq hg⟩
    refine codeAny_mono ((F _ hKb (nsK hns)).run callerA [] s₁ H ⟨[.ref a], []⟩ [.ref a] [.ref a] _ _ hr e0 (hbind s₁ (.ref a)) (.cons rfl .nil) (hsp H hO hS)) fun r s' h => ?_
    cases r with
    | error e => exact (hCX H e s' h).elim
    | ok fl =>
      cases fl with
      | next => exact False.elim h
      | brk => exact False.elim h
      | cont => exact False.elim h
      | ret u =>
        obtain ⟨v, H', os, bare, un, hok', r', q⟩ := h
        have q' : v = .bl true := q
        subst q'
        obtain rfl : u = Value.bool true := r'
        refine ⟨rfl, OldK.of_keep fun b o e => ?_, os, bare⟩
        cases q : H b with
        | none => exact un.keep b o e q (by intro z; exact absurd (show b ∈ ([] : List Addr) from z) (by simp)) (by simp)
        | some u =>
          rcases hO b with z | ⟨ob, xs, z⟩
          · rw [q] at z; cases z
          · have z2 := un.frzs b ob _ z
            obtain ⟨e1, _⟩ := hok b _ z
            obtain ⟨e2, _⟩ := hok' b _ z2
            rw [e] at e1; cases e1
            exact e2
  cases hk : K.lookup a with
  | some o =>
    have e := KX a o hk
    rw [ha] at e
    cases e
    refine core (fun _ => none) (fun _ => .inl rfl) (.inr ⟨_, vs.toArray, _, hk, rfl, rfl, rfl, by rw [List.size_toArray, lenV]; exact hl, by simpa using rv⟩) (fun b u z => by have z' : (none : Option HO) = some u := z; cases z') (fun b z => absurd rfl z) fun z => absurd rfl z
  | none =>
    refine core (fun b => if b = a then some (.frz { cls := .type "list", data := .seq vs.toArray } (.lst (ns.map V.int))) else none) (fun b => ?_) (.inl (.inr ⟨{ cls := .type "list", data := .seq vs.toArray }, if_pos rfl⟩)) (fun b u z => ?_) (fun b z => ?_) fun _ => hk
    · by_cases hb : b = a
      · exact .inr ⟨_, _, if_pos hb⟩
      · exact .inl (if_neg hb)
    · by_cases hb : b = a
      · have z' := (if_pos hb).symm.trans z
        cases z'
        subst hb
        exact ⟨ha, by rw [List.length_map]; exact hl, vs, _, rv, ha⟩
      · have z' := (if_neg hb).symm.trans z
        cases z'
    · by_cases hb : b = a
      · exact hb
      · exact absurd (if_neg hb) z
end L2
namespace L2
open PySem PySem.Spec PyProof.Rows
abbrev KOf {K : PySem.W.Frag} {h : Heap} (_ : K.In h) : PySem.W.Frag := K
theorem walk_of {l : PySem.W.OpenLaw} {n k : Nat} {q : Program} {loose : List Str} {XP : (Str → Option Value) → Heap → Prop} {YP : World → Heap → Prop} {d : DefRec} {K : Params → PySem.W.Frag} {CX : World → CXT} {sp : World → Sp} {x : Str}
    (hn : l.most = some n) (hn2 : n ≤ sizeLine) (hdf : d.params.defaults = []) (hr : Room k callerA)
    (hY : ∀ (w : World) (h : Heap), YP w h → (K w.params).In h)
    (F : ∀ (w : World) (mg : Str → Option Value) (fa : Addr) (h : Heap), (K w.params).In h → h.Ns mainGlobals mg → mg d.name = some (.ref fa) →
      ∃ fd : FuncData, (∀ (s : Shared) (u : Value), BindsTo s fd ⟨[u], []⟩ [(x, u)]) ∧
        ∀ base : Heap, (K w.params).In base → base.Ns mainGlobals mg → FnOk l.prog w (K w.params) mg base (CX w) k fa fd [x] (sp w))
    (hsp : ∀ (w : World) (H : Hp) (a : Addr) (ns : List Int), ns.length ≤ n → Only H → SqL (K w.params) H a (ns.map V.int) → sp w [.ref a] H (fun v _ => v = .bl true) fun _ _ _ => False)
    (hCX : ∀ (w : World) (H : Hp) (s : Shared) (e : Value) (s' : Shared), CX w [] H s (fun _ _ _ => False) e s' → False) :
    PySem.W.WalkO q loose XP YP l.row.toRowW d [] (fun f vs => PySem.call f vs) := by
  refine Att.attach_call hn hdf fun w s₀ s₁ mg mb fa o pm cd doc a vs ns G Y ho hd hcd hmg hobj hints hlen hg => ?_
  have KX := hY w _ Y
  obtain ⟨fd, hb, hF⟩ := F w mg fa _ KX G.T.g hmg
  exact law_call KX G.T.g G.T.b G.T.builtins G.T.nolimit hg hobj hints (Nat.le_trans hlen hn2) hr hF hb (fun H hO hS => hsp w H a ns hlen hO hS) fun H e s' => hCX w H s₁ e s'
theorem walk_ofK {l : PySem.W.OpenLaw} {n k : Nat} {q : Program} {loose : List Str} {XP : (Str → Option Value) → Heap → Prop} {YP : World → Heap → Prop} {d : DefRec} {K : Params → PySem.W.Frag} {CX : CXT} {sp : PySem.W.Frag → Sp} {x : Str}
    (hn : l.most = some n) (hn2 : n ≤ sizeLine) (hdf : d.params.defaults = []) (hr : Room k callerA)
    (hY : ∀ (w : World) (h : Heap), YP w h → (K w.params).In h)
    (F : ∀ (w : World) (mg : Str → Option Value) (fa : Addr) (h : Heap), (K w.params).In h → h.Ns mainGlobals mg → mg d.name = some (.ref fa) →
      ∃ fd : FuncData, (∀ (s : Shared) (u : Value), BindsTo s fd ⟨[u], []⟩ [(x, u)]) ∧
        ∀ base : Heap, (K w.params).In base → base.Ns mainGlobals mg → FnOk l.prog w (K w.params) mg base CX k fa fd [x] (sp (K w.params)))
    (hsp : ∀ (K : PySem.W.Frag) (H : Hp) (a : Addr) (ns : List Int), ns.length ≤ n → Only H → SqL K H a (ns.map V.int) → sp K [.ref a] H (fun v _ => v = .bl true) fun _ _ _ => False)
    (hCX : ∀ (H : Hp) (s : Shared) (e : Value) (s' : Shared), CX [] H s (fun _ _ _ => False) e s' → False) :
    PySem.W.WalkO q loose XP YP l.row.toRowW d [] (fun f vs => PySem.call f vs) :=
  walk_of (K := K) (CX := fun _ => CX) (sp := fun w => sp (K w.params)) hn hn2 hdf hr hY F (fun w H a ns h1 h2 h3 => hsp (K w.params) H a ns h1 h2 h3) fun _ H s e s' => hCX H s e s'
end L2
/- THE LAST THEOREM (shape; LID, My.* are yours):
   My.Adr: a structure of the addresses that your layer names (classes, functions); My.Txt K t: a structure (Prop) of the equations over K;
   My.txt_mk : {K} {implicit addresses ..} (e1 : nsIn K mainGlobals "law" = some (some (.ref f))) (e2 : K.lookup f = some ⟨oc, od, .func (fnOf "law" "law" params body scope dV kV doc pm an cdv ct), sl⟩) (e3 : codeIn K cdv "law" = true) .. : ∃ t, My.Txt K t
set_option maxRecDepth 100000 in
set_option maxHeartbeats 0 in
theorem PySem.Challenge.cw_LID_holds : PySem.Challenge.rw_LID.Holds := by
  w_on; o_law; k_head; (case hw => w_witness2)
  k_fill
  refine L2.walk_of (l := PySem.Challenge.rw_LID) (n := 63) (k := 40) (x := "script") (CX := fun w => ..) (sp := fun _ => My.sp_law) rfl (by decide) rfl ⟨rfl, by decide, by decide⟩ (fun w h Y => PySem.W.kIn_of Y) ?F ?S ?C
  case F =>
    intro w mg fa h KX G hmg
    have T : ∃ t, My.Txt (L2.KOf KX) t := by
      dsimp only [L2.KOf]                          -- K must stand as «<heap const> w.params» for k_is
      refine' My.txt_mk ?e1 ?e2 ?e3 ..
      (case e1 => PySem.W.k_is)                    -- in the order: a name -> its address -> its object -> its parts
      (case e2 => PySem.W.k_is)
      ..
    obtain ⟨t, T⟩ := T
    have e0 := hmg.symm.trans (PySem.W.mg_of KX G T.law)
    cases e0                                       -- fa is the law's own address
    exact ⟨_, fun s u => .of_eq rfl, fun base kb nb => My.law_fn T kb nb⟩     -- if «.of_eq rfl» comes too early: refine' ⟨_, ?b, fun base kb nb => My.law_fn T kb nb⟩; exact fun s u => .of_eq rfl
  case S => exact fun w H a ns hl hO hS => ..
  case C => exact ..
(the tactic k_is has no namespace: write k_is) -/
namespace L2
open PySem PySem.Spec PyProof.Rows
def defArgs (s : Stmt) : Arguments := match s with
  | .FunctionDef _ a _ _ _ _ _ _ _ _ => a
  | _ => { posonlyargs := [], args := [], vararg := none, kwonlyargs := [], kw_defaults := [], kwarg := none, defaults := [] }
def defBody (s : Stmt) : List Stmt := match s with
  | .FunctionDef _ _ b _ _ _ _ _ _ _ => b
  | _ => []
def defScope (s : Stmt) : Scope := match s with
  | .FunctionDef _ _ _ _ _ _ sc _ _ _ => sc
  | _ => { kind := .function, names := [], isGenerator := false, isCoroutine := false }
abbrev CX0 : CXT := fun _ _ _ _ _ _ => False
abbrev E0 : XK := fun _ _ _ => False
theorem pass0 {X : Cx} : Passes CX0 X E0 := fun _ _ _ _ _ _ _ h => h.elim
structure Fun (K : PySem.W.Frag) (x qual : Str) (st : Stmt) (f : Addr) (fd : FuncData) : Prop where
  ex : ∃ (oc : Value) (od : Option Addr) (kV doc pm : Value) (an : Option Addr) (cdv ct : Value) (osl : Array (Option Value)),
    fd = PySem.W.fnOf x qual (defArgs st) (defBody st) (defScope st) .none kV doc pm an cdv ct ∧ K.lookup f = some ⟨oc, od, .func fd, osl⟩ ∧ PySem.W.codeIn K cdv qual = true
  kp : PySem.W.keepIn K (.ref f) = true
section
variable {P : Program} {w : World} {K : PySem.W.Frag} {mg : Str → Option Value} {base : Heap}
theorem Fun.ok {x qual : Str} {st : Stmt} {f : Addr} {fd : FuncData} {N ps : List Str} {k : Nat} {sp : Sp} (F : Fun K x qual st f fd) (S : FnScope N ps (defScope st)) (len : ∀ vs H Q E, sp vs H Q E → vs.length = ps.length)
    (hbody : ∀ (cdv : Value) (A : Around) (outer : List Env) (s : Shared) (H : Hp) (vs : List V) (Q : VK) (E : XK), Room k (A.deeper (envOfC qual (defScope st) s.heap.objs.size f cdv)) → sp vs H Q E →
      ∃ t, PSs (cxOf CX0 P w K mg base N qual (defScope st) f cdv A outer s H E).nox (defBody st) t ∧ t { nx := fun _ H' => Q .non H', rt := Q } (start N vs) H) : FnOk P w K mg base CX0 (k + 1) f fd ps sp := by
  obtain ⟨oc, od, kV, doc, pm, an, cdv, ct, osl, rfl, lk, hcd⟩ := F.ex
  refine fn_of lk hcd S len fun A outer s H vs Q E hr hsp => ?_
  obtain ⟨t, h, q⟩ := hbody cdv A outer s H vs Q E hr hsp
  exact ⟨t, h.nox, q⟩
theorem Fun.binds {x qual : Str} {st : Stmt} {f : Addr} {fd : FuncData} {ps : List Str} (F : Fun K x qual st f fd)
    (h : ∀ (kV doc pm : Value) (an : Option Addr) (cdv ct : Value) (us : List Value), us.length = ps.length → bindArgs (PySem.W.fnOf x qual (defArgs st) (defBody st) (defScope st) .none kV doc pm an cdv ct) ⟨us, []⟩ = pure (ps.zip us)) : Binds K fd ps [] := by
  obtain ⟨oc, od, kV, doc, pm, an, cdv, ct, osl, rfl, lk, hcd⟩ := F.ex
  exact .all (h kV doc pm an cdv ct)
theorem fun_mk {x qual : Str} {st : Stmt} {f : Addr} {oc : Value} {od an : Option Addr} {osl : Array (Option Value)} {kV doc pm cdv ct : Value} (l : K.lookup f = some ⟨oc, od, .func (PySem.W.fnOf x qual (defArgs st) (defBody st) (defScope st) .none kV doc pm an cdv ct), osl⟩)
    (c : PySem.W.codeIn K cdv qual = true) (k : PySem.W.keepIn K (.ref f) = true) : Fun K x qual st f (PySem.W.fnOf x qual (defArgs st) (defBody st) (defScope st) .none kV doc pm an cdv ct) := ⟨⟨oc, od, kV, doc, pm, an, cdv, ct, osl, rfl, l, c⟩, k⟩
end
theorem small1000 {n : Nat} (h : n ≤ 1000) : n < sizeLine := Nat.lt_of_le_of_lt h (by decide)
section
variable {X : Cx}
theorem pv (i : Nat) {x : Str} {pos : Pos} (hN : X.N[i]? = some x := by rfl) (hv : Vis X.env.scope x := by first | exact Or.inl rfl | exact Or.inr (Or.inl rfl) | exact Or.inr (Or.inr rfl)) (hd : (x == ("__debug__" : Str)) = false := by decide)
    (hcd : (x == ("__classdict__" : Str)) = false := by decide) : PE X (.Name x pos) (tVar i) := pe_var hN hv hd hcd
end
theorem iteF {A B : Prop} (h : B) : if false = true then A else B := by
  rw [if_neg Bool.false_ne_true]
  exact h
theorem iteT {A B : Prop} (h : A) : if true = true then A else B := by
  rw [if_pos rfl]
  exact h
def Same (H H' : Hp) : Prop := ∀ b o, H b = some o → H' b = some o
theorem Same.refl (H : Hp) : Same H H := fun _ _ h => h
theorem Same.trans {H H1 H2 : Hp} (a : Same H H1) (b : Same H1 H2) : Same H H2 := fun c o h => b c o (a c o h)
theorem Same.free {H H' : Hp} (e : Same H H') {l : Addr} (h : H' l = Option.none) : H l = Option.none := by
  cases q : H l with
  | none => rfl
  | some o =>
    rw [e l o q] at h
    cases h
theorem Same.seq {K : PySem.W.Frag} {H H' : Hp} {a : Addr} {xs : List V} (e : Same H H') (h : SqL K H a xs) : SqL K H' a xs := by
  rcases h with (h | ⟨o, h⟩) | h
  · exact .inl (.inl (e _ _ h))
  · exact .inl (.inr ⟨o, e _ _ h⟩)
  · exact .inr h
end L2
namespace L2
open PySem PySem.Spec PyProof.Rows
def clOf (env : Env) (names : List (Str × NameKind)) (acc : List (Str × Addr)) : List (Str × Addr) :=
  match names with
  | [] => acc
  | x :: r => clOf env r (if x.2 == .free then (x.1, (env.cells.lookup x.1).getD 0) :: acc else acc)
theorem cl_forIn (env : Env) : ∀ (names : List (Str × NameKind)) (acc : List (Str × Addr)), (∀ x ∈ names, x.2 = .free → ∃ c, env.cells.lookup x.1 = some c) →
    (forIn names acc (fun (x : Str × NameKind) (cs : List (Str × Addr)) => (if x.2 == .free then (do
      let c ← cellOf env x.1
      pure (ForInStep.yield ((x.1, c) :: cs))) else pure (ForInStep.yield cs) : Sem (ForInStep (List (Str × Addr)))))) = (pure (clOf env names acc) : Sem _) := by
  intro names
  induction names with
  | nil => intro acc _; rw [List.forIn_nil]; rfl
  | cons x r ih =>
    intro acc h
    rw [List.forIn_cons]
    have hr := fun y hy => h y (List.mem_cons_of_mem _ hy)
    show _ = (pure (clOf env r (if x.2 == .free then (x.1, (env.cells.lookup x.1).getD 0) :: acc else acc)) : Sem _)
    by_cases hf : x.2 = .free
    · obtain ⟨c, e⟩ := h x List.mem_cons_self hf
      have e1 : cellOf env x.1 = pure c := by unfold cellOf; rw [e]
      have e2 : (x.2 == NameKind.free) = true := by rw [hf]; rfl
      simp only [e2, if_true, e1, pure_bind]
      rw [ih _ hr]
      simp only [e, Option.getD_some]
    · have e2 : (x.2 == NameKind.free) = false := by simpa using hf
      simp only [e2, Bool.false_eq_true, if_false, pure_bind]
      exact ih _ hr
theorem closureFor_some {scope : Scope} {env : Env} (h : ∀ x ∈ scope.names, x.2 = .free → ∃ c, env.cells.lookup x.1 = some c) : closureFor scope env = pure (clOf env scope.names []) := by
  have q := cl_forIn env scope.names [] h
  unfold closureFor
  simp only [bind_pure]
  exact q
theorem clOf_lookup (env : Env) (x : Str) : ∀ (names : List (Str × NameKind)) (acc : List (Str × Addr)),
    (clOf env names acc).lookup x = if (x, NameKind.free) ∈ names then some ((env.cells.lookup x).getD 0) else acc.lookup x := by
  intro names
  induction names with
  | nil => intro acc; rfl
  | cons y r ih =>
    intro acc
    obtain ⟨n, k⟩ := y
    show (clOf env r (if k == .free then (n, (env.cells.lookup n).getD 0) :: acc else acc)).lookup x = _
    rw [ih]
    by_cases h1 : (x, NameKind.free) ∈ r
    · rw [if_pos h1, if_pos (List.mem_cons_of_mem _ h1)]
    · rw [if_neg h1]
      by_cases hk : k = .free
      · subst hk
        rw [if_pos (by rfl), List.lookup_cons]
        by_cases hx : x = n
        · subst hx
          simp
        · have : (x == n) = false := by simpa using hx
          rw [this, if_neg]
          intro z
          rcases List.mem_cons.mp z with z | z
          · exact hx (Prod.mk.inj z).1
          · exact h1 z
      · have : (k == NameKind.free) = false := by simpa using hk
        rw [this, if_neg (by simp), if_neg]
        intro z
        rcases List.mem_cons.mp z with z | z
        · exact hk (Prod.mk.inj z).2.symm
        · exact h1 z
theorem lookup_mapk (f : Str → NameKind → NameKind) (x : Str) : ∀ names : List (Str × NameKind), (names.map fun y => (y.1, f y.1 y.2)).lookup x = (names.lookup x).map (f x)
  | [] => rfl
  | (n, k) :: r => by
    rw [List.map_cons, List.lookup_cons, List.lookup_cons, lookup_mapk f x r]
    by_cases hx : x = n
    · subst hx; simp
    · have : (x == n) = false := by simpa using hx
      simp [this]
theorem lookup_relabel (scope : Scope) (env : Env) (x : Str) : (relabel scope env).names.lookup x =
    (scope.names.lookup x).map fun k => if (k == .free && env.scope.kind == .function && env.kindOf x == some .cell) then .cell else k := by
  have q := lookup_mapk (fun n k => if (k == .free && env.scope.kind == .function && env.kindOf n == some .cell) then .cell else k) x scope.names
  rw [← q]
  unfold relabel
  dsimp only
  congr 1
  refine List.map_congr_left fun y _ => ?_
  obtain ⟨n, k⟩ := y
  dsimp only
  split <;> rfl
def compOk (sc cs : Scope) (N Nc : List Str) (fr : List (Option Nat)) : Bool :=
  cs.kind == .function && cs.names.all (fun x => (x.2 != .cell || cs.names.lookup x.1 == some .cell) && (x.2 != .local || cs.names.lookup x.1 == some .local) && (x.2 != .free || sc.names.lookup x.1 == some .cell || sc.names.lookup x.1 == some .free))
    && fr.length == Nc.length && (fr.zip Nc).all (fun y => match y.1 with
      | none => true
      | some j => N[j]? == some y.2 && cs.names.lookup y.2 == some .free)
structure CompOk (sc cs : Scope) (N Nc : List Str) (fr : List (Option Nat)) : Prop where
  kind : cs.kind = .function
  cel : ∀ x ∈ cs.names, x.2 = .cell → cs.names.lookup x.1 = some .cell
  nms : ∀ x ∈ cs.names, x.2 = .local → cs.names.lookup x.1 = some .local
  fre : ∀ x ∈ cs.names, x.2 = .free → sc.names.lookup x.1 = some .cell ∨ sc.names.lookup x.1 = some .free
  len : fr.length = Nc.length
  frs : ∀ (i j : Nat), fr[i]? = some (some j) → ∃ x, Nc[i]? = some x ∧ N[j]? = some x ∧ cs.names.lookup x = some .free
theorem CompOk.of {sc cs : Scope} {N Nc : List Str} {fr : List (Option Nat)} (h : compOk sc cs N Nc fr = true) : CompOk sc cs N Nc fr := by
  unfold compOk at h
  rw [Bool.and_eq_true, Bool.and_eq_true, Bool.and_eq_true] at h
  obtain ⟨⟨⟨h1, h2⟩, h3⟩, h4⟩ := h
  rw [List.all_eq_true] at h2 h4
  refine ⟨by simpa using h1, fun x hx hk => ?_, fun x hx hk => ?_, fun x hx hk => ?_, by simpa using h3, fun i j e => ?_⟩
  · have q := h2 x hx
    simp only [Bool.and_eq_true] at q
    have q2 := q.1.1
    rw [hk] at q2
    simpa using q2
  · have q := h2 x hx
    simp only [Bool.and_eq_true] at q
    have q2 := q.1.2
    rw [hk] at q2
    simpa using q2
  · have q := h2 x hx
    simp only [Bool.and_eq_true] at q
    have q2 := q.2
    rw [hk] at q2
    simp at q2
    rcases q2 with a | a
    · exact .inl a
    · exact .inr a
  · have hl : fr.length = Nc.length := by simpa using h3
    obtain ⟨hi, ei⟩ := List.getElem?_eq_some_iff.mp e
    have hi' : i < Nc.length := by omega
    have hm : (fr[i], Nc[i]) ∈ fr.zip Nc := by
      have : (fr.zip Nc)[i]'(by simp; omega) = (fr[i], Nc[i]) := by simp
      rw [← this]
      exact List.getElem_mem _
    have q := h4 _ hm
    rw [ei] at q
    simp only [Bool.and_eq_true] at q
    exact ⟨Nc[i], by simp [hi'], by simpa using q.1, by simpa using q.2⟩
theorem cellsFrom_app : ∀ (names : List (Str × NameKind)) (n : Nat) (acc : List (Str × Addr)), cellsFrom n names acc = cellsFrom n names [] ++ acc
  | [], _, _ => rfl
  | (name, kind) :: r, n, acc => by
    unfold cellsFrom
    split
    · rw [cellsFrom_app r (n + 1) ((name, n) :: acc), cellsFrom_app r (n + 1) [(name, n)], List.append_assoc]
      rfl
    · exact cellsFrom_app r n acc
theorem cellsFrom_mem : ∀ (names : List (Str × NameKind)) (n : Nat) (acc : List (Str × Addr)) (x : Str) (c : Addr), (x, c) ∈ cellsFrom n names acc → (x, c) ∈ acc ∨ (x, NameKind.cell) ∈ names
  | [], _, _, _, _, h => .inl h
  | (name, kind) :: r, n, acc, x, c, h => by
    unfold cellsFrom at h
    split at h
    · rename_i hk
      rcases cellsFrom_mem r _ _ x c h with z | z
      · rcases List.mem_cons.mp z with z | z
        · refine .inr ?_
          have e := (Prod.mk.inj z).1
          have k' : kind = NameKind.cell := by simpa using hk
          rw [e, k']
          exact List.mem_cons_self
        · exact .inl z
      · exact .inr (List.mem_cons_of_mem _ z)
    · rcases cellsFrom_mem r _ _ x c h with z | z
      · exact .inl z
      · exact .inr (List.mem_cons_of_mem _ z)
theorem cellsFrom_has : ∀ (names : List (Str × NameKind)) (n : Nat) (acc : List (Str × Addr)) (x : Str), ((x, NameKind.cell) ∈ names ∨ ∃ c, acc.lookup x = some c) → ∃ c, (cellsFrom n names acc).lookup x = some c
  | [], _, _, _, h => by
    rcases h with h | h
    · cases h
    · exact h
  | (name, kind) :: r, n, acc, x, h => by
    unfold cellsFrom
    split
    · rename_i hk
      refine cellsFrom_has r _ _ x ?_
      rcases h with h | ⟨c, h⟩
      · rcases List.mem_cons.mp h with z | z
        · refine .inr ⟨n, ?_⟩
          rw [(Prod.mk.inj z).1, List.lookup_cons]
          simp
        · exact .inl z
      · by_cases hx : x = name
        · exact .inr ⟨n, by rw [hx, List.lookup_cons]; simp⟩
        · refine .inr ⟨c, ?_⟩
          have : (x == name) = false := by simpa using hx
          rw [List.lookup_cons, this]
          exact h
    · rename_i hk
      refine cellsFrom_has r _ _ x ?_
      rcases h with h | h
      · rcases List.mem_cons.mp h with z | z
        · exact absurd (by rw [← (Prod.mk.inj z).2]; rfl) hk
        · exact .inl z
      · exact .inr h
theorem wp_newEnvC {M : Model} {A : Around} {E : Value → Shared → Prop} {s : Shared} {scope : Scope} {globals : Addr} {closure : List (Str × Addr)} {qual : Str} {func : Option Addr} {code : Value} {env : Env} {builtins : Addr} {Q : Env → Shared → Prop}
    (h : Q (newEnv scope s.heap.objs.size globals (cellsFrom (s.heap.objs.size + 1) scope.names closure) qual func code (some env) builtins) { s with heap := pushCells (s.heap.push { cls := .type "dict", data := .dict #[] }) scope.names }) :
    wpAny M A (newFunctionEnv scope globals closure [] qual func code (some env) builtins) Q E s := by
  simp only [newFunctionEnv, Option.isSome_some, if_true]
  refine wpAny_bind (wpAny_alloc ?_)
  refine wpAny_bind (wpAny_layCells _ (fun name kind cells => by cases hkc : kind == NameKind.cell <;> simp [hkc]) _ _ _ _ ?_)
  rw [show ({ s with heap := s.heap.push { cls := .type "dict", data := .dict #[] } } : Shared).heap.objs.size = s.heap.objs.size + 1 from Heap.size_push ..]
  rw [List.forIn_nil]
  exact wpAny_bind (wpAny_pure (wpAny_pure h))
def cxC (X : Cx) (scope : Scope) (Nc : List Str) (Cc : Addr) (pins : List (Addr × Obj)) (fp : List Addr) (s3 : Shared) (H3 : Hp) : Cx :=
  { X with N := Nc, s₀ := s3, H₀ := H3, env := compEnvC scope (cellsFrom (Cc + 1) scope.names (clOf X.env scope.names [])) Cc X.env, outer := X.stack, stack := X.stack, ex := fp, fn := fun x => scope.names.lookup x == some .cell, pn := X.pn ++ pins, xe := fun _ _ => False }
def σc (fr : List (Option Nat)) (σ : St) : St := fr.map fun o => o.bind fun j => (σ[j]?).bind id
def Fwd (σ' σ : St) : Prop := σ'.length = σ.length ∧ ∀ (i : Nat) v, σ[i]? = some (some v) → σ'[i]? = some (some v)
def PIfs (X : Cx) (ifs : List Expr) (t : TT) : Prop :=
  ∀ (pins : List (Addr × Obj)) (s : Shared) (σ : St) (H : Hp) (Q : Bool → Hp → Prop), Inv X pins σ H s → t σ H Q →
    wpAny (model X.prog X.w) X.A (forIn ifs true fun c r => if r = true then do
      let ok ← isTrue c X.env (eval c X.env)
      pure (ForInStep.yield ok) else pure (ForInStep.yield r)) (TP X pins σ Q) X.xe s
def tTrue : TT := fun _ H Q => Q true H
theorem pifs_nil {X : Cx} : PIfs X [] tTrue := fun _ _ _ H _ I h => wpAny_tests_nil ⟨H, I, h⟩
theorem pifs_one {X : Cx} {c : Expr} {t : TT} (h : PT X c t) : PIfs X [c] t := fun pins s σ H Q I q => wpAny_tests_one (h pins s σ H Q I q)
section
variable {prog : Program} {w : World} {A : Around} {R : Result → Shared → Prop} {s : Shared}
theorem comp_loop {elt target iter : Expr} {ifs : List Expr} {scope : Scope} {pos : Pos} {it acc : Value} {env : Env} (I : Nat → Shared → Prop)
    (turn : ∀ n s, I n s → wpAny (model prog w) A (pyNext it) (fun r s₁ => match r with
      | none => R (.ok .next) s₁
      | some v => wpAny (model prog w) A (letOwnedTupleGo target it v) (fun _ s₂ => wpAny (model prog w) A (assign target env v) (fun _ s₃ =>
          wpAny (model prog w) A (forIn ifs true fun c r => if r = true then do
            let ok ← isTrue c env (eval c env)
            pure (ForInStep.yield ok) else pure (ForInStep.yield r)) (fun ok s₄ =>
            if ok = true then wpAny (model prog w) A (eval elt env) (fun x s₅ =>
              wpAny (model prog w) A (call (.builtin "list.append") [acc, x]) (fun _ s₆ => ∃ m, m < n ∧ I m s₆) (fun _ _ => False) s₅) (fun _ _ => False) s₄
            else ∃ m, m < n ∧ I m s₄) (fun _ _ => False) s₃) (fun _ _ => False) s₂) (fun _ _ => False) s₁) (fun _ _ => False) s)
    (n : Nat) (h : I n s) :
    codeAny (model prog w) A (.compLoop (.ListComp elt [⟨target, iter, ifs, 0⟩] scope pos) 0 it acc env) R s := by
  refine codeAny_loop rfl I (fun n s hI => ?_) n h
  refine wpAny_noted (m := compTurn (.ListComp elt [⟨target, iter, ifs, 0⟩] scope pos) 0 it acc env) (env := env) ?_
  rw [compTurn_list]
  have no : ∀ {E : Value → Shared → Prop} (e : Value) (s : Shared), False → E e s := fun _ _ f => f.elim
  refine wpAny_bind (wpAny_standAt (wpAny_bind (wpAny_mono (turn n s hI) (fun r s₁ h₁ => ?_) no)))
  cases r with
  | none => exact wpAny_pure h₁
  | some v =>
    refine wpAny_bind (wpAny_mono h₁ (fun _ s₂ h₂ => ?_) no)
    refine wpAny_bind (wpAny_mono h₂ (fun _ s₃ h₃ => ?_) no)
    refine wpAny_bind (wpAny_mono h₃ (fun ok s₄ h₄ => ?_) no)
    cases ok with
    | false => exact wpAny_pure ⟨rfl, h₄⟩
    | true =>
      refine wpAny_bind (wpAny_bind (wpAny_mono h₄ (fun x s₅ h₅ => ?_) no))
      exact wpAny_bind (wpAny_mono h₅ (fun _ s₆ h₆ => wpAny_pure (wpAny_pure ⟨rfl, h₆⟩)) no)
end
end L2
namespace L2
open PySem PySem.Spec PyProof.Rows
theorem cl_fact {env : Env} {names : List (Str × NameKind)} {x : Str} {c : Addr} (hf : ∀ y ∈ names, y.2 = .free → ∃ c, env.cells.lookup y.1 = some c) (h : (clOf env names []).lookup x = some c) : (x, NameKind.free) ∈ names ∧ env.cells.lookup x = some c := by
  rw [clOf_lookup] at h
  by_cases hm : (x, NameKind.free) ∈ names
  · rw [if_pos hm] at h
    obtain ⟨c', e⟩ := hf _ hm rfl
    rw [e] at h
    exact ⟨hm, by rw [e]; exact h⟩
  · rw [if_neg hm] at h
    cases h
theorem cl_some {env : Env} {names : List (Str × NameKind)} {x : Str} {c : Addr} (hm : (x, NameKind.free) ∈ names) (h : env.cells.lookup x = some c) : (clOf env names []).lookup x = some c := by
  rw [clOf_lookup, if_pos hm, h]
  rfl
structure CellsC (scope : Scope) (cl : List (Str × Addr)) (n : Nat) (h : Heap) : Prop where
  has : ∀ x, (x, NameKind.cell) ∈ scope.names → ∃ c, (cellsFrom (n + 1) scope.names cl).lookup x = some c ∧ n < c
  off : ∀ x c, (x, NameKind.cell) ∉ scope.names → cl.lookup x = some c → (cellsFrom (n + 1) scope.names cl).lookup x = some c
  two : ∀ x c, (cellsFrom (n + 1) scope.names cl).lookup x = some c → ((x, NameKind.cell) ∈ scope.names ∧ n < c ∧ h.IsCell c none) ∨ cl.lookup x = some c
  inj : ∀ x y c, (cellsFrom (n + 1) scope.names cl).lookup x = some c → (cellsFrom (n + 1) scope.names cl).lookup y = some c → n < c → (∀ z d, cl.lookup z = some d → d ≤ n) → x = y
theorem cellsC (scope : Scope) (cl : List (Str × Addr)) (h0 : Heap) (o : Obj) : CellsC scope cl h0.objs.size (pushCells (h0.push o) scope.names) := by
  have ok := cellsFrom_ok scope.names (h0.push o) (h0.objs.size + 1) [] ⟨fun _ _ hm => (nomatch hm), List.Pairwise.nil⟩ (by rw [Heap.size_push]; exact Nat.le_refl _)
  rw [Heap.size_push] at ok
  have lk : ∀ x, (cellsFrom (h0.objs.size + 1) scope.names cl).lookup x = ((cellsFrom (h0.objs.size + 1) scope.names []).lookup x).or (cl.lookup x) := fun x => by
    rw [cellsFrom_app, List.lookup_append]
  have two : ∀ x c, (cellsFrom (h0.objs.size + 1) scope.names cl).lookup x = some c → ((x, c) ∈ cellsFrom (h0.objs.size + 1) scope.names []) ∨ cl.lookup x = some c := fun x c e => by
    rw [lk] at e
    cases e1 : (cellsFrom (h0.objs.size + 1) scope.names []).lookup x with
    | none => rw [e1] at e; exact .inr e
    | some d => rw [e1] at e; cases e; exact .inl (PySem.mem_of_lookup e1)
  refine ⟨fun x hx => ?_, fun x c hx e => ?_, fun x c e => ?_, fun x y c e1 e2 hc hcl => ?_⟩
  · obtain ⟨c, e⟩ := cellsFrom_has scope.names (h0.objs.size + 1) [] x (.inl hx)
    exact ⟨c, by rw [lk, e]; rfl, (ok.empty x c (PySem.mem_of_lookup e)).2⟩
  · rw [lk]
    cases e1 : (cellsFrom (h0.objs.size + 1) scope.names []).lookup x with
    | none => exact e
    | some d =>
      rcases cellsFrom_mem _ _ _ _ _ (PySem.mem_of_lookup e1) with z | z
      · cases z
      · exact absurd z hx
  · rcases two x c e with z | z
    · refine .inl ⟨?_, (ok.empty x c z).2, (ok.empty x c z).1⟩
      rcases cellsFrom_mem _ _ _ _ _ z with q | q
      · cases q
      · exact q
    · exact .inr z
  · rcases two x c e1 with z1 | z1
    · rcases two y c e2 with z2 | z2
      · exact name_of_addr ok.apart z1 z2
      · exact absurd (hcl _ _ z2) (Nat.not_le.mpr hc)
    · exact absurd (hcl _ _ z1) (Nat.not_le.mpr hc)
section
variable {X : Cx} {scope : Scope} {Nc : List Str} {fr : List (Option Nat)} {pins : List (Addr × Obj)} {σ : St} {H : Hp} {s : Shared} {fp : List Addr}
theorem comp_cells (ok : CompOk X.env.scope scope X.N Nc fr) (I : Inv X pins σ H s) : ∀ y ∈ scope.names, y.2 = .free → ∃ c, X.env.cells.lookup y.1 = some c := fun y hy hk => by
  rcases ok.fre y hy hk with z | z
  · exact I.ok.has y.1 (.inl z)
  · exact I.ok.has y.1 (.inr z)
theorem comp_start (ok : CompOk X.env.scope scope X.N Nc fr) (I : Inv X pins σ H s) (hf : ∀ b ∈ fp, FpOk X pins H b) (hlt : ∀ b ∈ fp, b < s.heap.objs.size) {h1 : Heap} {m1 : Str → Option Value}
    (hn : h1.Ns s.heap.objs.size m1) (up : ∀ b o, s.heap.get? b = some o → h1.get? b = some o) (cs : CellsC scope (clOf X.env scope.names []) s.heap.objs.size h1) :
    Inv (cxC X scope Nc s.heap.objs.size pins fp s H) [] (σc fr σ) H { s with heap := h1 } := by
  have hcell := comp_cells ok I
  have stk : ∀ b, b ∈ frs X.stack → b ∈ X.env.locals :: X.fs := I.stkSub
  have clt : ∀ x c, X.env.cells.lookup x = some c → c < s.heap.objs.size := fun x c e => by
    obtain ⟨v, q⟩ := I.cell x c e
    exact q.lt
  have cll : ∀ x c, (clOf X.env scope.names []).lookup x = some c → c ≤ s.heap.objs.size := fun x c e => Nat.le_of_lt (clt x c (cl_fact hcell e).2)
  have kw : ∀ x, (relabel scope X.env).names.lookup x = some .cell ∨ (relabel scope X.env).names.lookup x = some .free → scope.names.lookup x = some .free ∨ scope.names.lookup x = some .cell := fun x h => by
    rw [lookup_relabel] at h
    cases e : scope.names.lookup x with
    | none => rw [e] at h; rcases h with h | h <;> cases h
    | some k =>
      rw [e] at h
      by_cases hk : k = .free
      · rw [hk]; exact .inl rfl
      · have : (k == NameKind.free) = false := by simpa using hk
        simp only [Option.map_some, this, Bool.false_and, Bool.false_eq_true, if_false] at h
        rcases h with h | h
        · exact .inr h
        · exact absurd (Option.some.inj h) hk
  refine ⟨⟨I.ok.mod, ok.kind, I.ok.glob, I.ok.blt, Nat.le_refl _, fun x y c h1 h2 => ?_, fun x hx => ?_, fun x c h e => ?_, I.ok.hd, I.ok.frames, .inl rfl, fun b hb => ⟨?_, fun x c e => ?_⟩, I.bs, Nat.le_trans I.ok.bsz I.sz, fun b o e hb => ?_, fun b hb hb' => ?_, I.stack, I.stkFree⟩,
    rfl, I.bare, Un.kept up, ⟨m1, hn, fun i x v e1 e2 e3 => ?_⟩, fun x c e => ?_, I.hok.fresh (Nat.le_refl _), fun x c e => ?_, fun p hp => ?_, I.hok.kept up, ?_⟩
  · rcases cs.two x c h1 with ⟨_, z, _⟩ | z1
    · exact cs.inj x y c h1 h2 z cll
    · rcases cs.two y c h2 with ⟨_, z, _⟩ | z2
      · exact cs.inj x y c h1 h2 z cll
      · exact I.ok.inj x y c (cl_fact hcell z1).2 (cl_fact hcell z2).2
  · rcases kw x hx with q | q
    · have hm : (x, NameKind.free) ∈ scope.names := PySem.mem_of_lookup q
      obtain ⟨c, e⟩ := hcell _ hm rfl
      have nc : (x, NameKind.cell) ∉ scope.names := fun z => by
        have := ok.cel _ z rfl
        rw [q] at this
        cases this
      exact ⟨c, cs.off x c nc (cl_some hm e)⟩
    · obtain ⟨c, e, _⟩ := cs.has x (PySem.mem_of_lookup q)
      exact ⟨c, e⟩
  · have q : scope.names.lookup x = some .cell := by
      have h' : (scope.names.lookup x == some NameKind.cell) = true := h
      simpa using h'
    obtain ⟨c', e', l⟩ := cs.has x (PySem.mem_of_lookup q)
    have e2 : (cellsFrom (s.heap.objs.size + 1) scope.names (clOf X.env scope.names [])).lookup x = some c := e
    rw [e'] at e2
    cases e2
    exact Nat.le_of_lt l
  · exact Nat.ne_of_lt (hlt b hb)
  · rcases cs.two x c e with ⟨_, z, _⟩ | z
    · exact Nat.ne_of_gt (Nat.lt_trans (hlt b hb) z)
    · exact (hf b hb).2.2.2.2.1 x c (cl_fact hcell z).2
  · rcases (hf b hb).2.2.2.1 with z | z
    · exact I.ok.noex b o e z
    · exact absurd (Nat.lt_of_lt_of_le (Heap.lt_size e) (Nat.le_trans I.ok.bsz z)) (Nat.lt_irrefl _)
  · have q := hf b hb
    rcases List.mem_cons.mp (stk b hb') with z | z
    · exact q.2.1 z
    · exact q.2.2.1 z
  · have e2' : (σc fr σ)[i]? = some (some v) := e2
    unfold σc at e2'
    rw [List.getElem?_map] at e2'
    cases ef : fr[i]? with
    | none => rw [ef] at e2'; cases e2'
    | some o =>
      rw [ef] at e2'
      cases o with
      | none => cases e2'
      | some j =>
        obtain ⟨y, a1, a2, a3⟩ := ok.frs i j ef
        have a1' : (cxC X scope Nc s.heap.objs.size pins fp s H).N[i]? = some y := a1
        rw [a1'] at e1
        obtain rfl : y = x := Option.some.inj e1
        have ej : σ[j]? = some (some v) := by
          have e2'' : (σ[j]?).bind id = some v := Option.some.inj e2'
          cases es : σ[j]? with
          | none => rw [es] at e2''; cases e2''
          | some z => rw [es] at e2''; cases z with
            | none => cases e2''
            | some z' => exact congrArg some e2''
        have hm : (y, NameKind.free) ∈ scope.names := PySem.mem_of_lookup a3
        have kc := ok.fre _ hm rfl
        obtain ⟨m, hn', hl⟩ := I.loc
        obtain ⟨u, r, l⟩ := hl j y v a2 ej (.inr kc)
        refine ⟨u, r, .inr ?_⟩
        rcases l with ⟨k, _⟩ | ⟨k, c, e, z⟩
        · exfalso
          have k' : X.env.scope.names.lookup y = some .local := k
          rcases kc with q | q <;> (rw [q] at k'; cases k')
        · have nc : (y, NameKind.cell) ∉ scope.names := fun z => by
            have := ok.cel _ z rfl
            rw [a3] at this
            cases this
          refine ⟨?_, c, cs.off y c nc (cl_some hm e), ?_⟩
          · show (relabel scope X.env).names.lookup y = some .cell ∨ (relabel scope X.env).names.lookup y = some .free
            rw [lookup_relabel, a3]
            show some (if _ then _ else _) = _ ∨ some (if _ then _ else _) = _
            split
            · exact .inl rfl
            · exact .inr rfl
          · obtain ⟨oc, ho, hd⟩ := z
            exact ⟨oc, up _ _ ho, hd⟩
  · rcases cs.two x c e with ⟨_, _, z⟩ | z
    · exact ⟨none, z⟩
    · obtain ⟨v, oc, ho, hd⟩ := I.cell x c (cl_fact hcell z).2
      exact ⟨v, oc, up _ _ ho, hd⟩
  · rcases cs.two x c e with ⟨_, z, _⟩ | z
    · exact I.hok.fresh (Nat.le_of_lt z)
    · exact I.freeC x c (cl_fact hcell z).2
  · have hp' : p ∈ X.pn ++ pins := by
      rcases List.mem_append.mp hp with z | z
      · exact z
      · exact absurd z (by simp)
    obtain ⟨e, n, ne, nf, d⟩ := I.pin p hp'
    refine ⟨up _ _ e, n, Nat.ne_of_lt (Heap.lt_size e), fun z => ?_, d⟩
    rcases List.mem_cons.mp (stk _ z) with z | z
    · exact ne z
    · exact nf z
  · unfold σc
    rw [List.length_map]
    exact ok.len
end
end L2
namespace L2
open PySem PySem.Spec PyProof.Rows
def tTurns (J : It) (σ₀ : St) (g : TG) (tt : TT) (te : TE) (D : Addr) (H1 : Hp) (Q : VK) : Prop :=
  ∃ W : Nat → Nat → List V → Hp → Prop, (∃ m, W 0 m [] (upd H1 D (.lst []))) ∧ ∀ i m ys H, W i m ys H →
    (J.stop i H ∧ Q (.ref D) H) ∨ (J.go i H ∧ ∀ x H', J.yld i H x H' → g x σ₀ H' fun σ2 H2 => Fwd σ2 σ₀ ∧ tt σ2 H2 fun b H3 =>
      if b = true then te σ2 H3 fun y H4 => H4 D = some (.lst ys) ∧ ys.length < sizeLine ∧ ∃ m', m' < m ∧ W (i + 1) m' (ys ++ [y]) (upd H4 D (.lst (ys ++ [y])))
      else ∃ m', m' < m ∧ W (i + 1) m' ys H3)
def CompEndR (X : Cx) (pins : List (Addr × Obj)) (σ : St) (Q : VK) (acc : Value) (C : Addr) (r : Result) (s' : Shared) : Prop :=
  ∃ D H', acc = .ref D ∧ r = .ok .next ∧ Inv X pins σ H' s' ∧ FpOk X pins H' C ∧ (∃ m, s'.heap.Ns C m) ∧ Q (.ref D) H'
section
variable {X : Cx} {scope : Scope} {Nc : List Str} {fr : List (Option Nat)} {pins : List (Addr × Obj)} {σ : St} {H : Hp} {s : Shared} {fp : List Addr}
theorem comp_core {tg elt iter : Expr} {ifs : List Expr} {pos : Pos} {g : TG} {tt : TT} {te : TE} {J : It} {it : Addr} {tn : Nat → Heap → Prop} {Q : VK} {E : Value → Shared → Prop} (ok : CompOk X.env.scope scope X.N Nc fr) (hc : X.calm = true)
    (hg : ∀ Cc pins fp s3 H3, PG (cxC X scope Nc Cc pins fp s3 H3) tg g) (ht : ∀ Cc pins fp s3 H3, PIfs (cxC X scope Nc Cc pins fp s3 H3) ifs tt) (he : ∀ Cc pins fp s3 H3, PE (cxC X scope Nc Cc pins fp s3 H3) elt te)
    (I : Inv X pins σ H s) (T : Turn X.prog X.w X.K tg J fp it tn) (st : tn 0 s.heap) (hf : ∀ b ∈ fp, FpOk X pins H b) (w : ∀ D, H D = none → tTurns J (σc fr σ) g tt te D H Q) :
    wpAny (model X.prog X.w) X.A (newList []) (fun acc s₃ => wpAny (model X.prog X.w) X.A (newFunctionEnv scope X.env.globals (clOf X.env scope.names []) [] X.env.qual none .none (some X.env)) (fun cenv s₄ =>
      codeAny (model X.prog X.w) X.A (.compStart (.ListComp elt [⟨tg, iter, ifs, 0⟩] scope pos) 0 (.ref it) acc { cenv with scope := relabel scope X.env }) (CompEndR X pins σ Q acc cenv.locals) s₄) E s₃) E s := by
  have flt : ∀ b ∈ fp, b < s.heap.objs.size := fun b hb => by
    obtain ⟨o, e, _⟩ := T.obj 0 _ st b hb
    exact Heap.lt_size e
  refine wpAny_newList ?_ (by show 0 ≤ sizeLine; exact Nat.zero_le _)
  have I3 := I.lnew (ys := []) (its := []) (t' := s.toks) .nil (Nat.zero_le _)
  have st3 : tn 0 (s.heap.push { cls := .type "list", data := .seq ([] : List Value).toArray }) := T.keep 0 _ _ st fun b _ o e => Heap.get?_push_of_some _ e
  obtain ⟨W, ⟨m0, w0⟩, turn⟩ := w s.heap.objs.size I.fresh
  have hf3 : ∀ b ∈ fp, FpOk X pins (upd H s.heap.objs.size (.lst [])) b := fun b hb => ⟨by rw [upd_ne (Nat.ne_of_lt (flt b hb))]; exact (hf b hb).1, (hf b hb).2⟩
  generalize hD : s.heap.objs.size = D at *
  generalize hs3 : ({ s with heap := s.heap.push { cls := .type "list", data := .seq ([] : List Value).toArray } } : Shared) = s3
  have I3' : Inv X pins σ (upd H D (.lst [])) s3 := hs3 ▸ I3
  have st3' : tn 0 s3.heap := by rw [← hs3]; exact st3
  have flt3 : ∀ b ∈ fp, b < s3.heap.objs.size := fun b hb => by
    obtain ⟨o, e, _⟩ := T.obj 0 _ st3' b hb
    exact Heap.lt_size e
  refine wp_newEnvC ?_
  generalize hh1 : pushCells (s3.heap.push { cls := .type "dict", data := .dict #[] }) scope.names = h1
  have hn1 : h1.Ns s3.heap.objs.size (fun _ => none) := hh1 ▸ (Heap.Ns.new s3.heap (.type "dict")).keeps (pushCells_keeps _ _)
  have up : ∀ b o, s3.heap.get? b = some o → h1.get? b = some o := fun b o e => hh1 ▸ pushCells_keeps _ _ b o (Heap.get?_push_of_some _ e)
  have cs1 : CellsC scope (clOf X.env scope.names []) s3.heap.objs.size h1 := hh1 ▸ cellsC scope (clOf X.env scope.names []) s3.heap _
  have I4 : Inv (cxC X scope Nc s3.heap.objs.size pins fp s3 (upd H D (.lst []))) [] (σc fr σ) (upd H D (.lst [])) { s3 with heap := h1 } := comp_start ok I3' hf3 flt3 hn1 up cs1
  have st4 : tn 0 h1 := T.keep 0 _ _ st3' fun b _ o e => up b o e
  generalize hXc : cxC X scope Nc s3.heap.objs.size pins fp s3 (upd H D (.lst [])) = Xc at I4
  have hg' : PG Xc tg g := hXc ▸ hg _ _ _ _ _
  have ht' : PIfs Xc ifs tt := hXc ▸ ht _ _ _ _ _
  have he' : PE Xc elt te := hXc ▸ he _ _ _ _ _
  have eP : Xc.prog = X.prog := by rw [← hXc]; rfl
  have ew : Xc.w = X.w := by rw [← hXc]; rfl
  have eK : Xc.K = X.K := by rw [← hXc]; rfl
  have eA : Xc.A = X.A := by rw [← hXc]; rfl
  have ec : Xc.calm = true := by rw [← hXc]; exact hc
  have ex : Xc.xe = fun _ _ => False := by rw [← hXc]; rfl
  have ee : Xc.env = compEnvC scope (cellsFrom (s3.heap.objs.size + 1) scope.names (clOf X.env scope.names [])) s3.heap.objs.size X.env := by rw [← hXc]; rfl
  have elo : Xc.env.locals = s3.heap.objs.size := by rw [ee]; rfl
  have stat : ∀ {H' : Hp}, (∀ b ∈ fp, H' b = none) → ∀ b ∈ fp, FpOk Xc [] H' b := fun {H'} hn b hb => by
    have q := hf b hb
    refine ⟨hn b hb, by rw [elo]; exact Nat.ne_of_lt (flt3 b hb), fun z => ?_, .inl (by rw [← hXc]; exact hb), fun x c e => ?_, fun p hp => ?_⟩
    · have z' : b ∈ frs X.stack := by rw [← hXc] at z; exact z
      rcases List.mem_cons.mp (I.stkSub b z') with z | z
      · exact q.2.1 z
      · exact q.2.2.1 z
    · have e' : (cellsFrom (s3.heap.objs.size + 1) scope.names (clOf X.env scope.names [])).lookup x = some c := by rw [ee] at e; exact e
      rcases cs1.two x c e' with ⟨_, z, _⟩ | z
      · exact Nat.ne_of_gt (Nat.lt_trans (flt3 b hb) z)
      · exact q.2.2.2.2.1 x c (cl_fact (comp_cells ok I) z).2
    · have hp' : p ∈ (X.pn ++ pins) ++ [] := by rw [← hXc] at hp; exact hp
      rw [List.append_nil] at hp'
      exact q.2.2.2.2.2 p hp'
  have loop : codeAny (model X.prog X.w) X.A (.compLoop (.ListComp elt [⟨tg, iter, ifs, 0⟩] scope pos) 0 (.ref it) (.ref D) Xc.env) (CompEndR X pins σ Q (.ref D) s3.heap.objs.size) { s3 with heap := h1 } := by
    refine comp_loop (fun n s' => ∃ i ys H', Inv Xc [] (σc fr σ) H' s' ∧ tn i s'.heap ∧ (∀ b ∈ fp, H' b = none) ∧ W i n ys H') ?_ m0 ⟨0, [], _, I4, st4, fun b hb => (hf3 b hb).1, w0⟩
    rintro n s5 ⟨i, ys, H5, I5, st5, fr5, w5⟩
    rcases turn i n ys H5 w5 with ⟨stop, qn⟩ | ⟨go, step⟩
    · have q := T.done Xc eP ew eK ec i [] s5 (σc fr σ) H5 (fun _ _ => False) I5 (stat fr5) st5 stop
      rw [eA] at q
      refine thn q fun r s6 ⟨hr, I6⟩ => ?_
      subst hr
      obtain ⟨m6, hn6, _⟩ := I6.loc
      have fC : H5 s3.heap.objs.size = none := by have := I6.free; rwa [elo] at this
      have bs := I6.base
      have os := I6.os
      have hk := I6.hok
      rw [← hXc] at bs os hk
      refine ⟨D, H5, rfl, rfl, I3'.call' os bs hk I6.bare fun b hb => ?_, I3'.fpOk (Nat.le_refl _) fC, ⟨m6, by rw [elo] at hn6; exact hn6⟩, qn⟩
      have q := hf b hb
      exact ⟨q.2.2.2.1, q.2.1, q.2.2.2.2.1, q.2.2.2.2.2⟩
    · have q := T.item Xc eP ew eK ec i [] s5 (σc fr σ) H5 (fun _ _ => False) I5 (stat fr5) st5 go
      rw [eA] at q
      refine thn q fun r s6 ⟨u, hr, h6⟩ => ?_
      subst hr
      refine thn h6 fun _ s7 ⟨x, H7, I7, r7, y7, st7, fr7⟩ => ?_
      have I7' := I7.pinned (stat fr7) (T.obj _ _ st7)
      have q8 := hg' _ s7 _ H7 x u _ I7' r7 (step x H7 y7)
      rw [eP, ew, eA, ex] at q8
      refine thn q8 fun _ s8 ⟨σ8, H8, I8, fw8, q8⟩ => ?_
      have q9 := ht' _ s8 σ8 H8 _ I8 q8
      rw [eP, ew, eA, ex] at q9
      refine thn q9 fun b s9 ⟨H9, I9, q9⟩ => ?_
      have again : ∀ {H' : Hp} {ys' : List V} {s' : Shared}, Inv Xc ([] ++ pinsAt fp s7.heap) σ8 H' s' → (∃ m', m' < n ∧ W (i + 1) m' ys' H') → ∃ m, m < n ∧ ∃ i ys H', Inv Xc [] (σc fr σ) H' s' ∧ tn i s'.heap ∧ (∀ b ∈ fp, H' b = none) ∧ W i m ys H' := fun {H' ys' s'} J' ⟨m', hm, w'⟩ => by
        refine ⟨m', hm, i + 1, ys', H', (J'.unpinned).weak fw8.1.symm fw8.2, T.keep _ _ _ st7 fun b hb o e => (J'.pin (b, o) (List.mem_append_right _ (List.mem_append_right _ (mem_pinsAt hb e)))).1, fun b hb => ?_, w'⟩
        obtain ⟨o, e, d⟩ := T.obj _ _ st7 b hb
        exact (J'.pin (b, o) (List.mem_append_right _ (List.mem_append_right _ (mem_pinsAt hb e)))).2.1
      cases b with
      | false =>
        rw [if_neg (by simp)]
        exact again I9 q9
      | true =>
        rw [if_pos rfl]
        have q9' : te σ8 H9 fun y H4 => H4 D = some (.lst ys) ∧ ys.length < sizeLine ∧ ∃ m', m' < n ∧ W (i + 1) m' (ys ++ [y]) (upd H4 D (.lst (ys ++ [y]))) := q9
        have q10 := he' _ s9 σ8 H9 _ I9 q9'
        rw [eP, ew, eA, ex] at q10
        refine thn q10 fun y s10 ⟨z, H10, I10, r10, e10, l10, w10⟩ => ?_
        have q11 := mt_append (X := Xc) _ s10 σ8 H10 (.ref D) [z] (.ref D) [y] (fun v H' => ∃ m', m' < n ∧ W (i + 1) m' (ys ++ [z]) H') I10 rfl (.cons r10 .nil) ⟨D, ys, z, rfl, rfl, e10, l10, w10⟩
        rw [eP, ew, eA, ex] at q11
        exact thn q11 fun _ s11 ⟨_, H11, I11, _, w11⟩ => again I11 w11
  have loop' := loop
  rw [ee] at loop'
  exact codeAny_compStart_list loop' (T.self X.A 0 _ _ _ st4 loop')
def tComp (fr : List (Option Nat)) (wi : TI) (g : TG) (tt : TT) (te : TE) : TE := fun σ H Q => wi σ H fun J H1 => ∀ D, H1 D = none → tTurns J (σc fr σ) g tt te D H1 Q
theorem comp_after {C : Addr} {H' : Hp} {s' : Shared} {h' : Heap} (I : Inv X pins σ H' s') (f : FpOk X pins H' C) (hs : Heap.SameBut C s'.heap h') : Inv X pins σ H' { s' with heap := h' } :=
  I.turned (t' := s'.toks) (fun b o hb e => (hs.2 b hb).trans e) f.1 f.2.1 f.2.2.2.1 f.2.2.2.2.1 f.2.2.2.2.2
theorem pe_comp {tg elt iter : Expr} {ifs : List Expr} {pos : Pos} {g : TG} {tt : TT} {te : TE} {wi : TI} (ok : compOk X.env.scope scope X.N Nc fr = true) (hc : X.calm = true) (hi : PI X tg iter wi)
    (hg : ∀ Cc pins fp s3 H3, PG (cxC X scope Nc Cc pins fp s3 H3) tg g) (ht : ∀ Cc pins fp s3 H3, PIfs (cxC X scope Nc Cc pins fp s3 H3) ifs tt) (he : ∀ Cc pins fp s3 H3, PE (cxC X scope Nc Cc pins fp s3 H3) elt te)
    (hs : ∀ x, foldedSetIterable iter X.env x = pure x := by intro _; rfl) :
    PE X (.ListComp elt [⟨tg, iter, ifs, 0⟩] scope pos) (tComp fr wi g tt te) := by
  have ok := CompOk.of ok
  intro pins s σ H Q I h
  rw [eval_ListComp]
  refine wpAny_comprehension_free (use := none) rfl hs (closureFor_some (comp_cells ok I)) ok.kind ok.nms (thn (hi pins s σ H _ I h) fun v s1 h1 => thn h1 fun itv s2 h2 => ?_)
  obtain ⟨it, fp, tn, J, H2, e, I2, T, st2, f2, w⟩ := h2
  subst e
  refine thn (comp_core ok hc hg ht he I2 T st2 f2 w) fun acc s3 h3 => thn h3 fun cenv s4 h4 => codeAny_mono h4 fun r s5 h5 => ?_
  obtain ⟨D, H5, rfl, rfl, I5, f5, ⟨m5, n5⟩, q5⟩ := h5
  exact ⟨m5, n5, fun h' sb => ⟨.ref D, H5, comp_after I5 f5 sb, rfl, q5⟩⟩
theorem ps_comp {tg elt iter : Expr} {ifs : List Expr} {pos pos' pos'' : Pos} {g : TG} {tt : TT} {te : TE} {wi : TI} {i : Nat} {x : Str} (ok : compOk X.env.scope scope X.N Nc fr = true) (hc : X.calm = true) (hN : X.N.Nodup) (hi : X.N[i]? = some x) (hx : Loc X.env.scope x) (hit : PI X tg iter wi)
    (hg : ∀ Cc pins fp s3 H3, PG (cxC X scope Nc Cc pins fp s3 H3) tg g) (ht : ∀ Cc pins fp s3 H3, PIfs (cxC X scope Nc Cc pins fp s3 H3) ifs tt) (he : ∀ Cc pins fp s3 H3, PE (cxC X scope Nc Cc pins fp s3 H3) elt te)
    (hsw : swapsWith (.ListComp elt [⟨tg, iter, ifs, 0⟩] scope pos) (some (.Name x pos')) pos''.line X.env = pure true)
    (hs : ∀ x, foldedSetIterable iter X.env x = pure x := by intro _; rfl) (hf : X.fn x = true ∨ X.env.scope.names.lookup x = some .local := by first | exact .inl rfl | exact .inr rfl | assumption) :
    PS X (.Assign [.Name x pos'] (.ListComp elt [⟨tg, iter, ifs, 0⟩] scope pos) pos'') (tAsg (tComp fr wi g tt te) (gName i)) := by
  have ok := CompOk.of ok
  intro pins s σ H Dn I h
  rw [exec_Assign_Name_used _ _ _ _ hsw]
  refine wpAny_bind (wpAny_standAt (wpAny_bind ?_))
  refine wpAny_bind (m := comprehension (.ListComp elt [⟨tg, iter, ifs, 0⟩] scope pos) scope X.env (firstIterPos [⟨tg, iter, ifs, 0⟩] pos) (newList []) false (eval iter X.env) (some (assign (.Name x pos') X.env))) ?_
  refine thn (wpAny_comprehension_free (use := some (assign (.Name x pos') X.env)) (Q := fun _ s' => SP X pins Dn .next s') rfl hs (closureFor_some (comp_cells ok I)) ok.kind ok.nms (thn (hit pins s σ H _ I h) fun v s1 h1 => thn h1 fun itv s2 h2 => ?_)) fun _ s' q => wpAny_pure (wpAny_pure q)
  obtain ⟨it, fp, tn, J, H2, e, I2, T, st2, f2, w⟩ := h2
  subst e
  refine thn (comp_core ok hc hg ht he I2 T st2 f2 w) fun acc s3 h3 => thn h3 fun cenv s4 h4 => codeAny_mono h4 fun r s5 h5 => ?_
  obtain ⟨D, H5, rfl, rfl, I5, f5, ⟨m5, n5⟩, q5⟩ := h5
  refine wpAny_assign_Name (store_ok2 (v := .ref D) I5 hN hi hx rfl (fun s6 I6 ⟨a, sb, ha⟩ => ?_) hf)
  have nC : cenv.locals ≠ a := by
    rcases ha with ha | ha
    · rw [ha]; exact f5.2.1
    · exact Ne.symm (f5.2.2.2.2.1 x a ha)
  refine ⟨m5, n5.sameBut sb nC, fun h' sb' => ⟨_, H5, comp_after I6 f5 sb', q5⟩⟩
end
end L2
namespace L2
open PySem PySem.Spec PyProof.Rows
section
variable {X : Cx}
theorem op_isB : OpR X (compareOp .Is) (fun x y H Q => ∃ c d, x = .bl c ∧ y = .bl d ∧ Q (.bl (c == d)) H) := by
  intro pins s σ H x y v u Q I rx ry h
  obtain ⟨c, d, rfl, rfl, q⟩ := h
  cases rx
  cases ry
  exact is_bool (fin_bl I q rfl)
theorem op_isnotB : OpR X (compareOp .IsNot) (fun x y H Q => ∃ c d, x = .bl c ∧ y = .bl d ∧ Q (.bl (c != d)) H) := by
  intro pins s σ H x y v u Q I rx ry h
  obtain ⟨c, d, rfl, rfl, q⟩ := h
  cases rx
  cases ry
  exact isnot_bool (fin_bl I q rfl)
def rCat0 (K : PySem.W.Frag) : R2 := fun x y H Q => ∃ a b ys, x = .ref a ∧ y = .ref b ∧ SqT K H a [] ∧ SqT K H b ys ∧ Q (.ref b) H
theorem op_cat0 : OpR X (binaryOp .Add) (rCat0 X.K) := by
  intro pins s σ H x y v u Q I rx ry h
  obtain ⟨a, b, ys, rfl, rfl, ha, hb, q⟩ := h
  cases rx
  cases ry
  obtain ⟨its, r1, p1, _⟩ := I.tuple ha
  obtain ⟨its2, r2, p2, _⟩ := I.tuple hb
  have e : its = [] := r1.nil_iff.mpr rfl
  subst e
  obtain ⟨⟨cls, dd, data, sl⟩, ho, hc, n, hd⟩ := id p1
  obtain ⟨⟨cls2, dd2, data2, sl2⟩, ho2, hc2, n2, hd2⟩ := id p2
  simp only at hc hd hc2 hd2
  subst hc hd hc2 hd2
  exact concat_meets ⟨_, ho, rfl⟩ ⟨_, ho2, rfl⟩ noFill_tuple_add seq_tuple_add PySem.F.slot_tuple_add PySem.F.entry_tuple_add (PySem.F.args_tuple_add_2 _ _)
    (tuple_addW0 a b [].toArray its2.toArray n n2 dd dd2 sl sl2 (by simp)) ⟨ho, ho2, ⟨.ref b, H, I, rfl, q⟩⟩
theorem getItem_tuple_all {prog : Program} {w : World} {A : Around} {E : Value → Shared → Prop} {s : Shared} {t sl : Addr} {items : Array Value} {vl vu : Value} {lo hi : Option Int} {Q : Value → Shared → Prop} (ht : IsTup s.heap t items) (hs : s.heap.IsSliceOf sl vl vu .none) (pl : IsPart vl lo) (pu : IsPart vu hi)
    (hw : HT.sIx items.size 0 lo = 0 ∧ HT.sIx items.size items.size hi = items.size) (h : Q (.ref t) s) : wpAny (model prog w) A (getItem (.ref t) (.ref sl)) Q E s := by
  obtain ⟨os, hos, hcs, hds⟩ := id hs
  have hTs : s.TypeIs (.ref sl) "slice" := ⟨os, hos, hcs⟩
  unfold getItem
  try with_reducible refine wpAny_holding ?_
  first | refine wpAny_bind (wpAny_pure ?_) | skip
  refine wpAny_bind (wpAny_sequenceKey ht.typeIs (by decide) ?_)
  refine wpAny_bind (wpAny_callSpecial?_slot (name := Str.ofString "__getitem__") ht.typeIs PyProof.Rows.slot_tuple_getitem
    (wpAny_call_entry PyProof.Rows.slot_tuple_getitem ht.typeIs entry_tuple_getitem ?_ (args_tuple_getitem _ _)))
  show wpAny _ _ (Builtin.Tuple.tupleItemsOf (.ref t) >>= _) _ _ s
  refine wpAny_bind (tupleItemsOf_ ht ?_)
  refine wpAny_bind (wpAny_typeOf hTs ?_)
  rw [if_pos (by decide)]
  refine wpAny_bind (HT.sliceApplied_gen hs pl pu ?_)
  have hyes : ((((HT.sIx items.size 0 lo : Nat) : Int) == 0 && (1 : Int) == 1 && (HT.sIx items.size items.size hi - HT.sIx items.size 0 lo) == items.size) = true) := by
    rw [hw.1, hw.2]
    simp
  show wpAny _ _ (if (((HT.sIx items.size 0 lo : Nat) : Int) == 0 && (1 : Int) == 1 && (HT.sIx items.size items.size hi - HT.sIx items.size 0 lo) == items.size) = true then _ else _) _ _ s
  rw [if_pos hyes]
  have ex : wpAny (model prog w) A.in1 (Builtin.Tuple.tupleIsExact (.ref t)) (fun b s' => b = true ∧ s' = s) E s := by
    unfold Builtin.Tuple.tupleIsExact
    exact wpAny_bind (wpAny_typeOf ht.typeIs (wpAny_pure ⟨by decide, rfl⟩))
  refine wpAny_bind (thn ex fun b s' q => ?_)
  obtain ⟨rfl, rfl⟩ := q
  rw [if_pos rfl]
  exact wpAny_bind (wpAny_rule (wpAny_pure ⟨_, rfl, wpAny_pure h⟩))
def rSlW (K : PySem.W.Frag) : V → Option Int → Option Int → Hp → VK → Prop := fun x lo hi H Q => ∃ a xs, x = .ref a ∧ SqT K H a xs ∧
  (HT.sIx xs.length 0 lo = 0 ∧ HT.sIx xs.length xs.length hi = xs.length) ∧ Q (.ref a) H
theorem sl_tupW : SlR X (rSlW X.K) := by
  intro pins s σ H x v vl vu lo hi sl Q I rx hs pl pu h
  obtain ⟨a, xs, rfl, hx, hw, q⟩ := h
  cases rx
  obtain ⟨its, r, ht, hz⟩ := I.tuple hx
  have hlen : its.toArray.size = xs.length := by rw [List.size_toArray]; exact r.length.symm
  refine ⟨"tuple", _, PyProof.Rows.slot_tuple_getitem.lookup, ht.typeIs, ?_⟩
  exact getItem_tuple_all ht hs pl pu (by rw [hlen]; exact hw) ⟨.ref a, H, I, rfl, q⟩
theorem noFill_tuple_mul : fillsNumberSlot (.type "tuple") "mul" = pure false :=
  PySem.fillsNumberSlot_seq (id := "tuple.__mul__") (r := some (.builtin "tuple.__rmul__")) F.slot_tuple_mul.lookup (by decide +kernel) F.slot_tuple_rmul.lookup (by decide +kernel)
theorem repeat_tuple : seqRepeat? (.type "tuple") = pure (some (.builtin "tuple.__mul__")) := by
  unfold seqRepeat?
  have e1   := PySem.seqSlot_of (T := "tuple") (name := "__mul__") (id := "tuple.__mul__") F.slot_tuple_mul.lookup (by decide +kernel)
  have e2   := PySem.seqSlot_of (T := "tuple") (name := "__rmul__") (id := "tuple.__rmul__") F.slot_tuple_rmul.lookup (by decide +kernel)
  rw [e1, e2]
  rfl
theorem rmul_int_tuple (a : Int) (t : Tok) (l : Addr) (items : Array Value) (n : Nat) (dd : Option Addr) (sl : Array (Option Value)) :
    Meets (Builtin.«int.__rmul__» ⟨[.int a t, .ref l], []⟩) (fun _ R s => s.heap.get? l = some { cls := .type "tuple", dict := dd, data := .seq items n, slots := sl } ∧ R (.ok (.ret Value.notImplemented)) s) :=
  .of_wp fun prog w A R s h => by
    obtain ⟨hp, g, d, tk, os⟩ := s
    obtain ⟨hl, h⟩ := h
    wp_walk
    exact ⟨_, rfl, h⟩
theorem tuple_mulW (l : Addr) (items : Array Value) (n : Nat) (dd : Option Addr) (sl : Array (Option Value)) (x : Int) (u : Tok) (h1 : 1 < x) (h2 : x < 2 ^ 63) (h3 : items.isEmpty = false) (h4 : items.size * x ≤ sizeLine) :
    Meets (Builtin.«tuple.__mul__» ⟨[.ref l, .int x u], []⟩) (fun _ R s => s.heap.get? l = some { cls := .type "tuple", dict := dd, data := .seq items n, slots := sl } ∧
      R (.ok (.ret (Value.ref s.heap.objs.size))) { s with heap := s.heap.push { cls := Value.type "tuple", data := Data.seq (List.foldl (fun x1 x2 => x1 ++ x2) #[] (List.replicate x.toNat items)) } }) :=
  .of_wp fun prog w A R s h => by
    obtain ⟨hl, h⟩ := h
    have hT : s.TypeIs (.ref l) "tuple" := ⟨_, hl, rfl⟩
    have hI : IsTup s.heap l items := ⟨_, hl, rfl, n, rfl⟩
    have f1 := AutoSeq1.idx_int
    unfold Builtin.«tuple.__mul__»
    obtain ⟨hp, g, d, tk, os⟩ := s
    wp_walk using wpAny_loadPart' hl
    rw [if_neg (by simp; omega)]
    refine wpAny_bind (tupleItemsOf_ hI ?_)
    dsimp only
    have hx1 : (x == 1) = false := by
      have : x ≠ 1 := by omega
      simpa using this
    have e0 : ¬ (items.isEmpty || x == 1) = true := by
      rw [h3, hx1]
      simp
    have e1 : ¬ (decide (x ≤ 0) || items.isEmpty) = true := by
      have : ¬ x ≤ 0 := by omega
      rw [h3]
      simpa using this
    have hl9 : (sizeLine : Int) ≤ (2 ^ 63 - 1) / 8 := by decide
    have e2 : ¬ ((items.size : Int) * x > (2 ^ 63 - 1) / 8) := by omega
    have e3 : ¬ Builtin.Tuple.tupleTooMany ((items.size : Int) * x) = true := by
      unfold Builtin.Tuple.tupleTooMany
      simpa using h4
    rw [if_neg e0, if_neg e1, if_neg e2, if_neg e3]
    have hsz : (List.foldl (fun x1 x2 => x1 ++ x2) #[] (List.replicate x.toNat items)).size ≤ sizeLine := by
      have q := foldl_rep items.toList x.toNat []
      have q2 : List.foldl (fun x1 x2 => x1 ++ x2) #[] (List.replicate x.toNat items) = (List.replicate x.toNat items.toList).flatten.toArray := by
        simpa using q
      rw [q2, List.size_toArray, len_rep, Array.length_toList]
      have e : ((x.toNat : Nat) : Int) = x := by omega
      have : ((x.toNat * items.size : Nat) : Int) ≤ (sizeLine : Int) := by
        rw [Int.natCast_mul, e, Int.mul_comm]
        exact h4
      omega
    exact wpAny_bind (m := Builtin.Tuple.tupleExact _) (wpAny_newObj_type (wpAny_pure ⟨_, rfl, h⟩) hsz)
def rRepT (K : PySem.W.Frag) : R2 := fun x y H Q => ∃ l k xs, x = .ref l ∧ y = .int k ∧ SqT K H l xs ∧ 1 < k ∧ k < 2 ^ 63 ∧ xs ≠ [] ∧ (xs.length : Int) * k ≤ sizeLine ∧
  ∀ p, H p = none → Q (.ref p) (upd H p (.tup (List.replicate k.toNat xs).flatten))
theorem op_repT : OpR X (binaryOp .Mult) (rRepT X.K) := by
  intro pins s σ H x y v u Q I rx ry h
  obtain ⟨l, k, xs, rfl, rfl, hH, h1, h2, hne, hz, q⟩ := h
  cases rx
  obtain ⟨t, rfl⟩ := ry
  obtain ⟨its, r, ht, hzz⟩ := I.tuple hH
  have hl := r.length
  obtain ⟨⟨cls, dd, data, sl⟩, ho, hc, n, hd⟩ := id ht
  simp only at hc hd
  subst hc hd
  have hnew : List.foldl (fun x1 x2 => x1 ++ x2) #[] (List.replicate k.toNat its.toArray) = (List.replicate k.toNat its).flatten.toArray := by
    have := foldl_rep its k.toNat []
    rw [List.nil_append] at this
    exact this
  have h3 : its.toArray.isEmpty = false := by
    cases its with
    | nil => exact absurd (r.nil_iff.mp rfl) hne
    | cons a b => rfl
  have h4 : (its.toArray.size : Int) * k ≤ sizeLine := by rw [List.size_toArray, ← hl]; exact hz
  refine wpAny_binaryOp_repeat_ref (T := "tuple") (U := "int") (by decide) ⟨_, ho, rfl⟩ (fun s' => typeIs_int s' k t) noFill_tuple_mul F.fills_int_mul F.slot_int_rmul repeat_tuple F.slot_int_index.lookup
    (call_meets F.slot_int_rmul (typeIs_int s k t) F.entry_int_rmul (F.args_int_rmul_2 _ _) (rmul_int_tuple k t l its.toArray n dd sl)
      ⟨ho, rfl, ⟨_, ho, rfl⟩, call_meets F.slot_tuple_mul ⟨_, ho, rfl⟩ F.entry_tuple_mul (F.args_tuple_mul_2 _ _) (tuple_mulW l its.toArray n dd sl k t h1 h2 h3 h4) ⟨ho, ?_⟩⟩)
  rw [hnew]
  have hln : (List.replicate k.toNat xs).flatten.length ≤ sizeLine := by
    rw [len_rep]
    have e : ((k.toNat : Nat) : Int) = k := by omega
    have : ((k.toNat * xs.length : Nat) : Int) ≤ (sizeLine : Int) := by
      rw [Int.natCast_mul, e, Int.mul_comm]
      exact hz
    omega
  refine ⟨.ref s.heap.objs.size, _, I.laid (t' := s.toks) (o := .tup (List.replicate k.toNat xs).flatten) (fun b ob q => Heap.get?_push_of_some _ q) (Nat.le_refl _) ⟨hln, _, r.rep k.toNat, IsTup.new _ _⟩, rfl, q _ I.fresh⟩
end
end L2
namespace L2
open PySem PySem.Spec PyProof.Rows
section
variable {X : Cx}
def tyName (K : PySem.W.Frag) (H : Hp) (x : V) (n : String) : Prop := match x with
  | .non => n = "NoneType"
  | .bl _ => n = "bool"
  | .int _ => n = "int"
  | .str _ => n = "str"
  | .ref a => (n = "list" ∧ ∃ xs, SqL K H a xs) ∨ (n = "tuple" ∧ ∃ xs, SqT K H a xs)
  | _ => False
theorem inst_ok {pins : List (Addr × Obj)} {σ : St} {H : Hp} {s : Shared} {A : Around} {E : Value → Shared → Prop} {Q : Value → Shared → Prop} {c : Value} {b : Bool} {x : V} {u : Value} {n : String} (I : Inv X pins σ H s) (rx : RelV x u) (ty : tyName X.K H x n)
    (e : PySem.W.kitOne X.K (.type n) c = some b) (h : ∀ tk, Q (.bool b) { s with toks := tk }) : wpAny (model X.prog X.w) A (call (.builtin "isinstance") [u, c]) Q E s := by
  cases x with
  | non => cases (show n = _ from ty); exact isinst_ok I rx .non e h
  | bl y => cases (show n = _ from ty); exact isinst_ok I rx (.bl y) e h
  | int i => cases (show n = _ from ty); exact isinst_ok I rx (.int i) e h
  | str y => cases (show n = _ from ty); exact isinst_ok I rx (.str y) e h
  | ref a =>
    cases (show u = Value.ref a from rx)
    rcases (show (n = "list" ∧ ∃ xs, SqL X.K H a xs) ∨ (n = "tuple" ∧ ∃ xs, SqT X.K H a xs) from ty) with ⟨rfl, xs, hx⟩ | ⟨rfl, xs, hx⟩
    · obtain ⟨its, _, pl, _⟩ := I.list hx
      obtain ⟨o, h1, h2, _⟩ := pl.isList
      exact PySem.W.kia_one PySem.W.kitx_list I.kIn ⟨o, h1, h2⟩ e (fun z => nomatch z) h
    · obtain ⟨its, _, pl, _⟩ := I.tuple hx
      obtain ⟨o, h1, h2, _⟩ := pl
      exact PySem.W.kia_one PySem.W.kitx_tuple I.kIn ⟨o, h1, h2⟩ e (fun z => nomatch z) h
  | _ => exact False.elim ty
def isSub (n c : String) : Bool := n == c || (n == "bool" && c == "int")
theorem kit_tab (K : PySem.W.Frag) {n c : String} (hn : n = "NoneType" ∨ n = "bool" ∨ n = "int" ∨ n = "str" ∨ n = "list" ∨ n = "tuple") (hc : c = "int" ∨ c = "bool" ∨ c = "str" ∨ c = "list" ∨ c = "tuple") : PySem.W.kitOne K (.type n) (.type c) = some (isSub n c) := by
  rcases hn with rfl | rfl | rfl | rfl | rfl | rfl <;> rcases hc with rfl | rfl | rfl | rfl | rfl <;> first | rfl | (unfold PySem.W.kitOne; rfl) | trace_state
theorem call_isinst : CallR X (.builtin "isinstance") (fun xs H Q => ∃ x c n, xs = [x, .ty c] ∧ (c = "int" ∨ c = "bool" ∨ c = "str" ∨ c = "list" ∨ c = "tuple") ∧ tyName X.K H x n ∧ Q (.bl (isSub n c)) H) := by
  intro pins s σ H xs us Q I r h
  obtain ⟨x, c, n, rfl, hc, ty, q⟩ := h
  obtain ⟨u, u2, rfl, rx, rc⟩ := vals2 r
  cases rc
  have hn : n = "NoneType" ∨ n = "bool" ∨ n = "int" ∨ n = "str" ∨ n = "list" ∨ n = "tuple" := by
    cases x with
    | non => exact .inl ty
    | bl y => exact .inr (.inl ty)
    | int i => exact .inr (.inr (.inl ty))
    | str y => exact .inr (.inr (.inr (.inl ty)))
    | ref a =>
      rcases (show (n = "list" ∧ ∃ xs, SqL X.K H a xs) ∨ (n = "tuple" ∧ ∃ xs, SqT X.K H a xs) from ty) with z | z
      · exact .inr (.inr (.inr (.inr (.inl z.1))))
      · exact .inr (.inr (.inr (.inr (.inr z.1))))
    | _ => exact False.elim ty
  exact inst_ok I rx ty (kit_tab X.K hn hc) fun tk => ⟨.bl (isSub n c), H, I.tok tk, rfl, q⟩
end
end L2
namespace L2
open PySem PySem.Spec PyProof.Rows
inductive D where
  | int (i : Int) | bl (b : Bool) | non | str (x : Str) | tup (ds : List D) | lst (ds : List D)
  deriving Inhabited
mutual
def Den (K : PySem.W.Frag) (C : Hp) (v : V) : D → Prop
  | .int i => v = .int i
  | .bl b => v = .bl b
  | .non => v = .non
  | .str x => v = .str x
  | .tup ds => ∃ a xs, v = .ref a ∧ SqT K C a xs ∧ Dens K C xs ds
  | .lst ds => ∃ a xs, v = .ref a ∧ SqL K C a xs ∧ Dens K C xs ds
def Dens (K : PySem.W.Frag) (C : Hp) (vs : List V) : List D → Prop
  | [] => vs = []
  | d :: ds => ∃ x xs, vs = x :: xs ∧ Den K C x d ∧ Dens K C xs ds
end
theorem Same.seqT {K : PySem.W.Frag} {H H' : Hp} {a : Addr} {xs : List V} (e : Same H H') (h : SqT K H a xs) : SqT K H' a xs := by
  rcases h with h | h
  · rcases h with h | ⟨o, h⟩
    · exact .inl (.inl (e _ _ h))
    · exact .inl (.inr ⟨o, e _ _ h⟩)
  · exact .inr h
mutual
theorem Den.mono {K : PySem.W.Frag} {C C' : Hp} (e : Same C C') : ∀ {v : V} (d : D), Den K C v d → Den K C' v d
  | v, .int i, h => by unfold Den at h ⊢; exact h
  | v, .bl i, h => by unfold Den at h ⊢; exact h
  | v, .non, h => by unfold Den at h ⊢; exact h
  | v, .str i, h => by unfold Den at h ⊢; exact h
  | v, .tup ds, h => by
    unfold Den at h ⊢
    obtain ⟨a, xs, r, q, t⟩ := h
    exact ⟨a, xs, r, e.seqT q, Dens.mono e ds t⟩
  | v, .lst ds, h => by
    unfold Den at h ⊢
    obtain ⟨a, xs, r, q, t⟩ := h
    exact ⟨a, xs, r, e.seq q, Dens.mono e ds t⟩
theorem Dens.mono {K : PySem.W.Frag} {C C' : Hp} (e : Same C C') : ∀ {vs : List V} (ds : List D), Dens K C vs ds → Dens K C' vs ds
  | vs, [], h => by unfold Dens at h ⊢; exact h
  | vs, d :: ds, h => by
    unfold Dens at h ⊢
    obtain ⟨x, xs, r, q, t⟩ := h
    exact ⟨x, xs, r, Den.mono e d q, Dens.mono e ds t⟩
end
section
variable {K : PySem.W.Frag} {C : Hp}
theorem den_int {v : V} {i : Int} : Den K C v (.int i) ↔ v = .int i := by unfold Den; exact Iff.rfl
theorem den_bl {v : V} {i : Bool} : Den K C v (.bl i) ↔ v = .bl i := by unfold Den; exact Iff.rfl
theorem den_non {v : V} : Den K C v .non ↔ v = .non := by unfold Den; exact Iff.rfl
theorem den_str {v : V} {i : Str} : Den K C v (.str i) ↔ v = .str i := by unfold Den; exact Iff.rfl
theorem den_tup {v : V} {ds : List D} : Den K C v (.tup ds) ↔ ∃ a xs, v = .ref a ∧ SqT K C a xs ∧ Dens K C xs ds := by rw [Den]
theorem den_lst {v : V} {ds : List D} : Den K C v (.lst ds) ↔ ∃ a xs, v = .ref a ∧ SqL K C a xs ∧ Dens K C xs ds := by rw [Den]
theorem dens_nil {vs : List V} : Dens K C vs [] ↔ vs = [] := by rw [Dens]
theorem dens_cons {vs : List V} {d : D} {ds : List D} : Dens K C vs (d :: ds) ↔ ∃ x xs, vs = x :: xs ∧ Den K C x d ∧ Dens K C xs ds := by rw [Dens]
theorem Dens.cons {v : V} {vs : List V} {d : D} {ds : List D} (h : Den K C v d) (t : Dens K C vs ds) : Dens K C (v :: vs) (d :: ds) := dens_cons.mpr ⟨v, vs, rfl, h, t⟩
theorem Dens.nil : Dens K C [] [] := dens_nil.mpr rfl
theorem Dens.length : ∀ {vs : List V} {ds : List D}, Dens K C vs ds → vs.length = ds.length
  | vs, [], h => by
    rw [dens_nil.mp h]
    rfl
  | vs, d :: ds, h => by
    obtain ⟨x, xs, rfl, _, t⟩ := dens_cons.mp h
    simp [Dens.length t]
theorem Dens.append : ∀ {vs us : List V} {ds es : List D}, Dens K C vs ds → Dens K C us es → Dens K C (vs ++ us) (ds ++ es)
  | vs, us, [], es, h, q => by rw [dens_nil.mp h]; exact q
  | vs, us, d :: ds, es, h, q => by
    obtain ⟨x, xs, rfl, a, t⟩ := dens_cons.mp h
    exact Dens.cons a (Dens.append t q)
theorem Dens.drop : ∀ {vs : List V} {ds : List D} (n : Nat), Dens K C vs ds → Dens K C (vs.drop n) (ds.drop n)
  | vs, ds, 0, h => h
  | vs, [], n + 1, h => by rw [dens_nil.mp h]; exact .nil
  | vs, d :: ds, n + 1, h => by
    obtain ⟨x, xs, rfl, a, t⟩ := dens_cons.mp h
    exact Dens.drop n t
theorem Dens.take : ∀ {vs : List V} {ds : List D} (n : Nat), Dens K C vs ds → Dens K C (vs.take n) (ds.take n)
  | vs, ds, 0, h => by simp; exact .nil
  | vs, [], n + 1, h => by rw [dens_nil.mp h]; exact .nil
  | vs, d :: ds, n + 1, h => by
    obtain ⟨x, xs, rfl, a, t⟩ := dens_cons.mp h
    exact Dens.cons a (Dens.take n t)
theorem Dens.get : ∀ {vs : List V} {ds : List D} {i : Nat} {d : D}, Dens K C vs ds → ds[i]? = some d → ∃ v, vs[i]? = some v ∧ Den K C v d
  | vs, [], i, d, h, e => by cases e
  | vs, c :: ds, 0, d, h, e => by
    obtain ⟨x, xs, rfl, a, t⟩ := dens_cons.mp h
    cases e
    exact ⟨x, rfl, a⟩
  | vs, c :: ds, i + 1, d, h, e => by
    obtain ⟨x, xs, rfl, a, t⟩ := dens_cons.mp h
    exact Dens.get (i := i) t e
theorem Dens.rep {vs : List V} {ds : List D} (h : Dens K C vs ds) : ∀ k : Nat, Dens K C (List.replicate k vs).flatten (List.replicate k ds).flatten
  | 0 => .nil
  | k + 1 => by
    rw [List.replicate_succ, List.flatten_cons, List.replicate_succ, List.flatten_cons]
    exact h.append (Dens.rep h k)
theorem Dens.ints {vs : List V} : ∀ {ns : List Int}, Dens K C vs (ns.map D.int) → vs = ns.map V.int := by
  intro ns
  induction ns generalizing vs with
  | nil => intro h; exact dens_nil.mp h
  | cons n ns ih =>
    intro h
    obtain ⟨x, xs, rfl, a, t⟩ := dens_cons.mp h
    rw [den_int.mp a, ih t]
    rfl
end
structure Ext (C H C1 H1 : Hp) : Prop where
  hh : Same H H1
  cc : Same C C1
  ch : Same C1 H1
  ow : ∀ b, C b = none → H b ≠ none → C1 b = none
theorem Ext.refl {C H : Hp} (h : Same C H) : Ext C H C H := ⟨Same.refl _, Same.refl _, h, fun _ e _ => e⟩
theorem Ext.trans {C H C1 H1 C2 H2 : Hp} (a : Ext C H C1 H1) (b : Ext C1 H1 C2 H2) : Ext C H C2 H2 :=
  ⟨a.hh.trans b.hh, a.cc.trans b.cc, b.ch, fun c e n => b.ow c (a.ow c e n) fun z => n (a.hh.free z)⟩
theorem Same.upd {H : Hp} {p : Addr} {o : HO} (h : H p = none) : Same H (upd H p o) := fun b u e => by rw [upd_ne (ne_of_none e h)]; exact e
theorem Ext.new {C H : Hp} {p : Addr} {o : HO} (h : Same C H) (hp : H p = none) : Ext C H (upd C p o) (upd H p o) := by
  refine ⟨Same.upd hp, Same.upd (h.free hp), fun b u e => ?_, fun b e n => ?_⟩
  · by_cases hb : b = p
    · subst hb; rw [upd_same] at e ⊢; exact e
    · rw [upd_ne hb] at e ⊢; exact h b u e
  · rw [upd_ne (fun z => n (by rw [z]; exact hp))]; exact e
theorem Ext.newO {C H : Hp} {p : Addr} {o : HO} (h : Same C H) (hp : H p = none) : Ext C H C (upd H p o) :=
  ⟨Same.upd hp, Same.refl _, h.trans (Same.upd hp), fun b e n => e⟩
inductive DM where
  | k (kvs : List (Int × Int)) | t (kvs : List (List Int × Int))
def hoM : DM → HO
  | .k kvs => .dK (kvs.map fun p => (Sum.inl p.1, .int p.2))
  | .t kvs => .dT (kvs.map fun p => (p.1.map Sum.inl, .int p.2))
theorem hoM_lst {m : DM} {xs : List V} : hoM m ≠ .lst xs := by cases m <;> intro z <;> cases z
inductive Sl where
  | un | im (d : D) | ow (ds : List D) | od (m : DM) | fd (m : DM)
abbrev DS := List Sl
structure Dcs (H0 : Hp) (δ : DS) (σ : St) (C H : Hp) : Prop where
  od : ∀ (i : Nat) m, δ[i]? = some (.od m) → ∃ l, σ[i]? = some (some (.ref l)) ∧ C l = none ∧ H0 l = none ∧ H l = some (hoM m)
  fd : ∀ (i : Nat) m, δ[i]? = some (.fd m) → ∃ l o, σ[i]? = some (some (.ref l)) ∧ C l = some (.frz o (hoM m))
  ap : ∀ (i j : Nat) m n l, i ≠ j → δ[i]? = some (.od m) → δ[j]? = some (.od n) → σ[i]? = some (some (.ref l)) → σ[j]? ≠ some (some (.ref l))
def Sl.isD : Sl → Bool
  | .od _ => true
  | .fd _ => true
  | _ => false
theorem getE_set0 {α : Type} {l : List α} {i j : Nat} {x y : α} (h : (l.set i x)[j]? = some y) : (j = i ∧ x = y ∧ i < l.length) ∨ (j ≠ i ∧ l[j]? = some y) := by
  by_cases e : j = i
  · subst e
    have hl : j < l.length := by
      have := (List.getElem?_eq_some_iff.mp h).1
      simpa using this
    rw [List.getElem?_set_self hl] at h
    exact .inl ⟨rfl, Option.some.inj h, hl⟩
  · rw [List.getElem?_set_ne (Ne.symm e)] at h
    exact .inr ⟨e, h⟩
section
variable {H0 C H C1 H1 : Hp} {δ : DS} {σ : St}
theorem Dcs.grow (D : Dcs H0 δ σ C H) (e : Ext C H C1 H1) : Dcs H0 δ σ C1 H1 := by
  refine ⟨fun i m h => ?_, fun i m h => ?_, D.ap⟩
  · obtain ⟨l, a, b, c, d⟩ := D.od i m h
    exact ⟨l, a, e.ow l b (by rw [d]; simp), c, e.hh _ _ d⟩
  · obtain ⟨l, o, a, b⟩ := D.fd i m h
    exact ⟨l, o, a, e.cc _ _ b⟩
theorem Dcs.weak (D : Dcs H0 δ σ C H) {δ' : DS} (h : ∀ (i : Nat) x, δ'[i]? = some x → x.isD = true → δ[i]? = some x) : Dcs H0 δ' σ C H :=
  ⟨fun i m e => D.od i m (h i _ e rfl), fun i m e => D.fd i m (h i _ e rfl), fun i j m n l hij e1 e2 => D.ap i j m n l hij (h i _ e1 rfl) (h j _ e2 rfl)⟩
theorem Dcs.set1 (D : Dcs H0 δ σ C H) {i : Nat} {x : Sl} (hx : x.isD = false) : Dcs H0 (δ.set i x) σ C H := D.weak fun j y e hy => by
  rcases getE_set0 e with ⟨_, z, _⟩ | ⟨_, e⟩
  · rw [← z, hx] at hy; cases hy
  · exact e
theorem Dcs.set2 (D : Dcs H0 δ σ C H) {i : Nat} {x : Sl} {o : Option V} (hx : x.isD = false) : Dcs H0 (δ.set i x) (σ.set i o) C H := by
  have key : ∀ (j : Nat) y, (δ.set i x)[j]? = some y → y.isD = true → j ≠ i ∧ δ[j]? = some y := fun j y e hy => by
    rcases getE_set0 e with ⟨_, z, _⟩ | ⟨hj, e⟩
    · rw [← z, hx] at hy; cases hy
    · exact ⟨hj, e⟩
  refine ⟨fun j m e => ?_, fun j m e => ?_, fun j k m n l hjk e1 e2 e3 => ?_⟩
  · obtain ⟨hj, e⟩ := key j _ e rfl
    rw [List.getElem?_set_ne (Ne.symm hj)]
    exact D.od j m e
  · obtain ⟨hj, e⟩ := key j _ e rfl
    rw [List.getElem?_set_ne (Ne.symm hj)]
    exact D.fd j m e
  · obtain ⟨hj, e1⟩ := key j _ e1 rfl
    obtain ⟨hk, e2⟩ := key k _ e2 rfl
    rw [List.getElem?_set_ne (Ne.symm hj)] at e3
    rw [List.getElem?_set_ne (Ne.symm hk)]
    exact D.ap j k m n l hjk e1 e2 e3
theorem Dcs.frzL (D : Dcs H0 δ σ C H) {l : Addr} {xs : List V} (hc : C l = none) (hl : H l = some (.lst xs)) : Dcs H0 δ σ (upd C l (.lst xs)) H := by
  refine ⟨fun i m e => ?_, fun i m e => ?_, D.ap⟩
  · obtain ⟨k, a, b, c, d⟩ := D.od i m e
    exact ⟨k, a, by rw [upd_ne (ne_of d hl hoM_lst)]; exact b, c, d⟩
  · obtain ⟨k, o, a, b⟩ := D.fd i m e
    exact ⟨k, o, a, Same.upd hc _ _ b⟩
theorem Dcs.updL (D : Dcs H0 δ σ C H) {l : Addr} {xs ys : List V} (hl : H l = some (.lst xs)) : Dcs H0 δ σ C (upd H l (.lst ys)) := by
  refine ⟨fun i m e => ?_, D.fd, D.ap⟩
  obtain ⟨k, a, b, c, d⟩ := D.od i m e
  exact ⟨k, a, b, c, by rw [upd_ne (ne_of d hl hoM_lst)]; exact d⟩
theorem Dcs.none (h : ∀ (i : Nat) x, δ[i]? = some x → x.isD = false) : Dcs H0 δ σ C H := by
  refine ⟨fun i m e => ?_, fun i m e => ?_, fun i j m n l _ e => ?_⟩
  · have := h i _ e
    cases this
  · have := h i _ e
    cases this
  · have := h i _ e
    cases this
end
structure Rep (K : PySem.W.Frag) (C0 H0 : Hp) (δ : DS) (σ : St) (C H : Hp) : Prop where
  len : σ.length = δ.length
  ext : Ext C0 H0 C H
  im : ∀ (i : Nat) d, δ[i]? = some (.im d) → ∃ v, σ[i]? = some (some v) ∧ Den K C v d
  ow : ∀ (i : Nat) ds, δ[i]? = some (.ow ds) → ∃ l xs, σ[i]? = some (some (.ref l)) ∧ C l = none ∧ H0 l = none ∧ H l = some (.lst xs) ∧ Dens K C xs ds
  ap : ∀ (i j : Nat) ds es l, i ≠ j → δ[i]? = some (.ow ds) → δ[j]? = some (.ow es) → σ[i]? = some (some (.ref l)) → σ[j]? ≠ some (some (.ref l))
  dc : Dcs H0 δ σ C H
section
variable {K : PySem.W.Frag} {C0 H0 C H C1 H1 : Hp} {δ : DS} {σ : St}
theorem Rep.grow (R : Rep K C0 H0 δ σ C H) (e : Ext C H C1 H1) : Rep K C0 H0 δ σ C1 H1 := by
  refine ⟨R.len, R.ext.trans e, fun i d h => ?_, fun i ds h => ?_, R.ap, R.dc.grow e⟩
  · obtain ⟨v, a, b⟩ := R.im i d h
    exact ⟨v, a, b.mono e.cc⟩
  · obtain ⟨l, xs, a, b, c, d, f⟩ := R.ow i ds h
    exact ⟨l, xs, a, e.ow l b (by rw [d]; simp), c, e.hh _ _ d, f.mono e.cc⟩
theorem Rep.ch (R : Rep K C0 H0 δ σ C H) : Same C H := R.ext.ch
theorem getE_set {α : Type} {l : List α} {i j : Nat} {x y : α} (h : (l.set i x)[j]? = some y) : (j = i ∧ x = y ∧ i < l.length) ∨ (j ≠ i ∧ l[j]? = some y) := by
  by_cases e : j = i
  · subst e
    have hl : j < l.length := by
      have := (List.getElem?_eq_some_iff.mp h).1
      simpa using this
    rw [List.getElem?_set_self hl] at h
    exact .inl ⟨rfl, Option.some.inj h, hl⟩
  · rw [List.getElem?_set_ne (Ne.symm e)] at h
    exact .inr ⟨e, h⟩
theorem Rep.setI (R : Rep K C0 H0 δ σ C H) {i : Nat} {v : V} {d : D} (h : Den K C v d) : Rep K C0 H0 (δ.set i (.im d)) (σ.set i (some v)) C H := by
  refine ⟨by simp [R.len], R.ext, fun j e h' => ?_, fun j ds h' => ?_, fun j k ds es l hjk h1 h2 h3 => ?_, R.dc.set2 rfl⟩
  · rcases getE_set h' with ⟨rfl, e1, hl⟩ | ⟨hj, h'⟩
    · cases e1
      exact ⟨v, by rw [List.getElem?_set_self (by rw [R.len]; exact hl)], h⟩
    · obtain ⟨u, a, b⟩ := R.im j e h'
      exact ⟨u, by rw [List.getElem?_set_ne (Ne.symm hj)]; exact a, b⟩
  · rcases getE_set h' with ⟨_, e1, _⟩ | ⟨hj, h'⟩
    · cases e1
    · obtain ⟨l, xs, a, b⟩ := R.ow j ds h'
      exact ⟨l, xs, by rw [List.getElem?_set_ne (Ne.symm hj)]; exact a, b⟩
  · rcases getE_set h1 with ⟨_, e1, _⟩ | ⟨hj, h1⟩
    · cases e1
    · rcases getE_set h2 with ⟨_, e1, _⟩ | ⟨hk, h2⟩
      · cases e1
      · rw [List.getElem?_set_ne (Ne.symm hj)] at h3
        rw [List.getElem?_set_ne (Ne.symm hk)]
        exact R.ap j k ds es l hjk h1 h2 h3
theorem Rep.setO (R : Rep K C0 H0 δ σ C H) {i : Nat} {l : Addr} {xs : List V} {ds : List D} (h0 : H0 l = none) (hc : C l = none) (hn : ∀ (j : Nat) es, j ≠ i → δ[j]? = some (.ow es) → σ[j]? ≠ some (some (.ref l))) (hl : H l = some (.lst xs)) (h : Dens K C xs ds) :
    Rep K C0 H0 (δ.set i (.ow ds)) (σ.set i (some (.ref l))) C H := by
  refine ⟨by simp [R.len], R.ext, fun j e h' => ?_, fun j es h' => ?_, fun j k es fs m hjk h1 h2 h3 => ?_, R.dc.set2 rfl⟩
  · rcases getE_set h' with ⟨_, e1, _⟩ | ⟨hj, h'⟩
    · cases e1
    · obtain ⟨u, a, b⟩ := R.im j e h'
      exact ⟨u, by rw [List.getElem?_set_ne (Ne.symm hj)]; exact a, b⟩
  · rcases getE_set h' with ⟨rfl, e1, hl'⟩ | ⟨hj, h'⟩
    · cases e1
      exact ⟨l, xs, by rw [List.getElem?_set_self (by rw [R.len]; exact hl')], hc, h0, hl, h⟩
    · obtain ⟨m, ys, a, b⟩ := R.ow j es h'
      exact ⟨m, ys, by rw [List.getElem?_set_ne (Ne.symm hj)]; exact a, b⟩
  · rcases getE_set h1 with ⟨rfl, e1, hl1⟩ | ⟨hj, g1⟩
    · cases e1
      rw [List.getElem?_set_self (by rw [R.len]; exact hl1)] at h3
      cases h3
      rcases getE_set h2 with ⟨z, _⟩ | ⟨hk, h2⟩
      · exact absurd z.symm hjk
      · rw [List.getElem?_set_ne (Ne.symm hk)]
        exact hn k fs hk h2
    · rw [List.getElem?_set_ne (Ne.symm hj)] at h3
      rcases getE_set h2 with ⟨rfl, e1, hl1⟩ | ⟨hk, h2⟩
      · rw [List.getElem?_set_self (by rw [R.len]; exact hl1)]
        intro z
        cases z
        exact hn j es hj g1 h3
      · rw [List.getElem?_set_ne (Ne.symm hk)]
        exact R.ap j k es fs m hjk g1 h2 h3
theorem Rep.freeze' (R : Rep K C0 H0 δ σ C H) {i : Nat} {ds : List D} (h : δ[i]? = some (.ow ds)) : ∃ C1, Rep K C0 H0 (δ.set i (.im (.lst ds))) σ C1 H := by
  obtain ⟨l, xs, a, b, c, d, f⟩ := R.ow i ds h
  have hl : i < δ.length := (List.getElem?_eq_some_iff.mp h).1
  have up : Same C (upd C l (.lst xs)) := Same.upd b
  have ch : Same (upd C l (.lst xs)) H := fun z u e => by
    by_cases hz : z = l
    · subst hz; rw [upd_same] at e; cases e; exact d
    · rw [upd_ne hz] at e; exact R.ch z u e
  refine ⟨upd C l (.lst xs), by simp [R.len], ⟨R.ext.hh, R.ext.cc.trans up, ch, fun z e n => ?_⟩, fun j e h' => ?_, fun j es h' => ?_, fun j k es fs m hjk h1 h2 h3 => ?_, (R.dc.frzL b d).set1 rfl⟩
  · rw [upd_ne (fun q => n (by rw [q]; exact c))]
    exact R.ext.ow z e n
  · rcases getE_set h' with ⟨rfl, e1, hl'⟩ | ⟨hj, h'⟩
    · cases e1
      exact ⟨.ref l, a, den_lst.mpr ⟨l, xs, rfl, SqL.of upd_same, f.mono up⟩⟩
    · obtain ⟨u, a', b'⟩ := R.im j e h'
      exact ⟨u, a', b'.mono up⟩
  · rcases getE_set h' with ⟨_, e1, _⟩ | ⟨hj, h'⟩
    · cases e1
    · obtain ⟨m, ys, a', b', c', d', f'⟩ := R.ow j es h'
      refine ⟨m, ys, a', ?_, c', d', f'.mono up⟩
      rw [upd_ne]
      · exact b'
      · intro z
        subst z
        exact R.ap i j ds es m (Ne.symm hj) h h' a a'
  · rcases getE_set h1 with ⟨_, e1, _⟩ | ⟨hj, h1⟩
    · cases e1
    · rcases getE_set h2 with ⟨_, e1, _⟩ | ⟨hk, h2⟩
      · cases e1
      · exact R.ap j k es fs m hjk h1 h2 h3
theorem Rep.change (R : Rep K C0 H0 δ σ C H) {i : Nat} {ds es : List D} {l : Addr} {ys : List V} (h : δ[i]? = some (.ow ds)) (hs : σ[i]? = some (some (.ref l))) (hd : Dens K C ys es) :
    Rep K C0 H0 (δ.set i (.ow es)) σ C (upd H l (.lst ys)) := by
  obtain ⟨l', xs, a, b, c, d, f⟩ := R.ow i ds h
  rw [hs] at a
  cases a
  have hl : i < δ.length := (List.getElem?_eq_some_iff.mp h).1
  have ne : ∀ z u, C z = some u → z ≠ l := fun z u e q => by rw [q, b] at e; cases e
  refine ⟨by simp [R.len], ⟨fun z u e => ?_, R.ext.cc, fun z u e => ?_, R.ext.ow⟩, fun j e h' => ?_, fun j fs h' => ?_, fun j k fs gs m hjk h1 h2 h3 => ?_, (R.dc.updL d).set1 rfl⟩
  · rw [upd_ne (ne_of_none e c)]; exact R.ext.hh z u e
  · rw [upd_ne (ne z u e)]; exact R.ch z u e
  · rcases getE_set h' with ⟨_, e1, _⟩ | ⟨hj, h'⟩
    · cases e1
    · exact R.im j e h'
  · rcases getE_set h' with ⟨rfl, e1, hl'⟩ | ⟨hj, h'⟩
    · cases e1
      exact ⟨l, ys, hs, b, c, upd_same, hd⟩
    · obtain ⟨m, zs, a', b', c', d', f'⟩ := R.ow j fs h'
      refine ⟨m, zs, a', b', c', ?_, f'⟩
      rw [upd_ne]
      · exact d'
      · intro z
        subst z
        exact R.ap i j ds fs m (Ne.symm hj) h h' hs a'
  · have g1 : ∃ fs', δ[j]? = some (.ow fs') := by
      rcases getE_set h1 with ⟨rfl, _, _⟩ | ⟨_, h1⟩
      · exact ⟨_, h⟩
      · exact ⟨_, h1⟩
    have g2 : ∃ fs', δ[k]? = some (.ow fs') := by
      rcases getE_set h2 with ⟨rfl, _, _⟩ | ⟨_, h2⟩
      · exact ⟨_, h⟩
      · exact ⟨_, h2⟩
    obtain ⟨_, g1⟩ := g1
    obtain ⟨_, g2⟩ := g2
    exact R.ap j k _ _ m hjk g1 g2 h3
end
end L2
namespace L2
open PySem PySem.Spec PyProof.Rows
section
variable {X : Cx} {a b c e : Expr} {ta tb tc td : TE} {pos : Pos}
end
abbrev GE := DS → (D → Prop) → Prop
abbrev GF := DS → (List D → Prop) → Prop
abbrev GT := DS → (Bool → Prop) → Prop
def DE (X : Cx) (e : Expr) (g : GE) : Prop := ∃ t, PE X e t ∧ ∀ C0 H0 δ σ C H (Q : D → Prop) (R : VK), Rep X.K C0 H0 δ σ C H → g δ Q → (∀ d v C1 H1, Q d → Ext C H C1 H1 → Den X.K C1 v d → R v H1) → t σ H R
def DF (X : Cx) (e : Expr) (g : GF) : Prop := ∃ t, PE X e t ∧ ∀ C0 H0 δ σ C H (Q : List D → Prop) (R : VK), Rep X.K C0 H0 δ σ C H → g δ Q →
  (∀ ds p xs C1 H1, Q ds → Ext C H C1 H1 → C1 p = none → H p = none → H1 p = some (.lst xs) → Dens X.K C1 xs ds → R (.ref p) H1) → t σ H R
def DT (X : Cx) (e : Expr) (g : GT) : Prop := ∃ t, PT X e t ∧ ∀ C0 H0 δ σ C H (Q : Bool → Prop) (R : Bool → Hp → Prop), Rep X.K C0 H0 δ σ C H → g δ Q → (∀ b C1 H1, Q b → Ext C H C1 H1 → R b H1) → t σ H R
def DW (X : Cx) (e : Expr) (g : GT) : Prop := ∃ t, PW X e t ∧ ∀ C0 H0 δ σ C H (Q : Bool → Prop) (R : Bool → Hp → Prop), Rep X.K C0 H0 δ σ C H → g δ Q → (∀ b C1 H1, Q b → Ext C H C1 H1 → R b H1) → t σ H R
def DA (X : Cx) (es : List Expr) (g : GF) : Prop := ∃ t, PA X es t ∧ ∀ C0 H0 δ σ C H (Q : List D → Prop) (R : List V → Hp → Prop), Rep X.K C0 H0 δ σ C H → g δ Q → (∀ ds vs C1 H1, Q ds → Ext C H C1 H1 → Dens X.K C1 vs ds → R vs H1) → t σ H R
abbrev GO := D → D → (D → Prop) → Prop
def DOp (X : Cx) (f : Value → Value → Sem Value) (g : GO) : Prop := ∃ r, OpR X f r ∧ ∀ x y dx dy C H (Q : D → Prop) (R : VK), Same C H → Den X.K C x dx → Den X.K C y dy → g dx dy Q → (∀ d v C1 H1, Q d → Ext C H C1 H1 → Den X.K C1 v d → R v H1) → r x y H R
def DCall (X : Cx) (f : Value) (g : List D → (D → Prop) → Prop) : Prop := ∃ r, CallR X f r ∧ ∀ xs ds C H (Q : D → Prop) (R : VK), Same C H → Dens X.K C xs ds → g ds Q → (∀ d v C1 H1, Q d → Ext C H C1 H1 → Den X.K C1 v d → R v H1) → r xs H R
def DCallF (X : Cx) (f : Value) (g : List D → (List D → Prop) → Prop) : Prop := ∃ r, CallR X f r ∧ ∀ xs ds C H (Q : List D → Prop) (R : VK), Same C H → Dens X.K C xs ds → g ds Q →
  (∀ es p ys C1 H1, Q es → Ext C H C1 H1 → C1 p = none → H p = none → H1 p = some (.lst ys) → Dens X.K C1 ys es → R (.ref p) H1) → r xs H R
theorem ext_frz {C H C1 H1 : Hp} {p : Addr} {o : HO} (e : Ext C H C1 H1) (hc : C1 p = none) (hn : H p = none) (h1 : H1 p = some o) : Ext C H (upd C1 p o) H1 := by
  refine ⟨e.hh, e.cc.trans (Same.upd hc), fun b u q => ?_, fun b q n => ?_⟩
  · by_cases hb : b = p
    · subst hb; rw [upd_same] at q; cases q; exact h1
    · rw [upd_ne hb] at q; exact e.ch b u q
  · rw [upd_ne (fun z => n (by rw [z]; exact hn))]; exact e.ow b q n
section
variable {X : Cx} {a b c e : Expr} {es : List Expr} {pos : Pos} {ga gb gc gd : GE} {gf : GF} {ta tb : GT}
abbrev gF (g : GF) : GE := fun δ Q => g δ fun ds => Q (.lst ds)
theorem DF.toE (h : DF X e gf) : DE X e (gF gf) := by
  obtain ⟨t, p, h⟩ := h
  refine ⟨t, p, fun C0 H0 δ σ C H Q R rp g k => h C0 H0 δ σ C H _ R rp g fun ds p xs C1 H1 q ex hc hn hl hd => ?_⟩
  exact k (.lst ds) _ (upd C1 p (.lst xs)) H1 q (ext_frz ex hc hn hl) (den_lst.mpr ⟨p, xs, rfl, SqL.of upd_same, hd.mono (Same.upd hc)⟩)
def gVar (i : Nat) : GE := fun δ Q => match δ[i]? with
  | some (.im d) => Q d
  | _ => False
theorem de_var {i : Nat} {x : Str} (h : PE X (.Name x pos) (tVar i)) : DE X (.Name x pos) (gVar i) := by
  refine ⟨_, h, fun C0 H0 δ σ C H Q R rp g k => ?_⟩
  unfold gVar at g
  split at g
  · rename_i d e
    obtain ⟨v, a1, a2⟩ := rp.im i d e
    exact ⟨v, a1, k d v C H g (Ext.refl rp.ch) a2⟩
  · exact g.elim
abbrev gC (d : D) : GE := fun _ Q => Q d
theorem de_int {i j} : DE X (.Constant (.int i) j pos) (gC (.int i)) := ⟨_, pe_int, fun C0 H0 δ σ C H Q R rp g k => k _ _ C H g (Ext.refl rp.ch) (den_int.mpr rfl)⟩
theorem de_bl {i j} : DE X (.Constant (.bool i) j pos) (gC (.bl i)) := ⟨_, pe_bl, fun C0 H0 δ σ C H Q R rp g k => k _ _ C H g (Ext.refl rp.ch) (den_bl.mpr rfl)⟩
theorem de_non {j} : DE X (.Constant .none j pos) (gC .non) := ⟨_, pe_non, fun C0 H0 δ σ C H Q R rp g k => k _ _ C H g (Ext.refl rp.ch) (den_non.mpr rfl)⟩
def gOp (o : GO) (ga gb : GE) : GE := fun δ Q => ga δ fun x => gb δ fun y => o x y Q
theorem de_op {op : Operator} {o : GO} (ho : DOp X (binaryOp op) o) (ha : DE X a ga) (hb : DE X b gb) : DE X (.BinOp a op b pos) (gOp o ga gb) := by
  obtain ⟨r, pr, hr⟩ := ho
  obtain ⟨t1, p1, h1⟩ := ha
  obtain ⟨t2, p2, h2⟩ := hb
  refine ⟨_, pe_op pr p1 p2, fun C0 H0 δ σ C H Q R rp g k => ?_⟩
  refine h1 C0 H0 δ σ C H _ _ rp g fun d v C1 H1 q e1 n1 => h2 C0 H0 δ σ C1 H1 _ _ (rp.grow e1) q fun d2 v2 C2 H2 q2 e2 n2 => ?_
  exact hr v v2 d d2 C2 H2 Q R e2.ch (n1.mono e2.cc) n2 q2 fun d3 v3 C3 H3 q3 e3 n3 => k d3 v3 C3 H3 q3 (e1.trans (e2.trans e3)) n3
theorem de_cmp {op : CmpOp} {o : GO} (ho : DOp X (compareOp op) o) (ha : DE X a ga) (hb : DE X b gb) (hm : behindInMarks op b = false := by first | exact nomark _ | with_unfolding_all rfl) : DE X (.Compare a [op] [b] pos) (gOp o ga gb) := by
  obtain ⟨r, pr, hr⟩ := ho
  obtain ⟨t1, p1, h1⟩ := ha
  obtain ⟨t2, p2, h2⟩ := hb
  refine ⟨_, pe_cmpR pr p1 p2 hm, fun C0 H0 δ σ C H Q R rp g k => ?_⟩
  refine h1 C0 H0 δ σ C H _ _ rp g fun d v C1 H1 q e1 n1 => h2 C0 H0 δ σ C1 H1 _ _ (rp.grow e1) q fun d2 v2 C2 H2 q2 e2 n2 => ?_
  exact hr v v2 d d2 C2 H2 Q R e2.ch (n1.mono e2.cc) n2 q2 fun d3 v3 C3 H3 q3 e3 n3 => k d3 v3 C3 H3 q3 (e1.trans (e2.trans e3)) n3
def isBl (Q : Bool → Prop) : D → Prop
  | .bl b => Q b
  | _ => False
theorem isBl_of {Q : Bool → Prop} {d : D} {K : PySem.W.Frag} {C : Hp} {v : V} (h : isBl Q d) (n : Den K C v d) : ∃ b, v = .bl b ∧ Q b := by
  cases d with
  | bl b => exact ⟨b, den_bl.mp n, h⟩
  | _ => exact h.elim
def gTest (ga : GE) : GT := fun δ Q => ga δ (isBl Q)
theorem dt_cmp {op : CmpOp} {o : GO} (ho : DOp X (compareOp op) o) (ha : DE X a ga) (hb : DE X b gb) (hm : behindInMarks op b = false := by first | exact nomark _ | with_unfolding_all rfl) : DT X (.Compare a [op] [b] pos) (gTest (gOp o ga gb)) := by
  obtain ⟨r, pr, hr⟩ := ho
  obtain ⟨t1, p1, h1⟩ := ha
  obtain ⟨t2, p2, h2⟩ := hb
  refine ⟨_, pt_cmpR pr p1 p2 hm, fun C0 H0 δ σ C H Q R rp g k => ?_⟩
  refine h1 C0 H0 δ σ C H _ _ rp g fun d v C1 H1 q e1 n1 => h2 C0 H0 δ σ C1 H1 _ _ (rp.grow e1) q fun d2 v2 C2 H2 q2 e2 n2 => ?_
  refine hr v v2 d d2 C2 H2 _ _ e2.ch (n1.mono e2.cc) n2 q2 fun d3 v3 C3 H3 q3 e3 n3 => ?_
  obtain ⟨c, rfl, qc⟩ := isBl_of q3 n3
  exact ⟨c, rfl, k c C3 H3 qc (e1.trans (e2.trans e3))⟩
def gChain (o o' : GO) (ga gb gc : GE) : GE := fun δ Q => ga δ fun x => gb δ fun y => o x y (isBl fun k => if k = true then gc δ fun z => o' y z Q else Q (.bl false))
theorem dt_chain {op op' : CmpOp} {o o' : GO} (ho : DOp X (compareOp op) o) (ho' : DOp X (compareOp op') o') (ha : DE X a ga) (hb : DE X b gb) (hc : DE X c gc)
    (hm : lastMarks [op, op'] [b, c] = false := by with_unfolding_all rfl) : DT X (.Compare a [op, op'] [b, c] pos) (gTest (gChain o o' ga gb gc)) := by
  obtain ⟨r, pr, hr⟩ := ho
  obtain ⟨r', pr', hr'⟩ := ho'
  obtain ⟨t1, p1, h1⟩ := ha
  obtain ⟨t2, p2, h2⟩ := hb
  obtain ⟨t3, p3, h3⟩ := hc
  refine ⟨_, pt_chain pr pr' p1 p2 p3 hm, fun C0 H0 δ σ C H Q R rp g k => ?_⟩
  refine h1 C0 H0 δ σ C H _ _ rp g fun d v C1 H1 q e1 n1 => h2 C0 H0 δ σ C1 H1 _ _ (rp.grow e1) q fun d2 v2 C2 H2 q2 e2 n2 => ?_
  refine hr v v2 d d2 C2 H2 _ _ e2.ch (n1.mono e2.cc) n2 q2 fun d3 v3 C3 H3 q3 e3 n3 => ?_
  obtain ⟨c, rfl, qc⟩ := isBl_of q3 n3
  refine ⟨c, rfl, ?_⟩
  have e123 := e1.trans (e2.trans e3)
  cases c with
  | false => exact iteF ⟨false, rfl, k false C3 H3 (by simpa [isBl] using qc) e123⟩
  | true =>
    refine iteT (h3 C0 H0 δ σ C3 H3 _ _ (rp.grow e123) (by simpa using qc) fun d4 v4 C4 H4 q4 e4 n4 => ?_)
    refine hr' v2 v4 d2 d4 C4 H4 _ _ e4.ch ((n2.mono e3.cc).mono e4.cc) n4 q4 fun d5 v5 C5 H5 q5 e5 n5 => ?_
    obtain ⟨c2, rfl, qc2⟩ := isBl_of q5 n5
    exact ⟨c2, rfl, k c2 C5 H5 qc2 (e123.trans (e4.trans e5))⟩
def gChain3 (o o' o'' : GO) (ga gb gc gd : GE) : GE := fun δ Q => ga δ fun x => gb δ fun y => o x y (isBl fun k => if k = true then gc δ (fun z => o' y z (isBl fun k2 => if k2 = true then gd δ fun w => o'' z w Q else Q (.bl false))) else Q (.bl false))
def gAndV (ga gb : GE) : GE := fun δ Q => ga δ (isBl fun c => if c = true then gb δ Q else Q (.bl false))
def gOrV (ga gb : GE) : GE := fun δ Q => ga δ (isBl fun c => if c = true then Q (.bl true) else gb δ Q)
def gNotV (ga : GE) : GE := fun δ Q => ga δ (isBl fun c => Q (.bl (!c)))
theorem de_one {op} (h : DE X a ga) : DE X (.BoolOp op [a] pos) ga := by
  obtain ⟨t, p, h⟩ := h
  exact ⟨t, pe_one p, h⟩
theorem de_and {rest : List Expr} (ha : DE X a ga) (hb : DE X (.BoolOp .And (b :: rest) pos) gb) : DE X (.BoolOp .And (a :: b :: rest) pos) (gAndV ga gb) := by
  obtain ⟨t1, p1, h1⟩ := ha
  obtain ⟨t2, p2, h2⟩ := hb
  refine ⟨_, pe_and p1 p2, fun C0 H0 δ σ C H Q R rp g k => h1 C0 H0 δ σ C H _ _ rp g fun d v C1 H1 q e1 n1 => ?_⟩
  obtain ⟨c, rfl, qc⟩ := isBl_of q n1
  refine ⟨c, rfl, ?_⟩
  cases c with
  | false => exact iteF (k (.bl false) _ C1 H1 (by simpa using qc) e1 (den_bl.mpr rfl))
  | true => exact iteT (h2 C0 H0 δ σ C1 H1 _ _ (rp.grow e1) (by simpa using qc) fun d2 v2 C2 H2 q2 e2 n2 => k d2 v2 C2 H2 q2 (e1.trans e2) n2)
def gAnd (ga gb : GT) : GT := fun δ Q => ga δ fun c => if c = true then gb δ Q else Q false
def gOr (ga gb : GT) : GT := fun δ Q => ga δ fun c => if c = true then Q true else gb δ Q
def gNot (ga : GT) : GT := fun δ Q => ga δ fun c => Q (!c)
theorem DW.t (h : DW X e ta) : DT X e ta := by
  obtain ⟨t, p, h⟩ := h
  exact ⟨t, p.pt, h⟩
theorem dw_and1 (h : DT X a ta) : DW X (.BoolOp .And [a] pos) ta := by
  obtain ⟨t, p, h⟩ := h
  exact ⟨t, pw_and1 p, h⟩
theorem dw_or1 (h : DT X a ta) : DW X (.BoolOp .Or [a] pos) ta := by
  obtain ⟨t, p, h⟩ := h
  exact ⟨t, pw_or1 p, h⟩
theorem dw_and {rest : List Expr} (ha : DT X a ta) (hb : DW X (.BoolOp .And (b :: rest) pos) tb) : DW X (.BoolOp .And (a :: b :: rest) pos) (gAnd ta tb) := by
  obtain ⟨t1, p1, h1⟩ := ha
  obtain ⟨t2, p2, h2⟩ := hb
  refine ⟨_, pw_and p1 p2, fun C0 H0 δ σ C H Q R rp g k => h1 C0 H0 δ σ C H _ _ rp g fun c C1 H1 q e1 => ?_⟩
  cases c with
  | false => exact iteF (k false C1 H1 (by simpa using q) e1)
  | true => exact iteT (h2 C0 H0 δ σ C1 H1 _ _ (rp.grow e1) (by simpa using q) fun c2 C2 H2 q2 e2 => k c2 C2 H2 q2 (e1.trans e2))
theorem dw_or {rest : List Expr} (ha : DT X a ta) (hb : DW X (.BoolOp .Or (b :: rest) pos) tb) : DW X (.BoolOp .Or (a :: b :: rest) pos) (gOr ta tb) := by
  obtain ⟨t1, p1, h1⟩ := ha
  obtain ⟨t2, p2, h2⟩ := hb
  refine ⟨_, pw_or p1 p2, fun C0 H0 δ σ C H Q R rp g k => h1 C0 H0 δ σ C H _ _ rp g fun c C1 H1 q e1 => ?_⟩
  cases c with
  | true => exact iteT (k true C1 H1 (by simpa using q) e1)
  | false => exact iteF (h2 C0 H0 δ σ C1 H1 _ _ (rp.grow e1) (by simpa using q) fun c2 C2 H2 q2 e2 => k c2 C2 H2 q2 (e1.trans e2))
theorem dt_not (ha : DT X a ta) : DT X (.UnaryOp .Not a pos) (gNot ta) := by
  obtain ⟨t1, p1, h1⟩ := ha
  exact ⟨_, pt_not p1, fun C0 H0 δ σ C H Q R rp g k => h1 C0 H0 δ σ C H _ _ rp g fun c C1 H1 q e1 => k (!c) C1 H1 q e1⟩
def gTru (ga : GE) : GT := fun δ Q => ga δ fun d => match d with
  | .bl b => Q b
  | .int i => Q (i != 0)
  | .non => Q false
  | .str x => x.length ≤ sizeLine ∧ Q ((x.length : Int) != 0)
  | .tup ds => Q (!ds.isEmpty)
  | .lst ds => Q (!ds.isEmpty)
theorem dens_empty {K : PySem.W.Frag} {C : Hp} {xs : List V} {ds : List D} (h : Dens K C xs ds) : xs.isEmpty = ds.isEmpty := by
  have := h.length
  cases xs <;> cases ds <;> simp_all
theorem dt_tru (ha : DE X a ga) (he : ∀ whole, isTrue a X.env whole = (do
    let v ← whole
    standAt a.pos
    holding [v] (truthy v))) : DT X a (gTru ga) := by
  obtain ⟨t1, p1, h1⟩ := ha
  refine ⟨_, pt_truth p1 he, fun C0 H0 δ σ C H Q R rp g k => h1 C0 H0 δ σ C H _ _ rp g fun d v C1 H1 q e1 n1 => ?_⟩
  cases d with
  | bl b => rw [den_bl.mp n1]; exact ⟨b, rfl, k _ C1 H1 q e1⟩
  | int i => rw [den_int.mp n1]; exact ⟨_, rfl, k _ C1 H1 q e1⟩
  | non => rw [den_non.mp n1]; exact ⟨_, rfl, k _ C1 H1 q e1⟩
  | str i => rw [den_str.mp n1]; exact ⟨_, ⟨q.1, rfl⟩, k _ C1 H1 q.2 e1⟩
  | tup ds =>
    obtain ⟨p, xs, rfl, hx, hd⟩ := den_tup.mp n1
    refine ⟨_, .inr (.inl ⟨xs, e1.ch.seqT hx, rfl⟩), k _ C1 H1 ?_ e1⟩
    rw [dens_empty hd]; exact q
  | lst ds =>
    obtain ⟨p, xs, rfl, hx, hd⟩ := den_lst.mp n1
    refine ⟨_, .inl ⟨xs, e1.ch.seq hx, rfl⟩, k _ C1 H1 ?_ e1⟩
    rw [dens_empty hd]; exact q
def gIfE (t : GT) (ga gb : GE) : GE := fun δ Q => t δ fun c => if c = true then ga δ Q else gb δ Q
abbrev gNilA : GF := fun _ Q => Q []
def gConsA (ga : GE) (gr : GF) : GF := fun δ Q => ga δ fun d => gr δ fun ds => Q (d :: ds)
theorem da_nil : DA X [] gNilA := ⟨_, pa_nil, fun C0 H0 δ σ C H Q R rp g k => k [] [] C H g (Ext.refl rp.ch) .nil⟩
theorem da_cons (ha : DE X e ga) (hr : DA X es gf) (hs : starEach (e :: es) X.env = (false, eval e X.env) :: starEach es X.env := by rfl) : DA X (e :: es) (gConsA ga gf) := by
  obtain ⟨t1, p1, h1⟩ := ha
  obtain ⟨t2, p2, h2⟩ := hr
  refine ⟨_, pa_cons p1 p2 hs, fun C0 H0 δ σ C H Q R rp g k => h1 C0 H0 δ σ C H _ _ rp g fun d v C1 H1 q e1 n1 => ?_⟩
  exact h2 C0 H0 δ σ C1 H1 _ _ (rp.grow e1) q fun ds vs C2 H2 q2 e2 n2 => k (d :: ds) (v :: vs) C2 H2 q2 (e1.trans e2) (.cons (n1.mono e2.cc) n2)
def gTupE (gf : GF) : GE := fun δ Q => gf δ fun ds => ds.length ≤ sizeLine ∧ Q (.tup ds)
theorem de_tup {x1} (h : DA X es gf) : DE X (.Tuple es x1 pos) (gTupE gf) := by
  obtain ⟨t, p, h⟩ := h
  refine ⟨_, pe_tup p, fun C0 H0 δ σ C H Q R rp g k => h C0 H0 δ σ C H _ _ rp g fun ds vs C1 H1 q e1 n1 => ⟨by rw [n1.length]; exact q.1, fun p hp => ?_⟩⟩
  exact k (.tup ds) _ (upd C1 p (.tup vs)) _ q.2 (e1.trans (Ext.new e1.ch hp)) (den_tup.mpr ⟨p, vs, rfl, SqT.of upd_same, n1.mono (Same.upd (e1.ch.free hp))⟩)
def gLst (gf : GF) : GF := fun δ Q => gf δ fun ds => ds.length ≤ sizeLine ∧ Q ds
theorem df_lst (h : DA X es gf) : DF X (.List es pos) (gLst gf) := by
  obtain ⟨t, p, h⟩ := h
  refine ⟨_, pe_lst p, fun C0 H0 δ σ C H Q R rp g k => h C0 H0 δ σ C H _ _ rp g fun ds vs C1 H1 q e1 n1 => ⟨by rw [n1.length]; exact q.1, fun p hp => ?_⟩⟩
  exact k ds p vs C1 _ q.2 (e1.trans (Ext.newO e1.ch hp)) (e1.ch.free hp) (e1.hh.free hp) upd_same n1
def gCallB (g : List D → (D → Prop) → Prop) (gf : GF) : GE := fun δ Q => gf δ fun ds => g ds Q
def gCallF (g : List D → (List D → Prop) → Prop) (gf : GF) : GF := fun δ Q => gf δ fun ds => g ds Q
theorem df_call {x : Str} {f : Value} {g : List D → (List D → Prop) → Prop} {pos' : Pos} (hc : DCallF X f g) (ha : DA X (e :: es) gf)
    (hp : ∀ {t : TA} {r : List V → Hp → VK → Prop}, CallR X f r → PA X (e :: es) t → PE X (.Call (.Name x pos') (e :: es) [] pos) (tCB r t)) : DF X (.Call (.Name x pos') (e :: es) [] pos) (gCallF g gf) := by
  obtain ⟨r, pr, hr⟩ := hc
  obtain ⟨t, p, h⟩ := ha
  refine ⟨_, hp pr p, fun C0 H0 δ σ C H Q R rp g k => h C0 H0 δ σ C H _ _ rp g fun ds vs C1 H1 q e1 n1 => ?_⟩
  exact hr vs ds C1 H1 Q R e1.ch n1 q fun es' p ys C2 H2 q2 e2 h1 h2 h3 h4 => k es' p ys C2 H2 q2 (e1.trans e2) h1 (e1.hh.free h2) h3 h4
end
end L2
namespace L2
open PySem PySem.Spec PyProof.Rows
def gOpt (o : Option D) (Q : D → Prop) : Prop := match o with
  | some d => Q d
  | none => False
theorem gOpt_some {d : D} {Q : D → Prop} : gOpt (some d) Q = Q d := rfl
def spD (K : PySem.W.Frag) (F : List D → Option D) : Sp := fun vs H Q _ => ∃ C ds d, Same C H ∧ Dens K C vs ds ∧ F ds = some d ∧ ∀ v C' H', Ext C H C' H' → Den K C' v d → Q v H'
def DFn (P : Program) (w : World) (K : PySem.W.Frag) (mg : Str → Option Value) (base : Heap) (k : Nat) (x : Str) (F : List D → Option D) : Prop :=
  ∃ f fd ps, FnOk P w K mg base CX0 k f fd ps (spD K F) ∧ mg x = some (.ref f) ∧ PySem.W.keepIn K (.ref f) = true ∧ Binds K fd ps []
section
variable {X : Cx} {a b c e : Expr} {es : List Expr} {pos : Pos} {ga gb gc gd : GE} {gf : GF} {ta tb : GT}
def gCallD (F : List D → Option D) (gf : GF) : GE := fun δ Q => gf δ fun ds => gOpt (F ds) Q
theorem de_call {F : List D → Option D} {k : Nat} {x : Str} {p : Pos} (h : DFn X.prog X.w X.K X.mg X.base k x F) (hr : Room k X.A) (hg : Gl X x) (ha : DA X (e :: es) gf) (hdb : (x == ("__debug__" : Str)) = false := by decide)
    (he : starEach (e :: es) X.env = (false, eval e X.env) :: starEach es X.env := by rfl) (hpl : (backTo pos (starEach es X.env)).any (·.1) = false := by rfl) : DE X (.Call (.Name x p) (e :: es) [] pos) (gCallD F gf) := by
  obtain ⟨f, fd, ps, Fk, hm, hk, hb⟩ := h
  obtain ⟨t, pa, h⟩ := ha
  refine ⟨_, pe_call Fk hr hg hm hk hb .nil pass0 pa hdb he hpl, fun C0 H0 δ σ C H Q R rp g k => h C0 H0 δ σ C H _ _ rp g fun ds vs C1 H1 q e1 n1 => ?_⟩
  cases e2 : F ds with
  | none => rw [e2] at q; exact q.elim
  | some d =>
    rw [e2] at q
    exact ⟨C1, ds, d, e1.ch, by rw [List.append_nil]; exact n1, e2, fun v C' H' ex nv => k d v C' H' q (e1.trans ex) nv⟩
def gIx : GO := fun x y Q => match x, y with
  | .tup ds, .int i => gOpt (atI ds i) Q
  | .lst ds, .int i => gOpt (atI ds i) Q
  | _, _ => False
theorem dens_at {K : PySem.W.Frag} {C : Hp} {xs : List V} {ds : List D} {i : Int} {d : D} (h : Dens K C xs ds) (e : atI ds i = some d) : ∃ v, atI xs i = some v ∧ Den K C v d := by
  unfold atI at e ⊢
  rw [h.length]
  cases z : ixN ds.length i with
  | none => rw [z] at e; cases e
  | some j =>
    rw [z] at e
    exact h.get e
theorem de_ix (ha : DE X a ga) (hb : DE X b gb) (hs : PlainIx b) : DE X (.Subscript a b pos) (gOp gIx ga gb) := by
  obtain ⟨t1, p1, h1⟩ := ha
  obtain ⟨t2, p2, h2⟩ := hb
  refine ⟨_, pe_ix ix_seq p1 p2 hs, fun C0 H0 δ σ C H Q R rp g k => ?_⟩
  refine h1 C0 H0 δ σ C H _ _ rp g fun d v C1 H1 q e1 n1 => h2 C0 H0 δ σ C1 H1 _ _ (rp.grow e1) q fun d2 v2 C2 H2 q2 e2 n2 => ?_
  have n1' := n1.mono e2.cc
  cases d with
  | tup ds =>
    cases d2 with
    | int i =>
      obtain ⟨p, xs, rfl, hx, hd⟩ := den_tup.mp n1'
      rw [den_int.mp n2]
      have q2' : gOpt (atI ds i) Q := q2
      cases z : atI ds i with
      | none => rw [z] at q2'; exact q2'.elim
      | some d3 =>
        rw [z] at q2'
        obtain ⟨v3, ev, nv⟩ := dens_at hd z
        exact .inr (.inl ⟨p, xs, i, v3, rfl, rfl, e2.ch.seqT hx, ev, k d3 v3 C2 H2 q2' (e1.trans e2) nv⟩)
    | _ => exact q2.elim
  | lst ds =>
    cases d2 with
    | int i =>
      obtain ⟨p, xs, rfl, hx, hd⟩ := den_lst.mp n1'
      rw [den_int.mp n2]
      have q2' : gOpt (atI ds i) Q := q2
      cases z : atI ds i with
      | none => rw [z] at q2'; exact q2'.elim
      | some d3 =>
        rw [z] at q2'
        obtain ⟨v3, ev, nv⟩ := dens_at hd z
        exact .inl ⟨p, xs, i, v3, rfl, rfl, e2.ch.seq hx, ev, k d3 v3 C2 H2 q2' (e1.trans e2) nv⟩
    | _ => exact q2.elim
  | _ => exact q2.elim
abbrev GP := DS → (Option Int → Prop) → Prop
def DO (X : Cx) (e : Option Expr) (g : GP) : Prop := ∃ t, PO X e t ∧ ∀ C0 H0 δ σ C H (Q : Option Int → Prop) (R : Option Int → Hp → Prop), Rep X.K C0 H0 δ σ C H → g δ Q → (∀ o C1 H1, Q o → Ext C H C1 H1 → R o H1) → t σ H R
abbrev gNoP : GP := fun _ Q => Q none
def gPart (g : GE) : GP := fun δ Q => g δ fun d => match d with
  | .int i => Q (some i)
  | _ => False
theorem do_none : DO X none gNoP := ⟨_, po_none, fun C0 H0 δ σ C H Q R rp g k => k none C H g (Ext.refl rp.ch)⟩
theorem do_some (h : DE X e ga) : DO X (some e) (gPart ga) := by
  obtain ⟨t, p, h⟩ := h
  refine ⟨_, po_some p, fun C0 H0 δ σ C H Q R rp g k => h C0 H0 δ σ C H _ _ rp g fun d v C1 H1 q e1 n1 => ?_⟩
  cases d with
  | int i => exact ⟨i, den_int.mp n1, k (some i) C1 H1 q e1⟩
  | _ => exact q.elim
def cutD (xs : List D) (lo hi : Option Int) : List D := (xs.drop (HT.sIx xs.length 0 lo)).take (HT.sIx xs.length xs.length hi - HT.sIx xs.length 0 lo)
def gSlT (ga : GE) (gl gh : GP) : GE := fun δ Q => ga δ fun d => gl δ fun lo => gh δ fun hi => match d with
  | .tup ds => Q (.tup (cutD ds lo hi))
  | _ => False
theorem dens_cut {K : PySem.W.Frag} {C : Hp} {xs : List V} {ds : List D} {lo hi : Option Int} (h : Dens K C xs ds) : Dens K C (cutV xs lo hi) (cutD ds lo hi) := by
  unfold cutV cutD
  rw [h.length]
  exact (h.drop _).take _
theorem de_slT {lo hi : Option Expr} {gl gh : GP} {p2 : Pos} (ha : DE X a ga) (hl : DO X lo gl) (hh : DO X hi gh) : DE X (.Subscript a (.Slice lo hi none p2) pos) (gSlT ga gl gh) := by
  obtain ⟨t1, p1, h1⟩ := ha
  obtain ⟨t2, p2', h2⟩ := hl
  obtain ⟨t3, p3, h3⟩ := hh
  refine ⟨_, pe_slice (sl_tup.or sl_tupW) p1 p2' p3, fun C0 H0 δ σ C H Q R rp g k => ?_⟩
  refine h1 C0 H0 δ σ C H _ _ rp g fun d v C1 H1 q e1 n1 => h2 C0 H0 δ σ C1 H1 _ _ (rp.grow e1) q fun o C2 H2 q2 e2 => h3 C0 H0 δ σ C2 H2 _ _ ((rp.grow e1).grow e2) q2 fun o2 C3 H3 q3 e3 => ?_
  have n1' := (n1.mono e2.cc).mono e3.cc
  have e123 := e1.trans (e2.trans e3)
  cases d with
  | tup ds =>
    obtain ⟨p, xs, rfl, hx, hd⟩ := den_tup.mp n1'
    by_cases hw : HT.sIx xs.length 0 o = 0 ∧ HT.sIx xs.length xs.length o2 = xs.length
    · refine .inr ⟨p, xs, rfl, e3.ch.seqT hx, hw, k (.tup ds) _ C3 H3 ?_ e123 n1'⟩
      have q3' : Q (.tup (cutD ds o o2)) := q3
      unfold cutD at q3'
      rw [← hd.length, hw.1, hw.2, List.drop_zero, Nat.sub_zero, hd.length, List.take_length] at q3'
      exact q3'
    · refine .inl ⟨p, xs, rfl, e3.ch.seqT hx, hw, fun p' hp => ?_⟩
      exact k _ _ (upd C3 p' (.tup (cutV xs o o2))) _ q3 (e123.trans (Ext.new e3.ch hp)) (den_tup.mpr ⟨p', _, rfl, SqT.of upd_same, (dens_cut hd).mono (Same.upd (e3.ch.free hp))⟩)
  | _ => exact q3.elim
def oInt (f : Int → Int → D) : GO := fun x y Q => match x, y with
  | .int i, .int j => Q (f i j)
  | _, _ => False
def oIntC (c : Int → Int → Prop) (f : Int → Int → D) : GO := fun x y Q => match x, y with
  | .int i, .int j => c i j ∧ Q (f i j)
  | _, _ => False
theorem dop_intC {f : Value → Value → Sem Value} {c : Int → Int → Prop} {g : Int → Int → Int} (h : OpR X f (rI c fun i j => .int (g i j))) : DOp X f (oIntC c fun i j => .int (g i j)) := by
  refine ⟨_, h, fun x y dx dy C H Q R ch n1 n2 q k => ?_⟩
  cases dx with
  | int i =>
    cases dy with
    | int j => exact ⟨i, j, den_int.mp n1, den_int.mp n2, q.1, k _ _ C H q.2 (Ext.refl ch) (den_int.mpr rfl)⟩
    | _ => exact q.elim
  | _ => exact q.elim
theorem dop_intB {f : Value → Value → Sem Value} {g : Int → Int → Bool} (h : OpR X f (rI0 fun i j => .bl (g i j))) : DOp X f (oInt fun i j => .bl (g i j)) := by
  refine ⟨_, h, fun x y dx dy C H Q R ch n1 n2 q k => ?_⟩
  cases dx with
  | int i =>
    cases dy with
    | int j => exact ⟨i, j, den_int.mp n1, den_int.mp n2, k _ _ C H q (Ext.refl ch) (den_bl.mpr rfl)⟩
    | _ => exact q.elim
  | _ => exact q.elim
theorem dop_intI {f : Value → Value → Sem Value} {g : Int → Int → Int} (h : OpR X f (rI0 fun i j => .int (g i j))) : DOp X f (oInt fun i j => .int (g i j)) := by
  refine ⟨_, h, fun x y dx dy C H Q R ch n1 n2 q k => ?_⟩
  cases dx with
  | int i =>
    cases dy with
    | int j => exact ⟨i, j, den_int.mp n1, den_int.mp n2, k _ _ C H q (Ext.refl ch) (den_int.mpr rfl)⟩
    | _ => exact q.elim
  | _ => exact q.elim
abbrev oSub : GO := oInt fun i j => .int (i - j)
abbrev oLt : GO := oInt fun i j => .bl (decide (i < j))
abbrev oLe : GO := oInt fun i j => .bl (decide (i ≤ j))
abbrev oGt : GO := oInt fun i j => .bl (decide (j < i))
abbrev oMod : GO := oIntC (fun _ j => 0 < j) fun i j => .int (i % j)
abbrev oDiv : GO := oIntC CDiv fun i j => .int (i / j)
theorem do_sub : DOp X (binaryOp .Sub) oSub := dop_intI op_sub
theorem do_lt : DOp X (compareOp .Lt) oLt := dop_intB op_lt
theorem do_le : DOp X (compareOp .LtE) oLe := dop_intB op_le
theorem do_gt : DOp X (compareOp .Gt) oGt := dop_intB op_gt
theorem do_mod : DOp X (binaryOp .Mod) oMod := dop_intC op_mod
theorem do_div : DOp X (binaryOp .FloorDiv) oDiv := dop_intC op_fdiv
def oAdd : GO := fun x y Q => match x, y with
  | .int i, .int j => Q (.int (i + j))
  | .tup xs, .tup ys => xs.length + ys.length ≤ sizeLine ∧ Q (.tup (xs ++ ys))
  | _, _ => False
theorem do_add : DOp X (binaryOp .Add) oAdd := by
  refine ⟨_, op_add.or (op_catT.or op_cat0), fun x y dx dy C H Q R ch n1 n2 q k => ?_⟩
  cases dx with
  | int i =>
    cases dy with
    | int j => exact .inl ⟨i, j, den_int.mp n1, den_int.mp n2, k _ _ C H q (Ext.refl ch) (den_int.mpr rfl)⟩
    | _ => exact q.elim
  | tup ds =>
    cases dy with
    | tup es =>
      obtain ⟨p, xs, rfl, hx, hd⟩ := den_tup.mp n1
      obtain ⟨p2, ys, rfl, hy, he⟩ := den_tup.mp n2
      have q' : ds.length + es.length ≤ sizeLine ∧ Q (.tup (ds ++ es)) := q
      refine .inr ?_
      cases ds with
      | nil =>
        have e := dens_nil.mp hd
        subst e
        exact .inr ⟨p, p2, ys, rfl, rfl, ch.seqT hx, ch.seqT hy, k _ _ C H q'.2 (Ext.refl ch) n2⟩
      | cons d ds =>
        refine .inl ⟨p, p2, xs, ys, rfl, rfl, ch.seqT hx, ch.seqT hy, ?_, by rw [hd.length, he.length]; exact q'.1, fun z => ?_, fun _ p' hp => ?_⟩
        · intro z
          have := hd.length
          rw [z] at this
          simp at this
        · subst z
          have e : es = [] := by
            have := he.length
            simpa using this.symm
          subst e
          rw [List.append_nil] at q'
          exact k _ _ C H q'.2 (Ext.refl ch) n1
        · exact k _ _ (upd C p' (.tup (xs ++ ys))) _ q'.2 (Ext.new ch hp) (den_tup.mpr ⟨p', _, rfl, SqT.of upd_same, (hd.append he).mono (Same.upd (ch.free hp))⟩)
    | _ => exact q.elim
  | _ => exact q.elim
def oMul : GO := fun x y Q => match x, y with
  | .int i, .int j => CMul i j ∧ Q (.int (i * j))
  | .tup xs, .int k => 1 < k ∧ k < 2 ^ 63 ∧ xs ≠ [] ∧ (xs.length : Int) * k ≤ sizeLine ∧ Q (.tup (List.replicate k.toNat xs).flatten)
  | _, _ => False
theorem do_mul : DOp X (binaryOp .Mult) oMul := by
  refine ⟨_, op_mul.or op_repT, fun x y dx dy C H Q R ch n1 n2 q k => ?_⟩
  cases dx with
  | int i =>
    cases dy with
    | int j => exact .inl ⟨i, j, den_int.mp n1, den_int.mp n2, q.1, k _ _ C H q.2 (Ext.refl ch) (den_int.mpr rfl)⟩
    | _ => exact q.elim
  | tup ds =>
    cases dy with
    | int j =>
      obtain ⟨p, xs, rfl, hx, hd⟩ := den_tup.mp n1
      obtain ⟨q1, q2, q3, q4, q5⟩ := q
      refine .inr ⟨p, j, xs, rfl, den_int.mp n2, ch.seqT hx, q1, q2, ?_, by rw [hd.length]; exact q4, fun p' hp => ?_⟩
      · intro z
        have := hd.length
        rw [z] at this
        exact q3 (by simpa using this.symm)
      · exact k _ _ (upd C p' _) _ q5 (Ext.new ch hp) (den_tup.mpr ⟨p', _, rfl, SqT.of upd_same, (hd.rep _).mono (Same.upd (ch.free hp))⟩)
    | _ => exact q.elim
  | _ => exact q.elim
def oIs : GO := fun x y Q => match x, y with
  | .bl a, .bl b => Q (.bl (a == b))
  | _, _ => False
def oIsnot : GO := fun x y Q => match x, y with
  | .bl a, .bl b => Q (.bl (a != b))
  | _, _ => False
def gNeg (ga : GE) : GE := fun δ Q => ga δ fun d => match d with
  | .int i => Q (.int (-i))
  | _ => False
theorem de_neg (ha : DE X a ga) : DE X (.UnaryOp .USub a pos) (gNeg ga) := by
  obtain ⟨t1, p1, h1⟩ := ha
  refine ⟨_, pe_un un_neg p1, fun C0 H0 δ σ C H Q R rp g k => h1 C0 H0 δ σ C H _ _ rp g fun d v C1 H1 q e1 n1 => ?_⟩
  cases d with
  | int i => exact ⟨i, den_int.mp n1, k _ _ C1 H1 q e1 (den_int.mpr rfl)⟩
  | _ => exact q.elim
def cLen : List D → (D → Prop) → Prop := fun ds Q => match ds with
  | [.tup xs] => Q (.int xs.length)
  | [.lst xs] => Q (.int xs.length)
  | _ => False
theorem dens_one {K : PySem.W.Frag} {C : Hp} {vs : List V} {d : D} (h : Dens K C vs [d]) : ∃ v, vs = [v] ∧ Den K C v d := by
  obtain ⟨x, xs, rfl, a, t⟩ := dens_cons.mp h
  rw [dens_nil.mp t]
  exact ⟨x, rfl, a⟩
theorem dens_two {K : PySem.W.Frag} {C : Hp} {vs : List V} {d d2 : D} (h : Dens K C vs [d, d2]) : ∃ v u, vs = [v, u] ∧ Den K C v d ∧ Den K C u d2 := by
  obtain ⟨x, xs, rfl, a, t⟩ := dens_cons.mp h
  obtain ⟨u, rfl, b⟩ := dens_one t
  exact ⟨x, u, rfl, a, b⟩
theorem dc_len : DCall X (.builtin "len") cLen := by
  refine ⟨_, call_len_seq, fun xs ds C H Q R ch n q k => ?_⟩
  unfold cLen at q
  split at q
  · obtain ⟨v, rfl, n1⟩ := dens_one n
    obtain ⟨p, ys, rfl, hy, hd⟩ := den_tup.mp n1
    refine ⟨p, ys, rfl, .inr (ch.seqT hy), ?_⟩
    rw [hd.length]
    exact k _ _ C H q (Ext.refl ch) (den_int.mpr rfl)
  · obtain ⟨v, rfl, n1⟩ := dens_one n
    obtain ⟨p, ys, rfl, hy, hd⟩ := den_lst.mp n1
    refine ⟨p, ys, rfl, .inl (ch.seq hy), ?_⟩
    rw [hd.length]
    exact k _ _ C H q (Ext.refl ch) (den_int.mpr rfl)
  · exact q.elim
def cTuple : List D → (D → Prop) → Prop := fun ds Q => match ds with
  | [.tup xs] => Q (.tup xs)
  | [.lst xs] => Q (.tup xs)
  | _ => False
theorem dc_tuple : DCall X (.type "tuple") cTuple := by
  refine ⟨_, call_tuple_of, fun xs ds C H Q R ch n q k => ?_⟩
  unfold cTuple at q
  split at q
  · obtain ⟨v, rfl, n1⟩ := dens_one n
    obtain ⟨p, ys, rfl, hy, hd⟩ := den_tup.mp n1
    exact ⟨p, ys, rfl, .inr ⟨ch.seqT hy, k _ _ C H q (Ext.refl ch) n1⟩⟩
  · obtain ⟨v, rfl, n1⟩ := dens_one n
    obtain ⟨p, ys, rfl, hy, hd⟩ := den_lst.mp n1
    exact ⟨p, ys, rfl, .inl ⟨ch.seq hy, fun l hl => k _ _ (upd C l (.tup ys)) _ q (Ext.new ch hl) (den_tup.mpr ⟨l, ys, rfl, SqT.of upd_same, hd.mono (Same.upd (ch.free hl))⟩)⟩⟩
  · exact q.elim
def cList : List D → (List D → Prop) → Prop := fun ds Q => match ds with
  | [.tup xs] => Q xs
  | [.lst xs] => Q xs
  | _ => False
def cAbs : List D → (D → Prop) → Prop := fun ds Q => match ds with
  | [.int i] => Q (.int (if i < 0 then -i else i))
  | _ => False
theorem dc_abs : DCall X (.builtin "abs") cAbs := by
  refine ⟨_, call_abs, fun xs ds C H Q R ch n q k => ?_⟩
  unfold cAbs at q
  split at q
  · obtain ⟨v, rfl, n1⟩ := dens_one n
    rw [den_int.mp n1]
    exact ⟨_, rfl, k _ _ C H q (Ext.refl ch) (den_int.mpr rfl)⟩
  · exact q.elim
def bools : List D → Option (List Bool)
  | [] => some []
  | .bl b :: r => (bools r).map (b :: ·)
  | _ :: _ => none
def cAll : List D → (D → Prop) → Prop := fun ds Q => match ds with
  | [.lst xs] => match bools xs with
    | some bs => Q (.bl (bs.all id))
    | none => False
  | _ => False
def tyD : D → String
  | .int _ => "int"
  | .bl _ => "bool"
  | .non => "NoneType"
  | .str _ => "str"
  | .tup _ => "tuple"
  | .lst _ => "list"
theorem tyD_name {K : PySem.W.Frag} {C H : Hp} {v : V} {d : D} (ch : Same C H) (n : Den K C v d) : tyName K H v (tyD d) := by
  cases d with
  | int i => rw [den_int.mp n]; rfl
  | bl i => rw [den_bl.mp n]; rfl
  | non => rw [den_non.mp n]; rfl
  | str i => rw [den_str.mp n]; rfl
  | tup ds => obtain ⟨p, ys, rfl, hy, hd⟩ := den_tup.mp n; exact .inr ⟨rfl, ys, ch.seqT hy⟩
  | lst ds => obtain ⟨p, ys, rfl, hy, hd⟩ := den_lst.mp n; exact .inl ⟨rfl, ys, ch.seq hy⟩
def gInst (T : String) (ga : GE) : GE := fun δ Q => ga δ fun d => Q (.bl (isSub (tyD d) T))
theorem de_inst {T : String} {y : Str} {p p' : Pos} (hT : T = "int" ∨ T = "bool" ∨ T = "str" ∨ T = "list" ∨ T = "tuple") (ha : DE X a ga) (hy : PE X (.Name y p') (tC (.ty T)))
    (hp : ∀ {t : TA} {r : List V → Hp → VK → Prop}, CallR X (.builtin "isinstance") r → PA X [a, .Name y p'] t → PE X (.Call (.Name "isinstance" p) [a, .Name y p'] [] pos) (tCB r t))
    (hs : starEach [a, .Name y p'] X.env = (false, eval a X.env) :: starEach [.Name y p'] X.env := by rfl) : DE X (.Call (.Name "isinstance" p) [a, .Name y p'] [] pos) (gInst T ga) := by
  obtain ⟨t1, p1, h1⟩ := ha
  refine ⟨_, hp call_isinst (pa_cons p1 (pa_cons hy pa_nil) hs), fun C0 H0 δ σ C H Q R rp g k => h1 C0 H0 δ σ C H _ _ rp g fun d v C1 H1 q e1 n1 => ?_⟩
  exact ⟨v, T, tyD d, rfl, hT, tyD_name e1.ch n1, k _ _ C1 H1 q e1 (den_bl.mpr rfl)⟩
end
end L2
namespace L2
open PySem PySem.Spec PyProof.Rows
def Walk (K : PySem.W.Frag) (J : It) (its : List D) (C1 : Hp) : Prop := ∀ C2 H2, Same C1 C2 → Same C2 H2 → ∀ i : Nat,
  (∀ d, its[i]? = some d → J.go i H2 ∧ ∀ x H3, J.yld i H2 x H3 → ∃ C3, Ext C2 H2 C3 H3 ∧ Den K C3 x d) ∧ (its.length ≤ i → J.stop i H2)
def DI (X : Cx) (tg iter : Expr) (g : GF) : Prop := ∃ wi, PI X tg iter wi ∧ ∀ C0 H0 δ σ C H (Q : List D → Prop) (R : It → Hp → Prop), Rep X.K C0 H0 δ σ C H → g δ Q →
  (∀ its J C1 H1, Q its → Ext C H C1 H1 → Walk X.K J its C1 → R J H1) → wi σ H R
section
variable {X : Cx} {a b c e tg iter : Expr} {es : List Expr} {pos : Pos} {ga gb gc gd : GE} {gf : GF} {ta tb : GT}
def gIt (ga : GE) : GF := fun δ Q => ga δ fun d => match d with
  | .tup ds => Q ds
  | _ => False
def gIl (ga : GE) : GF := fun δ Q => ga δ fun d => match d with
  | .lst ds => Q ds
  | _ => False
theorem walk_tup {K : PySem.W.Frag} {C1 : Hp} {p : Addr} {xs : List V} {ds : List D} (hx : SqT K C1 p xs) (hd : Dens K C1 xs ds) (inj : ∀ H ys, Same C1 H → SqT K H p ys → True) : Walk K ⟨fun i H => ∃ xs x, SqT K H p xs ∧ xs[i]? = some x, fun i H x H' => H' = H ∧ ∀ xs, SqT K H p xs → xs[i]? = some x, fun i H => ∃ xs, SqT K H p xs ∧ xs.length ≤ i⟩ ds C1 := by
  intro C2 H2 c1 c2 i
  have hx2 := c2.seqT (c1.seqT hx)
  refine ⟨fun d e => ?_, fun hl => ⟨xs, hx2, by rw [hd.length]; exact hl⟩⟩
  obtain ⟨v, ev, nv⟩ := hd.get e
  refine ⟨⟨xs, v, hx2, ev⟩, fun x H3 y => ?_⟩
  obtain ⟨rfl, y⟩ := y
  have := y xs hx2
  rw [ev] at this
  cases this
  exact ⟨C2, Ext.refl c2, nv.mono c1⟩
theorem walk_lst {K : PySem.W.Frag} {C1 : Hp} {p : Addr} {xs : List V} {ds : List D} (hx : SqL K C1 p xs) (hd : Dens K C1 xs ds) : Walk K (Itl K p) ds C1 := by
  intro C2 H2 c1 c2 i
  have hx2 := c2.seq (c1.seq hx)
  refine ⟨fun d e => ?_, fun hl => ⟨xs, hx2, by rw [hd.length]; exact hl⟩⟩
  obtain ⟨v, ev, nv⟩ := hd.get e
  refine ⟨⟨xs, v, hx2, ev⟩, fun x H3 y => ?_⟩
  obtain ⟨rfl, y⟩ := y
  have := y xs hx2
  rw [ev] at this
  cases this
  exact ⟨C2, Ext.refl c2, nv.mono c1⟩
theorem di_tup (ha : DE X a ga) : DI X tg a (gIt ga) := by
  obtain ⟨t, p, h⟩ := ha
  refine ⟨_, pi_tup p, fun C0 H0 δ σ C H Q R rp g k => h C0 H0 δ σ C H _ _ rp g fun d v C1 H1 q e1 n1 => ?_⟩
  cases d with
  | tup ds =>
    obtain ⟨p, xs, rfl, hx, hd⟩ := den_tup.mp n1
    exact ⟨p, rfl, ⟨xs, e1.ch.seqT hx⟩, k ds _ C1 H1 q e1 (walk_tup hx hd fun _ _ _ _ => trivial)⟩
  | _ => exact q.elim
theorem di_lst (ha : DE X a ga) : DI X tg a (gIl ga) := by
  obtain ⟨t, p, h⟩ := ha
  refine ⟨_, pi_list p, fun C0 H0 δ σ C H Q R rp g k => h C0 H0 δ σ C H _ _ rp g fun d v C1 H1 q e1 n1 => ?_⟩
  cases d with
  | lst ds =>
    obtain ⟨p, xs, rfl, hx, hd⟩ := den_lst.mp n1
    exact ⟨p, rfl, ⟨xs, e1.ch.seq hx⟩, k ds _ C1 H1 q e1 (walk_lst hx hd)⟩
  | _ => exact q.elim
def rangeD (lo : Int) (n : Nat) : List D := (List.range n).map fun (k : Nat) => D.int (lo + (k : Int))
theorem walk_rng {K : PySem.W.Frag} {C1 : Hp} (lo : Int) (n : Nat) : Walk K (Itr lo n) (rangeD lo n) C1 := by
  intro C2 H2 c1 c2 i
  have hl : (rangeD lo n).length = n := by simp [rangeD]
  refine ⟨fun d e => ?_, fun h => by rw [hl] at h; exact h⟩
  have hi : i < n := by rw [← hl]; exact (List.getElem?_eq_some_iff.mp e).1
  have ed : d = .int (lo + i) := by
    unfold rangeD at e
    rw [List.getElem?_map, List.getElem?_range hi] at e
    exact (Option.some.inj e).symm
  subst ed
  exact ⟨hi, fun x H3 y => by obtain ⟨rfl, rfl⟩ := y; exact ⟨C2, Ext.refl c2, den_int.mpr rfl⟩⟩
def gRng1 (ga : GE) : GF := fun δ Q => ga δ fun d => match d with
  | .int j => (-(2 ^ 62) ≤ j ∧ j < 2 ^ 62) ∧ Q (rangeD 0 j.toNat)
  | _ => False
theorem di_rng1 {p : Pos} (hg : Gl X "range") (hm : X.mg "range" = none) (ha : DE X a ga) (hs : starEach [a] X.env = [(false, eval a X.env)] := by rfl) : DI X tg (.Call (.Name "range" p) [a] [] pos) (gRng1 ga) := by
  obtain ⟨t, p, h⟩ := ha
  refine ⟨_, pi_range1 hg hm (pa_cons p pa_nil hs) hs, fun C0 H0 δ σ C H Q R rp g k => h C0 H0 δ σ C H _ _ rp g fun d v C1 H1 q e1 n1 => ?_⟩
  cases d with
  | int j => rw [den_int.mp n1]; exact ⟨j, rfl, q.1.1, q.1.2, k _ _ C1 H1 q.2 e1 (walk_rng 0 _)⟩
  | _ => exact q.elim
def gRng2 (ga gb : GE) : GF := fun δ Q => ga δ fun d => gb δ fun d2 => match d, d2 with
  | .int i, .int j => (-(2 ^ 62) ≤ i ∧ i < 2 ^ 62 ∧ -(2 ^ 62) ≤ j ∧ j < 2 ^ 62) ∧ Q (rangeD i (j - i).toNat)
  | _, _ => False
theorem di_rng2 {p : Pos} (hg : Gl X "range") (hm : X.mg "range" = none) (ha : DE X a ga) (hb : DE X b gb) (hs1 : starEach [a, b] X.env = (false, eval a X.env) :: starEach [b] X.env := by rfl) (hs2 : starEach [b] X.env = [(false, eval b X.env)] := by rfl)
    (hp : ∀ {t : TA}, PA X [a, b] t → PI X tg (.Call (.Name "range" p) [a, b] [] pos) (iRng2 t)) : DI X tg (.Call (.Name "range" p) [a, b] [] pos) (gRng2 ga gb) := by
  obtain ⟨t1, p1, h1⟩ := ha
  obtain ⟨t2, p2, h2⟩ := hb
  refine ⟨_, hp (pa_cons p1 (pa_cons p2 pa_nil hs2) hs1), fun C0 H0 δ σ C H Q R rp g k => h1 C0 H0 δ σ C H _ _ rp g fun d v C1 H1 q e1 n1 => h2 C0 H0 δ σ C1 H1 _ _ (rp.grow e1) q fun d2 v2 C2 H2 q2 e2 n2 => ?_⟩
  cases d with
  | int i =>
    cases d2 with
    | int j =>
      rw [den_int.mp n1, den_int.mp n2]
      exact ⟨i, j, rfl, q2.1, k _ _ C2 H2 q2.2 (e1.trans e2) (walk_rng i _)⟩
    | _ => exact q2.elim
  | _ => exact q2.elim
abbrev GG := D → DS → (DS → Prop) → Prop
def DG (X : Cx) (tg : Expr) (ss : List Nat) (g : GG) : Prop := ∃ t, PG X tg t ∧ ∀ C0 H0 δ σ C H v d (Q : DS → Prop) (R : St → Hp → Prop), Rep X.K C0 H0 δ σ C H → Den X.K C v d → g d δ Q →
  (∀ δ' σ', Q δ' → Rep X.K C0 H0 δ' σ' C H → σ'.length = σ.length → (∀ j : Nat, j ∉ ss → σ'[j]? = σ[j]?) → R σ' H) → t v σ H R
abbrev gNm (i : Nat) : GG := fun d δ Q => Q (δ.set i (.im d))
theorem dg_name {i : Nat} {x : Str} (h : PG X (.Name x pos) (gName i)) : DG X (.Name x pos) [i] (gNm i) :=
  ⟨_, h, fun C0 H0 δ σ C H v d Q R rp n g k => k _ _ g (rp.setI n) (by simp) fun j hj => by rw [List.getElem?_set_ne]; intro z; exact hj (by simp [z])⟩
def gNm2 (i j : Nat) : GG := fun d δ Q => match d with
  | .tup [a, b] => Q ((δ.set i (.im a)).set j (.im b))
  | _ => False
theorem dg_two {i j : Nat} {x y : Str} {p1 p2 : Pos} {k : Nat} (h1 : PG X (.Name x p1) (gName i)) (h2 : PG X (.Name y p2) (gName j))
    (hp : ∀ {t1 t2 : TG}, PG X (.Name x p1) t1 → PG X (.Name y p2) t2 → PG X (.Tuple [.Name x p1, .Name y p2] k pos) (gTup X.K 2 (gCons t1 (gCons t2 gNil)))) : DG X (.Tuple [.Name x p1, .Name y p2] k pos) [i, j] (gNm2 i j) := by
  refine ⟨_, hp h1 h2, fun C0 H0 δ σ C H v d Q R rp n g k => ?_⟩
  unfold gNm2 at g
  split at g
  · rename_i d1 d2
    obtain ⟨p, xs, rfl, hx, hd⟩ := den_tup.mp n
    obtain ⟨v1, v2, rfl, n1, n2⟩ := dens_two hd
    refine ⟨p, [v1, v2], rfl, rp.ch.seqT hx, rfl, v1, [v2], rfl, v2, [], rfl, rfl, ?_⟩
    refine k _ _ g ((rp.setI n1).setI n2) (by simp) fun m hm => ?_
    rw [List.getElem?_set_ne, List.getElem?_set_ne]
    · intro z; exact hm (by simp [z])
    · intro z; exact hm (by simp [z])
  · exact g.elim
def δc (fr : List (Option Nat)) (δ : DS) : DS := fr.map fun o => match o with
  | none => .un
  | some j => match δ[j]? with
    | some (.im d) => .im d
    | some (.fd m) => .fd m
    | _ => .un
theorem Rep.comp {K : PySem.W.Frag} {C0 H0 δ σ C H C1 H1} (fr : List (Option Nat)) (R : Rep K C0 H0 δ σ C H) (cc : Same C C1) (ch : Same C1 H1) : Rep K C1 H1 (δc fr δ) (σc fr σ) C1 H1 := by
  have no : ∀ (i : Nat) ds, (δc fr δ)[i]? ≠ some (.ow ds) := fun i ds e => by
    unfold δc at e
    rw [List.getElem?_map] at e
    cases ef : fr[i]? with
    | none => rw [ef] at e; cases e
    | some o =>
      rw [ef] at e
      cases o with
      | none => cases e
      | some j =>
        simp only [Option.map_some] at e
        split at e <;> cases e
  have nod : ∀ (i : Nat) m, (δc fr δ)[i]? ≠ some (.od m) := fun i ds e => by
    unfold δc at e
    rw [List.getElem?_map] at e
    cases ef : fr[i]? with
    | none => rw [ef] at e; cases e
    | some o =>
      rw [ef] at e
      cases o with
      | none => cases e
      | some j =>
        simp only [Option.map_some] at e
        split at e <;> cases e
  refine ⟨by unfold σc δc; simp, Ext.refl ch, fun i d e => ?_, fun i ds e => absurd e (no i ds), fun i j ds es l _ e _ => absurd e (no i ds), fun i m e => absurd e (nod i m), fun i m e => ?_, fun i j m n l _ e => absurd e (nod i m)⟩
  rotate_left
  · unfold δc at e
    unfold σc
    rw [List.getElem?_map] at e ⊢
    cases ef : fr[i]? with
    | none => rw [ef] at e; cases e
    | some o =>
      rw [ef] at e
      cases o with
      | none => cases e
      | some j =>
        simp only [Option.map_some] at e ⊢
        split at e
        · cases e
        · rename_i m' ed
          cases e
          obtain ⟨l, o, ev, nv⟩ := R.dc.fd j m ed
          refine ⟨l, o, ?_, cc _ _ nv⟩
          show some ((σ[j]?).bind id) = _
          rw [ev]
          rfl
        · cases e
  unfold δc at e
  unfold σc
  rw [List.getElem?_map] at e ⊢
  cases ef : fr[i]? with
  | none => rw [ef] at e; cases e
  | some o =>
    rw [ef] at e
    cases o with
    | none => cases e
    | some j =>
      simp only [Option.map_some] at e ⊢
      split at e
      · rename_i d' ed
        cases e
        obtain ⟨v, ev, nv⟩ := R.im j d ed
        refine ⟨v, ?_, nv.mono cc⟩
        show some ((σ[j]?).bind id) = _
        rw [ev]
        rfl
      · cases e
      · cases e
def gComp (fr : List (Option Nat)) (gi : GF) (gg : GG) (ge : GE) : GF := fun δ Q => gi δ fun its => its.length ≤ sizeLine ∧ ∃ f : D → D, (∀ d ∈ its, gg d (δc fr δ) fun δ2 => ge δ2 fun y => y = f d) ∧ Q (its.map f)
def gCompIf (fr : List (Option Nat)) (gi : GF) (gg : GG) (gt : GT) (ge : GE) : GF := fun δ Q => gi δ fun its => its.length ≤ sizeLine ∧ ∃ (p : D → Bool) (f : D → D), (∀ d ∈ its, gg d (δc fr δ) fun δ2 => gt δ2 fun c => c = p d ∧ (c = true → ge δ2 fun y => y = f d)) ∧ Q ((its.filter p).map f)
def frOk (fr : List (Option Nat)) (ss : List Nat) : Bool := ss.all fun j => fr[j]? == some none
theorem frOk_of {fr : List (Option Nat)} {ss : List Nat} (h : frOk fr ss = true) {σ : St} {j : Nat} (hj : j ∈ ss) : (σc fr σ)[j]? = some none := by
  unfold frOk at h
  rw [List.all_eq_true] at h
  have e : fr[j]? = some none := by simpa using h j hj
  unfold σc
  rw [List.getElem?_map, e]
  rfl
theorem fwd_of {fr : List (Option Nat)} {ss : List Nat} (h : frOk fr ss = true) {σ σ' : St} (hl : σ'.length = (σc fr σ).length) (hj : ∀ j : Nat, j ∉ ss → σ'[j]? = (σc fr σ)[j]?) : Fwd σ' (σc fr σ) := by
  refine ⟨hl, fun i v e => ?_⟩
  by_cases hi : i ∈ ss
  · rw [frOk_of h hi] at e
    cases e
  · rw [hj i hi]; exact e
def DIfs (X : Cx) (ifs : List Expr) (g : GT) : Prop := ∃ t, PIfs X ifs t ∧ ∀ C0 H0 δ σ C H (Q : Bool → Prop) (R : Bool → Hp → Prop), Rep X.K C0 H0 δ σ C H → g δ Q → (∀ b C1 H1, Q b → Ext C H C1 H1 → R b H1) → t σ H R
end
theorem turns_of {K : PySem.W.Frag} {C0 H0 C H C1 H1 : Hp} {δ : DS} {σ : St} {fr : List (Option Nat)} {ss : List Nat} {J : It} {its : List D} {g : TG} {tt : TT} {te : TE} {gg : GG} {gt : GT} {ge : GE} {p : D → Bool} {f : D → D} {A : Addr} {Q : List D → Prop} {R : VK}
    (hg : ∀ C0 H0 δ σ C H v d (Q : DS → Prop) (R : St → Hp → Prop), Rep K C0 H0 δ σ C H → Den K C v d → gg d δ Q → (∀ δ' σ', Q δ' → Rep K C0 H0 δ' σ' C H → σ'.length = σ.length → (∀ j : Nat, j ∉ ss → σ'[j]? = σ[j]?) → R σ' H) → g v σ H R)
    (ht : ∀ C0 H0 δ σ C H (Q : Bool → Prop) (R : Bool → Hp → Prop), Rep K C0 H0 δ σ C H → gt δ Q → (∀ b C1 H1, Q b → Ext C H C1 H1 → R b H1) → tt σ H R)
    (he : ∀ C0 H0 δ σ C H (Q : D → Prop) (R : VK), Rep K C0 H0 δ σ C H → ge δ Q → (∀ d v C1 H1, Q d → Ext C H C1 H1 → Den K C1 v d → R v H1) → te σ H R)
    (fo : frOk fr ss = true) (rp : Rep K C0 H0 δ σ C H) (e1 : Ext C H C1 H1) (wk : Walk K J its C1) (hz : its.length ≤ sizeLine)
    (hf : ∀ d ∈ its, gg d (δc fr δ) fun δ2 => gt δ2 fun c => c = p d ∧ (c = true → ge δ2 fun y => y = f d)) (q : Q ((its.filter p).map f))
    (k : ∀ ds p xs C1 H1, Q ds → Ext C H C1 H1 → C1 p = none → H p = none → H1 p = some (.lst xs) → Dens K C1 xs ds → R (.ref p) H1) (hA : H1 A = none) : tTurns J (σc fr σ) g tt te A H1 R := by
  have hflt : ∀ i : Nat, (((its.take i).filter p).map f).length ≤ i := fun i => by
    rw [List.length_map]
    exact Nat.le_trans (List.length_filter_le _ _) (by rw [List.length_take]; omega)
  refine ⟨fun i m ys H2 => m = its.length - i ∧ i ≤ its.length ∧ ∃ C2, Ext C1 H1 C2 H2 ∧ H2 A = some (.lst ys) ∧ C2 A = none ∧ Dens K C2 ys (((its.take i).filter p).map f), ⟨_, rfl, Nat.zero_le _, C1, Ext.newO e1.ch hA, upd_same, e1.ch.free hA, by simpa using Dens.nil⟩, ?_⟩
  rintro i m ys H2 ⟨rfl, hi, C2, ex, hl, hc, hd⟩
  have W := wk C2 H2 ex.cc ex.ch i
  by_cases hlt : i < its.length
  · have ed : its[i]? = some its[i] := by simp [hlt]
    obtain ⟨go, yl⟩ := W.1 _ ed
    refine .inr ⟨go, fun x H3 y => ?_⟩
    obtain ⟨C3, e3, n3⟩ := yl x H3 y
    have rc : Rep K C3 H3 (δc fr δ) (σc fr σ) C3 H3 := rp.comp fr ((e1.cc.trans ex.cc).trans e3.cc) e3.ch
    refine hg C3 H3 _ _ C3 H3 x its[i] _ _ rc n3 (hf its[i] (List.getElem_mem hlt)) fun δ' σ' q' rp' hl' hj' => ⟨fwd_of fo hl' hj', ?_⟩
    refine ht C3 H3 δ' σ' C3 H3 _ _ rp' q' fun b C4 H4 q4 e4 => ?_
    have hA4 : H4 A = some (.lst ys) := e4.hh _ _ (e3.hh _ _ hl)
    have hc4 : C4 A = none := e4.ow A (e3.ow A hc (by rw [hl]; simp)) (by rw [e3.hh _ _ hl]; simp)
    have ed2 := ((hd.mono e3.cc).mono e4.cc)
    have tk : its.take (i + 1) = its.take i ++ [its[i]] := by rw [List.take_succ, ed]; rfl
    cases b with
    | false =>
      rw [if_neg (by simp)]
      refine ⟨its.length - (i + 1), by omega, rfl, hlt, C4, ex.trans (e3.trans e4), hA4, hc4, ?_⟩
      rw [tk, List.filter_append, List.filter_cons_of_neg (by rw [← q4.1]; simp)]
      simpa using ed2
    | true =>
      rw [if_pos rfl]
      refine he C3 H3 δ' σ' C4 H4 _ _ (rp'.grow e4) (q4.2 rfl) fun d v C5 H5 q5 e5 n5 => ?_
      have hA5 : H5 A = some (.lst ys) := e5.hh _ _ hA4
      have hc5 : C5 A = none := e5.ow A hc4 (by rw [hA4]; simp)
      have hyl : ys.length < sizeLine := by
        rw [hd.length]
        exact Nat.lt_of_le_of_lt (hflt i) (by omega)
      refine ⟨hA5, hyl, its.length - (i + 1), by omega, rfl, hlt, C5, ?_, upd_same, hc5, ?_⟩
      · have e := ex.trans (e3.trans (e4.trans e5))
        refine ⟨fun z u ez => ?_, e.cc, fun z u ez => ?_, e.ow⟩
        · rw [upd_ne (ne_of_none ez hA)]; exact e.hh z u ez
        · rw [upd_ne (ne_of_none ez hc5)]; exact e.ch z u ez
      · rw [tk, List.filter_append, List.filter_cons_of_pos (by rw [← q4.1]), List.map_append, List.filter_nil, List.map_cons, List.map_nil]
        refine (ed2.mono e5.cc).append (.cons ?_ .nil)
        rw [← q5]; exact n5
  · have e : i = its.length := by omega
    refine .inl ⟨W.2 (by omega), ?_⟩
    rw [e, List.take_length] at hd
    exact k _ A ys C2 H2 q (e1.trans ex) hc (e1.hh.free hA) hl hd
section
variable {X : Cx} {a b c e tg iter elt : Expr} {es : List Expr} {pos : Pos} {ge : GE} {gi : GF} {gt : GT} {gg : GG} {scope : Scope} {Nc : List Str} {fr : List (Option Nat)} {ss : List Nat}
def tDE (K : PySem.W.Frag) (g : GE) : TE := fun σ H R => ∃ C0 H0 δ C Q, Rep K C0 H0 δ σ C H ∧ g δ Q ∧ ∀ d v C1 H1, Q d → Ext C H C1 H1 → Den K C1 v d → R v H1
def tDT (K : PySem.W.Frag) (g : GT) : TT := fun σ H R => ∃ C0 H0 δ C Q, Rep K C0 H0 δ σ C H ∧ g δ Q ∧ ∀ b C1 H1, Q b → Ext C H C1 H1 → R b H1
def tDG (K : PySem.W.Frag) (ss : List Nat) (g : GG) : TG := fun v σ H R => ∃ C0 H0 δ C d Q, Rep K C0 H0 δ σ C H ∧ Den K C v d ∧ g d δ Q ∧ ∀ δ' σ', Q δ' → Rep K C0 H0 δ' σ' C H → σ'.length = σ.length → (∀ j : Nat, j ∉ ss → σ'[j]? = σ[j]?) → R σ' H
theorem DE.can (h : DE X e ge) : PE X e (tDE X.K ge) := by
  obtain ⟨t, p, h⟩ := h
  intro pins s σ H Q I q
  obtain ⟨C0, H0, δ, C, Q', rp, g, k⟩ := q
  exact p pins s σ H Q I (h C0 H0 δ σ C H Q' Q rp g k)
theorem DG.can (h : DG X tg ss gg) : PG X tg (tDG X.K ss gg) := by
  obtain ⟨t, p, h⟩ := h
  intro pins s σ H v u Q I r q
  obtain ⟨C0, H0, δ, C, d, Q', rp, n, g, k⟩ := q
  exact p pins s σ H v u Q I r (h C0 H0 δ σ C H v d Q' Q rp n g k)
theorem DIfs.can {ifs : List Expr} (h : DIfs X ifs gt) : PIfs X ifs (tDT X.K gt) := by
  obtain ⟨t, p, h⟩ := h
  intro pins s σ H Q I q
  obtain ⟨C0, H0, δ, C, Q', rp, g, k⟩ := q
  exact p pins s σ H Q I (h C0 H0 δ σ C H Q' Q rp g k)
abbrev gYes : GT := fun _ Q => Q true
theorem difs_nil : DIfs X [] gYes := ⟨_, pifs_nil, fun C0 H0 δ σ C H Q R rp g k => k true C H g (Ext.refl rp.ch)⟩
theorem difs_one (h : DT X c gt) : DIfs X [c] gt := by
  obtain ⟨t, p, h⟩ := h
  exact ⟨t, pifs_one p, h⟩
theorem comp_data {ifs : List Expr} (h : DI X tg iter gi) (fo : frOk fr ss = true) : ∃ wi, PI X tg iter wi ∧ ∀ C0 H0 δ σ C H (Q : List D → Prop) (R : VK), Rep X.K C0 H0 δ σ C H → gCompIf fr gi gg gt ge δ Q →
    (∀ ds p xs C1 H1, Q ds → Ext C H C1 H1 → C1 p = none → H p = none → H1 p = some (.lst xs) → Dens X.K C1 xs ds → R (.ref p) H1) → tComp fr wi (tDG X.K ss gg) (tDT X.K gt) (tDE X.K ge) σ H R := by
  obtain ⟨wi, pi, h⟩ := h
  refine ⟨wi, pi, fun C0 H0 δ σ C H Q R rp g k => h C0 H0 δ σ C H _ _ rp g fun its J C1 H1 q e1 wk A hA => ?_⟩
  obtain ⟨hz, p, f, hf, q⟩ := q
  refine turns_of (gg := gg) (gt := gt) (ge := ge) (ss := ss) (fun C0 H0 δ σ C H v d Q R rp n g k => ⟨C0, H0, δ, C, d, Q, rp, n, g, k⟩) (fun C0 H0 δ σ C H Q R rp g k => ⟨C0, H0, δ, C, Q, rp, g, k⟩) (fun C0 H0 δ σ C H Q R rp g k => ⟨C0, H0, δ, C, Q, rp, g, k⟩) fo rp e1 wk hz hf q k hA
theorem df_compIf {ifs : List Expr} (ok : compOk X.env.scope scope X.N Nc fr = true) (fo : frOk fr ss = true) (hc : X.calm = true) (hi : DI X tg iter gi) (hg : ∀ Cc pins fp s3 H3, DG (cxC X scope Nc Cc pins fp s3 H3) tg ss gg)
    (ht : ∀ Cc pins fp s3 H3, DIfs (cxC X scope Nc Cc pins fp s3 H3) ifs gt) (he : ∀ Cc pins fp s3 H3, DE (cxC X scope Nc Cc pins fp s3 H3) elt ge) (hs : ∀ x, foldedSetIterable iter X.env x = pure x := by intro _; rfl) :
    DF X (.ListComp elt [⟨tg, iter, ifs, 0⟩] scope pos) (gCompIf fr gi gg gt ge) := by
  obtain ⟨wi, pi, h⟩ := comp_data (ifs := ifs) (gg := gg) (gt := gt) (ge := ge) hi fo
  exact ⟨_, pe_comp ok hc pi (fun a b c d e => (hg a b c d e).can) (fun a b c d e => (ht a b c d e).can) (fun a b c d e => (he a b c d e).can) hs, h⟩
end
structure DEnds where
  nx : DS → Prop
  rt : D → Prop
  bk : DS → Prop := fun _ => False
  ct : DS → Prop := fun _ => False
abbrev GS := DEnds → DS → Prop
structure Adm (K : PySem.W.Frag) (C0 H0 : Hp) (E : Ends) (De : DEnds) : Prop where
  nx : ∀ δ σ C H, Rep K C0 H0 δ σ C H → De.nx δ → E.nx σ H
  rt : ∀ d v C H, Ext C0 H0 C H → Den K C v d → De.rt d → E.rt v H
  bk : ∀ δ σ C H, Rep K C0 H0 δ σ C H → De.bk δ → E.bk σ H
  ct : ∀ δ σ C H, Rep K C0 H0 δ σ C H → De.ct δ → E.ct σ H
def DSt (X : Cx) (st : Stmt) (g : GS) : Prop := ∃ t, PS X st t ∧ ∀ C0 H0 δ σ C H De E, Rep X.K C0 H0 δ σ C H → g De δ → Adm X.K C0 H0 E De → t E σ H
def DSs (X : Cx) (sts : List Stmt) (g : GS) : Prop := ∃ t, PSs X sts t ∧ ∀ C0 H0 δ σ C H De E, Rep X.K C0 H0 δ σ C H → g De δ → Adm X.K C0 H0 E De → t E σ H
section
variable {X : Cx} {a b c e tg iter elt : Expr} {st : Stmt} {sts s2 : List Stmt} {pos : Pos} {ge : GE} {gi gf : GF} {gt : GT} {gg : GG} {g1 g2 : GS} {scope : Scope} {Nc : List Str} {fr : List (Option Nat)} {ss : List Nat}
abbrev gNext : GS := fun De δ => De.nx δ
def gSeq (g1 g2 : GS) : GS := fun De δ => g1 { De with nx := g2 De } δ
theorem dss_nil : DSs X [] gNext := ⟨_, pss_nil, fun C0 H0 δ σ C H De E rp g k => k.nx δ σ C H rp g⟩
theorem dss_cons (h1 : DSt X st g1) (h2 : DSs X sts g2) : DSs X (st :: sts) (gSeq g1 g2) := by
  obtain ⟨t1, p1, h1⟩ := h1
  obtain ⟨t2, p2, h2⟩ := h2
  refine ⟨_, pss_cons p1 p2, fun C0 H0 δ σ C H De E rp g k => h1 C0 H0 δ σ C H { De with nx := g2 De } { E with nx := t2 E } rp g ⟨fun δ' σ' C' H' rp' q => ?_, k.rt, k.bk, k.ct⟩⟩
  exact h2 C0 H0 δ' σ' C' H' De E rp' q k
theorem dss_one (h1 : DSt X st g1) : DSs X [st] g1 := by
  obtain ⟨t1, p1, h1⟩ := h1
  exact ⟨_, pss_one p1, h1⟩
def gFrz (i : Nat) (g : GS) : GS := fun De δ => match δ[i]? with
  | some (.ow ds) => g De (δ.set i (.im (.lst ds)))
  | _ => False
theorem dss_frz (i : Nat) (h : DSs X sts g1) : DSs X sts (gFrz i g1) := by
  obtain ⟨t, p, h⟩ := h
  refine ⟨t, p, fun C0 H0 δ σ C H De E rp g k => ?_⟩
  unfold gFrz at g
  split at g
  · rename_i ds e
    obtain ⟨C1, rp'⟩ := rp.freeze' e
    exact h C0 H0 _ σ C1 H De E rp' g k
  · exact g.elim
def gRet (ge : GE) : GS := fun De δ => ge δ De.rt
theorem ds_ret (he : DE X e ge) : DSt X (.Return (some e) pos) (gRet ge) := by
  obtain ⟨t, p, h⟩ := he
  exact ⟨_, ps_ret p, fun C0 H0 δ σ C H De E rp g k => h C0 H0 δ σ C H _ _ rp g fun d v C1 H1 q e1 n1 => k.rt d v C1 H1 (rp.ext.trans e1) n1 q⟩
def gIfS (gt : GT) (g1 g2 : GS) : GS := fun De δ => gt δ fun c => if c = true then g1 De δ else g2 De δ
theorem ds_if (hc : DT X c gt) (h1 : DSs X sts g1) (h2 : DSs X s2 g2) : DSt X (.If c sts s2 pos) (gIfS gt g1 g2) := by
  obtain ⟨t0, p0, h0⟩ := hc
  obtain ⟨t1, p1, h1⟩ := h1
  obtain ⟨t2, p2, h2⟩ := h2
  refine ⟨_, ps_if p0 p1 p2, fun C0 H0 δ σ C H De E rp g k => h0 C0 H0 δ σ C H _ _ rp g fun c C1 H1 q e1 => ?_⟩
  cases c with
  | true => exact iteT (h1 C0 H0 δ σ C1 H1 De E (rp.grow e1) (by simpa using q) k)
  | false => exact iteF (h2 C0 H0 δ σ C1 H1 De E (rp.grow e1) (by simpa using q) k)
def gAsg (ge : GE) (gg : GG) : GS := fun De δ => ge δ fun d => gg d δ De.nx
theorem ds_asg (he : DE X e ge) (hg : DG X tg ss gg) (hp : ∀ {te : TE} {g : TG}, PE X e te → PG X tg g → PS X (.Assign [tg] e pos) (tAsg te g)) : DSt X (.Assign [tg] e pos) (gAsg ge gg) := by
  obtain ⟨t, p, h⟩ := he
  obtain ⟨t2, p2, h2⟩ := hg
  refine ⟨_, hp p p2, fun C0 H0 δ σ C H De E rp g k => h C0 H0 δ σ C H _ _ rp g fun d v C1 H1 q e1 n1 => ?_⟩
  exact h2 C0 H0 δ σ C1 H1 v d _ _ (rp.grow e1) n1 q fun δ' σ' q' rp' _ _ => k.nx δ' σ' C1 H1 rp' q'
def gAsgO (i : Nat) (gf : GF) : GS := fun De δ => gf δ fun ds => De.nx (δ.set i (.ow ds))
theorem ds_asgO {i : Nat} {x : Str} {pos' : Pos} (he : DF X e gf) (hp : ∀ {te : TE}, PE X e te → PS X (.Assign [.Name x pos'] e pos) (tAsg te (gName i))) : DSt X (.Assign [.Name x pos'] e pos) (gAsgO i gf) := by
  obtain ⟨t, p, h⟩ := he
  refine ⟨_, hp p, fun C0 H0 δ σ C H De E rp g k => h C0 H0 δ σ C H _ _ rp g fun ds p xs C1 H1 q e1 hc hn hl hd => ?_⟩
  have rp1 := rp.grow e1
  refine k.nx _ _ C1 H1 (rp1.setO (rp.ext.hh.free hn) hc (fun j es hj ho z => ?_) hl hd) q
  obtain ⟨l, ys, a, _, _, d, _⟩ := rp.ow j es ho
  rw [z] at a
  cases a
  rw [hn] at d
  cases d
def gApp (i : Nat) (ge : GE) : GS := fun De δ => match δ[i]? with
  | some (.ow ds) => ge δ fun d => ds.length < sizeLine ∧ De.nx (δ.set i (.ow (ds ++ [d])))
  | _ => False
theorem ds_app {i : Nat} {o : Expr} {nm : Str} {p2 p3 : Pos} (he : DE X e ge) (hp : ∀ {te : TE}, PE X e te → PS X (.Expr (.Call (.Attribute o nm p2) [e] [] p3) pos) (tDrop (tBM X.K "list" rAppend (tVar i) (tCons te tNil)))) : DSt X (.Expr (.Call (.Attribute o nm p2) [e] [] p3) pos) (gApp i ge) := by
  obtain ⟨t, p, h⟩ := he
  refine ⟨_, hp p, fun C0 H0 δ σ C H De E rp g k => ?_⟩
  unfold gApp at g
  split at g
  · rename_i ds eo
    obtain ⟨l, xs, a, b, c, d, f⟩ := rp.ow i ds eo
    refine ⟨.ref l, a, .inl ⟨rfl, xs, SqL.of d⟩, h C0 H0 δ σ C H _ _ rp g fun dv v C1 H1 q e1 n1 => ?_⟩
    have d1 := e1.hh _ _ d
    refine ⟨l, xs, v, rfl, rfl, d1, by rw [f.length]; exact q.1, k.nx _ σ C1 _ ((rp.grow e1).change eo a ((f.mono e1.cc).append (.cons n1 .nil))) q.2⟩
  · exact g.elim
def gExt (i : Nat) (gf : GF) : GS := fun De δ => match δ[i]? with
  | some (.ow ds) => gf δ fun es => ds.length + es.length ≤ sizeLine ∧ De.nx (δ.set i (.ow (ds ++ es)))
  | _ => False
theorem ds_ext {i : Nat} {o : Expr} {nm : Str} {p2 p3 : Pos} (he : DF X e gf) (hp : ∀ {te : TE}, PE X e te → PS X (.Expr (.Call (.Attribute o nm p2) [e] [] p3) pos) (tDrop (tBM X.K "list" rExtend (tVar i) (tCons te tNil)))) : DSt X (.Expr (.Call (.Attribute o nm p2) [e] [] p3) pos) (gExt i gf) := by
  obtain ⟨t, p, h⟩ := he
  refine ⟨_, hp p, fun C0 H0 δ σ C H De E rp g k => ?_⟩
  unfold gExt at g
  split at g
  · rename_i ds eo
    obtain ⟨l, xs, a, b, c, d, f⟩ := rp.ow i ds eo
    refine ⟨.ref l, a, .inl ⟨rfl, xs, SqL.of d⟩, h C0 H0 δ σ C H _ _ rp g fun es p ys C1 H1 q e1 hc hn hl hd => ?_⟩
    have d1 := e1.hh _ _ d
    refine ⟨l, p, xs, ys, rfl, rfl, d1, hl, by rw [f.length, hd.length]; exact q.1, k.nx _ σ C1 _ ((rp.grow e1).change eo a ((f.mono e1.cc).append hd)) q.2⟩
  · exact g.elim
theorem df_comp (ok : compOk X.env.scope scope X.N Nc fr = true) (fo : frOk fr ss = true) (hc : X.calm = true) (hi : DI X tg iter gi) (hg : ∀ Cc pins fp s3 H3, DG (cxC X scope Nc Cc pins fp s3 H3) tg ss gg)
    (he : ∀ Cc pins fp s3 H3, DE (cxC X scope Nc Cc pins fp s3 H3) elt ge) (mg : ∀ d δ (P P' : DS → Prop), (∀ l, P l → P' l) → gg d δ P → gg d δ P') (hs : ∀ x, foldedSetIterable iter X.env x = pure x := by intro _; rfl) :
    DF X (.ListComp elt [⟨tg, iter, [], 0⟩] scope pos) (gComp fr gi gg ge) := by
  obtain ⟨wi, pi, h⟩ := hi
  refine ⟨_, pe_comp (g := tDG X.K ss gg) (tt := tDT X.K gYes) (te := tDE X.K ge) ok hc pi (fun a b c d e => (hg a b c d e).can) (fun a b c d e => (difs_nil (X := cxC X scope Nc a b c d e)).can) (fun a b c d e => (he a b c d e).can) hs, fun C0 H0 δ σ C H Q R rp g k => h C0 H0 δ σ C H _ _ rp g fun its J C1 H1 q e1 wk A hA => ?_⟩
  obtain ⟨hz, f, hf, q⟩ := q
  refine turns_of (gg := gg) (gt := gYes) (ge := ge) (ss := ss) (p := fun _ => true) (f := f) (Q := Q) (fun C0 H0 δ σ C H v d Q R rp n g k => ⟨C0, H0, δ, C, d, Q, rp, n, g, k⟩) (fun C0 H0 δ σ C H Q R rp g k => ⟨C0, H0, δ, C, Q, rp, g, k⟩) (fun C0 H0 δ σ C H Q R rp g k => ⟨C0, H0, δ, C, Q, rp, g, k⟩) fo rp e1 wk hz
    (fun d hd => mg d _ _ _ (fun δ2 q2 => ⟨rfl, fun _ => q2⟩) (hf d hd)) (by rw [List.filter_eq_self.mpr (fun _ _ => rfl)]; exact q) k hA
theorem ds_compO0 {i : Nat} {x : Str} {pos' pos'' : Pos} (ok : compOk X.env.scope scope X.N Nc fr = true) (fo : frOk fr ss = true) (hc : X.calm = true) (hN : X.N.Nodup) (hi : X.N[i]? = some x) (hx : Loc X.env.scope x) (hit : DI X tg iter gi) (hg : ∀ Cc pins fp s3 H3, DG (cxC X scope Nc Cc pins fp s3 H3) tg ss gg)
    (he : ∀ Cc pins fp s3 H3, DE (cxC X scope Nc Cc pins fp s3 H3) elt ge) (mg : ∀ d δ (P P' : DS → Prop), (∀ l, P l → P' l) → gg d δ P → gg d δ P') (hsw : swapsWith (.ListComp elt [⟨tg, iter, [], 0⟩] scope pos) (some (.Name x pos')) pos''.line X.env = pure true)
    (hs : ∀ x, foldedSetIterable iter X.env x = pure x := by intro _; rfl) (hf : X.fn x = true ∨ X.env.scope.names.lookup x = some .local := by first | exact .inl rfl | exact .inr rfl | assumption) :
    DSt X (.Assign [.Name x pos'] (.ListComp elt [⟨tg, iter, [], 0⟩] scope pos) pos'') (gAsgO i (gComp fr gi gg ge)) := by
  obtain ⟨wi, pi, h⟩ := hit
  refine ⟨_, ps_comp (g := tDG X.K ss gg) (tt := tDT X.K gYes) (te := tDE X.K ge) ok hc hN hi hx pi (fun a b c d e => (hg a b c d e).can) (fun a b c d e => (difs_nil (X := cxC X scope Nc a b c d e)).can) (fun a b c d e => (he a b c d e).can) hsw hs hf, fun C0 H0 δ σ C H De E rp g k => h C0 H0 δ σ C H _ _ rp g fun its J C1 H1 q e1 wk A hA => ?_⟩
  obtain ⟨hz, f, hf, q⟩ := q
  refine turns_of (gg := gg) (gt := gYes) (ge := ge) (ss := ss) (p := fun _ => true) (f := f) (Q := fun ds => De.nx (δ.set i (.ow ds))) (fun C0 H0 δ σ C H v d Q R rp n g k => ⟨C0, H0, δ, C, d, Q, rp, n, g, k⟩) (fun C0 H0 δ σ C H Q R rp g k => ⟨C0, H0, δ, C, Q, rp, g, k⟩) (fun C0 H0 δ σ C H Q R rp g k => ⟨C0, H0, δ, C, Q, rp, g, k⟩) fo rp e1 wk hz
    (fun d hd => mg d _ _ _ (fun δ2 q2 => ⟨rfl, fun _ => q2⟩) (hf d hd)) (by rw [List.filter_eq_self.mpr (fun _ _ => rfl)]; exact q) (fun ds p xs C1 H1 q e1 hc hn hl hd => ?_) hA
  have rp1 := rp.grow e1
  refine k.nx _ _ C1 H1 (rp1.setO (rp.ext.hh.free hn) hc (fun j es hj ho z => ?_) hl hd) q
  obtain ⟨l, ys, a, _, _, d, _⟩ := rp.ow j es ho
  rw [z] at a
  cases a
  rw [hn] at d
  cases d
theorem mono_nm {i : Nat} : ∀ d δ (P P' : DS → Prop), (∀ l, P l → P' l) → gNm i d δ P → gNm i d δ P' := fun _ _ _ _ h q => h _ q
theorem mono_nm2 {i j : Nat} : ∀ d δ (P P' : DS → Prop), (∀ l, P l → P' l) → gNm2 i j d δ P → gNm2 i j d δ P' := fun d δ P P' h q => by
  unfold gNm2 at q ⊢
  split at q
  · exact h _ q
  · exact q.elim
theorem Rep.rebase {K : PySem.W.Frag} {C0 H0 δ σ C H} (R : Rep K C0 H0 δ σ C H) : Rep K C H0 δ σ C H := ⟨R.len, ⟨R.ext.hh, Same.refl _, R.ext.ch, fun _ e _ => e⟩, R.im, R.ow, R.ap, R.dc⟩
theorem Ext.unbase {C0 H0 C1 H1 C H : Hp} (e : Ext C0 H0 C1 H1) (x : Ext C1 H0 C H) : Ext C0 H0 C H := ⟨x.hh, e.cc.trans x.cc, x.ch, fun b a n => x.ow b (e.ow b a n) n⟩
theorem Rep.unbase {K : PySem.W.Frag} {C0 H0 C1 H1 δ σ C H} (e : Ext C0 H0 C1 H1) (R : Rep K C1 H0 δ σ C H) : Rep K C0 H0 δ σ C H := ⟨R.len, e.unbase R.ext, R.im, R.ow, R.ap, R.dc⟩
def gFor (gi : GF) (gg : GG) (gb : GS) : GS := fun De δ => gi δ fun its => ∃ P : Nat → DS → Prop, P 0 δ ∧ (∀ (i : Nat) d δ', its[i]? = some d → P i δ' → gg d δ' fun δ2 => gb { De with nx := P (i + 1), ct := P (i + 1), bk := De.nx } δ2) ∧ ∀ δ', P its.length δ' → De.nx δ'
theorem ds_for {gb : GS} (hc : X.calm = true) (hp : PassesOwn (model X.prog X.w) X.A X.env X.xe) (hi : DI X tg iter gi) (hg : DG X tg ss gg) (hb : DSs X sts gb) (hs : ∀ x, foldedSetIterable iter X.env x = pure x := by intro _; rfl) : DSt X (.For tg iter sts [] pos) (gFor gi gg gb) := by
  obtain ⟨wi, pi, h⟩ := hi
  obtain ⟨t2, p2, h2⟩ := hg
  obtain ⟨t3, p3, h3⟩ := hb
  refine ⟨_, ps_for hp hc pi p2 p3 hs, fun C0 H0 δ σ C H De E rp g k => h C0 H0 δ σ C H _ _ rp g fun its J C1 H1 q e1 wk => ?_⟩
  obtain ⟨P, P0, Pt, Pe⟩ := q
  have rp1 := rp.grow e1
  refine ⟨fun i m σ' H' => m = its.length - i ∧ i ≤ its.length ∧ ∃ δ' C', Rep X.K C1 H0 δ' σ' C' H' ∧ P i δ', ⟨_, rfl, Nat.zero_le _, δ, C1, rp1.rebase, P0⟩, ?_⟩
  rintro i m σ' H' ⟨rfl, hi, δ', C', rp', p⟩
  have W := wk C' H' rp'.ext.cc rp'.ch i
  by_cases hlt : i < its.length
  · have ed : its[i]? = some its[i] := by simp [hlt]
    obtain ⟨go, yl⟩ := W.1 _ ed
    refine .inr ⟨go, fun σ2 H2 => ∃ δ2 C2, Rep X.K C1 H0 δ2 σ2 C2 H2 ∧ P (i + 1) δ2, fun σ2 H2 ⟨δ2, C2, a, b⟩ => ⟨its.length - (i + 1), by omega, rfl, hlt, δ2, C2, a, b⟩, fun x H3 y => ?_⟩
    obtain ⟨C3, e3, n3⟩ := yl x H3 y
    refine h2 C1 H0 δ' σ' C3 H3 x its[i] _ _ (rp'.grow e3) n3 (Pt i _ δ' ed p) fun δ4 σ4 q4 rp4 _ _ => ?_
    refine h3 C1 H0 δ4 σ4 C3 H3 _ _ rp4 q4 ⟨fun δ5 σ5 C5 H5 a b => ⟨δ5, C5, a, b⟩, fun d v C5 H5 a b c => k.rt d v C5 H5 (rp1.ext.unbase a) b c, fun δ5 σ5 C5 H5 a b => k.nx δ5 σ5 C5 H5 (a.unbase rp1.ext) b, fun δ5 σ5 C5 H5 a b => ⟨δ5, C5, a, b⟩⟩
  · have e : i = its.length := by omega
    subst e
    exact .inl ⟨W.2 (Nat.le_refl _), k.nx δ' σ' C' H' (rp'.unbase rp1.ext) (Pe δ' p)⟩
def gWhile (gt : GT) (gb : GS) : GS := fun De δ => ∃ P : Nat → DS → Prop, (∃ n, P n δ) ∧ ∀ n δ', P n δ' → gt δ' fun c => if c = true then gb { De with nx := fun δ2 => ∃ m, m < n ∧ P m δ2, ct := fun δ2 => ∃ m, m < n ∧ P m δ2, bk := De.nx } δ' else De.nx δ'
theorem ds_while {gb : GS} (hp : PassesOwn (model X.prog X.w) X.A X.env X.xe) (hc : DT X c gt) (hb : DSs X sts gb) : DSt X (.While c sts [] pos) (gWhile gt gb) := by
  obtain ⟨t0, p0, h0⟩ := hc
  obtain ⟨t1, p1, h1⟩ := hb
  refine ⟨_, ps_while hp p0 p1, fun C0 H0 δ σ C H De E rp g k => ?_⟩
  obtain ⟨P, ⟨n0, P0⟩, Pt⟩ := g
  refine ⟨fun n σ' H' => ∃ δ' C', Rep X.K C0 H0 δ' σ' C' H' ∧ P n δ', ⟨n0, δ, C, rp, P0⟩, ?_⟩
  rintro n σ' H' ⟨δ', C', rp', p⟩
  refine h0 C0 H0 δ' σ' C' H' _ _ rp' (Pt n δ' p) fun c C2 H2 q2 e2 => ?_
  have rp2 := rp'.grow e2
  cases c with
  | true =>
    refine ⟨fun σ3 H3 => ∃ m, m < n ∧ ∃ δ3 C3, Rep X.K C0 H0 δ3 σ3 C3 H3 ∧ P m δ3, fun σ3 H3 z => z, ?_⟩
    have q2' : gb { De with nx := fun δ2 => ∃ m, m < n ∧ P m δ2, ct := fun δ2 => ∃ m, m < n ∧ P m δ2, bk := De.nx } δ' := by simpa using q2
    refine h1 C0 H0 δ' σ' C2 H2 _ _ rp2 q2' ⟨fun δ5 σ5 C5 H5 a ⟨m, b1, b2⟩ => ⟨m, b1, δ5, C5, a, b2⟩, k.rt, k.nx, fun δ5 σ5 C5 H5 a ⟨m, b1, b2⟩ => ⟨m, b1, δ5, C5, a, b2⟩⟩
  | false => exact k.nx δ' σ' C2 H2 rp2 (by simpa using q2)
end
def dstart (N : List Str) (ds : List D) : DS := ds.map Sl.im ++ List.replicate (N.length - ds.length) .un
theorem rep_start {K : PySem.W.Frag} {C H : Hp} {N : List Str} {vs : List V} {ds : List D} (ch : Same C H) (h : Dens K C vs ds) : Rep K C H (dstart N ds) (start N vs) C H := by
  have no : ∀ (i : Nat) es, (dstart N ds)[i]? ≠ some (.ow es) := fun i es e => by
    have := List.mem_of_getElem? e
    unfold dstart at this
    rcases List.mem_append.mp this with z | z
    · obtain ⟨d, _, q⟩ := List.mem_map.mp z
      cases q
    · have := List.eq_of_mem_replicate z
      cases this
  refine ⟨?_, Ext.refl ch, fun i d e => ?_, fun i es e => absurd e (no i es), fun i j es fs l _ e _ => absurd e (no i es), Dcs.none fun i x e => ?_⟩
  rotate_right
  · have := List.mem_of_getElem? e
    unfold dstart at this
    rcases List.mem_append.mp this with z | z
    · obtain ⟨d, _, q⟩ := List.mem_map.mp z
      rw [← q]
      rfl
    · rw [List.eq_of_mem_replicate z]
      rfl
  · unfold start dstart
    simp [h.length]
  · unfold dstart at e
    unfold start
    by_cases hi : i < ds.length
    · rw [List.getElem?_append_left (by simpa using hi), List.getElem?_map] at e
      cases e2 : ds[i]? with
      | none => rw [e2] at e; cases e
      | some d' =>
        rw [e2] at e
        cases e
        obtain ⟨v, ev, nv⟩ := h.get e2
        refine ⟨v, ?_, nv⟩
        rw [List.getElem?_append_left (by rw [List.length_map, h.length]; exact hi), List.getElem?_map, ev]
        rfl
    · rw [List.getElem?_append_right (by simpa using hi), List.getElem?_replicate] at e
      split at e <;> cases e
theorem fnD {P : Program} {w : World} {K : PySem.W.Frag} {mg : Str → Option Value} {base : Heap} {x qual : Str} {st : Stmt} {f : Addr} {fd : FuncData} {N ps : List Str} {k : Nat} {F : List D → Option D} {g : GS} (Fn : Fun K x qual st f fd) (S : FnScope N ps (defScope st))
    (hl : ∀ ds d, F ds = some d → ds.length = ps.length)
    (hb : ∀ (cdv : Value) (A : Around) (outer : List Env) (s : Shared) (H : Hp) (E : XK), Room k (A.deeper (envOfC qual (defScope st) s.heap.objs.size f cdv)) → DSs (cxOf CX0 P w K mg base N qual (defScope st) f cdv A outer s H E).nox (defBody st) g)
    (hv : ∀ ds d, F ds = some d → g { nx := fun _ => d = .non, rt := fun r => r = d } (dstart N ds)) (hm : mg x = some (.ref f)) (bi : Binds K fd ps []) : DFn P w K mg base (k + 1) x F := by
  refine ⟨f, fd, ps, Fn.ok S (fun vs H Q E h => ?_) (fun cdv A outer s H vs Q E hr h => ?_), hm, Fn.kp, bi⟩
  · obtain ⟨C, ds, d, _, n, e, _⟩ := h
    rw [n.length]
    exact hl ds d e
  · obtain ⟨C, ds, d, ch, n, e, q⟩ := h
    obtain ⟨t, p, h⟩ := hb cdv A outer s H E hr
    refine ⟨t, p, h C H (dstart N ds) (start N vs) C H _ _ (rep_start ch n) (hv ds d e) ⟨fun δ σ C' H' rp z => ?_, fun r v C' H' ex nv z => ?_, fun _ _ _ _ _ z => z.elim, fun _ _ _ _ _ z => z.elim⟩⟩
    · subst z
      exact q _ C' H' rp.ext (den_non.mpr rfl)
    · subst z
      exact q v C' H' ex nv
end L2
namespace L2
open PySem PySem.Spec PyProof.Rows
section
variable {X : Cx}
variable {a b c e : Expr} {es : List Expr} {pos : Pos} {ga gb : GE}
def gCatL (ga gb : GE) : GF := fun δ Q => ga δ fun x => gb δ fun y => match x, y with
  | .lst xs, .lst ys => xs.length + ys.length ≤ sizeLine ∧ Q (xs ++ ys)
  | _, _ => False
end
mutual
def eqD : D → D → Option Bool
  | .int i, .int j => some (i == j)
  | .bl i, .bl j => some (i == j)
  | .str i, .str j => some (i == j)
  | .non, .non => some true
  | .tup xs, .tup ys => (eqDs xs ys).map fun b => b && xs.length == ys.length
  | .lst xs, .lst ys => if xs.length = ys.length then eqDs xs ys else some false
  | _, _ => none
def eqDs : List D → List D → Option Bool
  | x :: xs, y :: ys => match eqD x y, eqDs xs ys with
    | some a, some b => some (a && b)
    | _, _ => none
  | _, _ => some true
end
mutual
def dep : D → Nat
  | .tup ds => deps ds + 1
  | .lst ds => deps ds + 1
  | _ => 0
def deps : List D → Nat
  | [] => 0
  | d :: ds => max (dep d) (deps ds)
end
mutual
theorem eqD_self : ∀ d : D, eqD d d = some true
  | .int i => by simp [eqD]
  | .bl i => by simp [eqD]
  | .str i => by simp [eqD]
  | .non => by simp [eqD]
  | .tup ds => by simp [eqD, eqDs_self ds]
  | .lst ds => by simp [eqD, eqDs_self ds]
theorem eqDs_self : ∀ ds : List D, eqDs ds ds = some true
  | [] => by simp [eqDs]
  | d :: ds => by simp [eqDs, eqD_self d, eqDs_self ds]
end
theorem eqDs_at : ∀ {xs ys : List D} {r : Bool}, eqDs xs ys = some r → ∃ f : Nat → Bool, (∀ (j : Nat) x y, xs[j]? = some x → ys[j]? = some y → eqD x y = some (f j)) ∧ r = (List.range (min xs.length ys.length)).all f
  | [], ys, r, h => by
    refine ⟨fun _ => true, fun j x y e => by simp at e, ?_⟩
    have : r = true := by simpa [eqDs] using h.symm
    simp [this]
  | x :: xs, [], r, h => by
    refine ⟨fun _ => true, fun j x y _ e => by simp at e, ?_⟩
    have : r = true := by simpa [eqDs] using h.symm
    simp [this]
  | x :: xs, y :: ys, r, h => by
    rw [eqDs] at h
    cases e1 : eqD x y with
    | none => rw [e1] at h; cases h
    | some a =>
      cases e2 : eqDs xs ys with
      | none => rw [e1, e2] at h; cases h
      | some b =>
        rw [e1, e2] at h
        obtain ⟨f, hf, hb⟩ := eqDs_at e2
        refine ⟨fun j => match j with
          | 0 => a
          | j + 1 => f j, fun j x' y' h1 h2 => ?_, ?_⟩
        · cases j with
          | zero => cases h1; cases h2; exact e1
          | succ j => exact hf j x' y' h1 h2
        · have : r = (a && b) := (Option.some.inj h).symm
          rw [this, hb, List.length_cons, List.length_cons, Nat.succ_min_succ, List.range_succ_eq_map, List.all_cons, List.all_map]
          rfl
theorem deps_at : ∀ {xs : List D} {j : Nat} {x : D}, xs[j]? = some x → dep x ≤ deps xs
  | [], j, x, h => by simp at h
  | y :: ys, 0, x, h => by
    cases h
    rw [deps]
    exact Nat.le_max_left _ _
  | y :: ys, j + 1, x, h => by
    rw [deps]
    exact Nat.le_trans (deps_at (xs := ys) (j := j) h) (Nat.le_max_right _ _)
section
variable {X : Cx} {pins : List (Addr × Obj)} {σ : St} {H C : Hp} {s : Shared}
mutual
theorem den_inj (I : Inv X pins σ H s) (ch : Same C H) : ∀ {v : V} (d e : D), Den X.K C v d → Den X.K C v e → d = e
  | v, .int i, e, h, h' => by
    have z := den_int.mp h
    subst z
    cases e with
    | int j => have z := den_int.mp h'; cases z; rfl
    | bl j => have z := den_bl.mp h'; cases z
    | non => have z := den_non.mp h'; cases z
    | str j => have z := den_str.mp h'; cases z
    | tup j => obtain ⟨_, _, z, _⟩ := den_tup.mp h'; cases z
    | lst j => obtain ⟨_, _, z, _⟩ := den_lst.mp h'; cases z
  | v, .bl i, e, h, h' => by
    have z := den_bl.mp h
    subst z
    cases e with
    | int j => have z := den_int.mp h'; cases z
    | bl j => have z := den_bl.mp h'; cases z; rfl
    | non => have z := den_non.mp h'; cases z
    | str j => have z := den_str.mp h'; cases z
    | tup j => obtain ⟨_, _, z, _⟩ := den_tup.mp h'; cases z
    | lst j => obtain ⟨_, _, z, _⟩ := den_lst.mp h'; cases z
  | v, .non, e, h, h' => by
    have z := den_non.mp h
    subst z
    cases e with
    | int j => have z := den_int.mp h'; cases z
    | bl j => have z := den_bl.mp h'; cases z
    | non => rfl
    | str j => have z := den_str.mp h'; cases z
    | tup j => obtain ⟨_, _, z, _⟩ := den_tup.mp h'; cases z
    | lst j => obtain ⟨_, _, z, _⟩ := den_lst.mp h'; cases z
  | v, .str i, e, h, h' => by
    have z := den_str.mp h
    subst z
    cases e with
    | int j => have z := den_int.mp h'; cases z
    | bl j => have z := den_bl.mp h'; cases z
    | non => have z := den_non.mp h'; cases z
    | str j => have z := den_str.mp h'; cases z; rfl
    | tup j => obtain ⟨_, _, z, _⟩ := den_tup.mp h'; cases z
    | lst j => obtain ⟨_, _, z, _⟩ := den_lst.mp h'; cases z
  | v, .tup ds, e, h, h' => by
    obtain ⟨a, xs, rfl, hx, hd⟩ := den_tup.mp h
    cases e with
    | int j => have z := den_int.mp h'; cases z
    | bl j => have z := den_bl.mp h'; cases z
    | non => have z := den_non.mp h'; cases z
    | str j => have z := den_str.mp h'; cases z
    | tup es =>
      obtain ⟨a', ys, z, hy, he⟩ := den_tup.mp h'
      cases z
      have q := I.tuple_inj (ch.seqT hx) (ch.seqT hy)
      subst q
      rw [dens_inj I ch ds es hd he]
    | lst es =>
      obtain ⟨a', ys, z, hy, he⟩ := den_lst.mp h'
      cases z
      obtain ⟨its, _, ⟨o, h1, h2, _⟩, _⟩ := I.tuple (ch.seqT hx)
      obtain ⟨its2, _, pl, _⟩ := I.list (ch.seq hy)
      obtain ⟨o2, h3, h4, _⟩ := pl.isList
      rw [h1] at h3
      cases h3
      rw [h2] at h4
      exact absurd h4 (by decide)
  | v, .lst ds, e, h, h' => by
    obtain ⟨a, xs, rfl, hx, hd⟩ := den_lst.mp h
    cases e with
    | int j => have z := den_int.mp h'; cases z
    | bl j => have z := den_bl.mp h'; cases z
    | non => have z := den_non.mp h'; cases z
    | str j => have z := den_str.mp h'; cases z
    | lst es =>
      obtain ⟨a', ys, z, hy, he⟩ := den_lst.mp h'
      cases z
      have q := I.list_inj (ch.seq hx) (ch.seq hy)
      subst q
      rw [dens_inj I ch ds es hd he]
    | tup es =>
      obtain ⟨a', ys, z, hy, he⟩ := den_tup.mp h'
      cases z
      obtain ⟨its, _, ⟨o, h1, h2, _⟩, _⟩ := I.tuple (ch.seqT hy)
      obtain ⟨its2, _, pl, _⟩ := I.list (ch.seq hx)
      obtain ⟨o2, h3, h4, _⟩ := pl.isList
      rw [h1] at h3
      cases h3
      rw [h2] at h4
      exact absurd h4 (by decide)
theorem dens_inj (I : Inv X pins σ H s) (ch : Same C H) : ∀ {vs : List V} (ds es : List D), Dens X.K C vs ds → Dens X.K C vs es → ds = es
  | vs, [], es, h, h' => by
    have z := dens_nil.mp h
    subst z
    cases es with
    | nil => rfl
    | cons e es => obtain ⟨_, _, z, _⟩ := dens_cons.mp h'; cases z
  | vs, d :: ds, es, h, h' => by
    obtain ⟨x, xs, rfl, n, t⟩ := dens_cons.mp h
    cases es with
    | nil => have z := dens_nil.mp h'; cases z
    | cons e es =>
      obtain ⟨_, _, z, n', t'⟩ := dens_cons.mp h'
      cases z
      rw [den_inj I ch d e n n', dens_inj I ch ds es t t']
end
theorem vals_at {xs : List V} {its : List Value} (r : Vals xs its) {j : Nat} (h : j < its.toArray.size) : ∃ x, xs[j]? = some x ∧ RelV x its.toArray[j] := by
  have h' : j < its.length := by simpa using h
  have hx : j < xs.length := by rw [r.length]; exact h'
  have e : xs[j]? = some xs[j] := by simp [hx]
  obtain ⟨u, e1, e2⟩ := r.get e
  refine ⟨xs[j], e, ?_⟩
  have : u = its.toArray[j] := by
    have e3 : its[j]? = some its[j] := by simp [h']
    rw [e3] at e1
    cases e1
    simp
  rw [← this]
  exact e2
theorem eqAt_D (I : Inv X pins σ H s) (ch : Same C H) : ∀ (n : Nat) (d e : D) (r : Bool) (A : Around) (x y : V) (u v : Value), dep d ≤ n → A.units + n < cLine → eqD d e = some r → RelV x u → RelV y v → Den X.K C x d → Den X.K C y e → SeqAt.EqAt A s u v r := by
  intro n
  induction n with
  | zero =>
    intro d e r A x y u v hn hu he rx ry nx ny
    cases d with
    | int i =>
      cases e with
      | int j =>
        rw [eqD] at he
        cases he
        have z := den_int.mp nx
        have z2 := den_int.mp ny
        subst z z2
        obtain ⟨t, rfl⟩ := rx
        obtain ⟨t', rfl⟩ := ry
        exact SeqAt.EqAt.int_int i t j t'
      | _ => cases he
    | bl i =>
      cases e with
      | bl j =>
        rw [eqD] at he
        cases he
        have z := den_bl.mp nx
        have z2 := den_bl.mp ny
        subst z z2
        cases rx
        cases ry
        exact SeqAt.EqAt.bool_bool i j
      | _ => cases he
    | str i =>
      cases e with
      | str j =>
        rw [eqD] at he
        cases he
        have z := den_str.mp nx
        have z2 := den_str.mp ny
        subst z z2
        obtain ⟨t, rfl⟩ := rx
        obtain ⟨t', rfl⟩ := ry
        exact SeqAt.EqAt.str_str i t j t'
      | _ => cases he
    | non =>
      cases e with
      | non =>
        rw [eqD] at he
        cases he
        have z := den_non.mp nx
        have z2 := den_non.mp ny
        subst z z2
        cases rx
        cases ry
        exact SeqAt.EqAt.same _
      | _ => cases he
    | tup ds => rw [dep] at hn; omega
    | lst ds => rw [dep] at hn; omega
  | succ n ih =>
    intro d e r A x y u v hn hu he rx ry nx ny
    cases d with
    | tup ds =>
      cases e with
      | tup es =>
        obtain ⟨a, xs, rfl, hx, hd⟩ := den_tup.mp nx
        obtain ⟨b, ys, rfl, hy, hee⟩ := den_tup.mp ny
        cases rx
        cases ry
        by_cases hab : a = b
        · subst hab
          have q := den_inj I ch _ _ nx ny
          rw [← q, eqD_self] at he
          cases he
          exact SeqAt.EqAt.same _
        · refine SeqAt.EqAt.of_refs hab ?_
          rw [eqD] at he
          cases e1 : eqDs ds es with
          | none => rw [e1] at he; cases he
          | some r0 =>
            rw [e1] at he
            obtain ⟨f, hf, hr⟩ := eqDs_at e1
            obtain ⟨its, r1, t1, _⟩ := I.tuple (ch.seqT hx)
            obtain ⟨its2, r2, t2, _⟩ := I.tuple (ch.seqT hy)
            have l1 : its.toArray.size = ds.length := by rw [List.size_toArray, ← r1.length, hd.length]
            have l2 : its2.toArray.size = es.length := by rw [List.size_toArray, ← r2.length, hee.length]
            have q := SeqAt.RcAt.tuples (A := A) (e := f) t1 t2 (by omega) fun j h1 h2 => by
              obtain ⟨x', ex, rx'⟩ := vals_at r1 h1
              obtain ⟨y', ey, ry'⟩ := vals_at r2 h2
              have hj1 : j < ds.length := by omega
              have hj2 : j < es.length := by omega
              have ed : ds[j]? = some ds[j] := by simp [hj1]
              have ee : es[j]? = some es[j] := by simp [hj2]
              obtain ⟨x2, ex2, nx2⟩ := hd.get ed
              obtain ⟨y2, ey2, ny2⟩ := hee.get ee
              rw [ex] at ex2
              cases ex2
              rw [ey] at ey2
              cases ey2
              refine ih ds[j] es[j] (f j) A.in1 x' y' _ _ ?_ (by show A.units + 1 + n < cLine; omega) (hf j _ _ ed ee) rx' ry' nx2 ny2
              have := deps_at ed
              rw [dep] at hn
              omega
            rw [l1, l2] at q
            have er : r = ((List.range (min ds.length es.length)).all f && ds.length == es.length) := by
              rw [← hr]
              exact (Option.some.inj he).symm
            rw [er]
            exact q
      | _ => cases he
    | lst ds =>
      cases e with
      | lst es =>
        obtain ⟨a, xs, rfl, hx, hd⟩ := den_lst.mp nx
        obtain ⟨b, ys, rfl, hy, hee⟩ := den_lst.mp ny
        cases rx
        cases ry
        by_cases hab : a = b
        · subst hab
          have q := den_inj I ch _ _ nx ny
          rw [← q, eqD_self] at he
          cases he
          exact SeqAt.EqAt.same _
        · refine SeqAt.EqAt.of_refs hab ?_
          rw [eqD] at he
          obtain ⟨its, r1, p1, _⟩ := I.list (ch.seq hx)
          obtain ⟨its2, r2, p2, _⟩ := I.list (ch.seq hy)
          have l1 : its.toArray.size = ds.length := by rw [List.size_toArray, ← r1.length, hd.length]
          have l2 : its2.toArray.size = es.length := by rw [List.size_toArray, ← r2.length, hee.length]
          by_cases hlen : ds.length = es.length
          · rw [if_pos hlen] at he
            obtain ⟨f, hf, hr⟩ := eqDs_at he
            have q := SeqAt.RcAt.lists (A := A) (e := f) p1.isList p2.isList (by rw [l1, l2]; exact hlen) (by omega) fun j h1 h2 => by
              obtain ⟨x', ex, rx'⟩ := vals_at r1 h1
              obtain ⟨y', ey, ry'⟩ := vals_at r2 h2
              have hj1 : j < ds.length := by omega
              have hj2 : j < es.length := by omega
              have ed : ds[j]? = some ds[j] := by simp [hj1]
              have ee : es[j]? = some es[j] := by simp [hj2]
              obtain ⟨x2, ex2, nx2⟩ := hd.get ed
              obtain ⟨y2, ey2, ny2⟩ := hee.get ee
              rw [ex] at ex2
              cases ex2
              rw [ey] at ey2
              cases ey2
              refine ih ds[j] es[j] (f j) A.in1 x' y' _ _ ?_ (by show A.units + 1 + n < cLine; omega) (hf j _ _ ed ee) rx' ry' nx2 ny2
              have := deps_at ed
              rw [dep] at hn
              omega
            rw [l1] at q
            rw [hr, ← hlen, Nat.min_self]
            exact q
          · rw [if_neg hlen] at he
            cases he
            exact SeqAt.RcAt.lists_lengths p1.isList p2.isList (by rw [l1, l2]; simpa using hlen) (by omega)
      | _ => cases he
    | int i => exact ih (.int i) e r A x y u v (by simp [dep]) (by omega) he rx ry nx ny
    | bl i => exact ih (.bl i) e r A x y u v (by simp [dep]) (by omega) he rx ry nx ny
    | non => exact ih .non e r A x y u v (by simp [dep]) (by omega) he rx ry nx ny
    | str i => exact ih (.str i) e r A x y u v (by simp [dep]) (by omega) he rx ry nx ny
theorem rcAt_D (I : Inv X pins σ H s) (ch : Same C H) (n : Nat) (d e : D) (r : Bool) (A : Around) (x y : V) (u v : Value) (hn : dep d ≤ n) (hu : A.units + n < cLine) (he : eqD d e = some r) (rx : RelV x u) (ry : RelV y v) (nx : Den X.K C x d) (ny : Den X.K C y e) :
    SeqAt.RcAt A s u v r ∧ SeqAt.RcNeAt A s u v (!r) := by
  cases d with
  | int i =>
    cases e with
    | int j =>
      rw [eqD] at he
      cases he
      have z := den_int.mp nx
      have z2 := den_int.mp ny
      subst z z2
      obtain ⟨t, rfl⟩ := rx
      obtain ⟨t', rfl⟩ := ry
      exact ⟨SeqAt.RcAt.int_int i t j t', SeqAt.RcNeAt.int_int i t j t'⟩
    | _ => cases he
  | bl i =>
    cases e with
    | bl j =>
      rw [eqD] at he
      cases he
      have z := den_bl.mp nx
      have z2 := den_bl.mp ny
      subst z z2
      cases rx
      cases ry
      exact ⟨SeqAt.RcAt.bool_bool i j, SeqAt.RcNeAt.bool_bool i j⟩
    | _ => cases he
  | str i =>
    cases e with
    | str j =>
      rw [eqD] at he
      cases he
      have z := den_str.mp nx
      have z2 := den_str.mp ny
      subst z z2
      obtain ⟨t, rfl⟩ := rx
      obtain ⟨t', rfl⟩ := ry
      exact ⟨SeqAt.RcAt.str_str i t j t', SeqAt.RcNeAt.str_str i t j t'⟩
    | _ => cases he
  | non =>
    cases e with
    | non =>
      rw [eqD] at he
      cases he
      have z := den_non.mp nx
      have z2 := den_non.mp ny
      subst z z2
      cases rx
      cases ry
      exact ⟨SeqAt.RcAt.none_none, SeqAt.RcNeAt.none_none⟩
    | _ => cases he
  | tup ds =>
    cases e with
    | tup es =>
      obtain ⟨a, xs, rfl, hx, hd⟩ := den_tup.mp nx
      obtain ⟨b, ys, rfl, hy, hee⟩ := den_tup.mp ny
      cases rx
      cases ry
      rw [eqD] at he
      cases e1 : eqDs ds es with
      | none => rw [e1] at he; cases he
      | some r0 =>
        rw [e1] at he
        obtain ⟨f, hf, hr⟩ := eqDs_at e1
        obtain ⟨its, r1, t1, _⟩ := I.tuple (ch.seqT hx)
        obtain ⟨its2, r2, t2, _⟩ := I.tuple (ch.seqT hy)
        have l1 : its.toArray.size = ds.length := by rw [List.size_toArray, ← r1.length, hd.length]
        have l2 : its2.toArray.size = es.length := by rw [List.size_toArray, ← r2.length, hee.length]
        rw [dep] at hn
        have hin : ∀ j (h1 : j < its.toArray.size) (h2 : j < its2.toArray.size), SeqAt.EqAt A.in1 s its.toArray[j] its2.toArray[j] (f j) := fun j h1 h2 => by
          obtain ⟨x', ex, rx'⟩ := vals_at r1 h1
          obtain ⟨y', ey, ry'⟩ := vals_at r2 h2
          have hj1 : j < ds.length := by omega
          have hj2 : j < es.length := by omega
          have ed : ds[j]? = some ds[j] := by simp [hj1]
          have ee : es[j]? = some es[j] := by simp [hj2]
          obtain ⟨x2, ex2, nx2⟩ := hd.get ed
          obtain ⟨y2, ey2, ny2⟩ := hee.get ee
          rw [ex] at ex2
          cases ex2
          rw [ey] at ey2
          cases ey2
          have := deps_at ed
          exact eqAt_D I ch (n - 1) ds[j] es[j] (f j) A.in1 x' y' _ _ (by omega) (by show A.units + 1 + (n - 1) < cLine; omega) (hf j _ _ ed ee) rx' ry' nx2 ny2
        have q := SeqAt.RcAt.tuples (A := A) (e := f) t1 t2 (by omega) hin
        have q' := SeqAt.RcNeAt.tuples (A := A) (e := f) t1 t2 (by omega) hin
        rw [l1, l2] at q q'
        have er : r = ((List.range (min ds.length es.length)).all f && ds.length == es.length) := by
          rw [← hr]
          exact (Option.some.inj he).symm
        rw [er]
        exact ⟨q, q'⟩
    | _ => cases he
  | lst ds =>
    cases e with
    | lst es =>
      obtain ⟨a, xs, rfl, hx, hd⟩ := den_lst.mp nx
      obtain ⟨b, ys, rfl, hy, hee⟩ := den_lst.mp ny
      cases rx
      cases ry
      rw [eqD] at he
      obtain ⟨its, r1, p1, _⟩ := I.list (ch.seq hx)
      obtain ⟨its2, r2, p2, _⟩ := I.list (ch.seq hy)
      have l1 : its.toArray.size = ds.length := by rw [List.size_toArray, ← r1.length, hd.length]
      have l2 : its2.toArray.size = es.length := by rw [List.size_toArray, ← r2.length, hee.length]
      rw [dep] at hn
      by_cases hlen : ds.length = es.length
      · rw [if_pos hlen] at he
        obtain ⟨f, hf, hr⟩ := eqDs_at he
        have hin : ∀ j (h1 : j < its.toArray.size) (h2 : j < its2.toArray.size), SeqAt.EqAt A.in1 s its.toArray[j] its2.toArray[j] (f j) := fun j h1 h2 => by
          obtain ⟨x', ex, rx'⟩ := vals_at r1 h1
          obtain ⟨y', ey, ry'⟩ := vals_at r2 h2
          have hj1 : j < ds.length := by omega
          have hj2 : j < es.length := by omega
          have ed : ds[j]? = some ds[j] := by simp [hj1]
          have ee : es[j]? = some es[j] := by simp [hj2]
          obtain ⟨x2, ex2, nx2⟩ := hd.get ed
          obtain ⟨y2, ey2, ny2⟩ := hee.get ee
          rw [ex] at ex2
          cases ex2
          rw [ey] at ey2
          cases ey2
          have := deps_at ed
          exact eqAt_D I ch (n - 1) ds[j] es[j] (f j) A.in1 x' y' _ _ (by omega) (by show A.units + 1 + (n - 1) < cLine; omega) (hf j _ _ ed ee) rx' ry' nx2 ny2
        have q := SeqAt.RcAt.lists (A := A) (e := f) p1.isList p2.isList (by rw [l1, l2]; exact hlen) (by omega) hin
        have q' := SeqAt.RcNeAt.lists (A := A) (e := f) p1.isList p2.isList (by rw [l1, l2]; exact hlen) (by omega) hin
        rw [l1] at q q'
        rw [hr, ← hlen, Nat.min_self]
        exact ⟨q, q'⟩
      · rw [if_neg hlen] at he
        cases he
        exact ⟨SeqAt.RcAt.lists_lengths p1.isList p2.isList (by rw [l1, l2]; simpa using hlen) (by omega), SeqAt.RcNeAt.lists_lengths p1.isList p2.isList (by rw [l1, l2]; simpa using hlen) (by omega)⟩
    | _ => cases he
end
section
variable {X : Cx}
def oEq : GO := fun x y Q => dep x ≤ 32 ∧ match eqD x y with
  | some b => Q (.bl b)
  | none => False
def oNe : GO := fun x y Q => dep x ≤ 32 ∧ match eqD x y with
  | some b => Q (.bl (!b))
  | none => False
def rEqD (K : PySem.W.Frag) (neg : Bool) : R2 := fun x y H R => ∃ C d e b, Same C H ∧ Den K C x d ∧ Den K C y e ∧ eqD d e = some b ∧ dep d ≤ 32 ∧ R (.bl (if neg then !b else b)) H
theorem do_eq (hu : X.A.units + 64 < cLine) : DOp X (compareOp .Eq) oEq := by
  refine ⟨rEqD X.K false, fun pins s σ H x y v u Q I rx ry h => ?_, fun x y dx dy C H Q R ch n1 n2 q k => ?_⟩
  · obtain ⟨C, d, e, b, ch, nx, ny, he, hd, q⟩ := h
    exact (rcAt_D I ch 32 d e b X.A x y v u hd (by omega) he rx ry nx ny).1 _ _ _ _ ⟨.bl b, H, I, rfl, q⟩
  · obtain ⟨hd, q⟩ := q
    cases z : eqD dx dy with
    | none => rw [z] at q; exact q.elim
    | some b => rw [z] at q; exact ⟨C, dx, dy, b, ch, n1, n2, z, hd, k _ _ C H q (Ext.refl ch) (den_bl.mpr rfl)⟩
theorem do_ne (hu : X.A.units + 64 < cLine) : DOp X (compareOp .NotEq) oNe := by
  refine ⟨rEqD X.K true, fun pins s σ H x y v u Q I rx ry h => ?_, fun x y dx dy C H Q R ch n1 n2 q k => ?_⟩
  · obtain ⟨C, d, e, b, ch, nx, ny, he, hd, q⟩ := h
    exact (rcAt_D I ch 32 d e b X.A x y v u hd (by omega) he rx ry nx ny).2 _ _ _ _ ⟨.bl (!b), H, I, rfl, q⟩
  · obtain ⟨hd, q⟩ := q
    cases z : eqD dx dy with
    | none => rw [z] at q; exact q.elim
    | some b => rw [z] at q; exact ⟨C, dx, dy, b, ch, n1, n2, z, hd, k _ _ C H q (Ext.refl ch) (den_bl.mpr rfl)⟩
theorem ints_vals : ∀ {us : List Value} {ns : List Int}, IntsAre us ns → Vals (ns.map V.int) us
  | _, _, .nil => .nil
  | _, _, .cons _ t h => .cons ⟨_, rfl⟩ (ints_vals h)
theorem call_sorted : CallR X (.builtin "sorted") (fun xs H Q => ∃ (p : Addr) (ns : List Int), xs = [.ref p] ∧ SqL X.K H p (ns.map V.int) ∧ ns.length < 64 ∧ ∀ ms : List Int, ms.Perm ns → ms.Pairwise (· ≤ ·) → ∀ l, H l = none → Q (.ref l) (upd H l (.lst (ms.map V.int)))) := by
  intro pins s σ H xs us Q I r h
  obtain ⟨p, ns, rfl, hq, h64, q⟩ := h
  obtain ⟨u, rfl, rx⟩ := vals1 r
  cases rx
  obtain ⟨its, r', pl, hz⟩ := I.list hq
  have hlen := r'.length
  rw [List.length_map] at hlen
  refine sorted_ints pl.isList (intsAre_of r') (by omega) fun out ms a1 a2 a3 => ?_
  obtain ⟨e, he⟩ := sortedAll_at s.heap its out
  have fr : H (s.heap.objs.size + 1) = none := I.hok.fresh (Nat.le_succ _)
  have hl2 : (ms.map V.int).length ≤ sizeLine := by
    rw [List.length_map, a2.length_eq]
    have : (64 : Nat) ≤ sizeLine := by decide
    omega
  refine ⟨.ref (s.heap.objs.size + 1), _, I.laid (t' := s.toks) (o := .lst (ms.map V.int)) (fun b ob z => sortedAll_old z) (Nat.le_succ _) ⟨hl2, out.toList, e, ints_vals a1, ?_⟩, rfl, q ms a2 a3 _ fr⟩
  rw [he]
def intsD : List D → Option (List Int)
  | [] => some []
  | .int b :: r => (intsD r).map (b :: ·)
  | _ :: _ => none
theorem ints_eq : ∀ {ds : List D} {bs : List Int}, intsD ds = some bs → ds = bs.map D.int
  | [], bs, h => by cases h; rfl
  | .int b :: r, bs, h => by
    unfold intsD at h
    cases e : intsD r with
    | none => rw [e] at h; cases h
    | some cs => rw [e] at h; cases h; rw [List.map_cons, ← ints_eq e]
  | .bl _ :: _, _, h => by cases h
  | .non :: _, _, h => by cases h
  | .str _ :: _, _, h => by cases h
  | .tup _ :: _, _, h => by cases h
  | .lst _ :: _, _, h => by cases h
theorem ints_map (bs : List Int) : intsD (bs.map D.int) = some bs := by
  induction bs with
  | nil => rfl
  | cons b bs ih => rw [List.map_cons, intsD, ih]; rfl
theorem dens_ints {K : PySem.W.Frag} {C : Hp} (ns : List Int) : Dens K C (ns.map V.int) (ns.map D.int) := by
  induction ns with
  | nil => exact .nil
  | cons n ns ih => exact .cons (den_int.mpr rfl) ih
def cSorted : List D → (List D → Prop) → Prop := fun ds Q => match ds with
  | [.lst xs] => match intsD xs with
    | some ns => ns.length < 64 ∧ ∀ ms : List Int, ms.Perm ns → ms.Pairwise (· ≤ ·) → Q (ms.map D.int)
    | none => False
  | _ => False
theorem dc_sorted : DCallF X (.builtin "sorted") cSorted := by
  refine ⟨_, call_sorted, fun xs ds C H Q R ch n q k => ?_⟩
  unfold cSorted at q
  split at q
  · split at q
    · rename_i ns e
      obtain ⟨v, rfl, n1⟩ := dens_one n
      obtain ⟨p, ys, rfl, hy, hd⟩ := den_lst.mp n1
      rw [ints_eq e] at hd
      rw [hd.ints] at hy
      exact ⟨p, ns, rfl, ch.seq hy, q.1, fun ms a b l hl => k _ l _ C _ (q.2 ms a b) (Ext.newO ch hl) (ch.free hl) hl upd_same (dens_ints ms)⟩
    · exact q.elim
  · exact q.elim
end
end L2
namespace L2
open PySem PySem.Spec PyProof.Rows
def At (h : Heap) (it src : Addr) (k : Nat) (xs : Array Value) : Prop := (h.IsListIter it src k ∧ h.IsList src xs) ∨ (h.IsTupleIter it src k ∧ h.IsTuple src xs)
theorem At.kept {h h' : Heap} {it src : Addr} {k : Nat} {xs : Array Value} (a : At h it src k xs) (h1 : ∀ o, h.get? it = some o → h'.get? it = some o) (h2 : ∀ o, h.get? src = some o → h'.get? src = some o) : At h' it src k xs := by
  rcases a with ⟨⟨o, a, b⟩, ⟨o', c, d⟩⟩ | ⟨⟨o, a, b⟩, ⟨o', c, d⟩⟩
  · exact .inl ⟨⟨o, h1 o a, b⟩, ⟨o', h2 o' c, d⟩⟩
  · exact .inr ⟨⟨o, h1 o a, b⟩, ⟨o', h2 o' c, d⟩⟩
theorem At.but {h h' : Heap} {it src b : Addr} {k : Nat} {xs : Array Value} (a : At h it src k xs) (hs : Heap.ExtBut b h h') (n1 : it ≠ b) (n2 : src ≠ b) : At h' it src k xs :=
  a.kept (fun o e => hs it o n1 e) fun o e => hs src o n2 e
section
variable {prog : Program} {w : World} {A : Around} {E : Value → Shared → Prop} {s : Shared}
theorem next_at {it src : Addr} {k : Nat} {xs : Array Value} {x : Value} {Q : Value → Shared → Prop} (a : At s.heap it src k xs) (ns : src ≠ it) (hx : xs[k]? = some x) (hQ : ∀ h', At h' it src (k + 1) xs → Heap.SameBut it s.heap h' → Q x { s with heap := h' }) :
    wpAny (model prog w) A (Builtin.SmallTypes.nextOf (.ref it)) Q E s := by
  rcases a with ⟨a, l⟩ | ⟨a, l⟩
  · exact wpAny_nextOf_list_item a l hx fun h' a' sb => hQ h' (.inl ⟨a', l.extBut sb.extBut ns⟩) sb
  · obtain ⟨o, ho, hc, hd⟩ := id a
    obtain ⟨ol, hol, _, nl, hdl⟩ := id l
    unfold Builtin.SmallTypes.nextOf
    have sl := F.slot_tuple_iterator_next
    refine wpAny_bind (wpAny_callSpecial?_slot (name := Str.ofString "__next__") a.typeIs sl (wpAny_call_entry sl a.typeIs F.entry_tuple_iterator_next ?_ (F.args_tuple_iterator_next_1 _)))
    refine wpAny_bind (m := field (.ref it) 0) (wpAny_field ho hd (x := .ref src) rfl ?_)
    refine wpAny_ite_false (show (Value.ref src == Value.none) = false from rfl) ?_
    refine wpAny_bind (m := field (.ref it) 1) (wpAny_field ho hd (x := .int k 0) rfl ?_)
    refine wpAny_bind (m := seqItems? (.ref src)) (wpAny_seqItems hol hdl ?_)
    simp only [Int.toNat_natCast, hx]
    refine wpAny_bind (wpAny_setField ho hd (by simp) (wpAny_pure ⟨x, rfl, wpAny_pure (hQ _ ?_ (Heap.SameBut.update ..))⟩))
    refine .inr ⟨⟨_, Heap.get?_update_self _ ho (Obj.isFreed_of_fields (Obj.data_mapFields hd _)), (Obj.cls_mapFields ..).trans hc, ?_⟩, l.extBut (Heap.SameBut.update ..).extBut ns⟩
    rw [Obj.data_mapFields hd]
    simp [rawInt]
theorem next_end {it src : Addr} {k : Nat} {xs : Array Value} {Q : Value → Shared → Prop} (hh : A.handled = none) (a : At s.heap it src k xs) (hx : xs[k]? = none)
    (hE : ∀ h' e, Heap.ExtBut it s.heap h' → (∃ o, h'.get? e = some o ∧ o.cls = .type "StopIteration") → E (.ref e) { s with heap := h' }) : wpAny (model prog w) A (Builtin.SmallTypes.nextOf (.ref it)) Q E s := by
  rcases a with ⟨a, l⟩ | ⟨a, l⟩
  · exact wpAny_nextOf_list_end hh a l hx hE
  · obtain ⟨o, ho, hc, hd⟩ := id a
    obtain ⟨ol, hol, _, nl, hdl⟩ := id l
    unfold Builtin.SmallTypes.nextOf
    have sl := F.slot_tuple_iterator_next
    refine wpAny_bind (wpAny_callSpecial?_slot (name := Str.ofString "__next__") a.typeIs sl (wpAny_call_entry sl a.typeIs F.entry_tuple_iterator_next ?_ (F.args_tuple_iterator_next_1 _)))
    refine wpAny_bind (m := field (.ref it) 0) (wpAny_field ho hd (x := .ref src) rfl ?_)
    refine wpAny_ite_false (show (Value.ref src == Value.none) = false from rfl) ?_
    refine wpAny_bind (m := field (.ref it) 1) (wpAny_field ho hd (x := .int k 0) rfl ?_)
    refine wpAny_bind (m := seqItems? (.ref src)) (wpAny_seqItems hol hdl ?_)
    simp only [Int.toNat_natCast, hx]
    refine wpAny_bind (wpAny_rule (wpAny_bind (wpAny_setField ho hd (by simp) ?_)))
    refine wpAny_bind (m := newExc (.type "StopIteration") []) ?_
    simp only [newExc, newTuple]
    refine wpAny_bind (wpAny_newObj_type ?_ (by size_fits))
    refine wpAny_bind (m := firstArgMember _ _) (wpAny_of_eq (a := Value.none) (by first | rfl | (simp only [firstArgMember]; rfl)) ?_)
    refine wpAny_newObj_type ?_ (by size_fits)
    simp only [raiseNew]
    refine wpAny_bind (wpAny_handled ?_)
    have hh' : A.in1.handled = none := hh
    rw [hh']
    refine wpAny_bind (wpAny_pure (wpAny_throw ?_))
    exact hE _ _ (((Heap.SameBut.update ..).extBut.push _).push _) ⟨_, Heap.get?_push_size _ rfl, rfl⟩
theorem zipx_item {z TI TO i1 i2 l1 l2 : Addr} {k1 k2 : Nat} {xs ys : Array Value} {x y a b : Value} {Q : Value → Shared → Prop} (D : ZipApart z TI TO i1 i2 l1 l2)
    (hz : IsZip s.heap z TI TO .none) (hTI : IsPair s.heap TI (.ref i1) (.ref i2)) (hTO : IsPair s.heap TO a b) (h1 : At s.heap i1 l1 k1 xs) (h2 : At s.heap i2 l2 k2 ys) (hx : xs[k1]? = some x) (hy : ys[k2]? = some y)
    (hQ : ∀ h', IsZip h' z TI TO (rawInt s.heap.objs.size) → IsPair h' TO x y → At h' i1 l1 (k1 + 1) xs → At h' i2 l2 (k2 + 1) ys → IsPair h' s.heap.objs.size x y → h'.objs.size = s.heap.objs.size + 1 →
      (∀ c o, c ≠ z → c ≠ TO → c ≠ i1 → c ≠ i2 → s.heap.get? c = some o → h'.get? c = some o) → Q (.ref s.heap.objs.size) { s with heap := h' }) :
    wpAny (model prog w) A (Builtin.«zip.__next__» ⟨[.ref z], []⟩) (fun fin s' => ∃ v, fin = .done (.ret v) ∧ Q v s') E s := by
  refine wpAny_bind (m := field (.ref z) 2) (wpAny_field hz rfl (x := .bool false) rfl ?_)
  refine wpAny_bind (m := field (.ref z) 3) (wpAny_field hz rfl (x := .ref TI) rfl ?_)
  refine wpAny_bind (wpAny_seqItems hTI rfl ?_)
  refine wpAny_bind (m := Builtin.SmallTypes.ownedTupleIsFree (.ref z)) ?_
  unfold Builtin.SmallTypes.ownedTupleIsFree
  refine wpAny_bind (wpAny_field hz rfl (x := .none) rfl (wpAny_pure ?_))
  simp only [if_true]
  refine wpAny_bind (wpAny_rule ?_)
  refine wpAny_bind (wpAny_field hz rfl (x := .ref TO) rfl ?_)
  refine wpAny_bind (wpAny_setField_rec hz (by simp) fun g1 hz1 sb1 => ?_)
  replace hz1 : IsZip g1 z TI TO .ellipsis := hz1
  refine wpAny_bind ?_
  simp only [List.zipIdx_cons, List.zipIdx_nil, List.forIn_cons, List.forIn_nil]
  refine wpAny_bind (wpAny_bind (wpAny_onRaise ?_))
  refine wpAny_bind (m := Builtin.SmallTypes.nextOf (.ref i1)) (next_at (h1.but sb1.extBut D.i1z D.l1z) D.l1i1 hx fun g2 a2 sb2 => wpAny_pure ?_)
  have to2 : IsPair g2 TO a b := sb2.extBut _ _ D.TOi1 (sb1.extBut _ _ D.TOz hTO)
  refine wpAny_bind (wpAny_seqItems to2 rfl ?_)
  refine wpAny_bind (wpAny_updateSeq_pair to2 fun g3 to3 sb3 => ?_)
  replace to3 : IsPair g3 TO x b := to3
  refine wpAny_bind (wpAny_letGo (wpAny_pure ?_))
  refine wpAny_bind (wpAny_bind (wpAny_onRaise ?_))
  have a2' : At g3 i2 l2 k2 ys := ((h2.but sb1.extBut D.i2z D.l2z).but sb2.extBut D.i12.symm D.l2i1).but sb3.extBut D.TOi2.symm D.l2TO
  refine wpAny_bind (m := Builtin.SmallTypes.nextOf (.ref i2)) (next_at a2' D.l2i2 hy fun g4 a4 sb4 => wpAny_pure ?_)
  have to4 : IsPair g4 TO x b := sb4.extBut _ _ D.TOi2 to3
  refine wpAny_bind (wpAny_seqItems to4 rfl ?_)
  refine wpAny_bind (wpAny_updateSeq_pair to4 fun g5 to5 sb5 => ?_)
  replace to5 : IsPair g5 TO x y := to5
  refine wpAny_bind (wpAny_letGo (wpAny_pure (wpAny_pure ?_)))
  refine wpAny_bind (wpAny_seqItems to5 rfl ?_)
  refine wpAny_bind (wpAny_newTuple ?_)
  have esz : g5.objs.size = s.heap.objs.size := by rw [sb5.1, sb4.1, sb3.1, sb2.1, sb1.1]
  have z5 : IsZip g5 z TI TO .ellipsis := sb5.extBut _ _ D.TOz.symm (sb4.extBut _ _ D.i2z.symm (sb3.extBut _ _ D.TOz.symm (sb2.extBut _ _ D.i1z.symm hz1)))
  have k5 : ∀ c o, c ≠ z → c ≠ TO → c ≠ i1 → c ≠ i2 → s.heap.get? c = some o → g5.get? c = some o := fun c o c1 c2 c3 c4 e =>
    sb5.extBut _ _ c2 (sb4.extBut _ _ c4 (sb3.extBut _ _ c2 (sb2.extBut _ _ c3 (sb1.extBut _ _ c1 e))))
  have a15 : At g5 i1 l1 (k1 + 1) xs := ((a2.but sb3.extBut D.TOi1.symm D.l1TO).but sb4.extBut D.i12 D.l1i2).but sb5.extBut D.TOi1.symm D.l1TO
  have a25 : At g5 i2 l2 (k2 + 1) ys := a4.but sb5.extBut D.TOi2.symm D.l2TO
  have zlt : z < g5.objs.size := Heap.lt_size z5
  refine wpAny_bind (m := Builtin.SmallTypes.ownedTupleHandOut (.ref z) (.ref g5.objs.size)) ?_
  unfold Builtin.SmallTypes.ownedTupleHandOut
  have z6 : IsZip (g5.push { cls := .type "tuple", data := .seq #[x, y] }) z TI TO .ellipsis := Heap.get?_push_of_some _ z5
  refine wpAny_bind (wpAny_setField_rec z6 (by simp) fun g7 z7 sb7 => ?_)
  replace z7 : IsZip g7 z TI TO (rawInt g5.objs.size) := z7
  refine wpAny_setField_rec z7 (by simp) fun g8 z8 sb8 => ?_
  replace z8 : IsZip g8 z TI TO (rawInt g5.objs.size) := z8
  have up : ∀ c o, c ≠ z → g5.get? c = some o → g8.get? c = some o := fun c o c1 e => sb8.extBut _ _ c1 (sb7.extBut _ _ c1 (Heap.get?_push_of_some _ e))
  have t8 : IsPair g8 g5.objs.size x y := sb8.extBut _ _ (Nat.ne_of_gt zlt) (sb7.extBut _ _ (Nat.ne_of_gt zlt) (Heap.get?_push_size _ rfl))
  have sz8 : g8.objs.size = g5.objs.size + 1 := by rw [sb8.1, sb7.1, Heap.size_push]
  rw [esz] at z8 t8 sz8
  refine wpAny_pure ⟨_, rfl, ?_⟩
  show Q (.ref g5.objs.size) _
  rw [esz]
  exact hQ g8 z8 (up _ _ D.TOz to5) (a15.kept (fun o e => up _ o D.i1z e) fun o e => up _ o D.l1z e) (a25.kept (fun o e => up _ o D.i2z e) fun o e => up _ o D.l2z e) t8 sz8 fun c o c1 c2 c3 c4 e => up c o c1 (k5 c o c1 c2 c3 c4 e)
theorem zipx_end {z TI TO i1 i2 l1 l2 : Addr} {k1 k2 : Nat} {xs ys : Array Value} {a b : Value} {Q : PySem.Fin → Shared → Prop} (hh : A.handled = none) (D : ZipApart z TI TO i1 i2 l1 l2)
    (hz : IsZip s.heap z TI TO .none) (hTI : IsPair s.heap TI (.ref i1) (.ref i2)) (hTO : IsPair s.heap TO a b) (h1 : At s.heap i1 l1 k1 xs) (h2 : At s.heap i2 l2 k2 ys) (hend : xs[k1]? = none ∨ ys[k2]? = none)
    (hE : ∀ h' e, (∀ c o, c ≠ z → c ≠ TO → c ≠ i1 → c ≠ i2 → s.heap.get? c = some o → h'.get? c = some o) → (∃ o, h'.get? e = some o ∧ o.cls = .type "StopIteration") → E (.ref e) { s with heap := h' }) :
    wpAny (model prog w) A (Builtin.«zip.__next__» ⟨[.ref z], []⟩) Q E s := by
  refine wpAny_bind (m := field (.ref z) 2) (wpAny_field hz rfl (x := .bool false) rfl ?_)
  refine wpAny_bind (m := field (.ref z) 3) (wpAny_field hz rfl (x := .ref TI) rfl ?_)
  refine wpAny_bind (wpAny_seqItems hTI rfl ?_)
  refine wpAny_bind (m := Builtin.SmallTypes.ownedTupleIsFree (.ref z)) ?_
  unfold Builtin.SmallTypes.ownedTupleIsFree
  refine wpAny_bind (wpAny_field hz rfl (x := .none) rfl (wpAny_pure ?_))
  simp only [if_true]
  refine wpAny_bind (wpAny_rule ?_)
  refine wpAny_bind (wpAny_field hz rfl (x := .ref TO) rfl ?_)
  refine wpAny_bind (wpAny_setField_rec hz (by simp) fun g1 hz1 sb1 => ?_)
  replace hz1 : IsZip g1 z TI TO .ellipsis := hz1
  refine wpAny_bind ?_
  simp only [List.zipIdx_cons, List.zipIdx_nil, List.forIn_cons, List.forIn_nil]
  refine wpAny_bind (wpAny_bind (wpAny_onRaise ?_))
  have a1 := h1.but sb1.extBut D.i1z D.l1z
  cases hx : xs[k1]? with
  | none =>
    refine wpAny_bind (m := Builtin.SmallTypes.nextOf (.ref i1)) (next_end hh a1 hx fun g2 e sb2 he => ?_)
    obtain ⟨oe, hoe, hce⟩ := he
    have z2 : IsZip g2 z TI TO .ellipsis := sb2 _ _ D.i1z.symm hz1
    have hez : e ≠ z := fun q => by
      subst q
      rw [z2] at hoe
      cases hoe
      simp at hce
    exact wpAny_setField_rec z2 (by simp) fun g3 _ sb3 => hE g3 e (fun c o c1 _ c3 _ q => sb3.extBut _ _ c1 (sb2 _ _ c3 (sb1.extBut _ _ c1 q))) ⟨oe, sb3.extBut _ _ hez hoe, hce⟩
  | some x =>
    have hy : ys[k2]? = none := by
      rcases hend with h | h
      · rw [hx] at h; cases h
      · exact h
    refine wpAny_bind (m := Builtin.SmallTypes.nextOf (.ref i1)) (next_at a1 D.l1i1 hx fun g2 a2 sb2 => wpAny_pure ?_)
    have to2 : IsPair g2 TO a b := sb2.extBut _ _ D.TOi1 (sb1.extBut _ _ D.TOz hTO)
    refine wpAny_bind (wpAny_seqItems to2 rfl ?_)
    refine wpAny_bind (wpAny_updateSeq_pair to2 fun g3 to3 sb3 => ?_)
    refine wpAny_bind (wpAny_letGo (wpAny_pure ?_))
    refine wpAny_bind (wpAny_bind (wpAny_onRaise ?_))
    have a2' : At g3 i2 l2 k2 ys := ((h2.but sb1.extBut D.i2z D.l2z).but sb2.extBut D.i12.symm D.l2i1).but sb3.extBut D.TOi2.symm D.l2TO
    refine wpAny_bind (m := Builtin.SmallTypes.nextOf (.ref i2)) (next_end hh a2' hy fun g4 e sb4 he => ?_)
    obtain ⟨oe, hoe, hce⟩ := he
    have z4 : IsZip g4 z TI TO .ellipsis := sb4 _ _ D.i2z.symm (sb3.extBut _ _ D.TOz.symm (sb2.extBut _ _ D.i1z.symm hz1))
    have hez : e ≠ z := fun q => by
      subst q
      rw [z4] at hoe
      cases hoe
      simp at hce
    exact wpAny_setField_rec z4 (by simp) fun g5 _ sb5 => hE g5 e (fun c o c1 c2 c3 c4 q => sb5.extBut _ _ c1 (sb4 _ _ c4 (sb3.extBut _ _ c2 (sb2.extBut _ _ c3 (sb1.extBut _ _ c1 q))))) ⟨oe, sb5.extBut _ _ hez hoe, hce⟩
end
end L2
namespace L2
open PySem PySem.Spec PyProof.Rows
def Itz (K : PySem.W.Frag) (k1 k2 : Bool) (a b : Addr) : It :=
  ⟨fun i H => ∃ xs ys x y, (if k1 then SqL K H a xs else SqT K H a xs) ∧ (if k2 then SqL K H b ys else SqT K H b ys) ∧ xs[i]? = some x ∧ ys[i]? = some y,
   fun i H x H' => ∃ p, H p = none ∧ x = .ref p ∧ ∀ xs ys, (if k1 then SqL K H a xs else SqT K H a xs) → (if k2 then SqL K H b ys else SqT K H b ys) → ∃ u v, xs[i]? = some u ∧ ys[i]? = some v ∧ H' = upd H p (.tup [u, v]),
   fun i H => ∃ xs ys, (if k1 then SqL K H a xs else SqT K H a xs) ∧ (if k2 then SqL K H b ys else SqT K H b ys) ∧ (xs.length ≤ i ∨ ys.length ≤ i)⟩
def itk (kind : Bool) (h : Heap) (it src : Addr) (k : Nat) : Prop := if kind then h.IsListIter it src k else h.IsTupleIter it src k
def sqk (kind : Bool) (h : Heap) (src : Addr) (xs : Array Value) : Prop := if kind then h.IsList src xs else h.IsTuple src xs
theorem itk.kept {kind : Bool} {h h' : Heap} {it src : Addr} {k : Nat} (a : itk kind h it src k) (e : ∀ o, h.get? it = some o → h'.get? it = some o) : itk kind h' it src k := by
  cases kind with
  | true => obtain ⟨o, h1, h2⟩ := a; exact ⟨o, e o h1, h2⟩
  | false => obtain ⟨o, h1, h2⟩ := a; exact ⟨o, e o h1, h2⟩
theorem itk.at {kind : Bool} {h : Heap} {it src : Addr} {k : Nat} {xs : Array Value} (a : itk kind h it src k) (s : sqk kind h src xs) : At h it src k xs := by
  cases kind with
  | true => exact .inl ⟨a, s⟩
  | false => exact .inr ⟨a, s⟩
theorem itk.of {kind : Bool} {h : Heap} {it src : Addr} {k : Nat} {xs : Array Value} (a : At h it src k xs) (s : sqk kind h src xs) : itk kind h it src k := by
  rcases a with ⟨a, b⟩ | ⟨a, b⟩
  · cases kind with
    | true => exact a
    | false =>
      obtain ⟨o, h1, h2, _⟩ := b
      obtain ⟨o', h3, h4, _⟩ := (show h.IsTuple src xs from s)
      rw [h1] at h3
      cases h3
      rw [h2] at h4
      exact absurd h4 (by decide)
  · cases kind with
    | false => exact a
    | true =>
      obtain ⟨o, h1, h2, _⟩ := b
      obtain ⟨o', h3, h4, _⟩ := (show h.IsList src xs from s)
      rw [h1] at h3
      cases h3
      rw [h2] at h4
      exact absurd h4 (by decide)
theorem itk.obj {kind : Bool} {h : Heap} {it src : Addr} {k : Nat} (a : itk kind h it src k) : ∃ o, h.get? it = some o ∧ ∀ v, o.data ≠ .cell v := by
  cases kind with
  | true =>
    obtain ⟨o, h1, _, h2⟩ := a
    exact ⟨o, h1, fun v z => by rw [h2] at z; cases z⟩
  | false =>
    obtain ⟨o, h1, _, h2⟩ := a
    exact ⟨o, h1, fun v z => by rw [h2] at z; cases z⟩
theorem Inv.sqk {X : Cx} {pins : List (Addr × Obj)} {σ : St} {H : Hp} {s : Shared} {a : Addr} {xs : List V} {kind : Bool} (I : Inv X pins σ H s) (h : if kind then SqL X.K H a xs else SqT X.K H a xs) : ∃ its : List Value, Vals xs its ∧ L2.sqk kind s.heap a its.toArray := by
  cases kind with
  | true =>
    obtain ⟨its, r, pl, _⟩ := I.list h
    exact ⟨its, r, pl.isList⟩
  | false =>
    obtain ⟨its, r, pl, _⟩ := I.tuple h
    exact ⟨its, r, pl⟩
theorem Inv.sq_inj {X : Cx} {pins : List (Addr × Obj)} {σ : St} {H : Hp} {s : Shared} {a : Addr} {xs ys : List V} {kind : Bool} (I : Inv X pins σ H s) (h : if kind then SqL X.K H a xs else SqT X.K H a xs) (h' : if kind then SqL X.K H a ys else SqT X.K H a ys) : xs = ys := by
  cases kind with
  | true => exact I.list_inj h h'
  | false => exact I.tuple_inj h h'
theorem Inv.turnedT {X : Cx} {pins : List (Addr × Obj)} {σ : St} {H : Hp} {s : Shared} {h' : Heap} {ch : List Addr} {p : Addr} {xs : List V} {us : List Value} {t' : Nat} (I : Inv X pins σ H s) (hf : ∀ b ∈ ch, FpOk X pins H b) (hp : s.heap.objs.size ≤ p)
    (k : ∀ b o, b ∉ ch → s.heap.get? b = some o → h'.get? b = some o) (there : ∀ b ∈ ch, ∃ o, h'.get? b = some o) (r : Vals xs us) (hx : xs.length ≤ sizeLine) (ht : IsTup h' p us.toArray) : Inv X pins σ (upd H p (.tup xs)) { s with heap := h', toks := t' } := by
  have nit : ∀ b u, H b = some u → b ∉ ch := fun b u e z => by rw [(hf b z).1] at e; cases e
  have fr : H p = none := I.hok.fresh hp
  have np : ∀ b o, s.heap.get? b = some o → b ≠ p := fun b o e z => absurd (Nat.lt_of_lt_of_le (Heap.lt_size e) (by rw [z]; exact hp)) (Nat.lt_irrefl _)
  refine I.step (g' := s.gens) (d' := s.drawn) (ch := ch) (fun b hb => ?_) (fun b o _ _ hc e _ => k b o hc e) (fun b o _ _ hc e _ => ⟨o.slots, k b o hc e⟩) (fun b o _ e n => by rw [upd_ne (np b o e)]; exact n)
    (fun b o hc e => ⟨o, k b o hc e⟩) (fun b ys e => by rw [upd_ne (ne_of_none e fr)]; exact e) (fun b o u e => by rw [upd_ne (ne_of_none e fr)]; exact e) (fun b ps e => ⟨#[], by rw [upd_ne (ne_of_none e fr), e]; simp⟩) (fun m hm => ?_) (fun b u e => ?_) I.bare
  · have q := hf b hb
    exact ⟨q.2.2.2.1, q.2.1, q.2.2.2.2.1, q.2.2.2.2.2⟩
  · obtain ⟨o, es, ep, ho, r⟩ := hm
    exact ⟨o, es, ep, k _ o (fun z => (hf _ z).2.1 rfl) ho, r⟩
  · by_cases hb : b = p
    · subst hb
      rw [upd_same] at e
      cases e
      exact ⟨hx, us, r, ht⟩
    · rw [upd_ne hb] at e
      refine (I.hok b u e).stay (fun c v hc q => k c v ?_ q) (fun c q => ?_) (fun c ys q => ?_) fun c ob u q => ?_
      · rcases hc with z | z
        · rw [z]; exact nit b u e
        · exact nit c _ z
      · rw [upd_ne (ne_of_none q fr)]; exact q
      · rw [upd_ne (ne_of_none q fr)]; exact q
      · rw [upd_ne (ne_of_none q fr)]; exact q
theorem Inv.turnedM {X : Cx} {pins : List (Addr × Obj)} {σ : St} {H : Hp} {s : Shared} {h' : Heap} {ch : List Addr} {t' : Nat} (I : Inv X pins σ H s) (hf : ∀ b ∈ ch, FpOk X pins H b) (k : ∀ b o, b ∉ ch → s.heap.get? b = some o → h'.get? b = some o) : Inv X pins σ H { s with heap := h', toks := t' } := by
  have nit : ∀ b u, H b = some u → b ∉ ch := fun b u e z => by rw [(hf b z).1] at e; cases e
  refine I.step (g' := s.gens) (d' := s.drawn) (ch := ch) (fun b hb => ?_) (fun b o _ _ hc e _ => k b o hc e) (fun b o _ _ hc e _ => ⟨o.slots, k b o hc e⟩) (fun b o _ e n => n)
    (fun b o hc e => ⟨o, k b o hc e⟩) (fun b ys e => e) (fun b o u e => e) (fun b ps e => ⟨#[], by rw [e]; simp⟩) (fun m hm => ?_) (fun b u e => ?_) I.bare
  · have q := hf b hb
    exact ⟨q.2.2.2.1, q.2.1, q.2.2.2.2.1, q.2.2.2.2.2⟩
  · obtain ⟨o, es, ep, ho, r⟩ := hm
    exact ⟨o, es, ep, k _ o (fun z => (hf _ z).2.1 rfl) ho, r⟩
  · refine (I.hok b u e).stay (fun c v hc q => k c v ?_ q) (fun c q => q) (fun c ys q => q) fun c ob u q => q
    rcases hc with z | z
    · rw [z]; exact nit b u e
    · exact nit c _ z
def ZipSt (k1 k2 : Bool) (z TI TO i1 i2 l1 l2 : Addr) (i : Nat) (h : Heap) : Prop := IsZip h z TI TO .none ∧ IsPair h TI (.ref i1) (.ref i2) ∧ (∃ a b, IsPair h TO a b) ∧ itk k1 h i1 l1 i ∧ itk k2 h i2 l2 i
theorem turn_zip {P : Program} {w : World} {K : PySem.W.Frag} {elts : List Expr} {x1 : Nat} {pos : Pos} (k1 k2 : Bool) (z TI TO i1 i2 l1 l2 : Addr) (A : ZipApart z TI TO i1 i2 l1 l2) :
    Turn P w K (.Tuple elts x1 pos) (Itz K k1 k2 l1 l2) [z, TI, TO, i1, i2] z (ZipSt k1 k2 z TI TO i1 i2 l1 l2) where
  mem := by simp
  obj := fun i h st b hb => by
    obtain ⟨hz, hTI, ⟨a, c, hTO⟩, h1, h2⟩ := st
    simp only [List.mem_cons, List.not_mem_nil, or_false] at hb
    rcases hb with rfl | rfl | rfl | rfl | rfl
    · exact ⟨_, hz, fun v q => by cases (show Data.fields _ = Data.cell v from q)⟩
    · exact ⟨_, hTI, fun v q => by cases (show Data.seq _ _ = Data.cell v from q)⟩
    · exact ⟨_, hTO, fun v q => by cases (show Data.seq _ _ = Data.cell v from q)⟩
    · exact h1.obj
    · exact h2.obj
  keep := fun i h h' st k => by
    obtain ⟨hz, hTI, ⟨a, c, hTO⟩, h1, h2⟩ := st
    exact ⟨k z (by simp) _ hz, k TI (by simp) _ hTI, ⟨a, c, k TO (by simp) _ hTO⟩, h1.kept fun o e => k i1 (by simp) o e, h2.kept fun o e => k i2 (by simp) o e⟩
  item := by
    intro X hP hw hK hc i pins s σ H E I hf st hg
    subst hP hw hK
    obtain ⟨xs, ys, x, y, hx, hy, ex, ey⟩ := hg
    obtain ⟨hz, hTI, ⟨a, c, hTO⟩, h1, h2⟩ := st
    obtain ⟨its, r1, q1⟩ := I.sqk hx
    obtain ⟨its2, r2, q2⟩ := I.sqk hy
    obtain ⟨u, eu, ru⟩ := r1.get ex
    obtain ⟨v, ev, rv⟩ := r2.get ey
    have hT : s.TypeIs (.ref z) "zip" := ⟨_, hz, rfl⟩
    unfold pyNext
    have nx := F.slot_zip_next
    refine wpAny_bind (wpAny_attempt (wpAny_callSpecial?_slot (name := Str.ofString "__next__") hT nx (wpAny_call_entry nx hT F.entry_zip_next
      (zipx_item A hz hTI hTO (h1.at q1) (h2.at q2) (x := u) (y := v) (by simpa using eu) (by simpa using ev) fun h' z' to' a1 a2 t' sz kp => wpAny_pure ?_) (F.args_zip_next_1 _))))
    refine ⟨.ref s.heap.objs.size, rfl, wpAny_letOwnedTupleGo_zip z' fun h2' z2 sb => ?_⟩
    have ltT : ∀ b o, s.heap.get? b = some o → b ≠ s.heap.objs.size := fun b o e => Nat.ne_of_lt (Heap.lt_size e)
    have kp2 : ∀ b o, b ∉ [z, TI, TO, i1, i2] → s.heap.get? b = some o → h2'.get? b = some o := fun b o hb e => by
      simp only [List.mem_cons, List.not_mem_nil, or_false, not_or] at hb
      exact sb.extBut b o hb.1 (kp b o hb.1 hb.2.2.1 hb.2.2.2.1 hb.2.2.2.2 e)
    have zT : s.heap.objs.size ≠ z := fun q => ltT z _ hz q.symm
    have tT : IsPair h2' s.heap.objs.size u v := sb.extBut _ _ zT t'
    have upz : ∀ b o, b ≠ z → h'.get? b = some o → h2'.get? b = some o := fun b o hb e => sb.extBut b o hb e
    have q1' : sqk k1 h' l1 its.toArray := by
      cases k1 with
      | true => obtain ⟨o, e, r⟩ := q1; exact ⟨o, kp l1 o A.l1z A.l1TO A.l1i1 A.l1i2 e, r⟩
      | false => obtain ⟨o, e, r⟩ := q1; exact ⟨o, kp l1 o A.l1z A.l1TO A.l1i1 A.l1i2 e, r⟩
    have q2' : sqk k2 h' l2 its2.toArray := by
      cases k2 with
      | true => obtain ⟨o, e, r⟩ := q2; exact ⟨o, kp l2 o A.l2z A.l2TO A.l2i1 A.l2i2 e, r⟩
      | false => obtain ⟨o, e, r⟩ := q2; exact ⟨o, kp l2 o A.l2z A.l2TO A.l2i1 A.l2i2 e, r⟩
    have st' : ZipSt k1 k2 z TI TO i1 i2 l1 l2 (i + 1) h2' :=
      ⟨z2, upz _ _ A.TIz (kp _ _ A.TIz A.TITO A.TIi1 A.TIi2 hTI), ⟨u, v, upz _ _ A.TOz to'⟩, (itk.of a1 q1').kept fun o e => upz _ o A.i1z e, (itk.of a2 q2').kept fun o e => upz _ o A.i2z e⟩
    have fT : H s.heap.objs.size = none := I.fresh
    refine ⟨.ref s.heap.objs.size, upd H s.heap.objs.size (.tup [x, y]), I.turnedT (t' := s.toks) (us := [u, v]) hf (Nat.le_refl _) kp2 (fun b hb => ?_) (.cons ru (.cons rv .nil)) (by show 2 ≤ sizeLine; decide) ⟨_, tT, rfl, _, rfl⟩, rfl, ⟨_, fT, rfl, fun xs' ys' hx' hy' => ?_⟩, st', fun b hb => ?_⟩
    · obtain ⟨z3, ti3, ⟨a3, b3, to3⟩, i13, i23⟩ := st'
      simp only [List.mem_cons, List.not_mem_nil, or_false] at hb
      rcases hb with rfl | rfl | rfl | rfl | rfl
      · exact ⟨_, z3⟩
      · exact ⟨_, ti3⟩
      · exact ⟨_, to3⟩
      · obtain ⟨o, e, _⟩ := i13.obj; exact ⟨o, e⟩
      · obtain ⟨o, e, _⟩ := i23.obj; exact ⟨o, e⟩
    · have e1 := I.sq_inj hx' hx
      have e2 := I.sq_inj hy' hy
      subst e1 e2
      exact ⟨x, y, ex, ey, rfl⟩
    · obtain ⟨o, e, _⟩ : ∃ o, s.heap.get? b = some o ∧ True := by
        simp only [List.mem_cons, List.not_mem_nil, or_false] at hb
        rcases hb with rfl | rfl | rfl | rfl | rfl
        · exact ⟨_, hz, trivial⟩
        · exact ⟨_, hTI, trivial⟩
        · exact ⟨_, hTO, trivial⟩
        · obtain ⟨o, e, _⟩ := h1.obj; exact ⟨o, e, trivial⟩
        · obtain ⟨o, e, _⟩ := h2.obj; exact ⟨o, e, trivial⟩
      rw [upd_ne (ltT b o e)]
      exact (hf b hb).1
  done := by
    intro X hP hw hK hc i pins s σ H E I hf st hg
    subst hP hw hK
    obtain ⟨xs, ys, hx, hy, hend⟩ := hg
    obtain ⟨hz, hTI, ⟨a, c, hTO⟩, h1, h2⟩ := st
    obtain ⟨its, r1, q1⟩ := I.sqk hx
    obtain ⟨its2, r2, q2⟩ := I.sqk hy
    have hT : s.TypeIs (.ref z) "zip" := ⟨_, hz, rfl⟩
    have l1 := r1.length
    have l2 := r2.length
    unfold pyNext
    have nx := F.slot_zip_next
    refine wpAny_bind (wpAny_attempt (wpAny_callSpecial?_slot (name := Str.ofString "__next__") hT nx (wpAny_call_entry nx hT F.entry_zip_next
      (zipx_end (I.ok.hd hc) A hz hTI hTO (h1.at q1) (h2.at q2) ?_ fun h' e kp he => ?_) (F.args_zip_next_1 _))))
    · rcases hend with z | z
      · exact .inl (by simp; omega)
      · exact .inr (by simp; omega)
    · obtain ⟨o, ho, hcl⟩ := he
      refine wpAny_bind (wpAny_isInstance (T := "StopIteration") (b := true) ⟨o, ho, hcl⟩ isSubtype_stop ?_)
      refine wpAny_pure ⟨rfl, I.turnedM (t' := s.toks) hf fun b o hb e => ?_⟩
      simp only [List.mem_cons, List.not_mem_nil, or_false, not_or] at hb
      exact kp b o hb.1 hb.2.2.1 hb.2.2.2.1 hb.2.2.2.2 e
  self := fun _ _ _ _ _ st h => wpAny_pyIter_zip st.1 h
def iterObj (kind : Bool) (l : Addr) : Obj := { cls := .type (if kind then "list_iterator" else "tuple_iterator"), data := .fields #[.ref l, .int 0 0] }
theorem pyIter_k {prog : Program} {w : World} {A : Around} {E : Value → Shared → Prop} {s : Shared} {kind : Bool} {l : Addr} {xs : Array Value} {Q : Value → Shared → Prop} (h : sqk kind s.heap l xs) (hQ : Q (.ref s.heap.objs.size) { s with heap := s.heap.push (iterObj kind l) }) : wpAny (model prog w) A (pyIter (.ref l)) Q E s := by
  cases kind with
  | true => exact wpAny_pyIter_list h hQ
  | false => exact wpAny_pyIter_tuple h hQ
theorem sqk.push {kind : Bool} {h : Heap} {l : Addr} {xs : Array Value} (a : sqk kind h l xs) (o : Obj) : sqk kind (h.push o) l xs := by
  cases kind with
  | true => exact Heap.IsList.push a o
  | false => exact Heap.IsTuple.push a o
theorem itk.new {kind : Bool} {h : Heap} {l it : Addr} (e : h.get? it = some (iterObj kind l)) : itk kind h it l 0 := by
  cases kind with
  | true => exact ⟨_, e, rfl, rfl⟩
  | false => exact ⟨_, e, rfl, rfl⟩
theorem zip_new (k1 k2 : Bool) (l1 l2 : Addr) (xs ys : Array Value) :
    Meets (Builtin.«zip.__new__» ⟨[.type "zip", .ref l1, .ref l2], []⟩) (fun _ R s => sqk k1 s.heap l1 xs ∧ sqk k2 s.heap l2 ys ∧
      R (.ok (.ret (.ref ((((s.heap.push (iterObj k1 l1)).push (iterObj k2 l2)).push { cls := .type "tuple", data := .seq #[.ref s.heap.objs.size, .ref (s.heap.push (iterObj k1 l1)).objs.size] }).push { cls := .type "tuple", data := .seq #[.none, .none] }).objs.size)))
        { s with heap := ((((s.heap.push (iterObj k1 l1)).push (iterObj k2 l2)).push { cls := .type "tuple", data := .seq #[.ref s.heap.objs.size, .ref (s.heap.push (iterObj k1 l1)).objs.size] }).push { cls := .type "tuple", data := .seq #[.none, .none] }).push { cls := .type "zip", data := .fields #[.none, .bool false, .bool false, .ref ((s.heap.push (iterObj k1 l1)).push (iterObj k2 l2)).objs.size, .ref (((s.heap.push (iterObj k1 l1)).push (iterObj k2 l2)).push { cls := .type "tuple", data := .seq #[.ref s.heap.objs.size, .ref (s.heap.push (iterObj k1 l1)).objs.size] }).objs.size] } }) :=
  .of_wp fun prog w A R s h => by
    obtain ⟨hp, g, d, tk, os⟩ := s
    obtain ⟨hl1, hl2, h⟩ := h
    have hsub := sub_zip
    have hL1 : sqk k1 (Shared.heap ⟨hp, g, d, tk, os⟩) l1 xs := hl1
    have hL2 : sqk k2 (Shared.heap ⟨hp.push (iterObj k1 l1), g, d, tk, os⟩) l2 ys := hl2.push _
    wp_walk using pyIter_k hL1, pyIter_k hL2
    exact ⟨_, rfl, h⟩
theorem call_zipk {prog : Program} {w : World} {A : Around} {E : Value → Shared → Prop} {s : Shared} {k1 k2 : Bool} {l1 l2 : Addr} {xs ys : Array Value} {Q : Value → Shared → Prop} (hl1 : sqk k1 s.heap l1 xs) (hl2 : sqk k2 s.heap l2 ys)
    (h : ∀ h', ZipSt k1 k2 (s.heap.objs.size + 4) (s.heap.objs.size + 2) (s.heap.objs.size + 3) s.heap.objs.size (s.heap.objs.size + 1) l1 l2 0 h' → (∀ c o, s.heap.get? c = some o → h'.get? c = some o) → Q (.ref (s.heap.objs.size + 4)) { s with heap := h' }) :
    wpAny (model prog w) A (call (.type "zip") [.ref l1, .ref l2]) Q E s := by
  refine callType_new F.called_zip (by decide) (F.typeCall_zip_2 _ _) (F.newCall_zip_2 _ _) (fun obj => F.args_object_init_3 obj _ _) F.entry_zip_new (zip_new k1 k2 l1 l2 xs ys) ⟨hl1, hl2, ?_⟩
  generalize hh1 : s.heap.push (iterObj k1 l1) = h1
  have s1 : h1.objs.size = s.heap.objs.size + 1 := by rw [← hh1, Heap.size_push]
  generalize hh2 : h1.push (iterObj k2 l2) = h2
  have s2 : h2.objs.size = s.heap.objs.size + 2 := by rw [← hh2, Heap.size_push, s1]
  generalize hh3 : h2.push { cls := .type "tuple", data := .seq #[.ref s.heap.objs.size, .ref h1.objs.size] } = h3
  have s3 : h3.objs.size = s.heap.objs.size + 3 := by rw [← hh3, Heap.size_push, s2]
  generalize hh4 : h3.push { cls := .type "tuple", data := .seq #[.none, .none] } = h4
  have s4 : h4.objs.size = s.heap.objs.size + 4 := by rw [← hh4, Heap.size_push, s3]
  have g1 : h1.get? s.heap.objs.size = some (iterObj k1 l1) := by rw [← hh1]; exact Heap.get?_push_size _ (by rfl)
  have g2 : h2.get? h1.objs.size = some (iterObj k2 l2) := by rw [← hh2]; exact Heap.get?_push_size _ (by rfl)
  have g3 : IsPair h3 h2.objs.size (.ref s.heap.objs.size) (.ref h1.objs.size) := by rw [← hh3]; exact Heap.get?_push_size _ rfl
  have g4 : IsPair h4 h3.objs.size .none .none := by rw [← hh4]; exact Heap.get?_push_size _ rfl
  have g5 := Heap.get?_push_size h4 (o := { cls := .type "zip", data := .fields #[.none, .bool false, .bool false, .ref h2.objs.size, .ref h3.objs.size] }) rfl
  have u12 : ∀ c o, h1.get? c = some o → h2.get? c = some o := fun c o e => by rw [← hh2]; exact Heap.get?_push_of_some _ e
  have u23 : ∀ c o, h2.get? c = some o → h3.get? c = some o := fun c o e => by rw [← hh3]; exact Heap.get?_push_of_some _ e
  have u34 : ∀ c o, h3.get? c = some o → h4.get? c = some o := fun c o e => by rw [← hh4]; exact Heap.get?_push_of_some _ e
  have u01 : ∀ c o, s.heap.get? c = some o → h1.get? c = some o := fun c o e => by rw [← hh1]; exact Heap.get?_push_of_some _ e
  rw [s1] at g2 g3
  rw [s2] at g3 g5
  rw [s3] at g4 g5
  rw [s4] at g5
  rw [s2, s3, s4]
  refine ⟨⟨_, g5, rfl⟩, h _ ⟨g5, Heap.get?_push_of_some _ (u34 _ _ g3), ⟨_, _, Heap.get?_push_of_some _ g4⟩, itk.new (Heap.get?_push_of_some _ (u34 _ _ (u23 _ _ (u12 _ _ g1)))), itk.new (Heap.get?_push_of_some _ (u34 _ _ (u23 _ _ g2)))⟩ fun c o e => Heap.get?_push_of_some _ (u34 _ _ (u23 _ _ (u12 _ _ (u01 _ _ e))))⟩
section
variable {X : Cx}
def iZip (K : PySem.W.Frag) (k1 k2 : Bool) (ta : TA) : TI := fun σ H R => ta σ H fun vs H1 => ∃ p q xs ys, vs = [.ref p, .ref q] ∧ (if k1 then SqL K H1 p xs else SqT K H1 p xs) ∧ (if k2 then SqL K H1 q ys else SqT K H1 q ys) ∧ R (Itz K k1 k2 p q) H1
theorem pi_zip {a b : Expr} {ta : TA} {p pos pos' : Pos} {elts : List Expr} {x1 : Nat} (k1 k2 : Bool) (hg : Gl X "zip") (hm : X.mg "zip" = none) (hbt : bootBuiltins "zip" = some (.type "zip")) (ha : PA X [a, b] ta) (hs : starEach [a, b] X.env = [(false, eval a X.env), (false, eval b X.env)] := by rfl) (hs2 : starEach [b] X.env = [(false, eval b X.env)] := by rfl) :
    PI X (.Tuple elts x1 pos') (.Call (.Name "zip" p) [a, b] [] pos) (iZip X.K k1 k2 ta) := by
  intro pins s σ H R I h
  refine Call_ (ld_blt I hg hm hbt (PyProof.Rows.callWith_type1 (thn (ha pos pins s σ H _ I h) fun us s1 ⟨vs, H1, I1, r1, q1⟩ => ?_) (by rw [hs, hs2]) (by rw [hs2]; rfl)))
  obtain ⟨l1, l2, xs, ys, e, hx, hy, q⟩ := q1
  subst e
  cases r1 with
  | cons r rr =>
    cases rr with
    | cons r' rr =>
      cases rr
      cases r
      cases r'
      obtain ⟨its, v1, w1⟩ := I1.sqk hx
      obtain ⟨its2, v2, w2⟩ := I1.sqk hy
      have lt1 : l1 < s1.heap.objs.size := by
        cases k1 with
        | true => obtain ⟨o, e, _⟩ := w1; exact Heap.lt_size e
        | false => obtain ⟨o, e, _⟩ := w1; exact Heap.lt_size e
      have lt2 : l2 < s1.heap.objs.size := by
        cases k2 with
        | true => obtain ⟨o, e, _⟩ := w2; exact Heap.lt_size e
        | false => obtain ⟨o, e, _⟩ := w2; exact Heap.lt_size e
      refine call_zipk w1 w2 fun h' st kp => ?_
      refine wpAny_pyIter_zip st.1 ?_
      have I2 : Inv X pins σ H1 { s1 with heap := h' } := I1.kept (t' := s1.toks) kp
      generalize hn : s1.heap.objs.size = n at *
      have lt1' : @LT.lt Nat _ l1 n := lt1
      have lt2' : @LT.lt Nat _ l2 n := lt2
      have ap : ZipApart (n + 4) (n + 2) (n + 3) n (n + 1) l1 l2 := by constructor <;> (intro z; have z' : @Eq Nat _ _ := z; omega)
      refine ⟨n + 4, _, _, _, H1, rfl, I2, turn_zip k1 k2 (n + 4) (n + 2) (n + 3) n (n + 1) l1 l2 ap, st, fun b hb => ?_, q⟩
      have hb' : n ≤ b := by
        simp only [List.mem_cons, List.not_mem_nil, or_false] at hb
        rcases hb with rfl | rfl | rfl | rfl | rfl <;> first | exact Nat.le_refl _ | exact Nat.le_add_right _ _
      exact I1.fpOk (by rw [hn]; exact hb') (I1.hok.fresh (by rw [hn]; exact hb'))
variable {a b c e : Expr} {es : List Expr} {pos : Pos} {ga gb : GE}
def gZip (ga gb : GE) : GF := fun δ Q => ga δ fun d => gb δ fun d2 => match d, d2 with
  | .tup xs, .tup ys => Q (List.zipWith (fun x y => D.tup [x, y]) xs ys)
  | _, _ => False
theorem walk_zip {K : PySem.W.Frag} {C1 : Hp} {p q : Addr} {xs ys : List V} {ds es : List D} (hx : SqT K C1 p xs) (hy : SqT K C1 q ys) (hd : Dens K C1 xs ds) (he : Dens K C1 ys es) : Walk K (Itz K false false p q) (List.zipWith (fun x y => D.tup [x, y]) ds es) C1 := by
  intro C2 H2 c1 c2 i
  have hx2 := c2.seqT (c1.seqT hx)
  have hy2 := c2.seqT (c1.seqT hy)
  refine ⟨fun d e => ?_, fun hl => ⟨xs, ys, hx2, hy2, ?_⟩⟩
  · rw [List.getElem?_zipWith] at e
    cases e1 : ds[i]? with
    | none => rw [e1] at e; cases e
    | some d1 =>
      cases e2 : es[i]? with
      | none => rw [e1, e2] at e; cases e
      | some d2 =>
        rw [e1, e2] at e
        cases e
        obtain ⟨v1, ev1, n1⟩ := hd.get e1
        obtain ⟨v2, ev2, n2⟩ := he.get e2
        refine ⟨⟨xs, ys, v1, v2, hx2, hy2, ev1, ev2⟩, fun x H3 y => ?_⟩
        obtain ⟨t, ht, rfl, k⟩ := y
        obtain ⟨u, v, eu, ev, rfl⟩ := k xs ys hx2 hy2
        rw [ev1] at eu
        cases eu
        rw [ev2] at ev
        cases ev
        refine ⟨upd C2 t (.tup [v1, v2]), Ext.new c2 ht, den_tup.mpr ⟨t, _, rfl, SqT.of upd_same, ?_⟩⟩
        have up := Same.upd (o := .tup [v1, v2]) (c2.free ht)
        exact .cons ((n1.mono c1).mono up) (.cons ((n2.mono c1).mono up) .nil)
  · rw [List.length_zipWith] at hl
    rw [hd.length, he.length]
    omega
theorem di_zip {p pos' : Pos} {elts : List Expr} {x1 : Nat} (hg : Gl X "zip") (hm : X.mg "zip" = none) (hbt : bootBuiltins "zip" = some (.type "zip")) (ha : DE X a ga) (hb : DE X b gb) (hs : starEach [a, b] X.env = [(false, eval a X.env), (false, eval b X.env)] := by rfl) (hs2 : starEach [b] X.env = [(false, eval b X.env)] := by rfl) :
    DI X (.Tuple elts x1 pos') (.Call (.Name "zip" p) [a, b] [] pos) (gZip ga gb) := by
  obtain ⟨t1, p1, h1⟩ := ha
  obtain ⟨t2, p2, h2⟩ := hb
  refine ⟨_, pi_zip false false hg hm hbt (pa_cons p1 (pa_cons p2 pa_nil hs2) (by rw [hs, hs2])) hs hs2, fun C0 H0 δ σ C H Q R rp g k => h1 C0 H0 δ σ C H _ _ rp g fun d v C1 H1 q e1 n1 => h2 C0 H0 δ σ C1 H1 _ _ (rp.grow e1) q fun d2 v2 C2 H2 q2 e2 n2 => ?_⟩
  have n1' := n1.mono e2.cc
  cases d with
  | tup ds =>
    cases d2 with
    | tup es =>
      obtain ⟨p, xs, rfl, hx, hd⟩ := den_tup.mp n1'
      obtain ⟨p', ys, rfl, hy, he⟩ := den_tup.mp n2
      exact ⟨p, p', xs, ys, rfl, e2.ch.seqT hx, e2.ch.seqT hy, k _ _ C2 H2 q2 (e1.trans e2) (walk_zip hx hy hd he)⟩
    | _ => exact q2.elim
  | _ => exact q2.elim
end
end L2
namespace L2
open PySem PySem.Spec PyProof.Rows
def gOptP (o : Option (D → Prop)) (Q : D → Prop) : Prop := match o with
  | some p => ∀ d, p d → Q d
  | none => False
def spR (K : PySem.W.Frag) (F : List D → Option (D → Prop)) : Sp := fun vs H Q _ => ∃ C ds p, Same C H ∧ Dens K C vs ds ∧ F ds = some p ∧ ∀ d v C' H', p d → Ext C H C' H' → Den K C' v d → Q v H'
def DFnR (P : Program) (w : World) (K : PySem.W.Frag) (mg : Str → Option Value) (base : Heap) (k : Nat) (x : Str) (F : List D → Option (D → Prop)) : Prop :=
  ∃ f fd ps, FnOk P w K mg base CX0 k f fd ps (spR K F) ∧ mg x = some (.ref f) ∧ PySem.W.keepIn K (.ref f) = true ∧ Binds K fd ps []
section
variable {X : Cx} {a b c e : Expr} {es : List Expr} {pos : Pos} {ga gb gc gd : GE} {gf : GF} {ta tb : GT}
def gCallR (F : List D → Option (D → Prop)) (gf : GF) : GE := fun δ Q => gf δ fun ds => gOptP (F ds) Q
theorem de_callR {F : List D → Option (D → Prop)} {k : Nat} {x : Str} {p : Pos} (h : DFnR X.prog X.w X.K X.mg X.base k x F) (hr : Room k X.A) (hg : Gl X x) (ha : DA X (e :: es) gf) (hdb : (x == ("__debug__" : Str)) = false := by decide)
    (he : starEach (e :: es) X.env = (false, eval e X.env) :: starEach es X.env := by rfl) (hpl : (backTo pos (starEach es X.env)).any (·.1) = false := by rfl) : DE X (.Call (.Name x p) (e :: es) [] pos) (gCallR F gf) := by
  obtain ⟨f, fd, ps, Fk, hm, hk, hb⟩ := h
  obtain ⟨t, pa, h⟩ := ha
  refine ⟨_, pe_call Fk hr hg hm hk hb .nil pass0 pa hdb he hpl, fun C0 H0 δ σ C H Q R rp g k => h C0 H0 δ σ C H _ _ rp g fun ds vs C1 H1 q e1 n1 => ?_⟩
  cases e2 : F ds with
  | none => rw [e2] at q; exact q.elim
  | some p =>
    rw [e2] at q
    exact ⟨C1, ds, p, e1.ch, by rw [List.append_nil]; exact n1, e2, fun d v C' H' hp ex nv => k d v C' H' (q d hp) (e1.trans ex) nv⟩
theorem de_callG {x : Str} {f : Value} {g : List D → (D → Prop) → Prop} {pos' : Pos} (hc : DCall X f g) (ha : DA X (e :: es) gf)
    (hp : ∀ {t : TA} {r : List V → Hp → VK → Prop}, CallR X f r → PA X (e :: es) t → PE X (.Call (.Name x pos') (e :: es) [] pos) (tCB r t)) : DE X (.Call (.Name x pos') (e :: es) [] pos) (gCallB g gf) := by
  obtain ⟨r, pr, hr⟩ := hc
  obtain ⟨t, p, h⟩ := ha
  refine ⟨_, hp pr p, fun C0 H0 δ σ C H Q R rp g k => h C0 H0 δ σ C H _ _ rp g fun ds vs C1 H1 q e1 n1 => ?_⟩
  exact hr vs ds C1 H1 Q R e1.ch n1 q fun d v C2 H2 q2 e2 n2 => k d v C2 H2 q2 (e1.trans e2) n2
theorem compOk_of {scope sc : Scope} {N Nc : List Str} {fr : List (Option Nat)} (h1 : X.env.scope = sc) (h2 : X.N = N) (h : compOk sc scope N Nc fr = true) : compOk X.env.scope scope X.N Nc fr = true := by rw [h1, h2]; exact h
end
theorem fnR {P : Program} {w : World} {K : PySem.W.Frag} {mg : Str → Option Value} {base : Heap} {x qual : Str} {st : Stmt} {f : Addr} {fd : FuncData} {N ps : List Str} {k : Nat} {F : List D → Option (D → Prop)} {g : GS} (Fn : Fun K x qual st f fd) (S : FnScope N ps (defScope st))
    (hl : ∀ ds p, F ds = some p → ds.length = ps.length)
    (hb : ∀ (cdv : Value) (A : Around) (outer : List Env) (s : Shared) (H : Hp) (E : XK), Room k (A.deeper (envOfC qual (defScope st) s.heap.objs.size f cdv)) → DSs (cxOf CX0 P w K mg base N qual (defScope st) f cdv A outer s H E).nox (defBody st) g)
    (hv : ∀ ds p, F ds = some p → g { nx := fun _ => p .non, rt := p } (dstart N ds)) (hm : mg x = some (.ref f)) (bi : Binds K fd ps []) : DFnR P w K mg base (k + 1) x F := by
  refine ⟨f, fd, ps, Fn.ok S (fun vs H Q E h => ?_) (fun cdv A outer s H vs Q E hr h => ?_), hm, Fn.kp, bi⟩
  · obtain ⟨C, ds, p, _, n, e, _⟩ := h
    rw [n.length]
    exact hl ds p e
  · obtain ⟨C, ds, pd, ch, n, e, q⟩ := h
    obtain ⟨t, p, h⟩ := hb cdv A outer s H E hr
    refine ⟨t, p, h C H (dstart N ds) (start N vs) C H _ _ (rep_start ch n) (hv ds pd e) ⟨fun δ σ C' H' rp z => ?_, fun r v C' H' ex nv z => ?_, fun _ _ _ _ _ z => z.elim, fun _ _ _ _ _ z => z.elim⟩⟩
    · exact q .non _ C' H' z rp.ext (den_non.mpr rfl)
    · exact q r v C' H' z ex nv
theorem bt_len : bootBuiltins "len" = some (.builtin "len") := by decide +kernel
theorem bt_abs : bootBuiltins "abs" = some (.builtin "abs") := by decide +kernel
theorem bt_sorted : bootBuiltins "sorted" = some (.builtin "sorted") := by decide +kernel
theorem bt_isinstance : bootBuiltins "isinstance" = some (.builtin "isinstance") := by decide +kernel
theorem bt_tuple : bootBuiltins "tuple" = some (.type "tuple") := by decide +kernel
theorem bt_bool : bootBuiltins "bool" = some (.type "bool") := by decide +kernel
theorem bt_zip : bootBuiltins "zip" = some (.type "zip") := by decide +kernel
end L2
namespace L2
open PySem PySem.Spec PyProof.Rows
@[reducible] def dInts (ns : List Int) : D := .tup (ns.map D.int)
def rowStep (rows : List (List Int)) (m : Int) : List (List Int) := rows.flatMap fun r => (List.range m.toNat).map fun (k : Nat) => r ++ [(k : Int)]
def rowsL (ns : List Int) : List (List Int) := ns.foldl rowStep [[]]
def okDeeds (ns : List Int) : Bool := decide (ns.length ≤ 3) && ns.all fun n => decide (1 ≤ n) && decide (n ≤ 3)
def onDeeds (ds : List D) (f : List Int → D) : Option D := match intsD ds with
  | some ns => if okDeeds ns = true then some (f ns) else none
  | none => none
def F_common_divisor : List D → Option D
  | [.int a, .int b] => some (.int (Int.gcd a b))
  | _ => none
def F__law_rows : List D → Option D
  | [.tup ds] => onDeeds ds fun ns => .lst ((rowsL ns).map dInts)
  | _ => none
def F__law_cell : List D → Option D
  | [.lst ds, .int k] => match intsD ds with
    | some ns => if 0 ≤ k then some (.int (ns.getD k.toNat 0)) else none
    | none => none
  | _ => none
def F__law_cells : List D → Option D
  | [.lst ds, .int k] => match intsD ds with
    | some ns => if 0 ≤ k then some (.lst ((List.range 4).map fun (n : Nat) => .int (ns.getD (k.toNat + n) 0))) else none
    | none => none
  | _ => none
def mix (c p m : Int) : Int := c * 48271 % p % m
def F__law_mix : List D → Option D
  | [.int c, .int p, .int m] => if 0 < p ∧ 0 < m then some (.int (mix c p m)) else none
  | _ => none
structure MeetOk (ns : List Int) (pay : List (List Int)) : Prop where
  two : 2 ≤ ns.length
  ok : okDeeds ns = true
  many : pay.length = (rowsL ns).length
  rows : ∀ r ∈ pay, r.length = ns.length ∧ ∀ x ∈ r, -9 ≤ x ∧ x ≤ 9
@[reducible] def meetD (ns : List Int) (pay : List (List Int)) : D := .tup [dInts ns, .tup (pay.map dInts)]
def F__law_meeting : List D → Option (D → Prop)
  | [.int c] => some fun d => ∃ ns pay, d = meetD ns pay ∧ MeetOk ns pay ∧ (c % 3 = 0 → ns = [2, 2])
  | _ => none
def patL (c : Int) : Int := 2 + mix c 9929 29
def patU (c : Int) : Int := if c % 4 = 0 then patL c - 1 else 1 + mix c 9923 (patL c - 1)
def patR (c : Int) : Rat := Rat.divInt (patU c) (patL c)
def F__law_patience : List D → Option D
  | [.int c] => some (.tup [.int (patR c).num, .int ((patR c).den : Int)])
  | _ => none
def F__law_row : List D → Option D
  | [.tup [.tup es, _], .int c] => onDeeds es fun ns => dInts ((rowsL ns).getD (mix c 9907 (rowsL ns).length).toNat [])
  | _ => none
structure PlanOk (ns : List Int) (pl : List (List Int × List Int)) : Prop where
  few : 1 ≤ pl.length ∧ pl.length ≤ 8
  row : ∀ s ∈ pl, s.1 ∈ rowsL ns
  nexts : ∀ s ∈ pl, s.2.length = (rowsL ns).length ∧ ∀ x ∈ s.2, 0 ≤ x ∧ x < pl.length
@[reducible] def planD (pl : List (List Int × List Int)) : D := .tup (pl.map fun s => .tup [dInts s.1, dInts s.2])
def F__law_plan : List D → Option (D → Prop)
  | [.tup [.tup es, _], .lst cs, .int m] => match intsD es, intsD cs with
    | some ns, some xs => if okDeeds ns = true ∧ xs.length = 4 ∧ 0 < m ∧ m ≤ 8 then some fun d => ∃ pl, d = planD pl ∧ PlanOk ns pl else none
    | _, _ => none
  | _ => none
def F_law : List D → Option (D → Prop)
  | [.lst ds] => match intsD ds with
    | some _ => some fun d => d = .bl true
    | none => none
  | _ => none
end L2
namespace L2
open PySem PySem.Spec PyProof.Rows
theorem rowStep_length (rows : List (List Int)) (m : Int) : (rowStep rows m).length = rows.length * m.toNat := by
  unfold rowStep
  induction rows with
  | nil => simp
  | cons r rows ih => rw [List.flatMap_cons, List.length_append, ih, List.length_map, List.length_range, List.length_cons, Nat.succ_mul, Nat.add_comm]
theorem rowStep_append (a b : List (List Int)) (m : Int) : rowStep (a ++ b) m = rowStep a m ++ rowStep b m := by
  unfold rowStep
  rw [List.flatMap_append]
theorem rowStep_one (r : List Int) (m : Int) : rowStep [r] m = (List.range m.toNat).map fun (k : Nat) => r ++ [(k : Int)] := by
  unfold rowStep
  simp
theorem rowsL_snoc (ns : List Int) (m : Int) : rowsL (ns ++ [m]) = rowStep (rowsL ns) m := by
  unfold rowsL
  rw [List.foldl_append]
  rfl
def RowOf (ns r : List Int) : Prop := r.length = ns.length ∧ ∀ (i : Nat) (x n : Int), r[i]? = some x → ns[i]? = some n → 0 ≤ x ∧ x < n
theorem rowOf_snoc {ns r : List Int} {m k : Int} (h : RowOf ns r) (h0 : 0 ≤ k) (h1 : k < m) : RowOf (ns ++ [m]) (r ++ [k]) := by
  refine ⟨by simp [h.1], fun i x n e1 e2 => ?_⟩
  by_cases hi : i < r.length
  · rw [List.getElem?_append_left hi] at e1
    rw [List.getElem?_append_left (by rw [← h.1]; exact hi)] at e2
    exact h.2 i x n e1 e2
  · rw [List.getElem?_append_right (by omega)] at e1
    rw [List.getElem?_append_right (by rw [← h.1]; omega)] at e2
    rw [h.1] at e1
    cases hj : i - ns.length with
    | zero =>
      rw [hj] at e1 e2
      cases e1
      cases e2
      exact ⟨h0, h1⟩
    | succ j =>
      rw [hj] at e1
      simp at e1
theorem rows_rev : ∀ (ms : List Int), ∀ r ∈ rowsL ms.reverse, RowOf ms.reverse r
  | [], r, h => by
    have : r = [] := by simpa [rowsL] using h
    subst this
    exact ⟨rfl, fun i x n e => by simp at e⟩
  | m :: ms, r, h => by
    rw [List.reverse_cons, rowsL_snoc] at h
    rw [List.reverse_cons]
    unfold rowStep at h
    obtain ⟨r0, h0, h1⟩ := List.mem_flatMap.mp h
    obtain ⟨k, hk, rfl⟩ := List.mem_map.mp h1
    have hk' := List.mem_range.mp hk
    exact rowOf_snoc (rows_rev ms r0 h0) (by omega) (by omega)
theorem rows_row {ns r : List Int} (h : r ∈ rowsL ns) : RowOf ns r := by
  have := rows_rev ns.reverse r (by rw [List.reverse_reverse]; exact h)
  rwa [List.reverse_reverse] at this
theorem okDeeds_take {ns : List Int} (h : okDeeds ns = true) (i : Nat) : okDeeds (ns.take i) = true := by
  unfold okDeeds at h ⊢
  rw [Bool.and_eq_true, decide_eq_true_eq, List.all_eq_true] at h ⊢
  exact ⟨by rw [List.length_take]; omega, fun x hx => h.2 x (List.mem_of_mem_take hx)⟩
theorem okDeeds_mem {ns : List Int} (h : okDeeds ns = true) : ns.length ≤ 3 ∧ ∀ n ∈ ns, 1 ≤ n ∧ n ≤ 3 := by
  unfold okDeeds at h
  rw [Bool.and_eq_true, decide_eq_true_eq, List.all_eq_true] at h
  refine ⟨h.1, fun n hn => ?_⟩
  have := h.2 n hn
  simpa using this
theorem rows_len_rev : ∀ (ms : List Int), (∀ n ∈ ms, 1 ≤ n ∧ n ≤ 3) → 1 ≤ (rowsL ms.reverse).length ∧ (rowsL ms.reverse).length ≤ 3 ^ ms.length
  | [], _ => by simp [rowsL]
  | m :: ms, h => by
    rw [List.reverse_cons, rowsL_snoc, rowStep_length, List.length_cons, Nat.pow_succ]
    obtain ⟨h1, h2⟩ := rows_len_rev ms fun n hn => h n (List.mem_cons_of_mem _ hn)
    obtain ⟨h3, h4⟩ := h m List.mem_cons_self
    have h5 : 1 ≤ m.toNat := by omega
    have h6 : m.toNat ≤ 3 := by omega
    exact ⟨Nat.mul_le_mul h1 h5, Nat.mul_le_mul h2 h6⟩
theorem rows_len {ns : List Int} (h : okDeeds ns = true) : 1 ≤ (rowsL ns).length ∧ (rowsL ns).length ≤ 27 := by
  obtain ⟨h1, h2⟩ := okDeeds_mem h
  have q := rows_len_rev ns.reverse fun n hn => h2 n (List.mem_reverse.mp hn)
  rw [List.reverse_reverse, List.length_reverse] at q
  refine ⟨q.1, Nat.le_trans q.2 ?_⟩
  exact Nat.le_trans (Nat.pow_le_pow_right (n := 3) (by decide) h1) (by decide)
theorem onDeeds_eq {ds : List D} {f : List Int → D} {d : D} (h : onDeeds ds f = some d) : ∃ ns, ds = ns.map D.int ∧ okDeeds ns = true ∧ d = f ns := by
  unfold onDeeds at h
  split at h
  · rename_i ns e
    split at h
    · rename_i ho
      cases h
      exact ⟨ns, ints_eq e, ho, rfl⟩
    · cases h
  · cases h
theorem onDeeds_of {ns : List Int} (f : List Int → D) (h : okDeeds ns = true) : onDeeds (ns.map D.int) f = some (f ns) := by
  unfold onDeeds
  rw [ints_map]
  simp [h]
end L2
namespace L2
open PySem PySem.Spec PyProof.Rows
def FunAt (K : PySem.W.Frag) (mg : Str → Option Value) (x : Str) (st : Stmt) (ps : List Str) : Prop := ∃ f fd, Fun K x x st f fd ∧ mg x = some (.ref f) ∧ Binds K fd ps []
theorem funAt_of {K : PySem.W.Frag} {h : Heap} {mg : Str → Option Value} {x : Str} {st : Stmt} {ps : List Str} {f : Addr} {od an : Option Addr} {sl : Array (Option Value)} {oc kV dc pm cd ct : Value} (X : K.In h) (G : h.Ns mainGlobals mg)
    (a : PySem.W.nsIn K mainGlobals x = some (some (.ref f))) (l : K.lookup f = some ⟨oc, od, .func (PySem.W.fnOf x x (defArgs st) (defBody st) (defScope st) .none kV dc pm an cd ct), sl⟩) (c : PySem.W.codeIn K cd x = true) (k : PySem.W.keepIn K (.ref f) = true)
    (hb : ∀ (kV doc pm : Value) (an : Option Addr) (cdv ct : Value) (us : List Value), us.length = ps.length → bindArgs (PySem.W.fnOf x x (defArgs st) (defBody st) (defScope st) .none kV doc pm an cdv ct) ⟨us, []⟩ = pure (ps.zip us)) : FunAt K mg x st ps :=
  ⟨f, _, fun_mk (st := st) l c k, PySem.W.mg_of X G a, (fun_mk (st := st) l c k).binds hb⟩
theorem fnR0 {P : Program} {w : World} {K : PySem.W.Frag} {mg : Str → Option Value} {base : Heap} {x qual : Str} {st : Stmt} {f : Addr} {fd : FuncData} {N ps : List Str} {k : Nat} {F : List D → Option (D → Prop)} {g : GS} (Fn : Fun K x qual st f fd) (S : FnScope N ps (defScope st))
    (hl : ∀ ds p, F ds = some p → ds.length = ps.length)
    (hb : ∀ (cdv : Value) (A : Around) (outer : List Env) (s : Shared) (H : Hp) (E : XK), Room k (A.deeper (envOfC qual (defScope st) s.heap.objs.size f cdv)) → DSs (cxOf CX0 P w K mg base N qual (defScope st) f cdv A outer s H E).nox (defBody st) g)
    (hv : ∀ ds p, F ds = some p → g { nx := fun _ => p .non, rt := p } (dstart N ds)) : FnOk P w K mg base CX0 (k + 1) f fd ps (spR K F) := by
  refine Fn.ok S (fun vs H Q E h => ?_) (fun cdv A outer s H vs Q E hr h => ?_)
  · obtain ⟨C, ds, p, _, n, e, _⟩ := h
    rw [n.length]
    exact hl ds p e
  · obtain ⟨C, ds, pd, ch, n, e, q⟩ := h
    obtain ⟨t, p, h⟩ := hb cdv A outer s H E hr
    refine ⟨t, p, h C H (dstart N ds) (start N vs) C H _ _ (rep_start ch n) (hv ds pd e) ⟨fun δ σ C' H' rp z => ?_, fun r v C' H' ex nv z => ?_, fun _ _ _ _ _ z => z.elim, fun _ _ _ _ _ z => z.elim⟩⟩
    · exact q .non _ C' H' z rp.ext (den_non.mpr rfl)
    · exact q r v C' H' z ex nv
theorem us1 {P : List Value → Prop} (h : ∀ a, P [a]) : ∀ us : List Value, us.length = 1 → P us
  | [a], _ => h a
theorem us2 {P : List Value → Prop} (h : ∀ a b, P [a, b]) : ∀ us : List Value, us.length = 2 → P us
  | [a, b], _ => h a b
theorem us3 {P : List Value → Prop} (h : ∀ a b c, P [a, b, c]) : ∀ us : List Value, us.length = 3 → P us
  | [a, b, c], _ => h a b c
theorem us4 {P : List Value → Prop} (h : ∀ a b c d, P [a, b, c, d]) : ∀ us : List Value, us.length = 4 → P us
  | [a, b, c, d], _ => h a b c d
theorem us5 {P : List Value → Prop} (h : ∀ a b c d e, P [a, b, c, d, e]) : ∀ us : List Value, us.length = 5 → P us
  | [a, b, c, d, e], _ => h a b c d e
theorem us6 {P : List Value → Prop} (h : ∀ a b c d e f, P [a, b, c, d, e, f]) : ∀ us : List Value, us.length = 6 → P us
  | [a, b, c, d, e, f], _ => h a b c d e f
end L2
namespace L2
open PySem PySem.Spec PyProof.Rows
def ansD (x : D) : List D → Option (List Bool)
  | [] => some []
  | y :: ys => match eqD y x, ansD x ys with
    | some a, some b => some (a :: b)
    | _, _ => none
theorem ansD_at {x : D} : ∀ {ds : List D} {bs : List Bool}, ansD x ds = some bs → bs.length = ds.length ∧ ∀ (j : Nat) d, ds[j]? = some d → ∃ b, bs[j]? = some b ∧ eqD d x = some b
  | [], bs, h => by
    cases h
    exact ⟨rfl, fun j d e => by simp at e⟩
  | y :: ys, bs, h => by
    unfold ansD at h
    cases e1 : eqD y x with
    | none => rw [e1] at h; cases h
    | some a =>
      cases e2 : ansD x ys with
      | none => rw [e1, e2] at h; cases h
      | some b =>
        rw [e1, e2] at h
        cases h
        obtain ⟨h1, h2⟩ := ansD_at e2
        refine ⟨by simp [h1], fun j d e => ?_⟩
        cases j with
        | zero => cases e; exact ⟨a, rfl, e1⟩
        | succ j => exact h2 j d e
section
variable {X : Cx} {pins : List (Addr × Obj)} {σ : St} {H C : Hp} {s : Shared}
open Classical in
noncomputable def ansU (K : PySem.W.Frag) (C : Hp) (x : D) (u : Value) : Bool := decide (∃ z d, RelV z u ∧ Den K C z d ∧ eqD d x = some true)
open Classical in
theorem ans_core (I : Inv X pins σ H s) (ch : Same C H) {A : Around} {dx : D} {x : V} {v : Value} {xs : List V} {its : List Value} {ds : List D} {bs : List Bool} (hu : A.units + 32 < cLine) (hd : deps ds ≤ 32) (rx : RelV x v) (nx : Den X.K C x dx)
    (r : Vals xs its) (n : Dens X.K C xs ds) (h : ansD dx ds = some bs) : (∀ y ∈ its, SeqAt.EqAt A s y v (ansU X.K C dx y)) ∧ its.map (ansU X.K C dx) = bs := by
  obtain ⟨h1, h2⟩ := ansD_at h
  have key : ∀ (j : Nat) y, its[j]? = some y → ∃ b, bs[j]? = some b ∧ ansU X.K C dx y = b ∧ SeqAt.EqAt A s y v b := by
    intro j y e
    have hj : j < its.length := (List.getElem?_eq_some_iff.mp e).1
    have hl := r.length
    have hl2 := n.length
    have ed : ds[j]? = some (ds[j]'(by omega)) := List.getElem?_eq_getElem _
    obtain ⟨z, ez, nz⟩ := n.get ed
    obtain ⟨y', ey, ry⟩ := r.get ez
    rw [e] at ey
    cases ey
    obtain ⟨b, eb, q⟩ := h2 j _ ed
    refine ⟨b, eb, ?_, eqAt_D I ch 32 _ dx b A z x y v (Nat.le_trans (deps_at ed) hd) hu q ry rx nz nx⟩
    cases b with
    | true =>
      unfold ansU
      exact decide_eq_true ⟨z, _, ry, nz, q⟩
    | false =>
      unfold ansU
      refine decide_eq_false fun ⟨z', d', r', n', q'⟩ => ?_
      have e1 := r'.inj ry
      subst e1
      have e2 := den_inj I ch _ _ n' nz
      subst e2
      rw [q] at q'
      cases q'
  refine ⟨fun y hy => ?_, ?_⟩
  · obtain ⟨j, hj, rfl⟩ := List.mem_iff_getElem.mp hy
    obtain ⟨b, _, e, q⟩ := key j _ (List.getElem?_eq_getElem hj)
    rw [e]; exact q
  · refine List.ext_getElem? fun j => ?_
    rw [List.getElem?_map]
    cases e : its[j]? with
    | none =>
      have : its.length ≤ j := List.getElem?_eq_none_iff.mp e
      have hl := r.length
      have hl2 := n.length
      exact (List.getElem?_eq_none_iff.mpr (by omega)).symm
    | some y =>
      obtain ⟨b, eb, e2, _⟩ := key j y e
      rw [eb, Option.map_some, e2]
end
section
variable {X : Cx} {a b c e o : Expr} {es : List Expr} {pos : Pos} {ga gb gc gd : GE} {gf : GF}
def seqOf : D → Option (List D)
  | .tup ds => some ds
  | .lst ds => some ds
  | _ => none
def oNotin : GO := fun x y Q => match seqOf y with
  | some ds => deps ds ≤ 32 ∧ match ansD x ds with
    | some bs => Q (.bl (!bs.any id))
    | none => False
  | none => False
def rInD (K : PySem.W.Frag) (neg : Bool) : R2 := fun x y H R => ∃ C dx p xs ds bs, Same C H ∧ Den K C x dx ∧ y = .ref p ∧ (SqL K H p xs ∨ SqT K H p xs) ∧ Dens K C xs ds ∧ deps ds ≤ 32 ∧ ansD dx ds = some bs ∧ R (.bl (if neg then !bs.any id else bs.any id)) H
theorem any_arr (its : List Value) (f : Value → Bool) : its.toArray.any f = (its.map f).any id := by
  simp [List.any_map, Function.comp_def]
theorem seq_den {K : PySem.W.Frag} {C H : Hp} {v : V} {y : D} {ds : List D} (ch : Same C H) (n : Den K C v y) (e : seqOf y = some ds) : ∃ p xs, v = .ref p ∧ (SqL K H p xs ∨ SqT K H p xs) ∧ Dens K C xs ds := by
  cases y with
  | tup ys => cases e; obtain ⟨p, xs, rfl, hx, hd⟩ := den_tup.mp n; exact ⟨p, xs, rfl, .inr (ch.seqT hx), hd⟩
  | lst ys => cases e; obtain ⟨p, xs, rfl, hx, hd⟩ := den_lst.mp n; exact ⟨p, xs, rfl, .inl (ch.seq hx), hd⟩
  | _ => cases e
theorem do_notin (hu : X.A.units + 64 < cLine) : DOp X (compareOp .NotIn) oNotin := by
  refine ⟨rInD X.K true, fun pins s σ H x y v u Q I rx ry h => ?_, fun x y dx dy C H Q R ch n1 n2 q k => ?_⟩
  · obtain ⟨C, dx, p, xs, ds, bs, ch, nx, rfl, hq, nd, hd, ha, q⟩ := h
    cases ry
    rcases hq with hq | hq
    · obtain ⟨its, r, pl, hz⟩ := I.list hq
      obtain ⟨h1, h2⟩ := ans_core I ch (A := X.A.in1) (by show X.A.units + 1 + 32 < cLine; omega) hd rx nx r nd ha
      refine SeqAt.notIn_listAt (ansU X.K C dx) pl.isList (fun w hw => h1 w (by simpa using hw)) ⟨.bl _, H, I, rfl, ?_⟩
      rw [any_arr, h2]
      exact q
    · obtain ⟨its, r, pl, hz⟩ := I.tuple hq
      obtain ⟨h1, h2⟩ := ans_core I ch (A := X.A.in1) (by show X.A.units + 1 + 32 < cLine; omega) hd rx nx r nd ha
      refine SeqAt.notIn_tupleAt (ansU X.K C dx) pl (fun w hw => h1 w (by simpa using hw)) ⟨.bl _, H, I, rfl, ?_⟩
      rw [any_arr, h2]
      exact q
  · unfold oNotin at q
    split at q
    · rename_i ds e
      obtain ⟨hd, q⟩ := q
      split at q
      · rename_i bs e2
        obtain ⟨p, xs, rfl, hx, nd⟩ := seq_den ch n2 e
        exact ⟨C, dx, p, xs, ds, bs, ch, n1, rfl, hx, nd, hd, e2, k _ _ C H q (Ext.refl ch) (den_bl.mpr rfl)⟩
      · exact q.elim
    · exact q.elim
def rIndexD (K : PySem.W.Frag) : V → List V → Hp → VK → Prop := fun l vs H R => ∃ C dx x p xs ds bs, ∃ j : Nat, Same C H ∧ vs = [x] ∧ Den K C x dx ∧ l = .ref p ∧ SqL K H p xs ∧ Dens K C xs ds ∧ deps ds ≤ 32 ∧ ansD dx ds = some bs ∧ bs[j]? = some true ∧ (∀ i : Nat, i < j → bs[i]? = some false) ∧ R (.int (j : Int)) H
theorem mt_index (hu : X.A.units + 64 < cLine) : MtR X "list.index" (rIndexD X.K) := by
  intro pins s σ H l vs v us Q I rl rv h
  obtain ⟨C, dx, x, p, xs, ds, bs, j, ch, rfl, nx, rfl, hq, nd, hd, ha, hj, hno, q⟩ := h
  cases rl
  obtain ⟨u, rfl, rx⟩ := vals1 rv
  obtain ⟨its, r, pl, hz⟩ := I.list hq
  have hlen := r.length
  obtain ⟨⟨cls, dd, data, sl⟩, ho, hc, n, hdt⟩ := id pl.isList
  simp only at hc hdt
  subst hc hdt
  obtain ⟨h1, h2⟩ := ans_core I ch (A := X.A.in1.in1) (by show X.A.units + 1 + 1 + 32 < cLine; omega) hd rx nx r nd ha
  obtain ⟨h1', _⟩ := ans_core I ch (A := X.A.in1) (by show X.A.units + 1 + 32 < cLine; omega) hd rx nx r nd ha
  have hjl : j < its.length := by
    have := (List.getElem?_eq_some_iff.mp hj).1
    rw [← h2, List.length_map] at this
    exact this
  have at_ : ∀ (i : Nat) (hi : i < its.toArray.size) (b : Bool), bs[i]? = some b → ansU X.K C dx its.toArray[i] = b := by
    intro i hi b e
    have hi' : i < its.length := by simpa using hi
    rw [← h2, List.getElem?_map, List.getElem?_eq_getElem hi'] at e
    simpa using e
  have hz2 : (sizeLine : Int) < 2 ^ 63 - 1 := by decide
  refine call_meets F.slot_list_index ⟨_, ho, rfl⟩ F.entry_list_index (F.args_list_index_2 _ _) (SeqAt.list_indexAt p its.toArray n dd sl u (ansU X.K C dx) j (by simpa using hjl) (by omega) (at_ j _ true hj) (fun m hm hmj => at_ m hm false (hno m hmj))) ⟨ho, ?_, ?_⟩
  · intro y hy
    first | exact h1 y (by simpa using hy) | exact h1' y (by simpa using hy)
  · exact ⟨.int j, H, I.tok _, ⟨_, rfl⟩, q⟩
def firstT : List Bool → Option Nat
  | [] => none
  | true :: _ => some 0
  | false :: r => (firstT r).map (· + 1)
theorem firstT_at : ∀ {bs : List Bool} {j : Nat}, firstT bs = some j → bs[j]? = some true ∧ ∀ i : Nat, i < j → bs[i]? = some false
  | true :: r, j, h => by cases h; exact ⟨rfl, fun i hi => by omega⟩
  | false :: r, j, h => by
    unfold firstT at h
    cases e : firstT r with
    | none => rw [e] at h; cases h
    | some k =>
      rw [e] at h
      cases h
      obtain ⟨h1, h2⟩ := firstT_at e
      refine ⟨h1, fun i hi => ?_⟩
      cases i with
      | zero => rfl
      | succ i => exact h2 i (by simp at hi; omega)
def gIndex (ga gb : GE) : GE := fun δ Q => ga δ fun d => match d with
  | .lst ds => gb δ fun x => deps ds ≤ 32 ∧ match ansD x ds with
    | some bs => match firstT bs with
      | some j => Q (.int j)
      | none => False
    | none => False
  | _ => False
theorem de_index {p2 : Pos} (hu : X.A.units + 64 < cLine) (ha : DE X a ga) (hb : DE X b gb)
    (hp : ∀ {to : TE} {t : TA}, PE X a to → PA X [b] t → PE X (.Call (.Attribute a "index" p2) [b] [] pos) (tBM X.K "list" (rIndexD X.K) to t)) (hs : starEach [b] X.env = [(false, eval b X.env)] := by rfl) : DE X (.Call (.Attribute a "index" p2) [b] [] pos) (gIndex ga gb) := by
  obtain ⟨t1, p1, h1⟩ := ha
  obtain ⟨t2, p2, h2⟩ := hb
  refine ⟨_, hp p1 (pa_cons p2 pa_nil hs), fun C0 H0 δ σ C H Q R rp g k => ?_⟩
  refine h1 C0 H0 δ σ C H _ _ rp g fun d v C1 H1 q e1 n1 => ?_
  cases d with
  | lst ds =>
    obtain ⟨p, xs, rfl, hx, hd⟩ := den_lst.mp n1
    refine ⟨.inl ⟨rfl, xs, e1.ch.seq hx⟩, h2 C0 H0 δ σ C1 H1 _ _ (rp.grow e1) q fun d2 v2 C2 H2 q2 e2 n2 => ?_⟩
    obtain ⟨hdp, q2⟩ := q2
    split at q2
    · rename_i bs ea
      split at q2
      · rename_i j ej
        obtain ⟨f1, f2⟩ := firstT_at ej
        exact ⟨C2, d2, v2, p, xs, ds, bs, j, e2.ch, rfl, n2, rfl, e2.ch.seq (e2.cc.seq hx), hd.mono e2.cc, hdp, ea, f1, f2, k _ _ C2 H2 q2 (e1.trans e2) (den_int.mpr rfl)⟩
      · exact q2.elim
    · exact q2.elim
  | _ => exact q.elim
end
end L2
namespace L2
open PySem PySem.Spec PyProof.Rows
open AutoSeq1 (wpAny_loadPart')
section
variable {prog : Program} {w : World} {A : Around} {E : Value → Shared → Prop} {s : Shared}
theorem enumx_item {e it src : Addr} {k : Nat} {xs : Array Value} {x old : Value} {Q : Value → Shared → Prop} (he : IsEnum s.heap e it k old) (a : At s.heap it src k xs) (hx : xs[k]? = some x) (ne : e ≠ it) (ns : src ≠ it) (nse : src ≠ e)
    (hQ : ∀ h', IsEnumOut h' e it ((k : Int) + 1) x s.heap.objs.size → At h' it src (k + 1) xs → IsPair h' s.heap.objs.size (.int k s.toks) x → (∀ b o, b ≠ e → b ≠ it → s.heap.get? b = some o → h'.get? b = some o) → Q (.ref s.heap.objs.size) { s with heap := h', toks := s.toks + 1 }) :
    wpAny (model prog w) A (Builtin.«enumerate.__next__» ⟨[.ref e], []⟩) (fun fin s' => ∃ v, fin = .done (.ret v) ∧ Q v s') E s := by
  obtain ⟨hp, g, d, tk, os⟩ := s
  refine wpAny_bind (m := field (.ref e) 2) (wpAny_field he rfl (x := .ref it) rfl ?_)
  refine wpAny_bind (next_at a ns hx fun h1 a1 sb1 => ?_)
  replace sb1 : Heap.SameBut it hp h1 := sb1
  have en1 : IsEnum h1 e it k old := (sb1.2 e ne).trans he
  refine wpAny_bind (m := field (.ref e) 3) (wpAny_field en1 rfl (x := rawInt k) rfl ?_)
  refine wpAny_bind (m := field (.ref e) 4) (wpAny_field en1 rfl (x := .none) rfl ?_)
  refine wpAny_bind (m := mkInt k) (wpAny_mkInt ?_)
  refine wpAny_bind (m := setField (.ref e) 3 (rawInt ((k : Int) + 1))) (wpAny_setField_rec en1 (by simp) fun h2 en2 sb2 => ?_)
  replace sb2 : Heap.SameBut e h1 h2 := sb2
  replace en2 : IsEnum h2 e it ((k : Int) + 1) old := en2
  refine wpAny_bind (m := setField (.ref e) 4 .none) (wpAny_setField_rec en2 (by simp) fun h3 en3 sb3 => ?_)
  replace sb3 : Heap.SameBut e h2 h3 := sb3
  replace en3 : IsEnum h3 e it ((k : Int) + 1) old := en3
  refine wpAny_bind (m := newTuple [.int k tk, x]) (wpAny_newTuple ?_)
  have en4 : IsEnum (h3.push { cls := .type "tuple", data := .seq #[.int k tk, x] }) e it ((k : Int) + 1) old := Heap.get?_push_of_some _ en3
  generalize hh4 : h3.push { cls := .type "tuple", data := .seq #[.int k tk, x] } = h4 at en4
  show wpAny _ A _ _ E ⟨h4, g, d, tk + 1, os⟩
  have z3 : h3.objs.size = hp.objs.size := by rw [sb3.1, sb2.1, sb1.1]
  have lte : e < hp.objs.size := Heap.lt_size he
  have t4 : IsPair h4 hp.objs.size (.int k tk) x := by rw [← hh4, ← z3]; exact Heap.get?_push_size _ rfl
  have k4 : ∀ b o, b ≠ e → b ≠ it → hp.get? b = some o → h4.get? b = some o := fun b o n1 n2 q => by
    rw [← hh4]
    exact Heap.get?_push_of_some _ (sb3.extBut b o n1 (sb2.extBut b o n1 (sb1.extBut b o n2 q)))
  have a4 : At h4 it src (k + 1) xs := by
    rw [← hh4]
    exact ((a1.but sb2.extBut (Ne.symm ne) nse).but sb3.extBut (Ne.symm ne) nse).kept (fun o q => Heap.get?_push_of_some _ q) fun o q => Heap.get?_push_of_some _ q
  refine wpAny_bind (m := Builtin.SmallTypes.ownedTupleIsFree (.ref e)) ?_
  rw [z3]
  clear hh4 en3 sb3 en2 sb2 en1 sb1 a1 z3 h3 h2 h1
  unfold Builtin.SmallTypes.ownedTupleIsFree
  refine wpAny_bind (wpAny_field en4 rfl (x := .none) rfl (wpAny_pure ?_))
  simp only [if_true]
  refine wpAny_bind (wpAny_rule ?_)
  refine wpAny_bind (m := field (.ref e) 5) (wpAny_field en4 rfl (x := old) rfl ?_)
  refine wpAny_bind (wpAny_setField_rec en4 (by simp) fun h5 en5 sb5 => ?_)
  replace sb5 : Heap.SameBut e h4 h5 := sb5
  replace en5 : IsEnum h5 e it ((k : Int) + 1) x := en5
  refine wpAny_bind (m := Builtin.SmallTypes.ownedTupleHandOut (.ref e) (.ref hp.objs.size)) ?_
  unfold Builtin.SmallTypes.ownedTupleHandOut
  refine wpAny_bind (wpAny_setField_rec en5 (by simp) fun h6 en6 sb6 => ?_)
  replace sb6 : Heap.SameBut e h5 h6 := sb6
  replace en6 : IsEnumOut h6 e it ((k : Int) + 1) x hp.objs.size := en6
  refine wpAny_setField_rec en6 (by simp) fun h7 en7 sb7 => ?_
  replace sb7 : Heap.SameBut e h6 h7 := sb7
  replace en7 : IsEnumOut h7 e it ((k : Int) + 1) x hp.objs.size := en7
  have up : ∀ b o, b ≠ e → h4.get? b = some o → h7.get? b = some o := fun b o n1 q => sb7.extBut b o n1 (sb6.extBut b o n1 (sb5.extBut b o n1 q))
  refine wpAny_bind (wpAny_letGo (wpAny_pure ⟨_, rfl, hQ h7 en7 (a4.kept (fun o q => up _ o (Ne.symm ne) q) fun o q => up _ o nse q) (up _ _ (Nat.ne_of_gt lte) t4) fun b o n1 n2 q => up b o n1 (k4 b o n1 n2 q)⟩))
theorem enumx_end {e it src : Addr} {k : Nat} {xs : Array Value} {old : Value} {Q : Option Value → Shared → Prop} (hh : A.handled = none) (he : IsEnum s.heap e it k old) (a : At s.heap it src k xs) (hx : xs[k]? = none)
    (hQ : ∀ h', Heap.ExtBut it s.heap h' → Q none { s with heap := h' }) : wpAny (model prog w) A (pyNext (.ref e)) Q E s := by
  have hT : s.TypeIs (.ref e) "enumerate" := ⟨_, he, rfl⟩
  have nx := F.slot_enumerate_next
  unfold pyNext
  refine wpAny_bind (wpAny_attempt (wpAny_callSpecial?_slot (name := Str.ofString "__next__") hT nx (wpAny_call_entry nx hT F.entry_enumerate_next ?_ (F.args_enumerate_next_1 _))))
  refine wpAny_bind (m := field (.ref e) 2) (wpAny_field he rfl (x := .ref it) rfl ?_)
  refine wpAny_bind (next_end hh a hx fun h' x he' hx' => ?_)
  obtain ⟨o, ho, hc⟩ := hx'
  exact wpAny_bind (wpAny_isInstance (T := "StopIteration") (b := true) ⟨o, ho, hc⟩ isSubtype_stop (wpAny_pure (hQ _ he')))
end
def Ite (K : PySem.W.Frag) (kd : Bool) (l : Addr) : It :=
  ⟨fun i H => ∃ xs x, (if kd then SqL K H l xs else SqT K H l xs) ∧ xs[i]? = some x,
   fun i H v H' => ∃ t, H t = none ∧ v = .ref t ∧ ∀ xs, (if kd then SqL K H l xs else SqT K H l xs) → ∃ x, xs[i]? = some x ∧ H' = upd H t (.tup [.int i, x]),
   fun i H => ∃ xs, (if kd then SqL K H l xs else SqT K H l xs) ∧ xs.length ≤ i⟩
def EnumSt (kd : Bool) (e it l : Addr) (i : Nat) (h : Heap) : Prop := (∃ old, IsEnum h e it i old) ∧ itk kd h it l i
theorem turn_enum {P : Program} {w : World} {K : PySem.W.Frag} {elts : List Expr} {x1 : Nat} {pos : Pos} (kd : Bool) (e it l : Addr) (ne : e ≠ it) (nle : l ≠ e) (nli : l ≠ it) :
    Turn P w K (.Tuple elts x1 pos) (Ite K kd l) [e, it] e (EnumSt kd e it l) where
  mem := by simp
  obj := fun i h st b hb => by
    obtain ⟨⟨old, he⟩, h1⟩ := st
    simp only [List.mem_cons, List.not_mem_nil, or_false] at hb
    rcases hb with rfl | rfl
    · exact ⟨_, he, fun v q => by cases (show Data.fields _ = Data.cell v from q)⟩
    · exact h1.obj
  keep := fun i h h' st k => by
    obtain ⟨⟨old, he⟩, h1⟩ := st
    exact ⟨⟨old, k e (by simp) _ he⟩, h1.kept fun o q => k it (by simp) o q⟩
  item := by
    intro X hP hw hK hc i pins s σ H E I hf st hg
    subst hP hw hK
    obtain ⟨xs, x, hx, ex⟩ := hg
    obtain ⟨⟨old, he⟩, h1⟩ := st
    obtain ⟨its, r1, q1⟩ := I.sqk hx
    obtain ⟨u, eu, ru⟩ := r1.get ex
    have hT : s.TypeIs (.ref e) "enumerate" := ⟨_, he, rfl⟩
    have ltT : ∀ b o, s.heap.get? b = some o → b ≠ s.heap.objs.size := fun b o q => Nat.ne_of_lt (Heap.lt_size q)
    unfold pyNext
    have nx := F.slot_enumerate_next
    refine wpAny_bind (wpAny_attempt (wpAny_callSpecial?_slot (name := Str.ofString "__next__") hT nx (wpAny_call_entry nx hT F.entry_enumerate_next
      (enumx_item he (h1.at q1) (x := u) (by simpa using eu) ne nli nle fun h' e' a' t' kp => wpAny_pure ?_) (F.args_enumerate_next_1 _))))
    refine ⟨.ref s.heap.objs.size, rfl, wpAny_letOwnedTupleGo_enum e' fun h2 e2 sb => ?_⟩
    have up : ∀ b o, b ≠ e → h'.get? b = some o → h2.get? b = some o := fun b o hb q => sb.extBut b o hb q
    have kp2 : ∀ b o, b ∉ [e, it] → s.heap.get? b = some o → h2.get? b = some o := fun b o hb q => by
      simp only [List.mem_cons, List.not_mem_nil, or_false, not_or] at hb
      exact up b o hb.1 (kp b o hb.1 hb.2 q)
    have eT : s.heap.objs.size ≠ e := fun q => ltT e _ he q.symm
    have tT : IsPair h2 s.heap.objs.size (.int i s.toks) u := up _ _ eT t'
    have q1' : sqk kd h' l its.toArray := by
      cases kd with
      | true => obtain ⟨o, q, r⟩ := q1; exact ⟨o, kp l o nle nli q, r⟩
      | false => obtain ⟨o, q, r⟩ := q1; exact ⟨o, kp l o nle nli q, r⟩
    have st' : EnumSt kd e it l (i + 1) h2 := ⟨⟨u, by simpa using e2⟩, (itk.of a' q1').kept fun o q => up _ o (Ne.symm ne) q⟩
    have fT : H s.heap.objs.size = none := I.fresh
    refine ⟨.ref s.heap.objs.size, upd H s.heap.objs.size (.tup [.int i, x]), I.turnedT (t' := s.toks + 1) (us := [.int i s.toks, u]) hf (Nat.le_refl _) kp2 (fun b hb => ?_) (.cons ⟨_, rfl⟩ (.cons ru .nil)) (by show 2 ≤ sizeLine; decide) ⟨_, tT, rfl, _, rfl⟩, rfl, ⟨_, fT, rfl, fun xs' hx' => ?_⟩, st', fun b hb => ?_⟩
    · obtain ⟨⟨o3, e3⟩, i3⟩ := st'
      simp only [List.mem_cons, List.not_mem_nil, or_false] at hb
      rcases hb with rfl | rfl
      · exact ⟨_, e3⟩
      · obtain ⟨o, q, _⟩ := i3.obj; exact ⟨o, q⟩
    · have e1 := I.sq_inj hx' hx
      subst e1
      exact ⟨x, ex, rfl⟩
    · obtain ⟨o, q⟩ : ∃ o, s.heap.get? b = some o := by
        simp only [List.mem_cons, List.not_mem_nil, or_false] at hb
        rcases hb with rfl | rfl
        · exact ⟨_, he⟩
        · obtain ⟨o, q, _⟩ := h1.obj; exact ⟨o, q⟩
      rw [upd_ne (ltT b o q)]
      exact (hf b hb).1
  done := by
    intro X hP hw hK hc i pins s σ H E I hf st hg
    subst hP hw hK
    obtain ⟨xs, hx, hend⟩ := hg
    obtain ⟨⟨old, he⟩, h1⟩ := st
    obtain ⟨its, r1, q1⟩ := I.sqk hx
    have l1 := r1.length
    refine enumx_end (I.ok.hd hc) he (h1.at q1) (by simp; omega) fun h' kp => ⟨rfl, I.turnedM (t' := s.toks) hf fun b o hb q => ?_⟩
    simp only [List.mem_cons, List.not_mem_nil, or_false, not_or] at hb
    exact kp b o hb.2 q
  self := fun _ _ _ _ _ st h => by
    obtain ⟨⟨old, he⟩, _⟩ := st
    exact wpAny_pyIter_enum he h
theorem enum_new (kd : Bool) (l : Addr) (xs : Array Value) :
    Meets (Builtin.«enumerate.__new__» ⟨[.type "enumerate", .ref l], []⟩) (fun _ R s => sqk kd s.heap l xs ∧
      R (.ok (.ret (.ref (s.heap.push (iterObj kd l)).objs.size))) { s with heap := (s.heap.push (iterObj kd l)).push { cls := .type "enumerate", data := .fields #[.none, .bool false, .ref s.heap.objs.size, rawInt 0, .none, .none] } }) :=
  .of_wp fun prog w A R s h => by
    obtain ⟨hp, g, d, tk, os⟩ := s
    obtain ⟨hl, h⟩ := h
    have hsub := sub_enumerate
    have hL : sqk kd (Shared.heap ⟨hp, g, d, tk, os⟩) l xs := hl
    wp_walk using pyIter_k hL
    refine wpAny_stack_any fun st => wpAny_pure ?_
    split
    · rename_i c _ _ _ _ _
      cases (c == Value.type "enumerate")
      · wp_walk using pyIter_k hL
        exact ⟨_, rfl, h⟩
      · wp_walk using pyIter_k hL
        exact ⟨_, rfl, h⟩
    · wp_walk using pyIter_k hL
      exact ⟨_, rfl, h⟩
theorem call_enumk {prog : Program} {w : World} {A : Around} {E : Value → Shared → Prop} {s : Shared} {kd : Bool} {l : Addr} {xs : Array Value} {Q : Value → Shared → Prop} (hl : sqk kd s.heap l xs)
    (h : ∀ h', EnumSt kd (s.heap.objs.size + 1) s.heap.objs.size l 0 h' → (∀ c o, s.heap.get? c = some o → h'.get? c = some o) → Q (.ref (s.heap.objs.size + 1)) { s with heap := h' }) :
    wpAny (model prog w) A (call (.type "enumerate") [.ref l]) Q E s := by
  refine callType_new F.called_enumerate (by decide) (F.typeCall_enumerate_1 _) (F.newCall_enumerate_1 _) (fun obj => F.args_object_init_2 obj _) F.entry_enumerate_new (enum_new kd l xs) ⟨hl, ?_⟩
  generalize hh1 : s.heap.push (iterObj kd l) = h1
  have s1 : h1.objs.size = s.heap.objs.size + 1 := by rw [← hh1, Heap.size_push]
  have g1 : h1.get? s.heap.objs.size = some (iterObj kd l) := by rw [← hh1]; exact Heap.get?_push_size _ (by rfl)
  have g5 := Heap.get?_push_size h1 (o := { cls := .type "enumerate", data := .fields #[.none, .bool false, .ref s.heap.objs.size, rawInt 0, .none, .none] }) rfl
  have u01 : ∀ c o, s.heap.get? c = some o → h1.get? c = some o := fun c o e => by rw [← hh1]; exact Heap.get?_push_of_some _ e
  rw [s1] at g5
  rw [s1]
  exact ⟨⟨_, g5, rfl⟩, h _ ⟨⟨_, g5⟩, itk.new (Heap.get?_push_of_some _ g1)⟩ fun c o e => Heap.get?_push_of_some _ (u01 _ _ e)⟩
section
variable {X : Cx}
def iEnum (K : PySem.W.Frag) (kd : Bool) (ta : TA) : TI := fun σ H R => ta σ H fun vs H1 => ∃ p xs, vs = [.ref p] ∧ (if kd then SqL K H1 p xs else SqT K H1 p xs) ∧ R (Ite K kd p) H1
theorem pi_enum {a : Expr} {ta : TA} {p pos pos' : Pos} {elts : List Expr} {x1 : Nat} (kd : Bool) (hg : Gl X "enumerate") (hm : X.mg "enumerate" = none) (hbt : bootBuiltins "enumerate" = some (.type "enumerate")) (ha : PA X [a] ta) (hs : starEach [a] X.env = [(false, eval a X.env)] := by rfl) :
    PI X (.Tuple elts x1 pos') (.Call (.Name "enumerate" p) [a] [] pos) (iEnum X.K kd ta) := by
  intro pins s σ H R I h
  refine Call_ (ld_blt I hg hm hbt (PyProof.Rows.callWith_type1 (thn (ha pos pins s σ H _ I h) fun us s1 ⟨vs, H1, I1, r1, q1⟩ => ?_) (by rw [hs]; rfl) (by rfl)))
  obtain ⟨l, xs, e, hx, q⟩ := q1
  subst e
  obtain ⟨u, rfl, r⟩ := vals1 r1
  cases r
  obtain ⟨its, v1, w1⟩ := I1.sqk hx
  have lt1 : l < s1.heap.objs.size := by
    cases kd with
    | true => obtain ⟨o, e, _⟩ := w1; exact Heap.lt_size e
    | false => obtain ⟨o, e, _⟩ := w1; exact Heap.lt_size e
  refine call_enumk w1 fun h' st kp => ?_
  obtain ⟨⟨old, he⟩, hit⟩ := id st
  refine wpAny_pyIter_enum he ?_
  have I2 : Inv X pins σ H1 { s1 with heap := h' } := I1.kept (t' := s1.toks) kp
  generalize hn : s1.heap.objs.size = n at *
  have lt1' : @LT.lt Nat _ l n := lt1
  refine ⟨n + 1, _, _, _, H1, rfl, I2, turn_enum kd (n + 1) n l (fun z => by have z' : @Eq Nat _ _ := z; omega) (fun z => by have z' : @Eq Nat _ _ := z; omega) (fun z => by have z' : @Eq Nat _ _ := z; omega), st, fun b hb => ?_, q⟩
  have hb' : n ≤ b := by
    simp only [List.mem_cons, List.not_mem_nil, or_false] at hb
    rcases hb with rfl | rfl <;> first | exact Nat.le_refl _ | exact Nat.le_add_right _ _
  exact I1.fpOk (by rw [hn]; exact hb') (I1.hok.fresh (by rw [hn]; exact hb'))
variable {a b c e : Expr} {es : List Expr} {pos : Pos} {ga gb : GE}
def enumD (ds : List D) : List D := (List.range ds.length).zipWith (fun (k : Nat) d => D.tup [.int k, d]) ds
theorem enumD_at (ds : List D) (i : Nat) : (enumD ds)[i]? = (ds[i]?).map fun d => D.tup [.int i, d] := by
  unfold enumD
  rw [List.getElem?_zipWith]
  by_cases h : i < ds.length
  · rw [List.getElem?_range h, List.getElem?_eq_getElem h]
    rfl
  · have h1 : ds[i]? = none := List.getElem?_eq_none_iff.mpr (by omega)
    rw [h1]
    cases (List.range ds.length)[i]? <;> rfl
theorem enumD_length (ds : List D) : (enumD ds).length = ds.length := by simp [enumD]
def gEnumT (ga : GE) : GF := fun δ Q => ga δ fun d => match d with
  | .tup xs => Q (enumD xs)
  | _ => False
def gEnumL (ga : GE) : GF := fun δ Q => ga δ fun d => match d with
  | .lst xs => Q (enumD xs)
  | _ => False
theorem walk_enum {K : PySem.W.Frag} {C1 : Hp} {p : Addr} {xs : List V} {ds : List D} (kd : Bool) (hx : if kd then SqL K C1 p xs else SqT K C1 p xs) (hd : Dens K C1 xs ds) : Walk K (Ite K kd p) (enumD ds) C1 := by
  intro C2 H2 c1 c2 i
  have hx2 : if kd then SqL K H2 p xs else SqT K H2 p xs := by
    cases kd with
    | true => exact c2.seq (c1.seq hx)
    | false => exact c2.seqT (c1.seqT hx)
  refine ⟨fun d e => ?_, fun hl => ⟨xs, hx2, by rw [enumD_length] at hl; rw [hd.length]; exact hl⟩⟩
  rw [enumD_at] at e
  cases e1 : ds[i]? with
  | none => rw [e1] at e; cases e
  | some d1 =>
    rw [e1] at e
    cases e
    obtain ⟨v1, ev1, n1⟩ := hd.get e1
    refine ⟨⟨xs, v1, hx2, ev1⟩, fun x H3 y => ?_⟩
    obtain ⟨t, ht, rfl, k⟩ := y
    obtain ⟨u, eu, rfl⟩ := k xs hx2
    rw [ev1] at eu
    cases eu
    refine ⟨upd C2 t (.tup [.int i, v1]), Ext.new c2 ht, den_tup.mpr ⟨t, _, rfl, SqT.of upd_same, ?_⟩⟩
    have up := Same.upd (o := .tup [.int i, v1]) (c2.free ht)
    exact .cons (den_int.mpr rfl) (.cons ((n1.mono c1).mono up) .nil)
theorem di_enumT {p pos' : Pos} {elts : List Expr} {x1 : Nat} (hg : Gl X "enumerate") (hm : X.mg "enumerate" = none) (hbt : bootBuiltins "enumerate" = some (.type "enumerate")) (ha : DE X a ga) (hs : starEach [a] X.env = [(false, eval a X.env)] := by rfl) :
    DI X (.Tuple elts x1 pos') (.Call (.Name "enumerate" p) [a] [] pos) (gEnumT ga) := by
  obtain ⟨t1, p1, h1⟩ := ha
  refine ⟨_, pi_enum false hg hm hbt (pa_cons p1 pa_nil hs) hs, fun C0 H0 δ σ C H Q R rp g k => h1 C0 H0 δ σ C H _ _ rp g fun d v C1 H1 q e1 n1 => ?_⟩
  cases d with
  | tup ds =>
    obtain ⟨p, xs, rfl, hx, hd⟩ := den_tup.mp n1
    exact ⟨p, xs, rfl, e1.ch.seqT hx, k _ _ C1 H1 q e1 (walk_enum false hx hd)⟩
  | _ => exact q.elim
end
theorem bt_enumerate : bootBuiltins "enumerate" = some (.type "enumerate") := by decide +kernel
end L2
namespace L2
open PySem PySem.Spec PyProof.Rows
section
variable {prog : Program} {w : World} {A : Around}
end
section
variable {X : Cx}
def cInt : List D → (D → Prop) → Prop := fun ds Q => match ds with
  | [.bl b] => Q (.int (if b then 1 else 0))
  | [.int i] => Q (.int i)
  | _ => False
def isNon : D → Bool
  | .non => true
  | _ => false
theorem den_isNon {K : PySem.W.Frag} {C : Hp} {v : V} {d : D} (n : Den K C v d) : decide (v = V.non) = isNon d := by
  cases d with
  | non => rw [den_non.mp n]; rfl
  | int i => rw [den_int.mp n]; rfl
  | bl i => rw [den_bl.mp n]; rfl
  | str i => rw [den_str.mp n]; rfl
  | tup ds => obtain ⟨p, xs, rfl, _⟩ := den_tup.mp n; rfl
  | lst ds => obtain ⟨p, xs, rfl, _⟩ := den_lst.mp n; rfl
def oIs2 : GO := fun x y Q => match y with
  | .non => Q (.bl (isNon x))
  | .bl b => match x with
    | .bl a => Q (.bl (a == b))
    | _ => False
  | _ => False
def oIsnot2 : GO := fun x y Q => match y with
  | .non => Q (.bl (!isNon x))
  | .bl b => match x with
    | .bl a => Q (.bl (a != b))
    | _ => False
  | _ => False
theorem do_is2 : DOp X (compareOp .Is) oIs2 := by
  refine ⟨_, op_isB.or op_isN, fun x y dx dy C H Q R ch n1 n2 q k => ?_⟩
  cases dy with
  | non => exact .inr ⟨den_non.mp n2, k _ _ C H q (Ext.refl ch) (den_bl.mpr (by rw [den_isNon n1]))⟩
  | bl j =>
    cases dx with
    | bl i => exact .inl ⟨i, j, den_bl.mp n1, den_bl.mp n2, k _ _ C H q (Ext.refl ch) (den_bl.mpr rfl)⟩
    | _ => exact q.elim
  | _ => exact q.elim
theorem do_isnot2 : DOp X (compareOp .IsNot) oIsnot2 := by
  refine ⟨_, op_isnotB.or op_notN, fun x y dx dy C H Q R ch n1 n2 q k => ?_⟩
  cases dy with
  | non => exact .inr ⟨den_non.mp n2, k _ _ C H q (Ext.refl ch) (den_bl.mpr (by rw [den_isNon n1]))⟩
  | bl j =>
    cases dx with
    | bl i => exact .inl ⟨i, j, den_bl.mp n1, den_bl.mp n2, k _ _ C H q (Ext.refl ch) (den_bl.mpr rfl)⟩
    | _ => exact q.elim
  | _ => exact q.elim
variable {a b c e : Expr} {es : List Expr} {pos : Pos} {ga gb gc : GE} {gf : GF}
def gRepL (gf : GF) (gb : GE) : GF := fun δ Q => gf δ fun ds => gb δ fun k => match k with
  | .int k => (-(2 ^ 63) ≤ k ∧ k < 2 ^ 63 ∧ ds.length * k.toNat ≤ sizeLine) ∧ Q (List.replicate k.toNat ds).flatten
  | _ => False
theorem df_rep (ha : DF X a gf) (hb : DE X b gb) : DF X (.BinOp a .Mult b pos) (gRepL gf gb) := by
  obtain ⟨t1, p1, h1⟩ := ha
  obtain ⟨t2, p2, h2⟩ := hb
  refine ⟨_, pe_op op_rep p1 p2, fun C0 H0 δ σ C H Q R rp g k => ?_⟩
  refine h1 C0 H0 δ σ C H _ _ rp g fun ds p xs C1 H1 q e1 hc hn hl hd => h2 C0 H0 δ σ C1 H1 _ _ (rp.grow e1) q fun d2 v2 C2 H2 q2 e2 n2 => ?_
  cases d2 with
  | int j =>
    obtain ⟨⟨c1, c2, c3⟩, q2⟩ := q2
    rw [den_int.mp n2]
    have e12 := e1.trans e2
    exact ⟨p, j, xs, rfl, rfl, e2.hh _ _ hl, c1, c2, by rw [hd.length]; exact c3, fun l hl2 => k _ l _ C2 _ q2 (e12.trans (Ext.newO e2.ch hl2)) (e2.ch.free hl2) (e12.hh.free hl2) upd_same ((hd.mono e2.cc).rep _)⟩
  | _ => exact q2.elim
def gSlL (ga : GE) (gl gh : GP) : GF := fun δ Q => ga δ fun d => gl δ fun lo => gh δ fun hi => match d with
  | .lst ds => Q (cutD ds lo hi)
  | _ => False
theorem df_slL {lo hi : Option Expr} {gl gh : GP} {p2 : Pos} (ha : DE X a ga) (hl : DO X lo gl) (hh : DO X hi gh) : DF X (.Subscript a (.Slice lo hi none p2) pos) (gSlL ga gl gh) := by
  obtain ⟨t1, p1, h1⟩ := ha
  obtain ⟨t2, p2', h2⟩ := hl
  obtain ⟨t3, p3, h3⟩ := hh
  refine ⟨_, pe_slice sl_list p1 p2' p3, fun C0 H0 δ σ C H Q R rp g k => ?_⟩
  refine h1 C0 H0 δ σ C H _ _ rp g fun d v C1 H1 q e1 n1 => h2 C0 H0 δ σ C1 H1 _ _ (rp.grow e1) q fun o C2 H2 q2 e2 => h3 C0 H0 δ σ C2 H2 _ _ ((rp.grow e1).grow e2) q2 fun o2 C3 H3 q3 e3 => ?_
  have n1' := (n1.mono e2.cc).mono e3.cc
  have e123 := e1.trans (e2.trans e3)
  cases d with
  | lst ds =>
    obtain ⟨p, xs, rfl, hx, hd⟩ := den_lst.mp n1'
    exact ⟨p, xs, rfl, e3.ch.seq hx, fun p' hp => k _ p' _ C3 _ q3 (e123.trans (Ext.newO e3.ch hp)) (e3.ch.free hp) (e123.hh.free hp) upd_same (dens_cut hd)⟩
  | _ => exact q3.elim
def gPar (i j : Nat) (ga gb : GE) : GS := fun De δ => ga δ fun x => gb δ fun y => De.nx ((δ.set i (.im x)).set j (.im y))
theorem ds_par {i j : Nat} {tg : Expr} {k2 : Nat} {pt2 : Pos} (ha : DE X a ga) (hb : DE X b gb) (hp : ∀ {ta : TA}, PA X [a, b] ta → PS X (.Assign [tg] (.Tuple [a, b] k2 pt2) pos) (tPar i j ta))
    (hs : starEach [a, b] X.env = (false, eval a X.env) :: starEach [b] X.env := by rfl) (hs2 : starEach [b] X.env = (false, eval b X.env) :: starEach [] X.env := by rfl) : DSt X (.Assign [tg] (.Tuple [a, b] k2 pt2) pos) (gPar i j ga gb) := by
  obtain ⟨t1, p1, h1⟩ := ha
  obtain ⟨t2, p2, h2⟩ := hb
  refine ⟨_, hp (pa_cons p1 (pa_cons p2 pa_nil hs2) hs), fun C0 H0 δ σ C H De E rp g k => h1 C0 H0 δ σ C H _ _ rp g fun d v C1 H1 q e1 n1 => h2 C0 H0 δ σ C1 H1 _ _ (rp.grow e1) q fun d2 v2 C2 H2 q2 e2 n2 => ?_⟩
  exact ⟨v, v2, rfl, k.nx _ _ C2 H2 ((((rp.grow e1).grow e2).setI (n1.mono e2.cc)).setI n2) q2⟩
end
end L2
namespace L2
open PySem PySem.Spec PyProof.Rows
section
variable {X : Cx} {a b c e : Expr} {es : List Expr} {pos : Pos} {ga gb gc : GE} {gf : GF} {ta : TE}
theorem pe_notT (ha : PE X a ta) : PE X (.UnaryOp .Not a pos) (fun σ H Q => ta σ H fun x H' => ∃ k, TruV X.K x H' k ∧ Q (.bl (!k)) H') := by
  intro pins s σ H Q I h
  refine UnaryOp_ (thn (ha pins s σ H _ I h) fun v s1 ⟨x, H1, I1, r1, q1⟩ => ?_)
  exact not_of (thn (tru_ok pins s1 σ H1 x v (fun k H' => Q (.bl (!k)) H') I1 r1 q1) fun k s2 ⟨H2, I2, q2⟩ => ⟨.bl (!k), H2, I2, rfl, q2⟩)
def truD (d : D) (Q : Bool → Prop) : Prop := match d with
  | .bl b => Q b
  | .int i => Q (i != 0)
  | .non => Q false
  | .str x => x.length ≤ sizeLine ∧ Q ((x.length : Int) != 0)
  | .tup ds => Q (!ds.isEmpty)
  | .lst ds => Q (!ds.isEmpty)
def gNotT (ga : GE) : GE := fun δ Q => ga δ fun d => truD d fun k => Q (.bl (!k))
theorem de_notT (ha : DE X a ga) : DE X (.UnaryOp .Not a pos) (gNotT ga) := by
  obtain ⟨t1, p1, h1⟩ := ha
  refine ⟨_, pe_notT p1, fun C0 H0 δ σ C H Q R rp g k => h1 C0 H0 δ σ C H _ _ rp g fun d v C1 H1 q e1 n1 => ?_⟩
  have fin : ∀ b : Bool, Q (.bl (!b)) → R (.bl (!b)) H1 := fun b q => k _ _ C1 H1 q e1 (den_bl.mpr rfl)
  cases d with
  | bl b => rw [den_bl.mp n1]; exact ⟨b, rfl, fin _ q⟩
  | int i => rw [den_int.mp n1]; exact ⟨_, rfl, fin _ q⟩
  | non => rw [den_non.mp n1]; exact ⟨_, rfl, fin _ q⟩
  | str i => rw [den_str.mp n1]; exact ⟨_, ⟨q.1, rfl⟩, fin _ q.2⟩
  | tup ds =>
    obtain ⟨p, xs, rfl, hx, hd⟩ := den_tup.mp n1
    refine ⟨_, .inr (.inl ⟨xs, e1.ch.seqT hx, rfl⟩), fin _ ?_⟩
    rw [dens_empty hd]; exact q
  | lst ds =>
    obtain ⟨p, xs, rfl, hx, hd⟩ := den_lst.mp n1
    refine ⟨_, .inl ⟨xs, e1.ch.seq hx, rfl⟩, fin _ ?_⟩
    rw [dens_empty hd]; exact q
end
section
variable {prog : Program} {w : World} {A : Around} {R : Result → Shared → Prop}
end
end L2
namespace L2
open PySem PySem.Spec PyProof.Rows
namespace HG
section
open PySem.SeqAt
open PySem.AutoSeq1 (wpAny_loadPart')
open PySem.MeetsSeq PySem.MeetsSeq2 PySem.MeetsSeq3
end
end HG
section
variable {X : Cx}
end
end L2
namespace L2
open PySem PySem.Spec PyProof.Rows
section
variable {P : Program} {w : World} {outer : List Env} {H H' : Hp} {s : Shared} {B h' h'' : Heap} {a : Addr} {cls a0 : Value}
end
section
variable {P : Program} {w : World} {K : PySem.W.Frag} {mg : Str → Option Value} {base : Heap} {N : List Str} {qual : Str} {scope : Scope} {f : Addr} {cd : Value} {A : Around} {outer : List Env} {s : Shared} {H : Hp} {E E' : XK}
end
end L2
namespace L2
open PySem PySem.Spec PyProof.Rows
section
variable {X : Cx} {EE : XK} {a b c e tg iter : Expr} {st : Stmt} {sts s2 : List Stmt} {es : List Expr} {pos : Pos} {ge : GE} {gi gf : GF} {gt : GT} {gg : GG} {g1 g2 : GX} {gx : GEX} {ss : List Nat}
end
end L2
namespace L2
open PySem PySem.Spec PyProof.Rows
section
variable {X : Cx} {pins pins' pn : List (Addr × Obj)} {xe : Value → Shared → Prop} {σ : St} {H : Hp} {s : Shared} {e : Value}
end
section
variable {X : Cx} {EE : XK} {body suite : List Stmt} {b₀ : Stmt} {x : Str} {cl : Value} {np hpos pos : Pos} {tb ts : TS}
end
end L2
namespace L2
open PySem PySem.Spec PyProof.Rows
end L2
namespace L2
open PySem PySem.Spec PyProof.Rows PySem.W
open Builtin Builtin.ObjectAttr Builtin.Getset_descriptor
section
variable {prog : Program} {w : World} {A : Around} {E : Value → Shared → Prop} {K : Frag} {x C : Addr} {R : Result → Shared → Prop} {hh : Heap} {g : Array GenState} {dr : Drawn} {t : Nat} {os : OsState} {o : Obj}
end
end L2
namespace L2
open PySem PySem.Spec PyProof.Rows
section
variable {X : Cx} {pins : List (Addr × Obj)} {σ : St} {H : Hp} {s : Shared}
end
section
variable {X : Cx} {a : Addr} {oe : Obj} {C : Addr} {i : Nat} {n y : Str} {vy : V} {b : Bool} {p p1 p2 pos : Pos}
end
end L2
namespace L2
open PySem PySem.Spec PyProof.Rows
section
variable {X : Cx} {EE : XK} {body suite : List Stmt} {b₀ : Stmt} {x n : Str} {i : Nat} {cl : Value} {np hpos pos : Pos} {tb : TS} {ts : Addr → Value → TS}
end
end L2
namespace L2
open PySem PySem.Spec PyProof.Rows
mutual
def noL : D → Bool
  | .lst _ => false
  | .tup ds => noLs ds
  | _ => true
def noLs : List D → Bool
  | [] => true
  | d :: ds => noL d && noLs ds
end
section
variable {X : Cx} {e : Expr} {ge : GE} {gt : GT} {gf : GF}
def gPeek (i : Nat) (ge : GE) : GE := fun δ Q => match δ[i]? with
  | some (.ow ds) => ge (δ.set i (.im (.lst ds))) fun d => noL d = true ∧ Q d
  | _ => False
def gPeekT (i : Nat) (gt : GT) : GT := fun δ Q => match δ[i]? with
  | some (.ow ds) => gt (δ.set i (.im (.lst ds))) Q
  | _ => False
def gPeekF (i : Nat) (gf : GF) : GF := fun δ Q => match δ[i]? with
  | some (.ow ds) => gf (δ.set i (.im (.lst ds))) fun es => noLs es = true ∧ Q es
  | _ => False
end
end L2
namespace L2
open PySem PySem.Spec PyProof.Rows
section
variable {X : Cx} {st : Stmt} {i : Nat} {gf : GF} {tg iter elt : Expr} {pos : Pos} {ge : GE} {gi : GF} {gt : GT} {gg : GG} {scope : Scope} {Nc : List Str} {fr : List (Option Nat)} {ss : List Nat}
end
end L2
namespace L2
open PySem PySem.Spec PyProof.Rows
def rowD : D → Option (List Int)
  | .tup ds => intsD ds
  | _ => none
def rowsD : List D → Option (List (List Int))
  | [] => some []
  | d :: ds => match rowD d, rowsD ds with
    | some r, some rs => some (r :: rs)
    | _, _ => none
def meetOf : D → Option (List Int × List (List Int))
  | .tup [a, .tup ps] => match rowD a, rowsD ps with
    | some ns, some pay => some (ns, pay)
    | _, _ => none
  | _ => none
theorem rowD_of (r : List Int) : rowD (dInts r) = some r := ints_map r
theorem rowD_eq {d : D} {r : List Int} (h : rowD d = some r) : d = dInts r := by
  unfold rowD at h
  split at h
  · rw [ints_eq h]
  · cases h
theorem rowsD_of : ∀ rs : List (List Int), rowsD (rs.map dInts) = some rs
  | [] => rfl
  | r :: rs => by rw [List.map_cons, rowsD, rowD_of, rowsD_of rs]
theorem rowsD_eq : ∀ {ds : List D} {rs : List (List Int)}, rowsD ds = some rs → ds = rs.map dInts
  | [], rs, h => by cases h; rfl
  | d :: ds, rs, h => by
    unfold rowsD at h
    split at h
    · rename_i r rs' e1 e2
      cases h
      rw [rowD_eq e1, rowsD_eq e2]
      rfl
    · cases h
theorem meetOf_of (ns : List Int) (pay : List (List Int)) : meetOf (meetD ns pay) = some (ns, pay) := by
  unfold meetD meetOf
  simp only [rowD_of, rowsD_of]
theorem meetOf_eq {d : D} {ns : List Int} {pay : List (List Int)} (h : meetOf d = some (ns, pay)) : d = meetD ns pay := by
  unfold meetOf at h
  split at h
  · split at h
    · rename_i e1 e2
      cases h
      rw [rowD_eq e1, rowsD_eq e2]
    · cases h
  · cases h
open Classical in
noncomputable def onMeet (m : D) (f : List Int → List (List Int) → Option D) : Option D := match meetOf m with
  | some (ns, pay) => if MeetOk ns pay then f ns pay else none
  | none => none
def onRow (ns : List Int) (d : D) (f : List Int → Option D) : Option D := match rowD d with
  | some r => if r ∈ rowsL ns then f r else none
  | none => none
def onHand (n : Nat) (d : D) (f : Nat → Option D) : Option D := match d with
  | .int h => if 0 ≤ h ∧ h < n then f h.toNat else none
  | _ => none
theorem onMeet_of {ns : List Int} {pay : List (List Int)} {f : List Int → List (List Int) → Option D} (h : MeetOk ns pay) : onMeet (meetD ns pay) f = f ns pay := by
  unfold onMeet
  rw [meetOf_of]
  exact if_pos h
theorem onMeet_eq {m d : D} {f : List Int → List (List Int) → Option D} (h : onMeet m f = some d) : ∃ ns pay, m = meetD ns pay ∧ MeetOk ns pay ∧ f ns pay = some d := by
  unfold onMeet at h
  split at h
  · rename_i ns pay e
    split at h
    · rename_i ho
      exact ⟨ns, pay, meetOf_eq e, ho, h⟩
    · cases h
  · cases h
theorem onRow_of {ns r : List Int} {f : List Int → Option D} (h : r ∈ rowsL ns) : onRow ns (dInts r) f = f r := by
  unfold onRow
  rw [rowD_of]
  exact if_pos h
theorem onRow_eq {ns : List Int} {m d : D} {f : List Int → Option D} (h : onRow ns m f = some d) : ∃ r, m = dInts r ∧ r ∈ rowsL ns ∧ f r = some d := by
  unfold onRow at h
  split at h
  · rename_i r e
    split at h
    · rename_i ho
      exact ⟨r, rowD_eq e, ho, h⟩
    · cases h
  · cases h
theorem onHand_of {n h : Nat} {f : Nat → Option D} (hh : h < n) : onHand n (.int h) f = f h := by
  show (if (0 : Int) ≤ (h : Int) ∧ (h : Int) < n then f (h : Int).toNat else none) = f h
  rw [if_pos ⟨by omega, by omega⟩]
  rfl
theorem onHand_eq {n : Nat} {m d : D} {f : Nat → Option D} (h : onHand n m f = some d) : ∃ k : Nat, m = .int k ∧ k < n ∧ f k = some d := by
  unfold onHand at h
  split at h
  · rename_i i
    split at h
    · rename_i ho
      exact ⟨i.toNat, by rw [Int.toNat_of_nonneg ho.1], by omega, h⟩
    · cases h
  · cases h
def payAt (ns : List Int) (pay : List (List Int)) (r : List Int) : List Int := pay.getD ((rowsL ns).idxOf r) []
def payH (ns : List Int) (pay : List (List Int)) (r : List Int) (h : Nat) : Int := (payAt ns pay r).getD h 0
def deedsL (ns : List Int) (h : Nat) : List Int := (List.range (ns.getD h 0).toNat).map fun (k : Nat) => (k : Int)
noncomputable def F_paid : List D → Option D
  | [m, r] => onMeet m fun ns pay => onRow ns r fun r => some (dInts (payAt ns pay r))
  | _ => none
noncomputable def F__law_paid : List D → Option D
  | [m, r] => onMeet m fun ns pay => onRow ns r fun r => some (dInts (payAt ns pay r))
  | _ => none
def F__law_stray : List D → Option D
  | [d, .int h, .int k] => match rowD d with
    | some r => if r.length ≤ 1000 ∧ 0 ≤ h ∧ h < r.length then some (dInts (r.set h.toNat k)) else none
    | none => none
  | _ => none
end L2
namespace L2
open PySem PySem.Spec PyProof.Rows
theorem row_in_rev : ∀ (ms : List Int) (r : List Int), RowOf ms.reverse r → r ∈ rowsL ms.reverse
  | [], r, h => by
    have : r = [] := List.eq_nil_of_length_eq_zero h.1
    subst this
    simp [rowsL]
  | m :: ms, r, h => by
    rw [List.reverse_cons] at h ⊢
    rw [rowsL_snoc]
    have hl : r.length = ms.reverse.length + 1 := by rw [h.1, List.length_append]; rfl
    have hne : r ≠ [] := fun z => by rw [z] at hl; simp at hl
    have er := (List.dropLast_concat_getLast hne).symm
    generalize hx : r.getLast hne = x at er
    generalize hd : r.dropLast = r0 at er
    have hl0 : r0.length = ms.reverse.length := by rw [er, List.length_append] at hl; simpa using hl
    subst er
    have h0 : RowOf ms.reverse r0 := ⟨hl0, fun i y n e1 e2 => h.2 i y n (by rw [List.getElem?_append_left ((List.getElem?_eq_some_iff.mp e1).1)]; exact e1) (by rw [List.getElem?_append_left ((List.getElem?_eq_some_iff.mp e2).1)]; exact e2)⟩
    have hk := h.2 r0.length x m (by simp) (by rw [hl0]; simp)
    unfold rowStep
    refine List.mem_flatMap.mpr ⟨r0, row_in_rev ms r0 h0, List.mem_map.mpr ⟨x.toNat, List.mem_range.mpr (by omega), ?_⟩⟩
    rw [Int.toNat_of_nonneg hk.1]
theorem row_in {ns r : List Int} (h : RowOf ns r) : r ∈ rowsL ns := by
  have := row_in_rev ns.reverse r (by rw [List.reverse_reverse]; exact h)
  rwa [List.reverse_reverse] at this
theorem row_len {ns r : List Int} (h : r ∈ rowsL ns) : r.length = ns.length := (rows_row h).1
theorem row_at {ns r : List Int} (h : r ∈ rowsL ns) {i : Nat} (hi : i < ns.length) : 0 ≤ r.getD i 0 ∧ r.getD i 0 < ns.getD i 0 := by
  have hr : i < r.length := by rw [row_len h]; exact hi
  rw [List.getD_eq_getElem?_getD, List.getD_eq_getElem?_getD, List.getElem?_eq_getElem hr, List.getElem?_eq_getElem hi]
  exact (rows_row h).2 i _ _ (List.getElem?_eq_getElem hr) (List.getElem?_eq_getElem hi)
theorem row_set {ns r : List Int} (h : r ∈ rowsL ns) {i : Nat} {k : Int} (h0 : 0 ≤ k) (h1 : k < ns.getD i 0) : r.set i k ∈ rowsL ns := by
  have q := rows_row h
  refine row_in ⟨by rw [List.length_set]; exact q.1, fun j x n e1 e2 => ?_⟩
  rcases getE_set e1 with ⟨rfl, e3, hl⟩ | ⟨hj, e3⟩
  · subst e3
    rw [List.getD_eq_getElem?_getD, e2] at h1
    exact ⟨h0, h1⟩
  · exact q.2 j x n e3 e2
theorem eqD_int (i j : Int) : eqD (.int i) (.int j) = some (i == j) := by unfold eqD; rfl
theorem eqDs_ints : ∀ (a b : List Int), eqDs (a.map D.int) (b.map D.int) = some ((a.zip b).all fun p => p.1 == p.2)
  | [], _ => by unfold eqDs; rfl
  | _ :: _, [] => by unfold eqDs; rfl
  | x :: a, y :: b => by
    rw [List.map_cons, List.map_cons, eqDs, eqD_int, eqDs_ints a b]
    rfl
theorem zipAll_eq : ∀ (a b : List Int), (((a.zip b).all fun p => p.1 == p.2) && a.length == b.length) = (a == b)
  | [], [] => rfl
  | [], _ :: _ => rfl
  | _ :: _, [] => rfl
  | x :: a, y :: b => by
    have := zipAll_eq a b
    rw [List.zip_cons_cons, List.all_cons, List.length_cons, List.length_cons, List.cons_beq_cons, ← this, Bool.and_assoc]
    congr 2
    simp
theorem eqD_dInts (a b : List Int) : eqD (dInts a) (dInts b) = some (a == b) := by
  unfold dInts eqD
  rw [eqDs_ints, List.length_map, List.length_map, Option.map_some, zipAll_eq]
theorem ansD_rows (r : List Int) : ∀ rs : List (List Int), ansD (dInts r) (rs.map dInts) = some (rs.map fun x => x == r)
  | [] => rfl
  | x :: rs => by
    rw [List.map_cons, ansD, eqD_dInts, ansD_rows r rs]
    rfl
theorem firstT_idx (r : List Int) : ∀ {rs : List (List Int)}, r ∈ rs → firstT (rs.map fun x => x == r) = some (rs.idxOf r)
  | x :: rs, h => by
    rw [List.map_cons, List.idxOf_cons]
    cases e : (x == r) with
    | true => rfl
    | false =>
      have hm : r ∈ rs := by
        rcases List.mem_cons.mp h with rfl | h
        · simp at e
        · exact h
      unfold firstT
      rw [firstT_idx r hm]
      rfl
theorem deps_ints : ∀ ns : List Int, deps (ns.map D.int) = 0
  | [] => by unfold deps; rfl
  | n :: ns => by
    rw [List.map_cons, deps, deps_ints ns]
    unfold dep
    rfl
theorem dep_dInts (r : List Int) : dep (dInts r) = 1 := by
  unfold dInts dep
  rw [deps_ints]
theorem deps_rows : ∀ rs : List (List Int), deps (rs.map dInts) ≤ 1
  | [] => by rw [List.map_nil, deps]; omega
  | r :: rs => by
    rw [List.map_cons, deps, dep_dInts]
    have := deps_rows rs
    omega
theorem getD_of {α : Type} {l : List α} {i : Nat} (h : i < l.length) (d : α) : l.getD i d = l[i] := by
  rw [List.getD_eq_getElem?_getD, List.getElem?_eq_getElem h, Option.getD_some]
theorem atI_of {l : List D} {i : Nat} (h : i < l.length) : atI l (i : Int) = some l[i] := by
  simp [atI, ixN, h]
theorem atI_ints {l : List Int} {i : Nat} (h : i < l.length) : atI (l.map D.int) (i : Int) = some (.int (l.getD i 0)) := by
  rw [atI_of (by rw [List.length_map]; exact h), List.getElem_map, getD_of h]
theorem atI_rows {l : List (List Int)} {i : Nat} (h : i < l.length) : atI (l.map dInts) (i : Int) = some (dInts (l.getD i [])) := by
  rw [atI_of (by rw [List.length_map]; exact h), List.getElem_map, getD_of h]
section
variable {ns : List Int} {pay : List (List Int)} {r : List Int} {h : Nat}
theorem payAt_ix (ho : MeetOk ns pay) (hr : r ∈ rowsL ns) : (rowsL ns).idxOf r < pay.length := by
  rw [ho.many]
  exact List.idxOf_lt_length_of_mem hr
theorem payAt_ok (ho : MeetOk ns pay) (hr : r ∈ rowsL ns) : (payAt ns pay r).length = ns.length ∧ ∀ x ∈ payAt ns pay r, -9 ≤ x ∧ x ≤ 9 := by
  unfold payAt
  rw [getD_of (payAt_ix ho hr)]
  exact ho.rows _ (List.getElem_mem _)
theorem deed_mem {k : Int} : k ∈ deedsL ns h ↔ 0 ≤ k ∧ k < ns.getD h 0 := by
  unfold deedsL
  rw [List.mem_map]
  constructor
  · rintro ⟨j, hj, rfl⟩
    have := List.mem_range.mp hj
    omega
  · intro hk
    exact ⟨k.toNat, List.mem_range.mpr (by omega), by omega⟩
theorem deeds_ne (ho : MeetOk ns pay) (hh : h < ns.length) : 1 ≤ ns.getD h 0 ∧ ns.getD h 0 ≤ 3 := by
  rw [getD_of hh]
  exact (okDeeds_mem ho.ok).2 _ (List.getElem_mem hh)
theorem set_self {i : Nat} (hi : i < r.length) : r.set i (r.getD i 0) = r := by
  rw [getD_of hi]
  exact List.set_getElem_self hi
end
theorem range_deeds {ns : List Int} {h : Nat} : rangeD 0 (ns.getD h 0).toNat = (deedsL ns h).map D.int := by
  unfold rangeD deedsL
  rw [List.map_map]
  refine List.map_congr_left fun k _ => ?_
  simp
end L2
namespace L2
open PySem PySem.Spec PyProof.Rows
def Bd (k : Nat) (i : Int) : Prop := i.natAbs < 2 ^ k
theorem Bd.mono {a b : Nat} {i : Int} (h : Bd a i) (hab : a ≤ b) : Bd b i := Nat.lt_of_lt_of_le h (Nat.pow_le_pow_right (by decide) hab)
theorem Bd.mul {a b : Nat} {i j : Int} (h1 : Bd a i) (h2 : Bd b j) : Bd (a + b) (i * j) := by
  unfold Bd at *
  rw [Int.natAbs_mul, Nat.pow_add]
  exact Nat.mul_lt_mul_of_lt_of_le h1 (Nat.le_of_lt h2) (Nat.two_pow_pos b)
theorem Bd.neg {a : Nat} {i : Int} (h : Bd a i) : Bd a (-i) := by
  unfold Bd at *
  rw [Int.natAbs_neg]
  exact h
theorem Bd.add {a : Nat} {i j : Int} (h1 : Bd a i) (h2 : Bd a j) : Bd (a + 1) (i + j) := by
  unfold Bd at *
  have := Int.natAbs_add_le i j
  rw [Nat.pow_succ]
  omega
theorem Bd.sub {a : Nat} {i j : Int} (h1 : Bd a i) (h2 : Bd a j) : Bd (a + 1) (i - j) := by
  rw [Int.sub_eq_add_neg]
  exact h1.add h2.neg
theorem Bd.of_le {a : Nat} {i j : Int} (h : Bd a j) (h0 : 0 ≤ i) (h1 : i ≤ j) : Bd a i := by
  unfold Bd at *
  omega
theorem Bd.abs {a : Nat} {i j : Int} (h : Bd a j) (h1 : i.natAbs ≤ j.natAbs) : Bd a i := Nat.lt_of_le_of_lt h1 h
theorem Bd.bits {a : Nat} {i : Int} (h : Bd a i) : Builtin.Int.intBits i ≤ a := by
  unfold Builtin.Int.intBits
  split
  · exact Nat.zero_le _
  · rename_i hz
    have h0 : i.natAbs ≠ 0 := by
      intro z
      exact hz (by rw [Int.natAbs_eq_zero.mp z]; rfl)
    exact (Nat.log2_lt h0).mpr h
theorem Bd.log {a : Nat} {i : Int} (h : Bd a i) (ha : 0 < a) : i.natAbs.log2 < a := by
  by_cases h0 : i.natAbs = 0
  · rw [h0]
    exact ha
  · exact (Nat.log2_lt h0).mpr h
theorem Bd.pow {a : Nat} {i : Int} (h : Bd a i) : ∀ n : Nat, Bd (a * n + 1) (i ^ n)
  | 0 => by rw [Int.pow_zero]; show (1 : Nat) < 2 ^ (a * 0 + 1); rw [Nat.mul_zero]; decide
  | n + 1 => by
    have := (Bd.pow h n).mul h
    rw [Int.pow_succ]
    exact this.mono (by rw [Nat.mul_succ]; omega)
def CMulW (i j : Int) : Prop := CMul i j ∨ (Bd 8000 i ∧ Bd 8000 j)
def CDivW (i j : Int) : Prop := 0 < j ∧ Bd 8000 j
theorem CMulW.ok {i j : Int} (h : CMulW i j) : IntMulOk i j := by
  rcases h with h | ⟨h1, h2⟩
  · exact h.ok
  · exact PySem.IntMulOk.of_bits (Nat.le_trans h1.bits (by decide)) (Nat.le_trans h2.bits (by decide))
section
variable {X : Cx}
theorem op_mulW : OpR X (binaryOp .Mult) (rI CMulW fun i j => .int (i * j)) := opI fun _ _ _ _ _ _ _ hc q => mul_int q hc.ok
theorem op_fdivW : OpR X (binaryOp .FloorDiv) (rI CDivW fun i j => .int (i / j)) := opI fun i j _ _ _ _ _ hc q => by
  have h1 : (0 : Int) < j := hc.1
  exact floordiv_int (by omega) (by rw [Int.fdiv_eq_ediv_of_nonneg i (by omega)]; exact q) (.inl (PyProof.noPylong_of_log2 (Nat.lt_of_lt_of_le (hc.2.log (by decide)) (by decide))))
abbrev oMulW : GO := oIntC CMulW fun i j => .int (i * j)
abbrev oDivW : GO := oIntC CDivW fun i j => .int (i / j)
theorem do_mulW : DOp X (binaryOp .Mult) oMulW := dop_intC op_mulW
theorem do_divW : DOp X (binaryOp .FloorDiv) oDivW := dop_intC op_fdivW
end
end L2
namespace L2
def stp (f : Nat → Nat) : Nat → Nat → Nat
  | 0, s => s
  | t + 1, s => stp f t (f s)
theorem stp_add (f : Nat → Nat) : ∀ (a b s : Nat), stp f (a + b) s = stp f b (stp f a s)
  | 0, b, s => by rw [Nat.zero_add]; rfl
  | a + 1, b, s => by
    rw [Nat.add_right_comm]
    exact stp_add f a b (f s)
theorem stp_lt {f : Nat → Nat} {N : Nat} (hf : ∀ s, s < N → f s < N) : ∀ (t s : Nat), s < N → stp f t s < N
  | 0, s, h => h
  | t + 1, s, h => stp_lt hf t (f s) (hf s h)
def fst (d : Rat) (g : Nat → Rat) (f : Nat → Nat) : Nat → Nat → Rat
  | 0, _ => 0
  | n + 1, s => (1 - d) * g s + d * fst d g f n (f s)
def Sol (N : Nat) (d : Rat) (g : Nat → Rat) (f : Nat → Nat) (W : Nat → Rat) : Prop := ∀ s, s < N → W s = (1 - d) * g s + d * W (f s)
section
variable {N : Nat} {d : Rat} {g : Nat → Rat} {f : Nat → Nat} {W V : Nat → Rat}
theorem Sol.unroll (h : Sol N d g f W) (hf : ∀ s, s < N → f s < N) : ∀ (n s : Nat), s < N → W s = fst d g f n s + d ^ n * W (stp f n s)
  | 0, s, hs => by
    show W s = 0 + d ^ 0 * W s
    grind
  | n + 1, s, hs => by
    have e := h.unroll hf n (f s) (hf s hs)
    have e0 := h s hs
    show W s = ((1 - d) * g s + d * fst d g f n (f s)) + d ^ (n + 1) * W (stp f n (f s))
    rw [e0, Rat.pow_succ]
    grind
theorem pow_lt_one (h0 : 0 < d) (h1 : d < 1) : ∀ n : Nat, 0 < n → d ^ n < 1 ∧ 0 < d ^ n
  | 0, h => absurd h (Nat.lt_irrefl 0)
  | 1, _ => by rw [Rat.pow_succ, Rat.pow_zero]; grind
  | n + 2, _ => by
    obtain ⟨a, b⟩ := pow_lt_one h0 h1 (n + 1) (Nat.succ_pos n)
    rw [Rat.pow_succ]
    have c : d ^ (n + 1) * d < 1 * d := by
      have := Rat.mul_lt_mul_of_pos_right a h0
      exact this
    have e : 0 < d ^ (n + 1) * d := Rat.mul_pos b h0
    grind
theorem pow_pos' (h0 : 0 < d) : ∀ n : Nat, 0 < d ^ n
  | 0 => by rw [Rat.pow_zero]; grind
  | n + 1 => by rw [Rat.pow_succ]; exact Rat.mul_pos (pow_pos' h0 n) h0
theorem dup_of_lt : ∀ (N : Nat) (q : Nat → Nat), (∀ i, i ≤ N → q i < N) → ∃ i j, i < j ∧ j ≤ N ∧ q i = q j
  | 0, q, h => absurd (h 0 (Nat.le_refl 0)) (Nat.not_lt_zero _)
  | N + 1, q, h => by
    by_cases hd : ∃ i, i ≤ N ∧ q i = q (N + 1)
    · obtain ⟨i, hi, e⟩ := hd
      exact ⟨i, N + 1, by omega, Nat.le_refl _, e⟩
    · -- move the last value away
      have hd' : ∀ i, i ≤ N → q i ≠ q (N + 1) := fun i hi e => hd ⟨i, hi, e⟩
      have hl := h (N + 1) (Nat.le_refl _)
      obtain ⟨i, j, hij, hj, e⟩ := dup_of_lt N (fun i => if q i = N then q (N + 1) else q i) fun i hi => by
        have h1 := h i (by omega)
        have h2 := hd' i hi
        show (if q i = N then q (N + 1) else q i) < N
        split <;> omega
      refine ⟨i, j, hij, by omega, ?_⟩
      have h1 := hd' i (by omega)
      have h2 := hd' j hj
      have e : (if q i = N then q (N + 1) else q i) = (if q j = N then q (N + 1) else q j) := e
      split at e <;> split at e <;> omega
theorem dup_state (hf : ∀ s, s < N → f s < N) {s : Nat} (hs : s < N) : ∃ i P, 0 < P ∧ i + P ≤ N ∧ stp f P (stp f i s) = stp f i s := by
  obtain ⟨i, j, hij, hj, e⟩ := dup_of_lt N (fun t => stp f t s) fun t _ => stp_lt hf t s hs
  refine ⟨i, j - i, by omega, by omega, ?_⟩
  rw [← stp_add, show i + (j - i) = j by omega]
  exact e.symm
theorem fst_le {B : Rat} (h0 : 0 < d) (h1 : d < 1) (hf : ∀ s, s < N → f s < N) (hg : ∀ s, s < N → g s ≤ B) : ∀ (n s : Nat), s < N → fst d g f n s ≤ (1 - d ^ n) * B
  | 0, s, hs => by
    show (0 : Rat) ≤ (1 - d ^ 0) * B
    rw [Rat.pow_zero]
    grind
  | n + 1, s, hs => by
    have e := fst_le h0 h1 hf hg n (f s) (hf s hs)
    have a := hg s hs
    show (1 - d) * g s + d * fst d g f n (f s) ≤ _
    have b : d * fst d g f n (f s) ≤ d * ((1 - d ^ n) * B) := Rat.mul_le_mul_of_nonneg_left e (Rat.le_of_lt h0)
    have c : (1 - d) * g s ≤ (1 - d) * B := Rat.mul_le_mul_of_nonneg_left a (by grind)
    rw [Rat.pow_succ]
    grind
theorem Sol.neg (h : Sol N d g f W) : Sol N d (fun s => - g s) f (fun s => - W s) := fun s hs => by
  have := h s hs
  grind
theorem Sol.le {B : Rat} (h0 : 0 < d) (h1 : d < 1) (hf : ∀ s, s < N → f s < N) (hW : Sol N d g f W) (hg : ∀ s, s < N → g s ≤ B) {s : Nat} (hs : s < N) : W s ≤ B := by
  obtain ⟨i, P, hP, _, e⟩ := dup_state hf hs
  have hc := stp_lt hf i s hs
  have a1 := hW.unroll hf P (stp f i s) hc
  have b1 := hW.unroll hf i s hs
  rw [e] at a1
  obtain ⟨p1, p2⟩ := pow_lt_one h0 h1 P hP
  have l1 := fst_le h0 h1 hf hg P (stp f i s) hc
  have l2 := fst_le h0 h1 hf hg i s hs
  have k : W (stp f i s) ≤ B := by
    have : (1 - d ^ P) * W (stp f i s) ≤ (1 - d ^ P) * B := by grind
    exact Rat.le_of_mul_le_mul_left this (by grind)
  have : d ^ i * W (stp f i s) ≤ d ^ i * B := Rat.mul_le_mul_of_nonneg_left k (Rat.le_of_lt (pow_pos' h0 i))
  rw [b1]
  grind
theorem Sol.ge {B : Rat} (h0 : 0 < d) (h1 : d < 1) (hf : ∀ s, s < N → f s < N) (hW : Sol N d g f W) (hg : ∀ s, s < N → B ≤ g s) {s : Nat} (hs : s < N) : B ≤ W s := by
  have := hW.neg.le (B := -B) h0 h1 hf (fun s hs => by have := hg s hs; grind) hs
  grind
end
end L2
namespace L2
section
variable {N : Nat} {d : Rat} {g : Nat → Rat} {f : Nat → Nat} {W V : Nat → Rat}
theorem per_mul {P c : Nat} (h : stp f P c = c) : ∀ k, stp f (P * k) c = c
  | 0 => rfl
  | k + 1 => by rw [Nat.mul_succ, stp_add, per_mul h k, h]
theorem per_on {P c : Nat} (h : stp f P c = c) (t : Nat) : stp f P (stp f t c) = stp f t c := by
  rw [← stp_add, Nat.add_comm, stp_add, h]
def fac : Nat → Nat
  | 0 => 1
  | n + 1 => (n + 1) * fac n
theorem fac_pos : ∀ n, 0 < fac n
  | 0 => Nat.one_pos
  | n + 1 => Nat.mul_pos (Nat.succ_pos n) (fac_pos n)
theorem dvd_fac {k : Nat} (hk : 0 < k) : ∀ n, k ≤ n → k ∣ fac n
  | 0, h => by omega
  | n + 1, h => by
    by_cases e : k = n + 1
    · rw [e]; exact Nat.dvd_mul_right _ _
    · exact Nat.dvd_trans (dvd_fac hk n (by omega)) (Nat.dvd_mul_left _ _)
theorem far (hf : ∀ s, s < N → f s < N) {s : Nat} (hs : s < N) : stp f (fac N) (stp f N s) = stp f N s := by
  obtain ⟨i, P, hP, hN, e⟩ := dup_state hf hs
  have : stp f N s = stp f (N - i) (stp f i s) := by rw [← stp_add]; congr 1; omega
  rw [this]
  refine per_on ?_ _
  obtain ⟨k, hk⟩ := dvd_fac hP N (by omega)
  rw [hk]
  exact per_mul e k
theorem fst_snoc : ∀ (n s : Nat), fst d g f (n + 1) s = fst d g f n s + (1 - d) * d ^ n * g (stp f n s)
  | 0, s => by
    show (1 - d) * g s + d * 0 = 0 + (1 - d) * d ^ 0 * g s
    rw [Rat.pow_zero]
    grind
  | n + 1, s => by
    have := fst_snoc n (f s)
    show (1 - d) * g s + d * fst d g f (n + 1) (f s) = ((1 - d) * g s + d * fst d g f n (f s)) + (1 - d) * d ^ (n + 1) * g (stp f n (f s))
    rw [this, Rat.pow_succ]
    grind
def solW (N : Nat) (d : Rat) (g : Nat → Rat) (f : Nat → Nat) (s : Nat) : Rat := fst d g f N s + d ^ N * (fst d g f (fac N) (stp f N s) / (1 - d ^ fac N))
theorem solW_ok (h0 : 0 < d) (h1 : d < 1) (hf : ∀ s, s < N → f s < N) : Sol N d g f (solW N d g f) := by
  intro s hs
  have hp := far hf hs
  obtain ⟨p1, p2⟩ := pow_lt_one h0 h1 (fac N) (fac_pos N)
  have hne : (1 - d ^ fac N) ≠ 0 := by grind
  have e1 : stp f N (f s) = f (stp f N s) := by
    show stp f (N + 1) s = _
    rw [stp_add]
    rfl
  have a1 := fst_snoc (d := d) (g := g) (f := f) N s
  have a2 : fst d g f (N + 1) s = (1 - d) * g s + d * fst d g f N (f s) := rfl
  have b1 := fst_snoc (d := d) (g := g) (f := f) (fac N) (stp f N s)
  have b2 : fst d g f (fac N + 1) (stp f N s) = (1 - d) * g (stp f N s) + d * fst d g f (fac N) (f (stp f N s)) := rfl
  rw [hp] at b1
  unfold solW
  rw [e1]
  generalize fst d g f (fac N) (f (stp f N s)) = T at *
  generalize fst d g f (fac N) (stp f N s) = S at *
  generalize d ^ fac N = p at *
  have e2 : S / (1 - p) = (1 - d) * g (stp f N s) + d * (T / (1 - p)) := by grind
  rw [e2]
  grind
theorem rat_num (x : Rat) : x * (x.den : Int) = x.num := by
  have h := Rat.num_divInt_den x
  rw [Rat.divInt_eq_div] at h
  have hd : ((x.den : Int) : Rat) ≠ 0 := by
    have := x.den_nz
    intro z
    have z2 : ((x.den : Int) : Rat) = ((0 : Int) : Rat) := z
    rw [Rat.intCast_inj] at z2
    omega
  grind
theorem den_dvd {x : Rat} {m z : Int} (h : x * m = z) : (x.den : Int) ∣ m := by
  have h1 := rat_num x
  have h2 : ((z * (x.den : Int) : Int) : Rat) = ((x.num * m : Int) : Rat) := by
    rw [Rat.intCast_mul, Rat.intCast_mul, ← h, ← h1]
    grind
  rw [Rat.intCast_inj] at h2
  have h3 : x.den ∣ x.num.natAbs * m.natAbs := by
    rw [← Int.natAbs_mul, ← h2, Int.natAbs_mul]
    exact Nat.dvd_mul_left _ _
  have h4 := Nat.Coprime.dvd_of_dvd_mul_left x.reduced.symm h3
  exact Int.ofNat_dvd_left.mpr h4
theorem den_le {x : Rat} {m z : Int} (hm : 0 < m) (h : x * m = z) : (x.den : Int) ≤ m := Int.le_of_dvd hm (den_dvd h)
theorem fst_int {p q : Int} (hd : d * q = p) {gz : Nat → Int} (hg : ∀ s, s < N → g s = gz s) (hf : ∀ s, s < N → f s < N) : ∀ (n s : Nat), s < N → ∃ z : Int, fst d g f n s * ((q ^ n : Int) : Rat) = z
  | 0, s, hs => ⟨0, by show (0 : Rat) * _ = _; grind⟩
  | n + 1, s, hs => by
    obtain ⟨z, e⟩ := fst_int hd hg hf n (f s) (hf s hs)
    refine ⟨(q - p) * gz s * q ^ n + p * z, ?_⟩
    show ((1 - d) * g s + d * fst d g f n (f s)) * ((q ^ (n + 1) : Int) : Rat) = _
    rw [Int.pow_succ, Rat.intCast_mul, Rat.intCast_add, Rat.intCast_mul, Rat.intCast_mul, Rat.intCast_mul, Rat.intCast_sub, hg s hs]
    generalize ((q ^ n : Int) : Rat) = Q at *
    grind
theorem ipow_pos {q : Int} (h : 0 < q) : ∀ n : Nat, 0 < q ^ n
  | 0 => by rw [Int.pow_zero]; decide
  | n + 1 => by rw [Int.pow_succ]; exact Int.mul_pos (ipow_pos h n) h
theorem ipow_lt {p q : Int} (h0 : 0 < p) (h : p < q) : ∀ n : Nat, 0 < n → p ^ n < q ^ n
  | 0, z => absurd z (Nat.lt_irrefl 0)
  | 1, _ => by rw [Int.pow_succ, Int.pow_zero, Int.pow_succ, Int.pow_zero]; omega
  | n + 2, _ => by
    have a := ipow_lt h0 h (n + 1) (Nat.succ_pos n)
    rw [Int.pow_succ, Int.pow_succ q]
    have b : p ^ (n + 1) * p < q ^ (n + 1) * p := Int.mul_lt_mul_of_pos_right a h0
    have c : q ^ (n + 1) * p < q ^ (n + 1) * q := Int.mul_lt_mul_of_pos_left h (ipow_pos (by omega) _)
    omega
theorem ipow_mono {q : Int} (h : 1 ≤ q) {a b : Nat} (hab : a ≤ b) : q ^ a ≤ q ^ b := by
  obtain ⟨k, rfl⟩ := Nat.le.dest hab
  rw [Int.pow_add]
  have h1 : 0 < q ^ a := ipow_pos (by omega) a
  have h2 : 0 < q ^ k := ipow_pos (by omega) k
  have := Int.mul_le_mul_of_nonneg_left (show 1 ≤ q ^ k by omega) (Int.le_of_lt h1)
  omega
theorem Sol.den {p q : Int} (hp : 0 < p) (hpq : p < q) (hd : d * q = p) {gz : Nat → Int} (hg : ∀ s, s < N → g s = gz s) (hf : ∀ s, s < N → f s < N) (hW : Sol N d g f W) {s : Nat} (hs : s < N) : ((W s).den : Int) ≤ q ^ N := by
  obtain ⟨i, P, hP, hN, e⟩ := dup_state hf hs
  have hc := stp_lt hf i s hs
  have a1 := hW.unroll hf P (stp f i s) hc
  have b1 := hW.unroll hf i s hs
  rw [e] at a1
  obtain ⟨z1, e1⟩ := fst_int hd hg hf P (stp f i s) hc
  obtain ⟨z2, e2⟩ := fst_int hd hg hf i s hs
  have hdp : ∀ n : Nat, d ^ n * ((q ^ n : Int) : Rat) = ((p ^ n : Int) : Rat) := by
    intro n
    induction n with
    | zero => rw [Rat.pow_zero, Int.pow_zero, Int.pow_zero]; grind
    | succ n ih =>
      rw [Rat.pow_succ, Int.pow_succ, Int.pow_succ, Rat.intCast_mul, Rat.intCast_mul]
      grind
  have dP := hdp P
  have di := hdp i
  have hm : 0 < q ^ P - p ^ P := by have := ipow_lt hp hpq P hP; omega
  have hq : 0 < q ^ i := ipow_pos (by omega) i
  have key : W s * ((q ^ i * (q ^ P - p ^ P) : Int) : Rat) = ((z2 * (q ^ P - p ^ P) + p ^ i * z1 : Int) : Rat) := by
    rw [Rat.intCast_mul, Rat.intCast_add, Rat.intCast_mul, Rat.intCast_mul, Rat.intCast_sub, b1]
    generalize ((q ^ i : Int) : Rat) = Qi at *
    generalize ((q ^ P : Int) : Rat) = QP at *
    generalize ((p ^ i : Int) : Rat) = pi at *
    generalize ((p ^ P : Int) : Rat) = pP at *
    have k1 : W (stp f i s) * (QP - pP) = z1 := by grind
    grind
  refine Int.le_trans (den_le (Int.mul_pos hq hm) key) ?_
  have l1 : q ^ i * (q ^ P - p ^ P) ≤ q ^ i * q ^ P := Int.mul_le_mul_of_nonneg_left (by have := ipow_pos hp P; omega) (Int.le_of_lt hq)
  rw [← Int.pow_add] at l1
  exact Int.le_trans l1 (ipow_mono (by omega) hN)
end
end L2
namespace L2
open PySem PySem.Spec PyProof.Rows
@[reducible] def fracD (q : Rat) : D := .tup [.int q.num, .int q.den]
def ratD : D → Option Rat
  | .tup [.int a, .int b] => if 0 < b ∧ Int.gcd a b = 1 then some (Rat.divInt a b) else none
  | _ => none
theorem ratD_of (q : Rat) : ratD (fracD q) = some q := by
  have h1 : (0 : Int) < (q.den : Int) := by have := q.den_nz; omega
  have h2 : Int.gcd q.num q.den = 1 := q.reduced
  show (if (0 : Int) < (q.den : Int) ∧ Int.gcd q.num q.den = 1 then some (Rat.divInt q.num q.den) else none) = some q
  rw [if_pos ⟨h1, h2⟩, Rat.num_divInt_den]
theorem ratD_eq {d : D} {q : Rat} (h : ratD d = some q) : d = fracD q := by
  unfold ratD at h
  split at h
  · rename_i a b
    split at h
    · rename_i hh
      cases h
      have h1 : b.sign = 1 := Int.sign_eq_one_of_pos hh.1
      have h2 : b.gcd a = 1 := by rw [Int.gcd_comm]; exact hh.2
      unfold fracD
      rw [Rat.num_divInt, Rat.den_divInt, if_neg (by omega), h1, h2]
      simp
      omega
    · cases h
  · cases h
def onRat (d : D) (f : Rat → Option D) : Option D := match ratD d with
  | some q => f q
  | none => none
theorem onRat_of {q : Rat} {f : Rat → Option D} : onRat (fracD q) f = f q := by
  unfold onRat
  rw [ratD_of]
theorem onRat_eq {m d : D} {f : Rat → Option D} (h : onRat m f = some d) : ∃ q, m = fracD q ∧ f q = some d := by
  unfold onRat at h
  split at h
  · rename_i q e
    exact ⟨q, ratD_eq e, h⟩
  · cases h
def BdR (k : Nat) (q : Rat) : Prop := Bd k q.num ∧ Bd k (q.den : Int)
theorem den_pos (q : Rat) : (0 : Int) < (q.den : Int) := by have := q.den_nz; omega
open Classical in
noncomputable def F__law_fraction : List D → Option D
  | [.int u, .int l] => if l ≠ 0 ∧ Bd 7000 u ∧ Bd 7000 l then some (fracD (Rat.divInt u l)) else none
  | _ => none
open Classical in
noncomputable def F__law_later : List D → Option D
  | [.int pay, w, d] => onRat w fun w => onRat d fun d => if Bd 1000 pay ∧ BdR 1000 w ∧ BdR 1000 d then some (fracD ((1 - d) * pay + d * w)) else none
  | _ => none
open Classical in
noncomputable def F__law_more : List D → Option D
  | [a, b] => onRat a fun a => onRat b fun b => if BdR 1000 a ∧ BdR 1000 b then some (.bl (decide (b < a))) else none
  | _ => none
def pairP (d : D) : Option (List Int × List Int) := match d with
  | .tup [a, b] => match rowD a, rowD b with
    | some r, some n => some (r, n)
    | _, _ => none
  | _ => none
def statesD : List D → Option (List (List Int × List Int))
  | [] => some []
  | d :: ds => match pairP d, statesD ds with
    | some s, some ss => some (s :: ss)
    | _, _ => none
def planOf : D → Option (List (List Int × List Int))
  | .tup ds => statesD ds
  | _ => none
theorem pairP_eq {d : D} {s : List Int × List Int} (h : pairP d = some s) : d = .tup [dInts s.1, dInts s.2] := by
  unfold pairP at h
  split at h
  · split at h
    · rename_i e1 e2
      cases h
      rw [rowD_eq e1, rowD_eq e2]
    · cases h
  · cases h
theorem statesD_of : ∀ pl : List (List Int × List Int), statesD (pl.map fun s => .tup [dInts s.1, dInts s.2]) = some pl
  | [] => rfl
  | s :: pl => by
    rw [List.map_cons, statesD, statesD_of pl]
    simp only [pairP, rowD_of]
theorem statesD_eq : ∀ {ds : List D} {pl : List (List Int × List Int)}, statesD ds = some pl → ds = pl.map fun s => .tup [dInts s.1, dInts s.2]
  | [], pl, h => by cases h; rfl
  | d :: ds, pl, h => by
    unfold statesD at h
    split at h
    · rename_i s ss e1 e2
      cases h
      rw [pairP_eq e1, statesD_eq e2]
      rfl
    · cases h
theorem planOf_of (pl : List (List Int × List Int)) : planOf (planD pl) = some pl := statesD_of pl
theorem planOf_eq {d : D} {pl : List (List Int × List Int)} (h : planOf d = some pl) : d = planD pl := by
  unfold planOf at h
  split at h
  · rw [statesD_eq h]
  · cases h
structure PlanW (ns : List Int) (pl : List (List Int × List Int)) : Prop where
  few : 1 ≤ pl.length ∧ pl.length ≤ 20
  row : ∀ s ∈ pl, s.1 ∈ rowsL ns
  nexts : ∀ s ∈ pl, s.2.length = (rowsL ns).length ∧ ∀ x ∈ s.2, 0 ≤ x ∧ x < pl.length
theorem PlanOk.w {ns : List Int} {pl : List (List Int × List Int)} (h : PlanOk ns pl) : PlanW ns pl := ⟨⟨h.few.1, by have := h.few.2; omega⟩, h.row, h.nexts⟩
open Classical in
noncomputable def onPlan (ns : List Int) (d : D) (f : List (List Int × List Int) → Option D) : Option D := match planOf d with
  | some pl => if PlanW ns pl then f pl else none
  | none => none
theorem onPlan_of {ns : List Int} {pl : List (List Int × List Int)} {f : List (List Int × List Int) → Option D} (h : PlanW ns pl) : onPlan ns (planD pl) f = f pl := by
  unfold onPlan
  rw [planOf_of]
  exact if_pos h
theorem onPlan_eq {ns : List Int} {m d : D} {f : List (List Int × List Int) → Option D} (h : onPlan ns m f = some d) : ∃ pl, m = planD pl ∧ PlanW ns pl ∧ f pl = some d := by
  unfold onPlan at h
  split at h
  · rename_i pl e
    split at h
    · rename_i ho
      exact ⟨pl, planOf_eq e, ho, h⟩
    · cases h
  · cases h
def rowAt (pl : List (List Int × List Int)) (s : Nat) : List Int := (pl.getD s ([], [])).1
def nextAt (ns : List Int) (pl : List (List Int × List Int)) (s : Nat) (r : List Int) : Nat := ((pl.getD s ([], [])).2.getD ((rowsL ns).idxOf r) 0).toNat
def goAt (ns : List Int) (pl : List (List Int × List Int)) (s : Nat) : Nat := nextAt ns pl s (rowAt pl s)
noncomputable def worthR (ns : List Int) (pay : List (List Int)) (pl : List (List Int × List Int)) (d : Rat) (h s : Nat) : Rat := solW pl.length d (fun s => (payH ns pay (rowAt pl s) h : Rat)) (goAt ns pl) s
@[reducible] def trip (x : Int × Int × Int) : D := .tup [.int x.1, .int x.2.1, .int x.2.2]
structure PatOk (d : Rat) : Prop where
  pos : 0 < d
  lt : d < 1
  bits : BdR 40 d
open Classical in
noncomputable def onPat (d : D) (f : Rat → Option D) : Option D := match ratD d with
  | some q => if PatOk q then f q else none
  | none => none
theorem onPat_of {q : Rat} {f : Rat → Option D} (h : PatOk q) : onPat (fracD q) f = f q := by
  unfold onPat
  rw [ratD_of]
  exact if_pos h
theorem onPat_eq {m d : D} {f : Rat → Option D} (h : onPat m f = some d) : ∃ q, m = fracD q ∧ PatOk q ∧ f q = some d := by
  unfold onPat at h
  split at h
  · rename_i q e
    split at h
    · rename_i ho
      exact ⟨q, ratD_eq e, ho, h⟩
    · cases h
  · cases h
noncomputable def worthsD (ns : List Int) (pay : List (List Int)) (pl : List (List Int × List Int)) (d : Rat) : D := .tup ((List.range pl.length).map fun s => .tup ((List.range ns.length).map fun h => fracD (worthR ns pay pl d h s)))
noncomputable def F_worths : List D → Option D
  | [m, p, d] => onMeet m fun ns pay => onPlan ns p fun pl => onPat d fun d => some (worthsD ns pay pl d)
  | _ => none
def fstL (d : Rat) : List Rat → Rat
  | [] => 0
  | x :: xs => (1 - d) * x + d * fstL d xs
def woR (ns : List Int) (pay : List (List Int)) (rows over : List (List Int)) (d : Rat) (h : Nat) : Rat := fstL d (rows.map fun r => (payH ns pay r h : Rat)) + d ^ rows.length * (fstL d (over.map fun r => (payH ns pay r h : Rat)) / (1 - d ^ over.length))
def onRows (ns : List Int) (d : D) (f : List (List Int) → Option D) : Option D := match seqOf d with
  | some ds => match rowsD ds with
    | some rs => if rs.length ≤ 20 ∧ ∀ r ∈ rs, r ∈ rowsL ns then f rs else none
    | none => none
  | none => none
theorem onRows_ofS {ns : List Int} {d : D} {rs : List (List Int)} {f : List (List Int) → Option D} (hd : seqOf d = some (rs.map dInts)) (h1 : rs.length ≤ 20) (h2 : ∀ r ∈ rs, r ∈ rowsL ns) : onRows ns d f = f rs := by
  unfold onRows
  simp only [hd, rowsD_of]
  exact if_pos ⟨h1, h2⟩
theorem onRows_eq {ns : List Int} {m d : D} {f : List (List Int) → Option D} (h : onRows ns m f = some d) : ∃ rs, seqOf m = some (rs.map dInts) ∧ rs.length ≤ 20 ∧ (∀ r ∈ rs, r ∈ rowsL ns) ∧ f rs = some d := by
  unfold onRows at h
  split at h
  · rename_i ds e0
    split at h
    · rename_i rs e
      split at h
      · rename_i ho
        exact ⟨rs, by rw [e0, rowsD_eq e], ho.1, ho.2, h⟩
      · cases h
    · cases h
  · cases h
noncomputable def F_worth_of : List D → Option D
  | [m, rows, over, d] => onMeet m fun ns pay => onRows ns rows fun rows => onRows ns over fun over => onPat d fun d => if over = [] then none else some (.tup ((List.range ns.length).map fun h => fracD (woR ns pay rows over d h)))
  | _ => none
end L2
namespace L2
open PySem PySem.Spec PyProof.Rows
theorem cutD_take (l : List D) (n : Nat) (h : n ≤ l.length) : cutD l none (some (n : Int)) = l.take n := by
  unfold cutD
  rw [HT.sIx_none, HT.sIx_nat, Nat.min_eq_left h, List.drop_zero]
  rfl
theorem cutD_drop (l : List D) (n : Nat) (h : n ≤ l.length) : cutD l (some (n : Int)) none = l.drop n := by
  unfold cutD
  rw [HT.sIx_none, HT.sIx_nat, Nat.min_eq_left h]
  refine List.take_of_length_le ?_
  rw [List.length_drop]
  omega
section
variable {ns : List Int} {pay : List (List Int)} {pl : List (List Int × List Int)} {d : Rat} {h s : Nat}
theorem pnext_lt (hp : PlanW ns pl) (hs : s < pl.length) {r : List Int} (hr : r ∈ rowsL ns) : nextAt ns pl s r < pl.length := by
  have hm : pl.getD s ([], []) ∈ pl := by rw [getD_of hs]; exact List.getElem_mem hs
  obtain ⟨h1, h2⟩ := hp.nexts _ hm
  have hi : (rowsL ns).idxOf r < (pl.getD s ([], [])).2.length := by
    rw [h1]
    exact List.idxOf_lt_length_of_mem hr
  have := h2 _ (List.getElem_mem hi)
  unfold nextAt
  rw [getD_of hi]
  omega
theorem prow_mem (hp : PlanW ns pl) (hs : s < pl.length) : rowAt pl s ∈ rowsL ns := by
  unfold rowAt
  rw [getD_of hs]
  exact hp.row _ (List.getElem_mem hs)
theorem pgo_lt (hp : PlanW ns pl) : ∀ s, s < pl.length → goAt ns pl s < pl.length := fun s hs => pnext_lt hp hs (prow_mem hp hs)
theorem payH_bd (ho : MeetOk ns pay) {r : List Int} (hr : r ∈ rowsL ns) : -9 ≤ payH ns pay r h ∧ payH ns pay r h ≤ 9 := by
  unfold payH
  rw [List.getD_eq_getElem?_getD]
  cases e : (payAt ns pay r)[h]? with
  | none => exact ⟨by decide, by decide⟩
  | some x => exact (payAt_ok ho hr).2 x (List.mem_of_getElem? e)
theorem worth_sol (hp : PlanW ns pl) (hd : PatOk d) : Sol pl.length d (fun s => (payH ns pay (rowAt pl s) h : Rat)) (goAt ns pl) (worthR ns pay pl d h) := solW_ok hd.pos hd.lt (pgo_lt hp)
theorem rat_abs_num {x : Rat} (h1 : -9 ≤ x) (h2 : x ≤ 9) : x.num.natAbs ≤ 9 * x.den := by
  have a := (Rat.le_iff _ _).mp h1
  have b := (Rat.le_iff _ _).mp h2
  have e1 : (-9 : Rat).num = -9 := rfl
  have e2 : (-9 : Rat).den = 1 := rfl
  have e3 : (9 : Rat).num = 9 := rfl
  have e4 : (9 : Rat).den = 1 := rfl
  rw [e1, e2] at a
  rw [e3, e4] at b
  omega
theorem int_le_rat {a b : Int} (h : a ≤ b) : (a : Rat) ≤ (b : Rat) := Rat.intCast_le_intCast.mpr h
theorem Sol.bd {W : Nat → Rat} (ho : MeetOk ns pay) {N : Nat} (hN : N ≤ 20) {rw : Nat → List Int} (hr : ∀ s, s < N → rw s ∈ rowsL ns) {f : Nat → Nat} (hf : ∀ s, s < N → f s < N) (hd : PatOk d) (hW : Sol N d (fun s => (payH ns pay (rw s) h : Rat)) f W) (hs : s < N) : -9 ≤ W s ∧ W s ≤ 9 ∧ BdR 900 (W s) := by
  have l1 : W s ≤ 9 := hW.le hd.pos hd.lt hf (fun s hs => by
    have := int_le_rat (payH_bd (h := h) ho (hr s hs)).2
    exact this) hs
  have l2 : -9 ≤ W s := hW.ge hd.pos hd.lt hf (fun s hs => by
    have := int_le_rat (payH_bd (h := h) ho (hr s hs)).1
    exact this) hs
  have hq : 0 < d.num := by
    have := hd.pos
    rw [Rat.lt_iff] at this
    have e1 : (0 : Rat).num = 0 := rfl
    have e2 : (0 : Rat).den = 1 := rfl
    rw [e1, e2] at this
    omega
  have hpq : d.num < (d.den : Int) := by
    have := hd.lt
    rw [Rat.lt_iff] at this
    have e1 : (1 : Rat).num = 1 := rfl
    have e2 : (1 : Rat).den = 1 := rfl
    rw [e1, e2] at this
    omega
  have dn := hW.den (p := d.num) (q := d.den) (gz := fun s => payH ns pay (rw s) h) hq hpq (rat_num d) (fun s _ => rfl) hf hs
  have b1 : Bd 841 (((W s).den : Nat) : Int) := by
    refine Bd.of_le (j := (d.den : Int) ^ N) ?_ (by omega) dn
    exact (hd.bits.2.pow N).mono (by omega)
  refine ⟨l2, l1, ?_, b1.mono (by decide)⟩
  have := rat_abs_num l2 l1
  have b2 : Bd (841 + 4) ((((W s).den : Nat) : Int) * 9) := b1.mul (show Bd 4 9 by unfold Bd; decide)
  exact (b2.abs (i := (W s).num) (by omega)).mono (by decide)
theorem worth_step (hp : PlanW ns pl) (hd : PatOk d) (hs : s < pl.length) : worthR ns pay pl d h s = (1 - d) * payH ns pay (rowAt pl s) h + d * worthR ns pay pl d h (goAt ns pl s) := worth_sol hp hd s hs
theorem fst_list {g : Nat → Rat} {f : Nat → Nat} : ∀ (n s : Nat), fst d g f n s = fstL d ((List.range n).map fun t => g (stp f t s))
  | 0, s => rfl
  | n + 1, s => by
    rw [List.range_succ_eq_map, List.map_cons, List.map_map]
    show (1 - d) * g s + d * fst d g f n (f s) = (1 - d) * g s + d * fstL d _
    rw [fst_list n (f s)]
    rfl
theorem pat_div {U L : Int} (u1 : 0 < U ∧ U < L) (l2 : L ≤ 30) : PatOk (Rat.divInt U L) := by
  have g0 : 0 < Int.gcd L U := Int.gcd_pos_of_ne_zero_left _ (by omega)
  obtain ⟨a, ha⟩ := Int.gcd_dvd_right L U
  obtain ⟨b, hb⟩ := Int.gcd_dvd_left L U
  have h1 : L.sign = 1 := Int.sign_eq_one_of_pos (by omega)
  have en : (Rat.divInt U L).num = a := by
    rw [Rat.num_divInt, h1, Int.one_mul]
    conv => lhs; lhs; rw [ha]
    exact Int.mul_ediv_cancel_left _ (by omega)
  have ed : ((Rat.divInt U L).den : Int) = b := by
    rw [Rat.den_divInt, if_neg (by omega), Int.natCast_ediv, show ((L.natAbs : Nat) : Int) = L by omega]
    conv => lhs; lhs; rw [hb]
    exact Int.mul_ediv_cancel_left _ (by omega)
  have g0 : (0 : Int) < (Int.gcd L U : Int) := by omega
  generalize (Int.gcd L U : Int) = g at *
  have a0 : 0 < a := by
    apply Int.lt_of_not_ge
    intro z
    have := Int.mul_nonpos_of_nonneg_of_nonpos (show 0 ≤ g by omega) z
    omega
  have ab : a < b := by
    apply Int.lt_of_not_ge
    intro z
    have := Int.mul_le_mul_of_nonneg_left z (show 0 ≤ g by omega)
    omega
  have bl : b ≤ 30 := by
    have : 1 * b ≤ g * b := Int.mul_le_mul_of_nonneg_right (by omega) (by omega)
    omega
  have e40 : (2 : Nat) ^ 40 = 1099511627776 := by decide
  refine ⟨?_, ?_, ?_, ?_⟩
  · rw [Rat.lt_iff, en, ed]
    show 0 * b < a * 1
    omega
  · rw [Rat.lt_iff, en, ed]
    show a * 1 < 1 * b
    omega
  · rw [en]
    unfold Bd
    omega
  · rw [ed]
    unfold Bd
    omega
theorem patR_ok (c : Int) : PatOk (patR c) := by
  have a1 : 0 ≤ mix c 9929 29 := Int.emod_nonneg _ (by decide)
  have a2 : mix c 9929 29 < 29 := Int.emod_lt_of_pos _ (by decide)
  have l1 : 2 ≤ patL c := by unfold patL; omega
  have l2 : patL c ≤ 30 := by unfold patL; omega
  have b1 : 0 ≤ mix c 9923 (patL c - 1) := Int.emod_nonneg _ (by omega)
  have b2 : mix c 9923 (patL c - 1) < patL c - 1 := Int.emod_lt_of_pos _ (by omega)
  refine pat_div ?_ l2
  unfold patU
  split <;> omega
end
end L2
namespace L2
open PySem PySem.Spec PyProof.Rows
theorem arg_max (g : Nat → Rat) : ∀ N, 0 < N → ∃ s, s < N ∧ ∀ t, t < N → g t ≤ g s
  | 0, h => absurd h (Nat.lt_irrefl 0)
  | 1, _ => ⟨0, Nat.one_pos, fun t ht => by
    have : t = 0 := by omega
    rw [this]; exact Rat.le_refl⟩
  | N + 2, _ => by
    obtain ⟨s, hs, h⟩ := arg_max g (N + 1) (Nat.succ_pos N)
    by_cases hl : g s ≤ g (N + 1)
    · refine ⟨N + 1, by omega, fun t ht => ?_⟩
      by_cases e : t = N + 1
      · rw [e]; exact Rat.le_refl
      · exact Rat.le_trans (h t (by omega)) hl
    · refine ⟨s, by omega, fun t ht => ?_⟩
      by_cases e : t = N + 1
      · rw [e]; grind
      · exact h t (by omega)
def strayV (ns : List Int) (pay : List (List Int)) (pl : List (List Int × List Int)) (d : Rat) (h : Nat) (W : Nat → Rat) (s : Nat) (k : Int) : Rat := (1 - d) * payH ns pay ((rowAt pl s).set h k) h + d * W (nextAt ns pl s ((rowAt pl s).set h k))
structure Bell (ns : List Int) (pay : List (List Int)) (pl : List (List Int × List Int)) (d : Rat) (h : Nat) (B : Nat → Rat) : Prop where
  ge : ∀ s, s < pl.length → ∀ k ∈ deedsL ns h, strayV ns pay pl d h B s k ≤ B s
  hit : ∀ s, s < pl.length → ∃ k ∈ deedsL ns h, strayV ns pay pl d h B s k = B s
section
variable {ns : List Int} {pay : List (List Int)} {pl : List (List Int × List Int)} {d : Rat} {h s : Nat} {B C : Nat → Rat}
theorem mv_mem (hp : PlanW ns pl) (hs : s < pl.length) {k : Int} (hk : k ∈ deedsL ns h) : (rowAt pl s).set h k ∈ rowsL ns := row_set (prow_mem hp hs) (deed_mem.mp hk).1 (deed_mem.mp hk).2
theorem mv_lt (hp : PlanW ns pl) (hs : s < pl.length) {k : Int} (hk : k ∈ deedsL ns h) : nextAt ns pl s ((rowAt pl s).set h k) < pl.length := pnext_lt hp hs (mv_mem hp hs hk)
theorem Bell.le (hp : PlanW ns pl) (hd : PatOk d) (hB : Bell ns pay pl d h B) (hC : Bell ns pay pl d h C) (hs : s < pl.length) : B s ≤ C s := by
  obtain ⟨t, ht, hm⟩ := arg_max (fun s => B s - C s) pl.length (by omega)
  obtain ⟨k, hk, e⟩ := hB.hit t ht
  have c := hC.ge t ht k hk
  have n := mv_lt hp ht hk
  have q := hm _ n
  have q2 := hm s hs
  have p0 := hd.pos
  have p1 := hd.lt
  unfold strayV at e c
  generalize nextAt ns pl t ((rowAt pl t).set h k) = u at *
  generalize ((payH ns pay ((rowAt pl t).set h k) h : Int) : Rat) = x at *
  have l1 : B t - C t ≤ d * (B u - C u) := by grind
  have l2 : d * (B u - C u) ≤ d * (B t - C t) := Rat.mul_le_mul_of_nonneg_left q (Rat.le_of_lt p0)
  have l3 : (1 - d) * (B t - C t) ≤ (1 - d) * 0 := by grind
  have l4 : B t - C t ≤ 0 := Rat.le_of_mul_le_mul_left l3 (by grind)
  grind
theorem Bell.uniq (hp : PlanW ns pl) (hd : PatOk d) (hB : Bell ns pay pl d h B) (hC : Bell ns pay pl d h C) (hs : s < pl.length) : B s = C s := by
  have a := hB.le hp hd hC hs
  have b := hC.le hp hd hB hs
  grind
theorem Bell.bd (ho : MeetOk ns pay) (hp : PlanW ns pl) (hd : PatOk d) (hB : Bell ns pay pl d h B) (hs : s < pl.length) : BdR 900 (B s) := by
  have hk : ∀ s, ∃ k, s < pl.length → k ∈ deedsL ns h ∧ strayV ns pay pl d h B s k = B s := fun s => by
    by_cases hs : s < pl.length
    · obtain ⟨k, h1, h2⟩ := hB.hit s hs
      exact ⟨k, fun _ => ⟨h1, h2⟩⟩
    · exact ⟨0, fun z => absurd z hs⟩
  let ks : Nat → Int := fun s => Classical.choose (hk s)
  have hks : ∀ s, s < pl.length → ks s ∈ deedsL ns h ∧ strayV ns pay pl d h B s (ks s) = B s := fun s => Classical.choose_spec (hk s)
  have W : Sol pl.length d (fun s => (payH ns pay ((rowAt pl s).set h (ks s)) h : Rat)) (fun s => nextAt ns pl s ((rowAt pl s).set h (ks s))) B := fun s hs => (hks s hs).2.symm
  exact (W.bd ho hp.few.2 (rw := fun s => (rowAt pl s).set h (ks s)) (fun s hs => mv_mem hp hs (hks s hs).1) (fun s hs => mv_lt hp hs (hks s hs).1) hd hs).2.2
end
noncomputable def gainsAt (ns : List Int) (pay : List (List Int)) (pl : List (List Int × List Int)) (d : Rat) (s h : Nat) : List (Int × Int × Int) := ((deedsL ns h).filter fun k => decide (worthR ns pay pl d h s < strayV ns pay pl d h (worthR ns pay pl d h) s k)).map fun k => ((s : Int), (h : Int), k)
noncomputable def gainsL (ns : List Int) (pay : List (List Int)) (pl : List (List Int × List Int)) (d : Rat) : List (Int × Int × Int) := (List.range pl.length).flatMap fun s => (List.range ns.length).flatMap fun h => gainsAt ns pay pl d s h
section
variable {ns : List Int} {pay : List (List Int)} {pl : List (List Int × List Int)} {d : Rat} {h s : Nat}
theorem gains_nil : gainsL ns pay pl d = [] ↔ ∀ s, s < pl.length → ∀ h, h < ns.length → ∀ k ∈ deedsL ns h, strayV ns pay pl d h (worthR ns pay pl d h) s k ≤ worthR ns pay pl d h s := by
  unfold gainsL
  rw [List.flatMap_eq_nil_iff]
  constructor
  · intro H s hs h hh k hk
    have := H s (List.mem_range.mpr hs)
    rw [List.flatMap_eq_nil_iff] at this
    have := this h (List.mem_range.mpr hh)
    unfold gainsAt at this
    rw [List.map_eq_nil_iff, List.filter_eq_nil_iff] at this
    have := this k hk
    rw [decide_eq_true_eq] at this
    grind
  · intro H s hs
    rw [List.flatMap_eq_nil_iff]
    intro h hh
    unfold gainsAt
    rw [List.map_eq_nil_iff, List.filter_eq_nil_iff]
    intro k hk
    have := H s (List.mem_range.mp hs) h (List.mem_range.mp hh) k hk
    rw [decide_eq_true_eq]
    grind
theorem worth_bell (ho : MeetOk ns pay) (hp : PlanW ns pl) (hd : PatOk d) (hg : gainsL ns pay pl d = []) (hh : h < ns.length) : Bell ns pay pl d h (worthR ns pay pl d h) := by
  refine ⟨fun s hs k hk => gains_nil.mp hg s hs h hh k hk, fun s hs => ?_⟩
  have hr := prow_mem hp hs
  have ra := row_at hr hh
  refine ⟨(rowAt pl s).getD h 0, deed_mem.mpr ra, ?_⟩
  unfold strayV
  rw [set_self (by rw [row_len hr]; exact hh)]
  exact (worth_step hp hd hs).symm
end
noncomputable def F__law_move : List D → Option D
  | [m, p, s, h, .int k] => onMeet m fun ns pay => onPlan ns p fun pl => onHand pl.length s fun s => onHand ns.length h fun h => if k ∈ deedsL ns h then some (.tup [.int (payH ns pay ((rowAt pl s).set h k) h), .int (nextAt ns pl s ((rowAt pl s).set h k))]) else none
  | _ => none
open Classical in
noncomputable def F__law_gains : List D → Option D
  | [m, p, d, w] => onMeet m fun ns pay => onPlan ns p fun pl => onPat d fun d => if w = worthsD ns pay pl d then some (.lst ((gainsL ns pay pl d).map trip)) else none
  | _ => none
def BestW (ns : List Int) (pay : List (List Int)) (pl : List (List Int × List Int)) (d : Rat) (h : Nat) (x : D) : Prop := ∃ B : Nat → Rat, Bell ns pay pl d h B ∧ x = .tup ((List.range pl.length).map fun s => fracD (B s))
def BestS (ns : List Int) (pay : List (List Int)) (pl : List (List Int × List Int)) (d : Rat) (h : Nat) (x : D) : Prop := ∃ (B : Nat → Rat) (ks : Nat → Int), Bell ns pay pl d h B ∧ (∀ s, s < pl.length → ks s ∈ deedsL ns h ∧ strayV ns pay pl d h B s (ks s) = B s) ∧ x = .tup ((List.range pl.length).map fun s => .int (ks s))
open Classical in
noncomputable def F__law_best_right : List D → Option D
  | [m, p, h, d, w, k] => onMeet m fun ns pay => onPlan ns p fun pl => onHand ns.length h fun h => onPat d fun d => if BestW ns pay pl d h w ∧ BestS ns pay pl d h k then some (.bl true) else none
  | _ => none
open Classical in
noncomputable def onPlanR (m p d : D) (c : List Int → Prop) (f : List Int → List (List Int) → List (List Int × List Int) → Rat → D → Prop) : Option (D → Prop) := match meetOf m, planOf p, ratD d with
  | some (ns, pay), some pl, some q => if MeetOk ns pay ∧ PlanW ns pl ∧ PatOk q ∧ c ns then some (f ns pay pl q) else none
  | _, _, _ => none
theorem onPlanR_of {c : List Int → Prop} {ns : List Int} {pay : List (List Int)} {pl : List (List Int × List Int)} {q : Rat} {f : List Int → List (List Int) → List (List Int × List Int) → Rat → D → Prop} (h1 : MeetOk ns pay) (h2 : PlanW ns pl) (h3 : PatOk q) (h4 : c ns) : onPlanR (meetD ns pay) (planD pl) (fracD q) c f = some (f ns pay pl q) := by
  unfold onPlanR
  rw [meetOf_of, planOf_of, ratD_of]
  exact if_pos ⟨h1, h2, h3, h4⟩
theorem onPlanR_eq {m p d : D} {c : List Int → Prop} {f : List Int → List (List Int) → List (List Int × List Int) → Rat → D → Prop} {x : D → Prop} (h : onPlanR m p d c f = some x) : ∃ ns pay pl q, m = meetD ns pay ∧ p = planD pl ∧ d = fracD q ∧ MeetOk ns pay ∧ PlanW ns pl ∧ PatOk q ∧ c ns ∧ x = f ns pay pl q := by
  unfold onPlanR at h
  split at h
  · rename_i ns pay pl q e1 e2 e3
    split at h
    · rename_i ho
      cases h
      exact ⟨ns, pay, pl, q, meetOf_eq e1, planOf_eq e2, ratD_eq e3, ho.1, ho.2.1, ho.2.2.1, ho.2.2.2, rfl⟩
    · cases h
  · cases h
noncomputable def F_gain : List D → Option (D → Prop)
  | [m, p, d] => onPlanR m p d (fun _ => True) fun ns pay pl d x => (x = .non ∧ gainsL ns pay pl d = []) ∨ ∃ y ∈ gainsL ns pay pl d, x = trip y
  | _ => none
noncomputable def F_holds : List D → Option D
  | [m, p, d] => onMeet m fun ns pay => onPlan ns p fun pl => onPat d fun d => some (.bl (decide (gainsL ns pay pl d = [])))
  | _ => none
noncomputable def F_best_worths : List D → Option (D → Prop)
  | [m, p, .int h, d] => onPlanR m p d (fun ns => 0 ≤ h ∧ h < ns.length) fun ns pay pl d x => BestW ns pay pl d h.toNat x
  | _ => none
noncomputable def F_best_strays : List D → Option (D → Prop)
  | [m, p, .int h, d] => onPlanR m p d (fun ns => 0 ≤ h ∧ h < ns.length) fun ns pay pl d x => BestS ns pay pl d h.toNat x
  | _ => none
theorem eqD_frac (a b : Rat) : eqD (fracD a) (fracD b) = some (decide (a = b)) := by
  have h := eqD_dInts [a.num, (a.den : Int)] [b.num, (b.den : Int)]
  refine Eq.trans (show eqD (fracD a) (fracD b) = eqD (dInts [a.num, (a.den : Int)]) (dInts [b.num, (b.den : Int)]) from rfl) (h.trans ?_)
  congr 1
  rw [Bool.eq_iff_iff, decide_eq_true_eq]
  constructor
  · intro z
    have z := beq_iff_eq.mp z
    injection z with z1 z2
    injection z2 with z2
    exact Rat.ext z1 (by omega)
  · rintro rfl
    simp
end L2
namespace L2
open PySem PySem.Spec PyProof.Rows
def placeI (r ns : List Int) : Int := (r.zip ns).foldl (fun p x => p * x.2 + x.1) 0
theorem idxOf_range' (r : List Int) : ∀ (n s j : Nat), j < n → ((List.range' s n).map fun (k : Nat) => r ++ [(k : Int)]).idxOf (r ++ [((s + j : Nat) : Int)]) = j
  | n + 1, s, 0, _ => by
    rw [List.range'_succ, List.map_cons, List.idxOf_cons, Nat.add_zero]
    simp
  | n + 1, s, j + 1, h => by
    rw [List.range'_succ, List.map_cons, List.idxOf_cons]
    have ne : ((r ++ [(s : Int)]) == (r ++ [((s + (j + 1) : Nat) : Int)])) = false := by
      rw [beq_eq_false_iff_ne]
      intro e
      have := List.append_cancel_left e
      simp at this
      omega
    rw [ne]
    have := idxOf_range' r n (s + 1) j (by omega)
    rw [show s + (j + 1) = s + 1 + j by omega, this]
    rfl
theorem idxOf_range (r : List Int) {m : Int} {k : Int} (h0 : 0 ≤ k) (h1 : k < m) : ((List.range m.toNat).map fun (k : Nat) => r ++ [(k : Int)]).idxOf (r ++ [k]) = k.toNat := by
  rw [List.range_eq_range']
  have := idxOf_range' r m.toNat 0 k.toNat (by omega)
  rw [Nat.zero_add, Int.toNat_of_nonneg h0] at this
  exact this
theorem idxOf_step {m k : Int} (h0 : 0 ≤ k) (h1 : k < m) {r : List Int} : ∀ {R : List (List Int)}, r ∈ R → (rowStep R m).idxOf (r ++ [k]) = R.idxOf r * m.toNat + k.toNat
  | x :: R, h => by
    have e1 : rowStep (x :: R) m = ((List.range m.toNat).map fun (k : Nat) => x ++ [(k : Int)]) ++ rowStep R m := by
      unfold rowStep
      rw [List.flatMap_cons]
    rw [e1, List.idxOf_append, List.idxOf_cons]
    by_cases e : x = r
    · subst e
      have hm : x ++ [k] ∈ (List.range m.toNat).map fun (k : Nat) => x ++ [(k : Int)] := List.mem_map.mpr ⟨k.toNat, List.mem_range.mpr (by omega), by rw [Int.toNat_of_nonneg h0]⟩
      rw [if_pos hm, idxOf_range x h0 h1]
      simp
    · have hm : ¬ r ++ [k] ∈ (List.range m.toNat).map fun (k : Nat) => x ++ [(k : Int)] := by
        intro z
        obtain ⟨j, _, ej⟩ := List.mem_map.mp z
        exact e (List.append_inj_left' ej rfl)
      have hr : r ∈ R := by
        rcases List.mem_cons.mp h with z | z
        · exact absurd z.symm e
        · exact z
      rw [if_neg hm, idxOf_step h0 h1 hr, List.length_map, List.length_range]
      have eb : (x == r) = false := beq_eq_false_iff_ne.mpr e
      rw [eb]
      simp only [cond_false]
      rw [Nat.succ_mul]
      omega
theorem placeI_snoc {r ns : List Int} (h : r.length = ns.length) (k m : Int) : placeI (r ++ [k]) (ns ++ [m]) = placeI r ns * m + k := by
  unfold placeI
  rw [List.zip_append h, List.foldl_append]
  rfl
theorem place_rev : ∀ (ms : List Int) (r : List Int), r ∈ rowsL ms.reverse → placeI r ms.reverse = ((rowsL ms.reverse).idxOf r : Nat)
  | [], r, h => by
    have : r = [] := by simpa [rowsL] using h
    subst this
    simp [placeI, rowsL]
  | m :: ms, r, h => by
    rw [List.reverse_cons] at h ⊢
    rw [rowsL_snoc] at h ⊢
    have h' := h
    unfold rowStep at h'
    obtain ⟨r0, hr0, h1⟩ := List.mem_flatMap.mp h'
    obtain ⟨k, hk, rfl⟩ := List.mem_map.mp h1
    have hk' := List.mem_range.mp hk
    rw [placeI_snoc (row_len hr0), place_rev ms r0 hr0, idxOf_step (by omega) (by omega) hr0, Int.natCast_add, Int.natCast_mul, Int.toNat_of_nonneg (by omega : 0 ≤ m)]
    simp
theorem place_idx {ns r : List Int} (h : r ∈ rowsL ns) : placeI r ns = ((rowsL ns).idxOf r : Nat) := by
  have := place_rev ns.reverse r (by rw [List.reverse_reverse]; exact h)
  rwa [List.reverse_reverse] at this
theorem row_take {ns r : List Int} (h : r ∈ rowsL ns) (i : Nat) : r.take i ∈ rowsL (ns.take i) := by
  have q := rows_row h
  refine row_in ⟨by rw [List.length_take, List.length_take, q.1], fun j x n e1 e2 => ?_⟩
  rw [List.getElem?_take] at e1 e2
  split at e1
  · rename_i hj
    rw [if_pos hj] at e2
    exact q.2 j x n e1 e2
  · cases e1
theorem place_bd {ns r : List Int} (ho : okDeeds ns = true) (h : r ∈ rowsL ns) (i : Nat) : 0 ≤ placeI (r.take i) (ns.take i) ∧ placeI (r.take i) (ns.take i) ≤ 27 := by
  rw [place_idx (row_take h i)]
  have := List.idxOf_lt_length_of_mem (row_take h i)
  have := (rows_len (okDeeds_take ho i)).2
  omega
theorem placeI_take {ns r : List Int} {i : Nat} (h1 : i < r.length) (h2 : i < ns.length) (hl : r.length = ns.length) : placeI (r.take (i + 1)) (ns.take (i + 1)) = placeI (r.take i) (ns.take i) * ns[i] + r[i] := by
  rw [List.take_succ, List.take_succ, List.getElem?_eq_getElem h1, List.getElem?_eq_getElem h2, Option.toList_some, Option.toList_some, placeI_snoc (by rw [List.length_take, List.length_take, hl])]
theorem zip_ints (r ns : List Int) : List.zipWith (fun x y => D.tup [x, y]) (r.map D.int) (ns.map D.int) = (r.zip ns).map fun p => D.tup [.int p.1, .int p.2] := by
  rw [List.zipWith_map_left, List.zipWith_map_right, List.zip, List.map_zipWith]
theorem enumD_ints (r : List Int) : enumD (r.map D.int) = (List.range r.length).map fun (k : Nat) => D.tup [.int k, .int (r.getD k 0)] := by
  refine List.ext_getElem? fun i => ?_
  rw [enumD_at, List.getElem?_map, List.getElem?_map]
  by_cases h : i < r.length
  · rw [List.getElem?_range h, List.getElem?_eq_getElem h, Option.map_some, Option.map_some, Option.map_some, getD_of h]
  · rw [List.getElem?_eq_none (by simpa using h), List.getElem?_eq_none (by simpa using h)]
    rfl
def F_place_of : List D → Option D
  | [r, .tup ds] => match rowD r, intsD ds with
    | some r, some ns => if okDeeds ns = true ∧ r ∈ rowsL ns then some (.int ((rowsL ns).idxOf r : Nat)) else none
    | _, _ => none
  | _ => none
def F_with_deed : List D → Option D
  | [d, .int h, .int k] => match rowD d with
    | some r => if r.length ≤ 1000 ∧ 0 ≤ h ∧ h < r.length then some (dInts (r.set h.toNat k)) else none
    | none => none
  | _ => none
end L2
namespace L2
open PySem PySem.Spec PyProof.Rows
section
variable {κ : Type} [DecidableEq κ]
def valV (kvs : List (κ × V)) (k : κ) : Option V := (kvs.find? fun kv => decide (kv.1 = k)).map (·.2)
def putK (kvs : List (κ × V)) (k : κ) (v : V) : List (κ × V) :=
  if (kvs.any fun kv => decide (kv.1 = k)) = true then kvs.map (fun kv => if kv.1 = k then (kv.1, v) else kv) else kvs ++ [(k, v)]
theorem valV_nil {k : κ} : valV ([] : List (κ × V)) k = none := rfl
theorem valV_pos {p : κ × V} {r : List (κ × V)} {k : κ} (e : p.1 = k) : valV (p :: r) k = some p.2 := by simp [valV, List.find?_cons, e]
theorem valV_neg {p : κ × V} {r : List (κ × V)} {k : κ} (e : ¬ p.1 = k) : valV (p :: r) k = valV r k := by simp [valV, List.find?_cons, e]
theorem valV_any (k : κ) : ∀ kvs : List (κ × V), (kvs.any fun kv => decide (kv.1 = k)) = (valV kvs k).isSome
  | [] => rfl
  | p :: r => by
    rw [List.any_cons]
    by_cases e : p.1 = k
    · simp only [valV_pos e, decide_eq_true e, Bool.true_or, Option.isSome_some]
    · rw [valV_neg e, decide_eq_false e, Bool.false_or]; exact valV_any k r
theorem length_putK (kvs : List (κ × V)) (k : κ) (v : V) : (putK kvs k v).length ≤ kvs.length + 1 := by
  unfold putK
  split
  · rw [List.length_map]; omega
  · rw [List.length_append, List.length_cons, List.length_nil]; omega
theorem RelO.isSome_eq {o : Option V} {u : Option Value} (r : RelO o u) : o.isSome = u.isSome := by
  cases o with
  | none => cases u with
    | none => rfl
    | some _ => exact (show False from r).elim
  | some _ => cases u with
    | none => exact (show False from r).elim
    | some _ => rfl
theorem KV.val {kvs : List (κ × V)} {vs : List (κ × Value)} (r : KV kvs vs) (k : κ) : RelO (valV kvs k) (valueAt vs k) := by
  unfold KV at r
  induction r with
  | nil => exact True.intro
  | @cons p q ps qs h t ih =>
    obtain ⟨h1, h2⟩ := h
    by_cases e : p.1 = k
    · have e' : q.1 = k := h1.symm.trans e
      have b : valueAt (q :: qs) k = some q.2 := by simp [valueAt, List.find?_cons, e']
      rw [valV_pos e, b]; exact h2
    · have e' : ¬ q.1 = k := fun z => e (h1.trans z)
      have b : valueAt (q :: qs) k = valueAt qs k := by simp [valueAt, List.find?_cons, e']
      rw [valV_neg e, b]; exact ih
theorem KV.any {kvs : List (κ × V)} {vs : List (κ × Value)} (r : KV kvs vs) (k : κ) : (kvs.any fun kv => decide (kv.1 = k)) = vs.any fun kv => decide (kv.1 = k) := by
  unfold KV at r
  induction r with
  | nil => rfl
  | cons h t ih => rw [List.any_cons, List.any_cons, ih, h.1]
theorem KV.repl {kvs : List (κ × V)} {vs : List (κ × Value)} (r : KV kvs vs) (k : κ) {y : V} {u : Value} (ry : RelV y u) :
    KV (kvs.map fun kv => if kv.1 = k then (kv.1, y) else kv) (vs.map fun kv => if kv.1 = k then (kv.1, u) else kv) := by
  unfold KV at r ⊢
  induction r with
  | nil => exact .nil
  | @cons p q ps qs h t ih =>
    rw [List.map_cons, List.map_cons]
    refine .cons ?_ ih
    obtain ⟨h1, h2⟩ := h
    by_cases e : p.1 = k
    · rw [if_pos e, if_pos (h1.symm.trans e)]; exact ⟨h1, ry⟩
    · rw [if_neg e, if_neg (fun z => e (h1.trans z))]; exact ⟨h1, h2⟩
theorem KV.put {kvs : List (κ × V)} {vs : List (κ × Value)} (r : KV kvs vs) (k : κ) {y : V} {u : Value} (ry : RelV y u) : KV (putK kvs k y) (stored vs k u) := by
  unfold putK stored
  rw [r.any k]
  by_cases e : (vs.any fun kv => decide (kv.1 = k)) = true
  · rw [if_pos e, if_pos e]; exact r.repl k ry
  · rw [if_neg e, if_neg e]; exact Paired.snoc r ⟨rfl, ry⟩
theorem KV.keys {kvs : List (κ × V)} {vs : List (κ × Value)} (r : KV kvs vs) : kvs.map (·.1) = vs.map (·.1) := by
  unfold KV at r
  induction r with
  | nil => rfl
  | cons h t ih => rw [List.map_cons, List.map_cons, ih, h.1]
theorem KV.length {kvs : List (κ × V)} {vs : List (κ × Value)} (r : KV kvs vs) : kvs.length = vs.length := Paired.length r
end
theorem kV_is {P : Program} {w : World} {k : Key} {u : Value} (r : RelV (kV k) u) : (mixKind P w).is k u = true := by
  cases k with
  | inl i => obtain ⟨t, e⟩ := (show ∃ t, u = Value.int i t from r); subst e; exact mixKind_int P w i t
  | inr x => obtain ⟨t, e⟩ := (show ∃ t, u = Value.str x t from r); subst e; exact mixKind_str P w x t
theorem items_are {P : Program} {w : World} : ∀ {ks : List Key} {us : List Value}, Vals (ks.map kV) us → ItemsAre (mixKind P w) ks us
  | [], _, r => by rw [List.map_nil] at r; cases r; exact .nil
  | k :: ks, _, r => by
    rw [List.map_cons] at r
    cases r with
    | cons h t => exact .cons (kV_is h) (items_are t)
abbrev KT (H : Hp) : List (List Key × V) → List (List Key × Addr × Value) → Prop := Paired fun p q => p.1 = q.1 ∧ H q.2.1 = some (.tup (p.1.map kV)) ∧ RelV p.2 q.2.2
theorem KT.val {H : Hp} {kvs : List (List Key × V)} {xs : List (List Key × Addr × Value)} (r : KT H kvs xs) (k : List Key) : RelO (valV kvs k) ((atKey xs k).map (·.2)) := by
  induction r with
  | nil => exact True.intro
  | @cons p q ps qs h t ih =>
    obtain ⟨h1, _, h2⟩ := h
    by_cases e : p.1 = k
    · have e' : q.1 = k := h1.symm.trans e
      have b : atKey (q :: qs) k = some q.2 := by simp [atKey, List.find?_cons, e']
      rw [valV_pos e, b]; exact h2
    · have e' : ¬ q.1 = k := fun z => e (h1.trans z)
      have b : atKey (q :: qs) k = atKey qs k := by simp [atKey, List.find?_cons, e']
      rw [valV_neg e, b]; exact ih
theorem KT.repl {H : Hp} {kvs : List (List Key × V)} {xs : List (List Key × Addr × Value)} (r : KT H kvs xs) (k : List Key) {y : V} {u : Value} (ry : RelV y u) :
    KT H (kvs.map fun kv => if kv.1 = k then (kv.1, y) else kv) (xs.map (putAt k u)) := by
  induction r with
  | nil => exact .nil
  | @cons p q ps qs h t ih =>
    rw [List.map_cons, List.map_cons]
    refine .cons ?_ ih
    obtain ⟨h1, h2, h3⟩ := h
    unfold putAt
    by_cases e : p.1 = k
    · rw [if_pos e, if_pos (h1.symm.trans e)]; exact ⟨h1, h2, ry⟩
    · rw [if_neg e, if_neg (fun z => e (h1.trans z))]; exact ⟨h1, h2, h3⟩
theorem KT.put {H : Hp} {kvs : List (List Key × V)} {xs : List (List Key × Addr × Value)} (r : KT H kvs xs) (k : List Key) {b : Addr} {y : V} {u : Value} (hb : H b = some (.tup (k.map kV))) (ry : RelV y u) :
    KT H (putK kvs k y) (storedH xs k b u) := by
  have e : (kvs.any fun kv => decide (kv.1 = k)) = (atKey xs k).isSome := by
    rw [valV_any, (r.val k).isSome_eq, Option.isSome_map]
  unfold putK storedH
  rw [e]
  by_cases q : (atKey xs k).isSome = true
  · rw [if_pos q, if_pos q]; exact r.repl k ry
  · rw [if_neg q, if_neg q]; exact Paired.snoc r ⟨rfl, hb, ry⟩
theorem KT.keeps {H H' : Hp} {kvs : List (List Key × V)} {xs : List (List Key × Addr × Value)} (r : KT H kvs xs) (ht : ∀ b ys, H b = some (.tup ys) → H' b = some (.tup ys)) : KT H' kvs xs :=
  Paired.mapP r fun _ _ z => ⟨z.1, ht _ _ z.2.1, z.2.2⟩
section
variable {P : Program} {w : World} {H : Hp} {h : Heap} {a : Addr}
theorem rd_of {u : HO} (ok : HOk P w H h) (e : Rd H a u) : ObjOk P w H h a u := e.ok ok
theorem dk_rd {kvs : List (Key × V)} (ok : HOk P w H h) (e : Rd H a (.dK kvs)) : kvs.length ≤ sizeLine ∧ (a == sysModules) = false ∧ ∃ vs, KV kvs vs ∧ h.DictOf (mixKind P w) a vs :=
  show ObjOk P w H h a (.dK kvs) from rd_of ok e
theorem dk_of {kvs : List (Key × V)} (ok : HOk P w H h) (e : H a = some (.dK kvs)) : kvs.length ≤ sizeLine ∧ (a == sysModules) = false ∧ ∃ vs, KV kvs vs ∧ h.DictOf (mixKind P w) a vs := dk_rd ok (.inl e)
theorem key_of {ks : List Key} (ok : HOk P w H h) (e : H a = some (.tup (ks.map kV))) : (tupleKind (mixKind P w)).is h ks a := by
  obtain ⟨_, its, r, o, h1, h2, n, h3⟩ := (show ObjOk P w H h a (.tup (ks.map kV)) from ok a _ e)
  exact ⟨o, its.toArray, n, h1, h2, h3, by simpa using items_are r⟩
theorem dt_rd {kvs : List (List Key × V)} (ok : HOk P w H h) (e : Rd H a (.dT kvs)) : kvs.length ≤ sizeLine ∧ (a == sysModules) = false ∧
    ∃ xs, KT H kvs xs ∧ h.DictOfH (tupleKind (mixKind P w)) a xs := by
  obtain ⟨z, y, xs, r, o, es, ep, h1, h2, h3, h4, h5⟩ := (show ObjOk P w H h a (.dT kvs) from rd_of ok e)
  refine ⟨z, y, xs, r, o, es, ep, h1, h2, h3, h4, fun x hx => ?_, h5⟩
  have all : ∀ {l : List (List Key × V)} {m : List (List Key × Addr × Value)}, KT H l m → ∀ x ∈ m, (tupleKind (mixKind P w)).is h x.1 x.2.1 := by
    intro l m q
    induction q with
    | nil => intro x hx; exact nomatch hx
    | @cons p q ps qs hq t ih =>
      intro x hx
      rcases List.mem_cons.mp hx with e | hx
      · subst e
        exact key_of ok (by rw [← hq.1]; exact hq.2.1)
      · exact ih x hx
  exact all r x hx
theorem dt_of {kvs : List (List Key × V)} (ok : HOk P w H h) (e : H a = some (.dT kvs)) : kvs.length ≤ sizeLine ∧ (a == sysModules) = false ∧
    ∃ xs, KT H kvs xs ∧ h.DictOfH (tupleKind (mixKind P w)) a xs := dt_rd ok (.inl e)
end
def DGet (H : Hp) (a : Addr) (y : V) (r : Option V) : Prop :=
  (∃ kvs k, Rd H a (.dK kvs) ∧ y = kV k ∧ r = valV kvs k) ∨ ∃ kvs k b, Rd H a (.dT kvs) ∧ y = .ref b ∧ H b = some (.tup (k.map kV)) ∧ r = valV kvs k
def DPut (H : Hp) (a : Addr) (y v : V) (H' : Hp) : Prop :=
  (∃ kvs k, H a = some (.dK kvs) ∧ y = kV k ∧ kvs.length < sizeLine ∧ H' = upd H a (.dK (putK kvs k v))) ∨
  ∃ kvs k b, H a = some (.dT kvs) ∧ y = .ref b ∧ H b = some (.tup (k.map kV)) ∧ kvs.length < sizeLine ∧ H' = upd H a (.dT (putK kvs k v))
section
variable {X : Cx} {pins : List (Addr × Obj)} {σ : St} {H : Hp} {s : Shared} {a : Addr} {y v : V} {u r : Value} {o : Option V} {A : Around} {E : Value → Shared → Prop}
theorem Inv.big (I : Inv X pins σ H s) : sysModules < s.heap.objs.size := by
  have h : mainGlobals < s.heap.objs.size := (I.mod.glob.keeps I.bk).lt
  exact Nat.lt_trans (by decide) h
theorem d_getItem {Q : Value → Shared → Prop} (hu : A.units + 1 < cLine) (I : Inv X pins σ H s) (g : DGet H a y (some v)) (ry : RelV y u) (h : ∀ w' s', Inv X pins σ H s' → RelV v w' → Q w' s') :
    wpAny (model X.prog X.w) A (getItem (.ref a) u) Q E s := by
  rcases g with ⟨kvs, k, e, ey, l⟩ | ⟨kvs, k, b, e, ey, eb, l⟩
  · subst ey
    obtain ⟨z, hd, vs, rel, dd⟩ := dk_rd I.hok e
    obtain ⟨w', hw, rw'⟩ := RelO.some_of (v := v) (o := valueAt vs k) (by rw [l]; exact rel.val k)
    exact wpAny_getItem_of (kV_is ry) dd.mapOf hw (h w' _ (I.tok _) rw')
  · subst ey
    cases (show u = Value.ref b from ry)
    obtain ⟨z, hd, xs, rel, dd⟩ := dt_rd I.hok e
    obtain ⟨w', hw, rw'⟩ := RelO.some_of (v := v) (o := (atKey xs k).map (·.2)) (by rw [l]; exact rel.val k)
    obtain ⟨p, hp, hp2⟩ := Option.map_eq_some_iff.mp hw
    refine wpAny_getItem_heap (tupleKind_room_in1 hu) (key_of I.hok eb) dd hp ?_
    rw [hp2]
    exact h w' _ (I.tok _) rw'
theorem d_notIn {Q : Value → Shared → Prop} (hu : A.units + 1 < cLine) (I : Inv X pins σ H s) (g : DGet H a y o) (ry : RelV y u) (h : ∀ s', Inv X pins σ H s' → Q (.bool (!o.isSome)) s') :
    wpAny (model X.prog X.w) A (compareOp .NotIn u (.ref a)) Q E s := by
  rcases g with ⟨kvs, k, e, ey, l⟩ | ⟨kvs, k, b, e, ey, eb, l⟩
  · subst ey
    obtain ⟨z, hd, vs, rel, dd⟩ := dk_rd I.hok e
    refine wpAny_notIn_of (kV_is ry) hd dd.mapOf ?_
    rw [← (rel.val k).isSome_eq, ← l]
    exact h _ (I.tok _)
  · subst ey
    cases (show u = Value.ref b from ry)
    obtain ⟨z, hd, xs, rel, dd⟩ := dt_rd I.hok e
    refine wpAny_notIn_heap (tupleKind_room_in1 hu) (key_of I.hok eb) hd dd ?_
    have q := (rel.val k).isSome_eq
    rw [Option.isSome_map] at q
    rw [← q, ← l]
    exact h _ (I.tok _)
theorem d_write {h' : Heap} {t' : Nat} {ob : HO} (I : Inv X pins σ H s) (mu : Mut (H a)) (hs : Heap.SameBut a s.heap h') (he : ∃ q, h'.get? a = some q) (new : ObjOk X.prog X.w (upd H a ob) h' a ob) :
    Inv X pins σ (upd H a ob) { s with heap := h', toks := t' } :=
  I.write (x := a) (e := a) mu (.inl rfl) (fun b q hb z => (hs.2 b hb).trans z) he new
theorem dk_new {P : Program} {w : World} {H' : Hp} {h' : Heap} {kvs : List (Key × V)} {vs : List (Key × Value)} (z : kvs.length ≤ sizeLine) (hd : (a == sysModules) = false) (rel : KV kvs vs) (dd : h'.DictOf (mixKind P w) a vs) :
    ObjOk P w H' h' a (.dK kvs) := ⟨z, hd, vs, rel, dd⟩
theorem d_setItem {H' : Hp} {Q : Unit → Shared → Prop} (hu : A.units + 1 < cLine) (I : Inv X pins σ H s) (g : DPut H a y v H') (ry : RelV y u) (rv : RelV v r) (h : ∀ s', Inv X pins σ H' s' → Q () s') :
    wpAny (model X.prog X.w) A (setItem (.ref a) u r) Q E s := by
  rcases g with ⟨kvs, k, e, ey, l, eH⟩ | ⟨kvs, k, b, e, ey, eb, l, eH⟩
  · subst ey eH
    obtain ⟨z, hd, vs, rel, dd⟩ := dk_of I.hok e
    have hz : vs.length ≤ sizeLine := by rw [← rel.length]; exact z
    have hl : (putK kvs k v).length ≤ sizeLine := by have := length_putK kvs k v; omega
    refine wpAny_setItem_pairs (hsz := hz) (kV_is ry) dd fun h' dd' hs => h _ ?_
    have he : ∃ q, h'.get? a = some q := let ⟨q, _, _, hq, _⟩ := dd'; ⟨q, hq⟩
    exact d_write I (by rw [e]; exact True.intro) hs he (dk_new hl hd (rel.put k rv) dd')
  · subst ey eH
    cases (show u = Value.ref b from ry)
    obtain ⟨z, hd, xs, rel, dd⟩ := dt_of I.hok e
    have hz : xs.length ≤ sizeLine := by rw [← Paired.length rel]; exact z
    have hl : (putK kvs k v).length ≤ sizeLine := by have := length_putK kvs k v; omega
    refine wpAny_setItem_heap (hsz := hz) (tupleKind_room_in1 hu) (key_of I.hok eb) dd fun h' dd' hs => h _ ?_
    obtain ⟨q, es, ep, hq, h2, h3, h4, _, h5⟩ := dd'
    refine d_write I (by rw [e]; exact True.intro) hs ⟨q, hq⟩ ⟨hl, hd, _, (rel.put k eb rv).keeps fun c ys ec => ?_, q, es, ep, hq, h2, h3, h4, h5⟩
    rw [upd_ne (ne_of ec e (fun z => nomatch z))]
    exact ec
end
section
variable {X : Cx} {pins : List (Addr × Obj)} {σ : St} {H : Hp} {s : Shared} {a : Addr} {kvs : List (Key × V)} {k : Key} {u : Value} {A : Around} {E : Value → Shared → Prop}
theorem d_len {Q : Value → Shared → Prop} (I : Inv X pins σ H s) (e : Rd H a (.dK kvs)) (h : ∀ t s', Inv X pins σ H s' → Q (.int kvs.length t) s') : wpAny (model X.prog X.w) A (call (.builtin "len") [.ref a]) Q E s := by
  obtain ⟨z, hd, vs, rel, dd⟩ := dk_rd I.hok e
  refine call_len_dict hd dd (by rw [← rel.length]; rw [sizeLine_eq] at z; omega) ?_
  rw [← rel.length]
  exact h _ _ (I.tok _)
end
def NoSl (i : Expr) : Prop := ∀ ov iv, subscripted i false ov iv = operate [ov, iv] (getItem ov iv)
theorem subD_of {prog : Program} {w : World} {A : Around} {E : Value → Shared → Prop} {s : Shared} {env : Env} {value slice : Expr} {pos : Pos} {T id : String} {Q : Value → Shared → Prop}
    (hl : typeLookup (.type T) "__getitem__" = pure (some (.builtin id))) (hs : NoSl slice)
    (h : wpAny (model prog w) A (eval value env) (fun o s₁ => wpAny (model prog w) A (eval slice env) (fun i s₂ => s₂.TypeIs o T ∧ wpAny (model prog w) A (getItem o i) Q E s₂) E s₁) E s) :
    wpAny (model prog w) A (eval (.Subscript value slice pos) env) Q E s := by
  refine Subscript_ (wpAny_mono h (fun o s₁ h₁ => wpAny_mono h₁ (fun i s₂ h₂ => ?_) fun _ _ x => x) fun _ _ x => x)
  obtain ⟨hT, h₂⟩ := h₂
  unfold subscriptTail
  refine wpAny_bind ?_
  rw [getitemInPython_of_ne hT.not_modules]
  refine wpAny_bind (wpAny_specialOf hT hl ?_)
  have fin : wpAny (model prog w) A (subscripted slice false o i) (fun r s₃ => wpAny (model prog w) A (letTemporaryGo value o r >>= fun _ => pure r) Q E s₃) E s₂ := by
    rw [hs o i]
    exact wpAny_operating (wpAny_mono h₂ (fun r s₃ h₃ => wpAny_bind (wpAny_letTemporaryGo (wpAny_pure h₃))) fun _ _ x => x)
  first
    | exact wpAny_pure (wpAny_bind fin)
    | exact wpAny_bind (wpAny_pure (wpAny_bind fin))
    | exact wpAny_bind fin
theorem dict_typeIs {X : Cx} {pins : List (Addr × Obj)} {σ : St} {H : Hp} {s : Shared} {a : Addr} {y : V} {o : Option V} (I : Inv X pins σ H s) (g : DGet H a y o) : s.TypeIs (.ref a) "dict" := by
  rcases g with ⟨kvs, k, e, _, _⟩ | ⟨kvs, k, b, e, _, _, _⟩
  · obtain ⟨_, _, vs, _, dd⟩ := dk_rd I.hok e
    exact dd.typeIs
  · obtain ⟨_, _, xs, _, dd⟩ := dt_rd I.hok e
    exact dd.typeIs
def tDGet (td ty : TE) : TE := fun σ H Q => td σ H fun x H1 => ty σ H1 fun y H2 => ∃ a v, x = .ref a ∧ DGet H2 a y (some v) ∧ Q v H2
def tDNotIn (ty td : TE) : TE := fun σ H Q => ty σ H fun y H1 => td σ H1 fun x H2 => ∃ a o, x = .ref a ∧ DGet H2 a y o ∧ Q (.bl (!o.isSome)) H2
def sDPut (td ty tv : TE) : TS := fun D σ H => tv σ H fun v H1 => td σ H1 fun x H2 => ty σ H2 fun y H3 => ∃ a H4, x = .ref a ∧ DPut H3 a y v H4 ∧ D.nx σ H4
section
variable {X : Cx} {o i e value : Expr} {pos pos' tpos : Pos} {td ty tv : TE}
theorem pe_dget (hu : X.A.units + 1 < cLine) (ho : PE X o td) (hi : PE X i ty) (hs : NoSl i) : PE X (.Subscript o i pos) (tDGet td ty) := by
  intro pins s σ H Q I h
  refine subD_of PySem.F.slot_dict_getitem.lookup hs (thn (ho pins s σ H _ I h) fun u s1 ⟨x, H1, I1, rx, q1⟩ => thn (hi pins s1 σ H1 _ I1 q1) fun iv s2 ⟨y, H2, I2, ry, a, v, ex, g, q2⟩ => ?_)
  subst ex
  obtain rfl : u = Value.ref a := rx
  exact ⟨dict_typeIs I2 g, d_getItem hu I2 g ry fun w' s3 I3 rw' => ⟨v, H2, I3, rw', q2⟩⟩
theorem pc_dnotin (hu : X.A.units + 1 < cLine) (hi : PE X i ty) (ho : PE X o td) : PC X .NotIn i o (tDNotIn ty td) := by
  intro pins s σ H Q I h
  refine thn (hi pins s σ H _ I h) fun iv s1 ⟨y, H1, I1, ry, q1⟩ => thn (ho pins s1 σ H1 _ I1 q1) fun u s2 ⟨x, H2, I2, rx, a, ov, ex, g, q2⟩ => ?_
  subst ex
  obtain rfl : u = Value.ref a := rx
  exact d_notIn hu I2 g ry fun s3 I3 => ⟨.bl (!ov.isSome), H2, I3, rfl, q2⟩
theorem ps_dput (hu : X.A.units + 1 < cLine) (ho : PE X o td) (hi : PE X i ty) (hv : PE X value tv) (hs : swapsWith value (some (.Subscript o i pos')) pos.line X.env = pure false) :
    PS X (.Assign [.Subscript o i pos'] value pos) (sDPut td ty tv) := by
  intro pins s σ H D I h
  refine wpAny_Assign_Subscript (thn (hv pins s σ H _ I h) fun r s1 ⟨v, H1, I1, rv, q1⟩ => thn (ho pins s1 σ H1 _ I1 q1) fun u s2 ⟨x, H2, I2, rx, q2⟩ => thn (hi pins s2 σ H2 _ I2 q2) fun iv s3 ⟨y, H3, I3, ry, a, H4, ex, g, q3⟩ => ?_) hs
  subst ex
  obtain rfl : u = Value.ref a := rx
  exact d_setItem hu I3 g ry rv fun s4 I4 => ⟨σ, H4, I4, q3⟩
end
theorem dk_empty {P : Program} {w : World} {H : Hp} (h : Heap) (hb : sysModules < h.objs.size) : ObjOk P w H (h.push { cls := .type "dict", data := .dict #[] }) h.objs.size (.dK []) :=
  ⟨Nat.zero_le _, beq_eq_false_iff_ne.mpr (Ne.symm (Nat.ne_of_lt hb)), [], .nil, Heap.DictOf.new h⟩
def tDNewK : TE := fun _ H Q => ∀ p, H p = none → Q (.ref p) (upd H p (.dK []))
section
variable {X : Cx} {pos : Pos}
theorem pe_dnewK : PE X (.Dict [] [] pos) tDNewK := fun pins s σ H Q I h =>
  wpAny_Dict_empty ⟨.ref s.heap.objs.size, _, I.laid (a := s.heap.objs.size) (o := .dK []) (t' := s.toks) (fun _ _ q => Heap.get?_push_of_some _ q) (Nat.le_refl _) (dk_empty s.heap I.big), rfl, h _ (I.hok.fresh (Nat.le_refl _))⟩
end
section
variable {X : Cx} {pins : List (Addr × Obj)} {σ : St} {H : Hp} {s : Shared} {a : Addr} {y d : V} {u r : Value} {o : Option V} {A : Around} {E : Value → Shared → Prop}
end
section
variable {X : Cx} {o e f : Expr} {apos cpos : Pos} {td ty tx : TE}
end
section
variable {X : Cx} {pins : List (Addr × Obj)} {σ : St} {H : Hp} {s : Shared} {a : Addr} {kvs : List (Key × V)} {A : Around} {E : Value → Shared → Prop}
end
section
variable {X : Cx} {pins : List (Addr × Obj)} {σ : St} {H : Hp} {s : Shared} {a : Addr} {y : V} {u : Value} {A : Around} {E : Value → Shared → Prop}
end
end L2
namespace L2
open PySem PySem.Spec PyProof.Rows
def Itv (K : PySem.W.Frag) (p : Addr) (n : Nat) : It :=
  ⟨fun i H => i < n ∧ ∃ xs x, SqL K H p xs ∧ xs[n - 1 - i]? = some x, fun i H x H' => H' = H ∧ ∀ xs, SqL K H p xs → xs[n - 1 - i]? = some x, fun i _ => n ≤ i⟩
theorem turn_rev {P : Program} {w : World} {K : PySem.W.Frag} {tg : Expr} (a it : Addr) (n : Nat) : Turn P w K tg (Itv K a n) [it] it (fun i h => i ≤ n ∧ h.IsRevIter it a ((n : Int) - 1 - (i : Int))) where
  mem := by simp
  obj := fun i h st b hb => by
    have e : b = it := by simpa using hb
    subst e
    obtain ⟨_, o, e, c, d⟩ := st
    exact ⟨o, e, fun v z => by rw [d] at z; cases z⟩
  keep := fun i h h' st k => ⟨st.1, st.2.at fun o e => k it (by simp) o e⟩
  item := by
    intro X hP hw hK hc i pins s σ H E I hf st hg
    subst hP hw hK
    obtain ⟨hi, xs, x, hq, hx⟩ := hg
    obtain ⟨its, rv, p, hz⟩ := I.list hq
    obtain ⟨u, hu, ru⟩ := rv.get hx
    obtain ⟨f0, f1, f2, f3, f4, f5⟩ := hf it (by simp)
    have hit := st.2
    rw [show (n : Int) - 1 - (i : Int) = ((n - 1 - i : Nat) : Int) by omega] at hit
    refine wpAny_pyNext_rev_item hit p.isList (x := u) (by simpa using hu) fun h' st' sb => ?_
    rw [show ((n - 1 - i : Nat) : Int) - 1 = (n : Int) - 1 - ((i + 1 : Nat) : Int) by omega] at st'
    have I1 : Inv X pins σ H { s with heap := h' } := I.turned (t' := s.toks) (fun b o hb e => (sb.2 b hb).trans e) f0 f1 f3 f4 f5
    obtain ⟨o, e, c, d⟩ := id st'
    exact ⟨u, rfl, go_of (s := { s with heap := h' }) e c d (by decide) ⟨x, H, I1, ru, ⟨rfl, fun ys hy => by rw [I.list_inj hy hq]; exact hx⟩, ⟨hi, st'⟩, fun b hb => (hf b hb).1⟩⟩
  done := by
    intro X hP hw hK hc i pins s σ H E I hf st hg
    subst hP hw hK
    obtain ⟨f0, f1, f2, f3, f4, f5⟩ := hf it (by simp)
    have h1 : n ≤ i := hg
    have h2 := st.1
    have hit := st.2
    rw [show (n : Int) - 1 - (i : Int) = -1 by omega] at hit
    exact wpAny_pyNext_rev_end (I.ok.hd hc) hit fun h' eb => ⟨rfl, I.turned (t' := s.toks) (fun b o hb e => eb b o hb e) f0 f1 f3 f4 f5⟩
  self := fun _ _ _ _ _ st h => wpAny_pyIter_revIter st.2 h
section
variable {X : Cx} {tg a : Expr} {ga : GE} {pos : Pos}
def iRev (K : PySem.W.Frag) (ta : TA) : TI := fun σ H R => ta σ H fun vs H1 => ∃ p xs, vs = [.ref p] ∧ SqL K H1 p xs ∧ R (Itv K p xs.length) H1
theorem pi_rev {ta : TA} {p : Pos} (hg : Gl X "reversed") (hm : X.mg "reversed" = none) (hbt : bootBuiltins "reversed" = some (.type "reversed")) (ha : PA X [a] ta) (hs : starEach [a] X.env = [(false, eval a X.env)] := by rfl) :
    PI X tg (.Call (.Name "reversed" p) [a] [] pos) (iRev X.K ta) := by
  intro pins s σ H R I h
  refine Call_ (ld_blt I hg hm hbt (PyProof.Rows.callWith_type1 (thn (ha pos pins s σ H _ I h) fun us s1 ⟨vs, H1, I1, r1, q1⟩ => ?_) (by rw [hs]; rfl) (by rfl)))
  obtain ⟨l, xs, e, hx, q⟩ := q1
  subst e
  obtain ⟨u, rfl, r⟩ := vals1 r1
  cases r
  obtain ⟨its, rv, pl, hz⟩ := I1.list hx
  have hl := rv.length
  refine call_reversed_list pl.isList ?_
  have st : (s1.heap.push (revObj l ((its.toArray.size : Int) - 1))).IsRevIter s1.heap.objs.size l ((xs.length : Int) - 1 - ((0 : Nat) : Int)) := ⟨_, Heap.get?_push_size _ rfl, rfl, by simp [revObj, hl]⟩
  refine wpAny_pyIter_revIter st ?_
  refine ⟨s1.heap.objs.size, [s1.heap.objs.size], _, _, H1, rfl, I1.kept (t' := s1.toks) fun b o e => Heap.get?_push_of_some _ e, turn_rev l _ xs.length, ⟨Nat.zero_le _, st⟩, fun b hb => ?_, q⟩
  have e : b = s1.heap.objs.size := by simpa using hb
  subst e
  exact I1.fpOk (Nat.le_refl _) (I1.hok.fresh (Nat.le_refl _))
def gRev (ga : GE) : GF := fun δ Q => ga δ fun d => match d with
  | .lst ds => Q ds.reverse
  | _ => False
theorem walk_rev {K : PySem.W.Frag} {C1 : Hp} {p : Addr} {xs : List V} {ds : List D} (hx : SqL K C1 p xs) (hd : Dens K C1 xs ds) : Walk K (Itv K p xs.length) ds.reverse C1 := by
  intro C2 H2 c1 c2 i
  have hx2 := c2.seq (c1.seq hx)
  refine ⟨fun d e => ?_, fun hl => ?_⟩
  · have hi : i < ds.length := by
      have := (List.getElem?_eq_some_iff.mp e).1
      simpa using this
    rw [List.getElem?_reverse hi, ← hd.length] at e
    obtain ⟨v, ev, nv⟩ := hd.get e
    refine ⟨⟨by rw [hd.length]; exact hi, xs, v, hx2, ev⟩, fun x H3 y => ?_⟩
    obtain ⟨rfl, y⟩ := y
    have := y xs hx2
    rw [ev] at this
    cases this
    exact ⟨C2, Ext.refl c2, nv.mono c1⟩
  · show xs.length ≤ i
    rw [List.length_reverse] at hl
    rw [hd.length]
    exact hl
theorem di_rev {p : Pos} (hg : Gl X "reversed") (hm : X.mg "reversed" = none) (hbt : bootBuiltins "reversed" = some (.type "reversed")) (ha : DE X a ga) (hs : starEach [a] X.env = [(false, eval a X.env)] := by rfl) : DI X tg (.Call (.Name "reversed" p) [a] [] pos) (gRev ga) := by
  obtain ⟨t1, p1, h1⟩ := ha
  refine ⟨_, pi_rev hg hm hbt (pa_cons p1 pa_nil hs) hs, fun C0 H0 δ σ C H Q R rp g k => h1 C0 H0 δ σ C H _ _ rp g fun d v C1 H1 q e1 n1 => ?_⟩
  cases d with
  | lst ds =>
    obtain ⟨p, xs, rfl, hx, hd⟩ := den_lst.mp n1
    exact ⟨p, xs, rfl, e1.ch.seq hx, k _ _ C1 H1 q e1 (walk_rev hx hd)⟩
  | _ => exact q.elim
end
section
variable {X : Cx} {tg a : Expr} {ga : GE} {pos : Pos}
def iSeq (K : PySem.W.Frag) (tl : TE) : TI := fun σ H R => tl σ H fun x H1 => ∃ a, x = .ref a ∧ (((∃ xs, SqL K H1 a xs) ∧ R (Itl K a) H1) ∨ ((∃ xs, SqT K H1 a xs) ∧ R (Itt K a) H1))
theorem pi_seq {l : Expr} {tl : TE} (hl : PE X l tl) : PI X tg l (iSeq X.K tl) := by
  intro pins s σ H R I h
  refine thn (hl pins s σ H _ I h) fun v s1 ⟨x, H1, I1, r1, q1⟩ => ?_
  obtain ⟨a, e, q1⟩ := q1
  subst e
  cases r1
  rcases q1 with ⟨⟨xs, hq⟩, q⟩ | ⟨⟨xs, hq⟩, q⟩
  · obtain ⟨its, rv, p, hz⟩ := I1.list hq
    refine wpAny_pyIter_list p.isList ?_
    refine ⟨s1.heap.objs.size, [s1.heap.objs.size], _, _, H1, rfl, I1.kept (t' := s1.toks) fun b o e => Heap.get?_push_of_some _ e, turn_list a _, ⟨_, Heap.get?_push_size _ rfl, rfl, rfl⟩, fun b hb => ?_, q⟩
    have e : b = s1.heap.objs.size := by simpa using hb
    subst e
    exact I1.fpOk (Nat.le_refl _) (I1.hok.fresh (Nat.le_refl _))
  · obtain ⟨its, rv, p, hz⟩ := I1.tuple hq
    refine wpAny_pyIter_tuple (show s1.heap.IsTuple a its.toArray from p) ?_
    refine ⟨s1.heap.objs.size, [s1.heap.objs.size], _, _, H1, rfl, I1.kept (t' := s1.toks) fun b o e => Heap.get?_push_of_some _ e, turn_tuple a _, ⟨_, Heap.get?_push_size _ rfl, rfl, rfl⟩, fun b hb => ?_, q⟩
    have e : b = s1.heap.objs.size := by simpa using hb
    subst e
    exact I1.fpOk (Nat.le_refl _) (I1.hok.fresh (Nat.le_refl _))
def gIs (ga : GE) : GF := fun δ Q => ga δ fun d => match seqOf d with
  | some ds => Q ds
  | none => False
theorem di_seq (ha : DE X a ga) : DI X tg a (gIs ga) := by
  obtain ⟨t, p, h⟩ := ha
  refine ⟨_, pi_seq p, fun C0 H0 δ σ C H Q R rp g k => h C0 H0 δ σ C H _ _ rp g fun d v C1 H1 q e1 n1 => ?_⟩
  cases d with
  | tup ds =>
    obtain ⟨p, xs, rfl, hx, hd⟩ := den_tup.mp n1
    exact ⟨p, rfl, .inr ⟨⟨xs, e1.ch.seqT hx⟩, k ds _ C1 H1 q e1 (walk_tup hx hd fun _ _ _ _ => trivial)⟩⟩
  | lst ds =>
    obtain ⟨p, xs, rfl, hx, hd⟩ := den_lst.mp n1
    exact ⟨p, rfl, .inl ⟨⟨xs, e1.ch.seq hx⟩, k ds _ C1 H1 q e1 (walk_lst hx hd)⟩⟩
  | _ => exact q.elim
end
theorem bt_reversed : bootBuiltins "reversed" = some (.type "reversed") := by decide +kernel
end L2
namespace L2
open PySem PySem.Spec PyProof.Rows
section
variable {κ κ' : Type} [DecidableEq κ] [DecidableEq κ']
def lookM (kvs : List (κ × Int)) (k : κ) : Option Int := (kvs.find? fun p => decide (p.1 = k)).map (·.2)
def putM (kvs : List (κ × Int)) (k : κ) (v : Int) : List (κ × Int) := if (kvs.any fun p => decide (p.1 = k)) = true then kvs.map (fun p => if p.1 = k then (p.1, v) else p) else kvs ++ [(k, v)]
theorem valV_mapM {f : κ → κ'} (hf : ∀ a b, f a = f b → a = b) (k : κ) : ∀ kvs : List (κ × Int), valV (kvs.map fun p => (f p.1, V.int p.2)) (f k) = (lookM kvs k).map V.int
  | [] => rfl
  | p :: r => by
    rw [List.map_cons]
    by_cases e : p.1 = k
    · rw [valV_pos (by rw [e])]
      simp [lookM, List.find?_cons, e]
    · rw [valV_neg (fun z => e (hf _ _ z)), valV_mapM hf k r]
      simp [lookM, List.find?_cons, e]
theorem any_mapM {f : κ → κ'} (hf : ∀ a b, f a = f b → a = b) (k : κ) (kvs : List (κ × Int)) : ((kvs.map fun p => (f p.1, V.int p.2)).any fun kv => decide (kv.1 = f k)) = kvs.any fun p => decide (p.1 = k) := by
  rw [List.any_map]
  congr 1
  funext p
  show decide (f p.1 = f k) = decide (p.1 = k)
  by_cases e : p.1 = k
  · rw [e]; simp
  · rw [decide_eq_false e, decide_eq_false fun z => e (hf _ _ z)]
theorem putK_mapM {f : κ → κ'} (hf : ∀ a b, f a = f b → a = b) (k : κ) (v : Int) (kvs : List (κ × Int)) : putK (kvs.map fun p => (f p.1, V.int p.2)) (f k) (.int v) = (putM kvs k v).map fun p => (f p.1, V.int p.2) := by
  unfold putK putM
  rw [any_mapM hf]
  split
  · rw [List.map_map, List.map_map]
    refine List.map_congr_left fun p _ => ?_
    show (if f p.1 = f k then (f p.1, V.int v) else (f p.1, V.int p.2)) = _
    by_cases e : p.1 = k
    · rw [if_pos (by rw [e])]
      simp [e]
    · rw [if_neg (fun z => e (hf _ _ z))]
      simp [e]
  · simp
end
theorem inl_inj {a b : Int} (h : (Sum.inl a : Key) = Sum.inl b) : a = b := by injection h
theorem inls_inj : ∀ {a b : List Int}, a.map (Sum.inl : Int → Key) = b.map Sum.inl → a = b
  | [], [], _ => rfl
  | [], _ :: _, e => by simp at e
  | _ :: _, [], e => by simp at e
  | x :: xs, y :: ys, e => by
    rw [List.map_cons, List.map_cons] at e
    injection e with e1 e2
    rw [inl_inj e1, inls_inj e2]
def DM.get : DM → D → Option (Option Int)
  | .k kvs, .int i => some (lookM kvs i)
  | .t kvs, .tup ds => match intsD ds with
    | some r => some (lookM kvs r)
    | none => none
  | _, _ => none
def DM.put : DM → D → Int → Option DM
  | .k kvs, .int i, v => if kvs.length < sizeLine then some (.k (putM kvs i v)) else none
  | .t kvs, .tup ds, v => match intsD ds with
    | some r => if kvs.length < sizeLine then some (.t (putM kvs r v)) else none
    | none => none
  | _, _, _ => none
def KeyV (H : Hp) (v : V) (d : D) : Prop := (∃ i, d = .int i ∧ v = .int i) ∨ ∃ (r : List Int) (b : Addr), d = .tup (r.map D.int) ∧ v = .ref b ∧ H b = some (.tup (r.map V.int))
theorem kVs_inl (r : List Int) : (r.map (Sum.inl : Int → Key)).map kV = r.map V.int := by
  rw [List.map_map]
  rfl
theorem dget_of {H : Hp} {l : Addr} {m : DM} {v : V} {d : D} {o : Option Int} (hr : Rd H l (hoM m)) (hk : KeyV H v d) (hg : m.get d = some o) : DGet H l v (o.map V.int) := by
  rcases hk with ⟨i, rfl, rfl⟩ | ⟨r, b, rfl, rfl, hb⟩
  · cases m with
    | k kvs =>
      cases hg
      exact .inl ⟨_, Sum.inl i, hr, rfl, (valV_mapM (f := (Sum.inl : Int → Key)) (fun _ _ => inl_inj) i kvs).symm⟩
    | t kvs => cases hg
  · cases m with
    | k kvs => cases hg
    | t kvs =>
      simp only [DM.get, ints_map] at hg
      cases hg
      exact .inr ⟨_, r.map Sum.inl, b, hr, rfl, by rw [kVs_inl]; exact hb, (valV_mapM (f := fun r : List Int => r.map (Sum.inl : Int → Key)) (fun _ _ => inls_inj) r kvs).symm⟩
theorem dput_of {H : Hp} {l : Addr} {m m' : DM} {v : V} {d : D} {w : Int} (hl : H l = some (hoM m)) (hk : KeyV H v d) (hg : m.put d w = some m') : DPut H l v (.int w) (upd H l (hoM m')) := by
  rcases hk with ⟨i, rfl, rfl⟩ | ⟨r, b, rfl, rfl, hb⟩
  · cases m with
    | k kvs =>
      simp only [DM.put] at hg
      split at hg
      · rename_i hz
        cases hg
        refine .inl ⟨_, Sum.inl i, hl, rfl, by simpa using hz, ?_⟩
        rw [putK_mapM (f := (Sum.inl : Int → Key)) (fun _ _ => inl_inj)]
        rfl
      · cases hg
    | t kvs => cases hg
  · cases m with
    | k kvs => cases hg
    | t kvs =>
      simp only [DM.put, ints_map] at hg
      split at hg
      · rename_i hz
        cases hg
        refine .inr ⟨_, r.map Sum.inl, b, hl, rfl, by rw [kVs_inl]; exact hb, by simpa using hz, ?_⟩
        rw [putK_mapM (f := fun r : List Int => r.map (Sum.inl : Int → Key)) (fun _ _ => inls_inj)]
        rfl
      · cases hg
section
variable {K : PySem.W.Frag} {C0 H0 C H C1 H1 : Hp} {δ : DS} {σ : St}
def slotM (δ : DS) (i : Nat) : Option DM := match δ[i]? with
  | some (.od m) => some m
  | some (.fd m) => some m
  | _ => none
theorem Rep.dic (R : Rep K C0 H0 δ σ C H) {i : Nat} {m : DM} (h : slotM δ i = some m) : ∃ l, σ[i]? = some (some (.ref l)) ∧ Rd H l (hoM m) := by
  unfold slotM at h
  split at h
  · rename_i m' e
    cases h
    obtain ⟨l, a, _, _, d⟩ := R.dc.od i m e
    exact ⟨l, a, .inl d⟩
  · rename_i m' e
    cases h
    obtain ⟨l, o, a, b⟩ := R.dc.fd i m e
    exact ⟨l, a, .inr ⟨o, R.ch _ _ b⟩⟩
  · cases h
theorem Rd.same {l : Addr} {u : HO} (h : Rd H l u) (e : Same H H1) : Rd H1 l u := by
  rcases h with h | ⟨o, h⟩
  · exact .inl (e _ _ h)
  · exact .inr ⟨o, e _ _ h⟩
theorem Rep.setD (R : Rep K C0 H0 δ σ C H) {i : Nat} {l : Addr} {m : DM} (h0 : H0 l = none) (hc : C l = none) (hn : ∀ (j : Nat) n, j ≠ i → δ[j]? = some (.od n) → σ[j]? ≠ some (some (.ref l))) (hl : H l = some (hoM m)) :
    Rep K C0 H0 (δ.set i (.od m)) (σ.set i (some (.ref l))) C H := by
  refine ⟨by simp [R.len], R.ext, fun j e h' => ?_, fun j ds h' => ?_, fun j k ds es l hjk h1 h2 h3 => ?_, fun j n h' => ?_, fun j n h' => ?_, fun j k n n' q hjk h1 h2 h3 => ?_⟩
  · rcases getE_set h' with ⟨_, e1, _⟩ | ⟨hj, h'⟩
    · cases e1
    · rw [List.getElem?_set_ne (Ne.symm hj)]
      exact R.im j e h'
  · rcases getE_set h' with ⟨_, e1, _⟩ | ⟨hj, h'⟩
    · cases e1
    · rw [List.getElem?_set_ne (Ne.symm hj)]
      exact R.ow j ds h'
  · rcases getE_set h1 with ⟨_, e1, _⟩ | ⟨hj, h1⟩
    · cases e1
    · rcases getE_set h2 with ⟨_, e1, _⟩ | ⟨hk, h2⟩
      · cases e1
      · rw [List.getElem?_set_ne (Ne.symm hj)] at h3
        rw [List.getElem?_set_ne (Ne.symm hk)]
        exact R.ap j k ds es l hjk h1 h2 h3
  · rcases getE_set h' with ⟨rfl, e1, hl'⟩ | ⟨hj, h'⟩
    · cases e1
      exact ⟨l, by rw [List.getElem?_set_self (by rw [R.len]; exact hl')], hc, h0, hl⟩
    · rw [List.getElem?_set_ne (Ne.symm hj)]
      exact R.dc.od j n h'
  · rcases getE_set h' with ⟨_, e1, _⟩ | ⟨hj, h'⟩
    · cases e1
    · rw [List.getElem?_set_ne (Ne.symm hj)]
      exact R.dc.fd j n h'
  · rcases getE_set h1 with ⟨rfl, e1, hl1⟩ | ⟨hj, g1⟩
    · cases e1
      rw [List.getElem?_set_self (by rw [R.len]; exact hl1)] at h3
      cases h3
      rcases getE_set h2 with ⟨z, _⟩ | ⟨hk, h2⟩
      · exact absurd z.symm hjk
      · rw [List.getElem?_set_ne (Ne.symm hk)]
        exact hn k n' hk h2
    · rw [List.getElem?_set_ne (Ne.symm hj)] at h3
      rcases getE_set h2 with ⟨rfl, e1, hl1⟩ | ⟨hk, h2⟩
      · rw [List.getElem?_set_self (by rw [R.len]; exact hl1)]
        intro z
        cases z
        exact hn j n hj g1 h3
      · rw [List.getElem?_set_ne (Ne.symm hk)]
        exact R.dc.ap j k n n' q hjk g1 h2 h3
theorem Rep.changeD (R : Rep K C0 H0 δ σ C H) {i : Nat} {m m' : DM} {l : Addr} (h : δ[i]? = some (.od m)) (hs : σ[i]? = some (some (.ref l))) :
    Rep K C0 H0 (δ.set i (.od m')) σ C (upd H l (hoM m')) := by
  obtain ⟨l', a, b, c, d⟩ := R.dc.od i m h
  rw [hs] at a
  cases a
  have ne : ∀ z u, C z = some u → z ≠ l := fun z u e q => by rw [q, b] at e; cases e
  refine ⟨by simp [R.len], ⟨fun z u e => ?_, R.ext.cc, fun z u e => ?_, R.ext.ow⟩, fun j e h' => ?_, fun j fs h' => ?_, fun j k fs gs q hjk h1 h2 h3 => ?_, fun j n h' => ?_, fun j n h' => ?_, fun j k n n' q hjk h1 h2 h3 => ?_⟩
  · rw [upd_ne (ne_of_none e c)]; exact R.ext.hh z u e
  · rw [upd_ne (ne z u e)]; exact R.ch z u e
  · rcases getE_set h' with ⟨_, e1, _⟩ | ⟨hj, h'⟩
    · cases e1
    · exact R.im j e h'
  · rcases getE_set h' with ⟨_, e1, _⟩ | ⟨hj, h'⟩
    · cases e1
    · obtain ⟨q, zs, a', b', c', d', f'⟩ := R.ow j fs h'
      refine ⟨q, zs, a', b', c', ?_, f'⟩
      rw [upd_ne (ne_of d' d fun z => hoM_lst z.symm)]
      exact d'
  · rcases getE_set h1 with ⟨_, e1, _⟩ | ⟨hj, h1⟩
    · cases e1
    · rcases getE_set h2 with ⟨_, e1, _⟩ | ⟨hk, h2⟩
      · cases e1
      · exact R.ap j k fs gs q hjk h1 h2 h3
  · rcases getE_set h' with ⟨rfl, e1, _⟩ | ⟨hj, h'⟩
    · cases e1
      exact ⟨l, hs, b, c, upd_same⟩
    · obtain ⟨q, a', b', c', d'⟩ := R.dc.od j n h'
      refine ⟨q, a', b', c', ?_⟩
      rw [upd_ne fun z => ?_]
      · exact d'
      · rw [z] at a'
        exact R.dc.ap i j m n l (Ne.symm hj) h h' hs a'
  · rcases getE_set h' with ⟨_, e1, _⟩ | ⟨hj, h'⟩
    · cases e1
    · exact R.dc.fd j n h'
  · have g1 : ∃ n, δ[j]? = some (.od n) := by
      rcases getE_set h1 with ⟨rfl, _, _⟩ | ⟨_, h1⟩
      · exact ⟨_, h⟩
      · exact ⟨_, h1⟩
    have g2 : ∃ n, δ[k]? = some (.od n) := by
      rcases getE_set h2 with ⟨rfl, _, _⟩ | ⟨_, h2⟩
      · exact ⟨_, h⟩
      · exact ⟨_, h2⟩
    obtain ⟨_, g1⟩ := g1
    obtain ⟨_, g2⟩ := g2
    exact R.dc.ap j k _ _ q hjk g1 g2 h3
theorem Rep.frzD (R : Rep K C0 H0 δ σ C H) {i : Nat} {m : DM} {l : Addr} (h : δ[i]? = some (.od m)) (hs : σ[i]? = some (some (.ref l))) (o : Obj) :
    Rep K C0 H0 (δ.set i (.fd m)) σ (upd C l (.frz o (hoM m))) (upd H l (.frz o (hoM m))) := by
  obtain ⟨l', a, b, c, d⟩ := R.dc.od i m h
  rw [hs] at a
  cases a
  have up : Same C (upd C l (.frz o (hoM m))) := Same.upd b
  refine ⟨by simp [R.len], ⟨fun z u e => ?_, R.ext.cc.trans up, fun z u e => ?_, fun z e n => ?_⟩, fun j e h' => ?_, fun j fs h' => ?_, fun j k fs gs q hjk h1 h2 h3 => ?_, fun j n h' => ?_, fun j n h' => ?_, fun j k n n' q hjk h1 h2 h3 => ?_⟩
  · rw [upd_ne (ne_of_none e c)]; exact R.ext.hh z u e
  · by_cases hz : z = l
    · subst hz; rw [upd_same] at e ⊢; exact e
    · rw [upd_ne hz] at e ⊢; exact R.ch z u e
  · rw [upd_ne (fun q => n (by rw [q]; exact c))]
    exact R.ext.ow z e n
  · rcases getE_set h' with ⟨_, e1, _⟩ | ⟨hj, h'⟩
    · cases e1
    · obtain ⟨v, ev, nv⟩ := R.im j e h'
      exact ⟨v, ev, nv.mono up⟩
  · rcases getE_set h' with ⟨_, e1, _⟩ | ⟨hj, h'⟩
    · cases e1
    · obtain ⟨q, zs, a', b', c', d', f'⟩ := R.ow j fs h'
      have hq : q ≠ l := ne_of d' d fun z => hoM_lst z.symm
      refine ⟨q, zs, a', ?_, c', ?_, f'.mono up⟩
      · rw [upd_ne hq]; exact b'
      · rw [upd_ne hq]; exact d'
  · rcases getE_set h1 with ⟨_, e1, _⟩ | ⟨hj, h1⟩
    · cases e1
    · rcases getE_set h2 with ⟨_, e1, _⟩ | ⟨hk, h2⟩
      · cases e1
      · exact R.ap j k fs gs q hjk h1 h2 h3
  · rcases getE_set h' with ⟨_, e1, _⟩ | ⟨hj, h'⟩
    · cases e1
    · obtain ⟨q, a', b', c', d'⟩ := R.dc.od j n h'
      have hq : q ≠ l := fun z => by
        rw [z] at a'
        exact R.dc.ap i j m n l (Ne.symm hj) h h' hs a'
      refine ⟨q, a', ?_, c', ?_⟩
      · rw [upd_ne hq]; exact b'
      · rw [upd_ne hq]; exact d'
  · rcases getE_set h' with ⟨rfl, e1, _⟩ | ⟨hj, h'⟩
    · cases e1
      exact ⟨l, o, hs, upd_same⟩
    · obtain ⟨q, o', a', b'⟩ := R.dc.fd j n h'
      exact ⟨q, o', a', up _ _ b'⟩
  · rcases getE_set h1 with ⟨_, e1, _⟩ | ⟨hj, h1⟩
    · cases e1
    · rcases getE_set h2 with ⟨_, e1, _⟩ | ⟨hk, h2⟩
      · cases e1
      · exact R.dc.ap j k n n' q hjk h1 h2 h3
end
end L2
namespace L2
open PySem PySem.Spec PyProof.Rows
def DKey (X : Cx) (e : Expr) (g : GE) : Prop := ∃ t, PE X e t ∧ ∀ C0 H0 δ σ C H (Q : D → Prop) (R : VK), Rep X.K C0 H0 δ σ C H → g δ Q → (∀ d v C1 H1, Q d → Ext C H C1 H1 → KeyV H1 v d → R v H1) → t σ H R
section
variable {X : Cx} {a b c e f o : Expr} {es : List Expr} {pos : Pos} {ga gk gd gv : GE} {gA : GF}
def gKI (ga : GE) : GE := fun δ Q => ga δ fun d => match d with
  | .int i => Q (.int i)
  | _ => False
theorem dk_int (h : DE X e ga) : DKey X e (gKI ga) := by
  obtain ⟨t, p, h⟩ := h
  refine ⟨t, p, fun C0 H0 δ σ C H Q R rp g k => h C0 H0 δ σ C H _ R rp g fun d v C1 H1 q e1 n1 => ?_⟩
  cases d with
  | int i => exact k (.int i) v C1 H1 q e1 (.inl ⟨i, rfl, den_int.mp n1⟩)
  | _ => exact q.elim
def gDget (i : Nat) (gk : GE) : GE := fun δ Q => match slotM δ i with
  | some m => gk δ fun d => match m.get d with
    | some (some v) => Q (.int v)
    | _ => False
  | none => False
theorem de_dget {i : Nat} {x : Str} {p2 : Pos} (hu : X.A.units + 64 < cLine) (hx : PE X (.Name x p2) (tVar i)) (hk : DKey X e gk) (hs : NoSl e) : DE X (.Subscript (.Name x p2) e pos) (gDget i gk) := by
  obtain ⟨t, p, h⟩ := hk
  refine ⟨_, pe_dget (by omega) hx p hs, fun C0 H0 δ σ C H Q R rp g k => ?_⟩
  unfold gDget at g
  split at g
  · rename_i m em
    obtain ⟨l, hl, hr⟩ := rp.dic em
    refine ⟨.ref l, hl, h C0 H0 δ σ C H _ _ rp g fun d v C1 H1 q e1 kv => ?_⟩
    cases eg : m.get d with
    | none => rw [eg] at q; exact q.elim
    | some r =>
      cases r with
      | none => rw [eg] at q; exact q.elim
      | some w =>
        rw [eg] at q
        exact ⟨l, .int w, rfl, dget_of (hr.same e1.hh) kv eg, k (.int w) _ C1 H1 q e1 (den_int.mpr rfl)⟩
  · exact g.elim
def gDnotin (i : Nat) (gk : GE) : GT := fun δ Q => match slotM δ i with
  | some m => gk δ fun d => match m.get d with
    | some r => Q (!r.isSome)
    | none => False
  | none => False
theorem dt_dnotin {i : Nat} {x : Str} {p2 : Pos} (hu : X.A.units + 64 < cLine) (hx : PE X (.Name x p2) (tVar i)) (hk : DKey X e gk) : DT X (.Compare e [.NotIn] [.Name x p2] pos) (gDnotin i gk) := by
  obtain ⟨t, p, h⟩ := hk
  refine ⟨_, pt_cmp (pc_dnotin (by omega) p hx), fun C0 H0 δ σ C H Q R rp g k => ?_⟩
  unfold gDnotin at g
  split at g
  · rename_i m em
    refine h C0 H0 δ σ C H _ _ rp g fun d v C1 H1 q e1 kv => ?_
    obtain ⟨l, hl, hr⟩ := (rp.grow e1).dic em
    cases eg : m.get d with
    | none => rw [eg] at q; exact q.elim
    | some r =>
      rw [eg] at q
      refine ⟨.ref l, hl, l, _, rfl, dget_of hr kv eg, !r.isSome, by cases r <;> rfl, k _ C1 H1 q e1⟩
  · exact g.elim
def gDlen (i : Nat) : GE := fun δ Q => match slotM δ i with
  | some (.k kvs) => Q (.int kvs.length)
  | _ => False
theorem call_lenR : CallR X (.builtin "len") (fun xs H Q => ∃ a kvs, xs = [V.ref a] ∧ Rd H a (.dK kvs) ∧ Q (.int kvs.length) H) := by
  intro pins s σ H xs us Q I r h
  obtain ⟨a, kvs, rfl, ha, q⟩ := h
  obtain ⟨u, rfl, ru⟩ := vals1 r
  cases ru
  exact d_len I ha fun t s' I' => ⟨.int kvs.length, H, I', ⟨t, rfl⟩, q⟩
theorem de_dlen {i : Nat} {t : TE} (h : PE X e t) (ht : t = fun σ H Q => ∃ v, σ[i]? = some (some v) ∧ ∃ a kvs, [v] = [V.ref a] ∧ Rd H a (.dK kvs) ∧ Q (.int kvs.length) H) : DE X e (gDlen i) := by
  subst ht
  refine ⟨_, h, fun C0 H0 δ σ C H Q R rp g k => ?_⟩
  unfold gDlen at g
  split at g
  · rename_i kvs em
    obtain ⟨l, hl, hr⟩ := rp.dic em
    refine ⟨.ref l, hl, l, _, rfl, hr, ?_⟩
    rw [List.length_map]
    exact k _ _ C H g (Ext.refl rp.ch) (den_int.mpr rfl)
  · exact g.elim
def gDnew (i : Nat) (m : DM) : GS := fun De δ => De.nx (δ.set i (.od m))
theorem Rep.newD {K : PySem.W.Frag} {C0 H0 C H : Hp} {δ : DS} {σ : St} (R : Rep K C0 H0 δ σ C H) {i : Nat} {p : Addr} {m : DM} (hp : H p = none) : Rep K C0 H0 (δ.set i (.od m)) (σ.set i (some (.ref p))) C (upd H p (hoM m)) := by
  refine (R.grow (Ext.newO R.ch hp)).setD (R.ext.hh.free hp) (R.ch.free hp) (fun j n hj ho z => ?_) upd_same
  obtain ⟨l, a, _, _, d⟩ := R.dc.od j n ho
  rw [z] at a
  cases a
  rw [hp] at d
  cases d
theorem ds_dnew {i : Nat} {st : Stmt} {te : TE} (m : DM) (hp : PS X st (tAsg te (gName i))) (ht : te = fun _ H Q => ∀ p, H p = none → Q (.ref p) (upd H p (hoM m))) : DSt X st (gDnew i m) := by
  subst ht
  exact ⟨_, hp, fun C0 H0 δ σ C H De E rp g k p hn => k.nx _ _ C _ (rp.newD hn) g⟩
def gDput (i : Nat) (gk gv : GE) : GS := fun De δ => match δ[i]? with
  | some (.od m) => gv δ fun v => gk δ fun d => match v with
    | .int w => match m.put d w with
      | some m' => De.nx (δ.set i (.od m'))
      | none => False
    | _ => False
  | _ => False
theorem ds_dput {i : Nat} {x : Str} {p2 p3 : Pos} (hu : X.A.units + 64 < cLine) (hx : PE X (.Name x p2) (tVar i)) (hk : DKey X e gk) (hv : DE X f gv) (hs : swapsWith f (some (.Subscript (.Name x p2) e p3)) pos.line X.env = pure false := by rfl) :
    DSt X (.Assign [.Subscript (.Name x p2) e p3] f pos) (gDput i gk gv) := by
  obtain ⟨t, p, h⟩ := hk
  obtain ⟨t2, p2, h2⟩ := hv
  refine ⟨_, ps_dput (by omega) hx p p2 hs, fun C0 H0 δ σ C H De E rp g k => ?_⟩
  unfold gDput at g
  split at g
  · rename_i m em
    refine h2 C0 H0 δ σ C H _ _ rp g fun dv v C1 H1 q e1 n1 => ?_
    obtain ⟨l, hl, _, _, hd⟩ := (rp.grow e1).dc.od i m em
    refine ⟨.ref l, hl, h C0 H0 δ σ C1 H1 _ _ (rp.grow e1) q fun d y C2 H2 q2 e2 kv => ?_⟩
    cases dv with
    | int w =>
      rw [den_int.mp n1]
      have q2' : (match m.put d w with
        | some m' => De.nx (δ.set i (.od m'))
        | none => False) := q2
      cases ep : m.put d w with
      | none => rw [ep] at q2'; exact q2'.elim
      | some m' =>
        rw [ep] at q2'
        exact ⟨l, _, rfl, dput_of (e2.hh _ _ hd) kv ep, k.nx _ _ C2 _ (((rp.grow e1).grow e2).changeD em hl) q2'⟩
    | _ => exact q2.elim
  · exact g.elim
end
theorem Inv.frzD {X : Cx} {pins : List (Addr × Obj)} {σ : St} {H : Hp} {s : Shared} {l : Addr} {m : DM} (I : Inv X pins σ H s) (hl : H l = some (hoM m)) : ∃ o, s.heap.get? l = some o ∧ Inv X pins σ (upd H l (.frz o (hoM m))) s := by
  have ok := I.hok l _ hl
  obtain ⟨o, ho⟩ : ∃ o, s.heap.get? l = some o := by
    cases m with
    | k kvs => obtain ⟨_, _, _, _, o, _, _, e, _⟩ := ok; exact ⟨o, e⟩
    | t kvs => obtain ⟨_, _, _, _, o, _, _, e, _⟩ := ok; exact ⟨o, e⟩
  have nt : ∀ b xs, H b = some (.tup xs) → b ≠ l := fun b xs e z => by rw [z, hl] at e; cases m <;> cases e
  have nw : ∀ b y, H b = some (.own y) → b ≠ l := fun b y e z => by rw [z, hl] at e; cases m <;> cases e
  have nf : ∀ b o u, H b = some (.frz o u) → b ≠ l := fun b o u e z => by rw [z, hl] at e; cases m <;> cases e
  have nb : ∀ b ps, H b = some (.tbl ps) → b ≠ l := fun b ps e z => by rw [z, hl] at e; cases m <;> cases e
  have nn : ∀ b, H b = none → b ≠ l := fun b e z => by rw [z, hl] at e; cases e
  have un : Un X.fs [] H (upd H l (.frz o (hoM m))) s.heap s.heap :=
    ⟨fun b u e _ _ _ => e, fun b u e _ _ _ => ⟨u.slots, e⟩, fun b u e n _ => by rw [upd_ne (nn b n)]; exact n, fun b u e _ => ⟨u, e⟩, fun b xs e => by rw [upd_ne (nt b xs e)]; exact e, fun b o u e => by rw [upd_ne (nf b o u e)]; exact e, fun b ps e => ⟨#[], by rw [upd_ne (nb b ps e)]; simpa using e⟩⟩
  have hok : HOk X.prog X.w (upd H l (.frz o (hoM m))) s.heap := fun b u e => by
    by_cases hb : b = l
    · subst hb
      rw [upd_same] at e
      cases e
      exact ⟨ho, ok.stay (fun _ _ _ q => q) (fun c q => by rw [upd_ne (nw c _ q)]; exact q) (fun c xs q => by rw [upd_ne (nt c xs q)]; exact q) fun c ob u q => by rw [upd_ne (nf c ob u q)]; exact q⟩
    · rw [upd_ne hb] at e
      exact (I.hok b u e).stay (fun _ _ _ q => q) (fun c q => by rw [upd_ne (nw c _ q)]; exact q) (fun c xs q => by rw [upd_ne (nt c xs q)]; exact q) fun c ob u q => by rw [upd_ne (nf c ob u q)]; exact q
  exact ⟨o, ho, I.un (t' := s.toks) un hok⟩
section
variable {X : Cx} {sts : List Stmt} {g1 : GS} {tg : Expr} {pos : Pos}
def gDfrz (i : Nat) (g : GS) : GS := fun De δ => match δ[i]? with
  | some (.od m) => g De (δ.set i (.fd m))
  | _ => False
theorem dss_dfrz (i : Nat) (h : DSs X sts g1) : DSs X sts (gDfrz i g1) := by
  obtain ⟨t, p, h⟩ := h
  refine ⟨fun E σ H => ∃ l m, H l = some (hoM m) ∧ ∀ o, t E σ (upd H l (.frz o (hoM m))), fun pins s σ H E I q => ?_, fun C0 H0 δ σ C H De E rp g k => ?_⟩
  · obtain ⟨l, m, hl, q⟩ := q
    obtain ⟨o, _, I1⟩ := I.frzD hl
    exact p pins s σ _ E I1 (q o)
  · unfold gDfrz at g
    split at g
    · rename_i m em
      obtain ⟨l, hs, _, _, hd⟩ := rp.dc.od i m em
      exact ⟨l, m, hd, fun o => h C0 H0 _ σ _ _ De E (rp.frzD em hs o) g k⟩
    · exact g.elim
end
theorem dict_at {P : Program} {w : World} {H : Hp} {h : Heap} {l : Addr} {o : Obj} {kvs : List (Int × Int)} (ok : HOk P w H h) (hl : H l = some (.frz o (hoM (.k kvs)))) :
    (l == sysModules) = false ∧ ∃ vs ep es, o.data = .dict es ep ∧ vs.map (·.1) = kvs.map (fun p => (Sum.inl p.1 : Key)) ∧ h.DictAt (mixKind P w) l vs ep := by
  obtain ⟨ho, z, hd, vs, rel, o', es, ep, e, r⟩ := (show ObjOk P w H h l (.frz o (.dK (kvs.map fun p => (Sum.inl p.1, .int p.2)))) from ok l _ hl)
  rw [ho] at e
  cases e
  refine ⟨hd, vs, ep, es, r.2.1, ?_, o, es, ho, r⟩
  rw [← rel.keys, List.map_map]
  rfl
theorem turn_dict {P : Program} {w : World} {K : PySem.W.Frag} {tg : Expr} (d it : Addr) (o : Obj) (kvs : List (Int × Int)) (es : Array DictEntry) (ep : Nat) (hdt : o.data = .dict es ep) :
    Turn P w K tg ⟨fun i H => i < kvs.length ∧ H d = some (.frz o (hoM (.k kvs))), fun i H x H' => H' = H ∧ ∃ k, (kvs.map (·.1))[i]? = some k ∧ x = .int k, fun i H => kvs.length ≤ i ∧ H d = some (.frz o (hoM (.k kvs)))⟩ [it] it (fun i h => h.IsKeyIter it d i kvs.length ep) where
  mem := by simp
  obj := fun i h st b hb => by
    have e : b = it := by simpa using hb
    subst e
    obtain ⟨o, e, c, d⟩ := st
    exact ⟨o, e, fun v z => by rw [d] at z; cases z⟩
  keep := fun i h h' st k => st.at fun o e => k it (by simp) o e
  item := by
    intro X hP hw hK hc i pins s σ H E I hf st hg
    subst hP hw hK
    obtain ⟨hi, hH⟩ := hg
    obtain ⟨hd, vs, ep', es', hd2, hv, da⟩ := dict_at I.hok hH
    rw [hdt] at hd2
    cases hd2
    obtain ⟨f0, f1, f2, f3, f4, f5⟩ := hf it (by simp)
    have hvl : vs.length = kvs.length := by
      have := congrArg List.length hv
      simpa using this
    have hiv : i < vs.length := by omega
    have hx : vs[i]? = some (vs[i].1, vs[i].2) := by rw [List.getElem?_eq_getElem hiv]
    have hk1 : vs[i].1 = Sum.inl kvs[i].1 := by
      have e1 : (vs.map (·.1))[i]? = some vs[i].1 := by rw [List.getElem?_map, List.getElem?_eq_getElem hiv]; rfl
      rw [hv, List.getElem?_map, List.getElem?_eq_getElem hi] at e1
      exact (Option.some.inj e1).symm
    rw [← hvl] at st
    refine wpAny_pyNext_dict_item st da hx fun key h' hkey st' sb => ?_
    rw [hvl] at st'
    rw [hk1] at hkey
    have I1 : Inv X pins σ H { s with heap := h' } := I.turned (t' := s.toks) (fun b o hb e => (sb.2 b hb).trans e) f0 f1 f3 f4 f5
    obtain ⟨o2, e2, c2, d2⟩ := id st'
    have hrel : RelV (.int kvs[i].1) key := by
      rcases keyIs_shape (show keyIs (Sum.inl kvs[i].1) key = true from hkey) with ⟨j, t, ej, ev⟩ | ⟨x, t, ej, ev⟩
      · cases ej
        exact ⟨t, ev⟩
      · cases ej
    exact ⟨key, rfl, go_of (s := { s with heap := h' }) e2 c2 d2 (by decide) ⟨.int kvs[i].1, H, I1, hrel, ⟨rfl, kvs[i].1, by rw [List.getElem?_map, List.getElem?_eq_getElem hi]; rfl, rfl⟩, st', fun b hb => (hf b hb).1⟩⟩
  done := by
    intro X hP hw hK hc i pins s σ H E I hf st hg
    subst hP hw hK
    obtain ⟨hi, hH⟩ := hg
    obtain ⟨hd, vs, ep', es', hd2, hv, da⟩ := dict_at I.hok hH
    rw [hdt] at hd2
    cases hd2
    obtain ⟨f0, f1, f2, f3, f4, f5⟩ := hf it (by simp)
    have hvl : vs.length = kvs.length := by
      have := congrArg List.length hv
      simpa using this
    rw [← hvl] at st
    exact wpAny_pyNext_dict_end (I.ok.hd hc) st da (List.getElem?_eq_none (by omega)) fun h' eb => ⟨rfl, I.turned (t' := s.toks) (fun b o hb e => eb b o hb e) f0 f1 f3 f4 f5⟩
  self := fun _ _ _ _ _ st h => wpAny_pyIter_keyiter st h
section
variable {X : Cx} {tg : Expr} {pos : Pos}
def gDkeys (i : Nat) : GF := fun δ Q => match δ[i]? with
  | some (.fd (.k kvs)) => Q (kvs.map fun p => .int p.1)
  | _ => False
theorem di_dict {i : Nat} {x : Str} (hx : PE X (.Name x pos) (tVar i)) : DI X tg (.Name x pos) (gDkeys i) := by
  refine ⟨fun σ H R => ∃ l o kvs, σ[i]? = some (some (.ref l)) ∧ H l = some (.frz o (hoM (.k kvs))) ∧ R ⟨fun i H => i < kvs.length ∧ H l = some (.frz o (hoM (.k kvs))), fun i H x H' => H' = H ∧ ∃ k, (kvs.map (·.1))[i]? = some k ∧ x = .int k, fun i H => kvs.length ≤ i ∧ H l = some (.frz o (hoM (.k kvs)))⟩ H, fun pins s σ H R I h => ?_, fun C0 H0 δ σ C H Q R rp g k => ?_⟩
  · obtain ⟨l, o, kvs, hs, hl, q⟩ := h
    refine thn (hx pins s σ H (fun v H1 => v = .ref l ∧ H1 = H) I ⟨.ref l, hs, rfl, rfl⟩) fun v s1 ⟨y, H1, I1, r1, e1, e2⟩ => ?_
    subst e1 e2
    cases r1
    obtain ⟨hd, vs, ep, es, hdt, hv, da⟩ := dict_at I1.hok hl
    have hvl : vs.length = kvs.length := by
      have := congrArg List.length hv
      simpa using this
    refine wpAny_pyIter_dict hd da ?_
    refine ⟨s1.heap.objs.size, [s1.heap.objs.size], _, _, H1, rfl, I1.kept (t' := s1.toks) fun b o e => Heap.get?_push_of_some _ e, turn_dict l _ o kvs es ep hdt, ⟨_, Heap.get?_push_size _ rfl, rfl, by rw [hvl]; rfl⟩, fun b hb => ?_, q⟩
    have e : b = s1.heap.objs.size := by simpa using hb
    subst e
    exact I1.fpOk (Nat.le_refl _) (I1.hok.fresh (Nat.le_refl _))
  · unfold gDkeys at g
    split at g
    · rename_i kvs em
      obtain ⟨l, o, hs, hc⟩ := rp.dc.fd i _ em
      refine ⟨l, o, kvs, hs, rp.ch _ _ hc, k _ _ C H g (Ext.refl rp.ch) ?_⟩
      intro C2 H2 c1 c2 j
      have h2 := c2 _ _ (c1 _ _ hc)
      refine ⟨fun d e => ?_, fun hl => ⟨by simpa using hl, h2⟩⟩
      rw [List.getElem?_map] at e
      cases ek : kvs[j]? with
      | none => rw [ek] at e; cases e
      | some p =>
        rw [ek] at e
        cases e
        refine ⟨⟨(List.getElem?_eq_some_iff.mp ek).1, h2⟩, fun x H3 y => ?_⟩
        obtain ⟨rfl, q, eq, rfl⟩ := y
        rw [List.getElem?_map, ek] at eq
        cases eq
        exact ⟨C2, Ext.refl c2, den_int.mpr rfl⟩
    · exact g.elim
end
end L2
namespace L2
open PySem PySem.Spec PyProof.Rows
open Classical in
noncomputable def F_lowest : List D → Option D
  | [.int u, .int l] => if 0 < l ∧ Bd 7000 u ∧ Bd 7000 l then some (fracD (Rat.divInt u l)) else none
  | _ => none
noncomputable def F_state_behind : List D → Option D
  | [m, p, s, r] => onMeet m fun ns _ => onPlan ns p fun pl => onHand pl.length s fun s => onRow ns r fun r => some (.int (nextAt ns pl s r))
  | _ => none
noncomputable def F_pays_of : List D → Option D
  | [m, rs, h] => onMeet m fun ns pay => onRows ns rs fun rs => onHand ns.length h fun h => some (.lst ((rs.map fun r => payH ns pay r h).map D.int))
  | _ => none
def wgh (p q : Int) : List Int → Int
  | [] => 0
  | y :: ys => y * q ^ ys.length + p * wgh p q ys
def okPays (ys : List Int) : Bool := decide (ys.length ≤ 20) && ys.all fun y => decide (-9 ≤ y) && decide (y ≤ 9)
theorem okPays_of {ys : List Int} (h1 : ys.length ≤ 20) (h2 : ∀ y ∈ ys, -9 ≤ y ∧ y ≤ 9) : okPays ys = true := by
  unfold okPays
  rw [Bool.and_eq_true, decide_eq_true_eq, List.all_eq_true]
  exact ⟨h1, fun y hy => by simpa using h2 y hy⟩
theorem okPays_mem {ys : List Int} (h : okPays ys = true) : ys.length ≤ 20 ∧ ∀ y ∈ ys, -9 ≤ y ∧ y ≤ 9 := by
  unfold okPays at h
  rw [Bool.and_eq_true, decide_eq_true_eq, List.all_eq_true] at h
  exact ⟨h.1, fun y hy => by simpa using h.2 y hy⟩
noncomputable def F_weighed : List D → Option D
  | [.lst es, d] => match intsD es with
    | some ys => if okPays ys = true then onPat d fun d => some (.int (wgh d.num d.den ys)) else none
    | none => none
  | _ => none
def woL (d : Rat) (xs ys : List Int) : Rat := fstL d (xs.map fun (x : Int) => (x : Rat)) + d ^ xs.length * (fstL d (ys.map fun (x : Int) => (x : Rat)) / (1 - d ^ ys.length))
noncomputable def F_worth_of_pays : List D → Option D
  | [.lst as, .lst bs, d] => match intsD as, intsD bs with
    | some xs, some ys => if okPays xs = true ∧ okPays ys = true ∧ ys ≠ [] then onPat d fun d => some (fracD (woL d xs ys)) else none
    | _, _ => none
  | _ => none
noncomputable def F_worths_from : List D → Option D
  | [m, p, s, d] => onMeet m fun ns pay => onPlan ns p fun pl => onHand pl.length s fun s => onPat d fun d => some (.tup ((List.range ns.length).map fun h => fracD (worthR ns pay pl d h s)))
  | _ => none
section
variable {d : Rat}
theorem wgh_fold (p q : Int) : ∀ (ys : List Int) (t w : Int), ys.foldl (fun (a : Int × Int) y => (a.1 * q + a.2 * y, a.2 * p)) (t, w) = (t * q ^ ys.length + w * wgh p q ys, w * p ^ ys.length)
  | [], t, w => by simp [wgh]
  | y :: ys, t, w => by
    rw [List.foldl_cons, wgh_fold p q ys, wgh, List.length_cons, Int.pow_succ, Int.pow_succ]
    refine Prod.ext ?_ ?_ <;> simp only <;> grind
theorem wgh_fst (ys : List Int) : fstL d (ys.map fun (x : Int) => (x : Rat)) * (((d.den : Int) ^ ys.length : Int) : Rat) = (((d.den : Int) - d.num : Int) : Rat) * (wgh d.num d.den ys : Rat) := by
  induction ys with
  | nil => simp [fstL, wgh]
  | cons y ys ih =>
    have h1 := rat_num d
    rw [List.map_cons, List.length_cons, wgh, Int.pow_succ, Rat.intCast_mul, Rat.intCast_add, Rat.intCast_mul, Rat.intCast_mul, Rat.intCast_sub]
    show ((1 - d) * (y : Rat) + d * fstL d (ys.map fun (x : Int) => (x : Rat))) * _ = _
    rw [Rat.intCast_sub] at ih
    generalize fstL d (ys.map fun (x : Int) => (x : Rat)) = F at *
    generalize (((d.den : Int) ^ ys.length : Int) : Rat) = Q at *
    generalize ((d.den : Int) : Rat) = q at *
    generalize ((d.num : Int) : Rat) = p at *
    generalize ((wgh d.num d.den ys : Int) : Rat) = W at *
    grind
theorem wgh_ones (p q : Int) : ∀ n : Nat, (q - p) * wgh p q (List.replicate n 1) = q ^ n - p ^ n
  | 0 => by simp [wgh]
  | n + 1 => by
    have ih := wgh_ones p q n
    rw [List.replicate_succ, wgh, List.length_replicate, Int.pow_succ, Int.pow_succ]
    grind
theorem pat_num (hd : PatOk d) : 0 < d.num ∧ d.num < (d.den : Int) := by
  have h1 := hd.pos
  have h2 := hd.lt
  rw [Rat.lt_iff] at h1 h2
  have e1 : (0 : Rat).num = 0 := rfl
  have e2 : (0 : Rat).den = 1 := rfl
  have e3 : (1 : Rat).num = 1 := rfl
  have e4 : (1 : Rat).den = 1 := rfl
  rw [e1, e2] at h1
  rw [e3, e4] at h2
  omega
theorem wgh_pos (hd : PatOk d) {n : Nat} (hn : 0 < n) : 0 < wgh d.num d.den (List.replicate n 1) := by
  obtain ⟨h1, h2⟩ := pat_num hd
  have e := wgh_ones d.num d.den n
  have h3 := ipow_lt h1 h2 n hn
  apply Int.lt_of_not_ge
  intro z
  have := Int.mul_nonpos_of_nonneg_of_nonpos (show 0 ≤ (d.den : Int) - d.num by omega) z
  omega
theorem over_eq (hd : PatOk d) {ys : List Int} (hy : ys ≠ []) : fstL d (ys.map fun (x : Int) => (x : Rat)) / (1 - d ^ ys.length) = Rat.divInt (wgh d.num d.den ys) (wgh d.num d.den (List.replicate ys.length 1)) := by
  have hn : 0 < ys.length := List.length_pos_iff.mpr hy
  obtain ⟨h1, h2⟩ := pat_num hd
  have a := wgh_fst (d := d) ys
  have b := congrArg (fun z : Int => (z : Rat)) (wgh_ones d.num d.den ys.length)
  simp only [Rat.intCast_mul, Rat.intCast_sub] at b
  have hp := wgh_pos hd hn
  have hdp : ∀ n : Nat, d ^ n * (((d.den : Int) ^ n : Int) : Rat) = ((d.num ^ n : Int) : Rat) := by
    intro n
    induction n with
    | zero => rw [Rat.pow_zero, Int.pow_zero, Int.pow_zero]; grind
    | succ n ih =>
      have := rat_num d
      rw [Rat.pow_succ, Int.pow_succ, Int.pow_succ, Rat.intCast_mul, Rat.intCast_mul]
      grind
  have c := hdp ys.length
  obtain ⟨p1, p2⟩ := pow_lt_one hd.pos hd.lt ys.length hn
  have q0 : (((d.den : Int) ^ ys.length : Int) : Rat) ≠ 0 := by
    have := ipow_pos (show (0 : Int) < (d.den : Int) by omega) ys.length
    intro z
    have z2 : (((d.den : Int) ^ ys.length : Int) : Rat) = ((0 : Int) : Rat) := z
    rw [Rat.intCast_inj] at z2
    omega
  have w0 : ((wgh d.num d.den (List.replicate ys.length 1) : Int) : Rat) ≠ 0 := by
    intro z
    have z2 : ((wgh d.num d.den (List.replicate ys.length 1) : Int) : Rat) = ((0 : Int) : Rat) := z
    rw [Rat.intCast_inj] at z2
    omega
  have k0 : (((d.den : Int) : Rat) - ((d.num : Int) : Rat)) ≠ 0 := by
    intro z
    have z2 : (((d.den : Int) - d.num : Int) : Rat) = ((0 : Int) : Rat) := by rw [Rat.intCast_sub]; exact z
    rw [Rat.intCast_inj] at z2
    omega
  rw [Rat.intCast_sub] at a
  rw [Rat.divInt_eq_div]
  generalize fstL d (ys.map fun (x : Int) => (x : Rat)) = F at *
  generalize (((d.den : Int) ^ ys.length : Int) : Rat) = Q at *
  generalize ((d.num ^ ys.length : Int) : Rat) = P at *
  generalize ((wgh d.num d.den ys : Int) : Rat) = W at *
  generalize ((wgh d.num d.den (List.replicate ys.length 1) : Int) : Rat) = V at *
  generalize d ^ ys.length = D at *
  generalize (((d.den : Int) : Rat) - ((d.num : Int) : Rat)) = k at *
  have e1 : 1 - D ≠ 0 := by grind
  have e2 : (1 - D) * Q = k * V := by grind
  have e3 : F * V = W * (1 - D) := by
    have : F * V * k * Q = W * (1 - D) * k * Q := by grind
    grind
  grind
theorem wgh_bd {p q : Int} (hp : Bd 40 p) (hq : Bd 40 q) : ∀ {ys : List Int}, (∀ y ∈ ys, -9 ≤ y ∧ y ≤ 9) → Bd (46 * ys.length + 1) (wgh p q ys)
  | [], _ => show (0 : Int).natAbs < 2 ^ (46 * 0 + 1) by decide
  | y :: ys, h => by
    have ih := wgh_bd hp hq (ys := ys) fun z hz => h z (List.mem_cons_of_mem _ hz)
    have hy := h y List.mem_cons_self
    have b1 : Bd 4 y := by unfold Bd; omega
    have b2 := b1.mul (hq.pow ys.length)
    have b3 := hp.mul ih
    rw [wgh, List.length_cons]
    have b4 : Bd (46 * ys.length + 41) (y * q ^ ys.length) := b2.mono (by omega)
    have b5 : Bd (46 * ys.length + 41) (p * wgh p q ys) := b3.mono (by omega)
    exact (b4.add b5).mono (by omega)
end
end L2
namespace L2
open PySem PySem.Spec PyProof.Rows
theorem divInt_frac {u l : Int} (hl : 0 < l) : fracD (Rat.divInt u l) = .tup [.int (u / (Int.gcd u l : Int)), .int (l / (Int.gcd u l : Int))] := by
  have h1 : l.sign = 1 := Int.sign_eq_one_of_pos hl
  unfold fracD
  rw [Rat.num_divInt, Rat.den_divInt, if_neg (by omega), h1, Int.one_mul, Int.gcd_comm l u]
  congr 4
  rw [Int.natCast_ediv, show ((l.natAbs : Nat) : Int) = l by omega]
theorem int_pos_rat {b : Int} (h : 0 < b) : (0 : Rat) < (b : Rat) := Rat.intCast_pos.mpr h
theorem less_div {a b c e : Int} (hb : 0 < b) (he : 0 < e) : a * e < c * b ↔ Rat.divInt a b < Rat.divInt c e := by
  have hB := int_pos_rat hb
  have hE := int_pos_rat he
  have h1 : (a : Rat) = Rat.divInt a b * (b : Rat) := by
    rw [Rat.divInt_eq_div]
    grind
  have h2 : (c : Rat) = Rat.divInt c e * (e : Rat) := by
    rw [Rat.divInt_eq_div]
    grind
  have hp : (0 : Rat) < (b : Rat) * (e : Rat) := Rat.mul_pos hB hE
  have key : a * e < c * b ↔ (a : Rat) * (e : Rat) < (c : Rat) * (b : Rat) := by
    rw [← Rat.intCast_mul, ← Rat.intCast_mul, Rat.intCast_lt_intCast]
  rw [key]
  generalize Rat.divInt a b = x at *
  generalize Rat.divInt c e = y at *
  generalize (a : Rat) = A at *
  generalize (b : Rat) = B at *
  generalize (c : Rat) = C at *
  generalize (e : Rat) = E at *
  subst h1 h2
  constructor
  · intro h
    apply Classical.byContradiction
    intro z
    have z2 : y ≤ x := by grind
    have := Rat.mul_le_mul_of_nonneg_left z2 (Rat.le_of_lt hp)
    grind
  · intro h
    apply Classical.byContradiction
    intro z
    have z2 : (B * E) * y ≤ (B * E) * x := by grind
    have := Rat.le_of_mul_le_mul_left z2 hp
    grind
open Classical in
noncomputable def F_is_less : List D → Option D
  | [.tup [.int a, .int b], .tup [.int c, .int e]] => if Bd 3000 a ∧ Bd 3000 b ∧ Bd 3000 c ∧ Bd 3000 e then some (.bl (decide (a * e < c * b))) else none
  | _ => none
open Classical in
noncomputable def F_now_and_later : List D → Option D
  | [.int x, .tup [.int u, .int l], d] => onPat d fun d => if Bd 40 x ∧ Bd 4000 u ∧ Bd 4000 l then some (.tup [.int (((d.den : Int) - d.num) * x * l + d.num * u), .int ((d.den : Int) * l)]) else none
  | _ => none
theorem FisLess {a b c e : Int} (h1 : Bd 3000 a) (h2 : Bd 3000 b) (h3 : Bd 3000 c) (h4 : Bd 3000 e) : F_is_less [.tup [.int a, .int b], .tup [.int c, .int e]] = some (.bl (decide (a * e < c * b))) := if_pos ⟨h1, h2, h3, h4⟩
theorem Fnow {x u l : Int} {d : Rat} (hd : PatOk d) (h1 : Bd 40 x) (h2 : Bd 4000 u) (h3 : Bd 4000 l) : F_now_and_later [.int x, .tup [.int u, .int l], fracD d] = some (.tup [.int (((d.den : Int) - d.num) * x * l + d.num * u), .int ((d.den : Int) * l)]) := by
  simp only [F_now_and_later, onPat_of hd, if_pos (show Bd 40 x ∧ Bd 4000 u ∧ Bd 4000 l from ⟨h1, h2, h3⟩)]
end L2
namespace L2
open PySem PySem.Spec PyProof.Rows
def hAt (h : Int) : D → D
  | .tup xs => (atI xs h).getD .non
  | _ => .non
open Classical in
noncomputable def F_worths_of_hand : List D → Option D
  | [.tup ds, .int h] => if ds.length ≤ 1000 ∧ ∀ d ∈ ds, ∃ xs x, d = .tup xs ∧ atI xs h = some x then some (.tup (ds.map (hAt h))) else none
  | _ => none
open Classical in
noncomputable def F_deeds_of_hand : List D → Option D
  | [p, .int h] => match planOf p with
    | some pl => if pl.length ≤ 1000 ∧ 0 ≤ h ∧ ∀ s ∈ pl, h.toNat < s.1.length then some (dInts (pl.map fun s => s.1.getD h.toNat 0)) else none
    | none => none
  | _ => none
def betF (V : Int → Rat) (a : Int × Rat) (k : Int) : Int × Rat := if a.2 < V k then (k, V k) else a
theorem betF_le (V : Int → Rat) : ∀ (ks : List Int) (a : Int × Rat), a.2 ≤ (ks.foldl (betF V) a).2 ∧ ∀ k ∈ ks, V k ≤ (ks.foldl (betF V) a).2
  | [], a => ⟨Rat.le_refl, fun k hk => absurd hk (List.not_mem_nil)⟩
  | k :: ks, a => by
    obtain ⟨h1, h2⟩ := betF_le V ks (betF V a k)
    rw [List.foldl_cons]
    have hb : a.2 ≤ (betF V a k).2 ∧ V k ≤ (betF V a k).2 := by
      unfold betF
      split
      · rename_i hl
        exact ⟨Rat.le_of_lt hl, Rat.le_refl⟩
      · rename_i hl
        exact ⟨Rat.le_refl, by grind⟩
    refine ⟨Rat.le_trans hb.1 h1, fun q hq => ?_⟩
    rcases List.mem_cons.mp hq with rfl | hq
    · exact Rat.le_trans hb.2 h1
    · exact h2 q hq
theorem betF_or (V : Int → Rat) : ∀ (ks : List Int) (a : Int × Rat), ks.foldl (betF V) a = a ∨ ∃ k ∈ ks, ks.foldl (betF V) a = (k, V k) ∧ a.2 < V k
  | [], a => .inl rfl
  | k :: ks, a => by
    rw [List.foldl_cons]
    rcases betF_or V ks (betF V a k) with h | ⟨q, hq, h, hl⟩
    · rw [h]
      by_cases hk : a.2 < V k
      · exact .inr ⟨k, List.mem_cons_self, by unfold betF; rw [if_pos hk], hk⟩
      · exact .inl (by unfold betF; rw [if_neg hk])
    · refine .inr ⟨q, List.mem_cons_of_mem _ hq, h, ?_⟩
      by_cases hk : a.2 < V k
      · unfold betF at hl
        rw [if_pos hk] at hl
        have hl : V k < V q := hl
        grind
      · unfold betF at hl
        rw [if_neg hk] at hl
        exact hl
section
variable (ns : List Int) (pay : List (List Int)) (pl : List (List Int × List Int)) (d : Rat) (h : Nat) (W : Nat → Rat) (s : Nat)
def bestA (j : Nat) : Int × Rat := ((deedsL ns h).take j).foldl (betF (strayV ns pay pl d h W s)) ((rowAt pl s).getD h 0, W s)
def bestK : Int := (bestA ns pay pl d h W s (deedsL ns h).length).1
end
section
variable {ns : List Int} {pay : List (List Int)} {pl : List (List Int × List Int)} {d : Rat} {h s : Nat} {W : Nat → Rat}
theorem bestA_succ {j : Nat} (hj : j < (deedsL ns h).length) : bestA ns pay pl d h W s (j + 1) = betF (strayV ns pay pl d h W s) (bestA ns pay pl d h W s j) (deedsL ns h)[j] := by
  unfold bestA
  rw [List.take_succ, List.getElem?_eq_getElem hj, Option.toList_some, List.foldl_append]
  rfl
theorem bestK_or (hp : PlanW ns pl) (hh : h < ns.length) (hs : s < pl.length) : (bestK ns pay pl d h W s = (rowAt pl s).getD h 0 ∧ ∀ k ∈ deedsL ns h, strayV ns pay pl d h W s k ≤ W s) ∨ (bestK ns pay pl d h W s ∈ deedsL ns h ∧ W s < strayV ns pay pl d h W s (bestK ns pay pl d h W s)) := by
  unfold bestK bestA
  rw [List.take_length]
  have a := betF_le (strayV ns pay pl d h W s) (deedsL ns h) ((rowAt pl s).getD h 0, W s)
  rcases betF_or (strayV ns pay pl d h W s) (deedsL ns h) ((rowAt pl s).getD h 0, W s) with e | ⟨k, hk, e, hl⟩
  · rw [e] at a ⊢
    exact .inl ⟨rfl, a.2⟩
  · rw [e]
    exact .inr ⟨hk, hl⟩
theorem stray_own (hp : PlanW ns pl) (hd : PatOk d) (hh : h < ns.length) (hs : s < pl.length) : strayV ns pay pl d h (worthR ns pay pl d h) s ((rowAt pl s).getD h 0) = worthR ns pay pl d h s := by
  unfold strayV
  rw [set_self (by rw [row_len (prow_mem hp hs)]; exact hh)]
  exact (worth_step hp hd hs).symm
theorem stray_congr {V : Nat → Rat} (hp : PlanW ns pl) (hs : s < pl.length) (hW : ∀ s, s < pl.length → W s = V s) {k : Int} (hk : k ∈ deedsL ns h) : strayV ns pay pl d h W s k = strayV ns pay pl d h V s k := by
  unfold strayV
  rw [hW _ (mv_lt hp hs hk)]
theorem own_mem (hp : PlanW ns pl) (hh : h < ns.length) (hs : s < pl.length) : (rowAt pl s).getD h 0 ∈ deedsL ns h := deed_mem.mpr (row_at (prow_mem hp hs) hh)
theorem bestK_own (hp : PlanW ns pl) (hd : PatOk d) (hh : h < ns.length) (hs : s < pl.length) (hW : ∀ s, s < pl.length → W s = worthR ns pay pl d h s) : (bestK ns pay pl d h W s = (rowAt pl s).getD h 0 ∧ ∀ k ∈ deedsL ns h, strayV ns pay pl d h (worthR ns pay pl d h) s k ≤ worthR ns pay pl d h s) ∨ (bestK ns pay pl d h W s ≠ (rowAt pl s).getD h 0 ∧ bestK ns pay pl d h W s ∈ deedsL ns h ∧ worthR ns pay pl d h s < strayV ns pay pl d h (worthR ns pay pl d h) s (bestK ns pay pl d h W s)) := by
  rcases bestK_or (pay := pay) (d := d) (W := W) hp hh hs with ⟨h1, h2⟩ | ⟨h1, h2⟩
  · refine .inl ⟨h1, fun k hk => ?_⟩
    have := h2 k hk
    rw [stray_congr hp hs hW hk, hW s hs] at this
    exact this
  · rw [stray_congr hp hs hW h1, hW s hs] at h2
    refine .inr ⟨fun z => ?_, h1, h2⟩
    rw [z, stray_own hp hd hh hs] at h2
    exact Rat.lt_irrefl h2
theorem mem_gains (hs : s < pl.length) (hh : h < ns.length) {k : Int} (hk : k ∈ deedsL ns h) (hl : worthR ns pay pl d h s < strayV ns pay pl d h (worthR ns pay pl d h) s k) : ((s : Int), (h : Int), k) ∈ gainsL ns pay pl d := by
  unfold gainsL
  refine List.mem_flatMap.mpr ⟨s, List.mem_range.mpr hs, List.mem_flatMap.mpr ⟨h, List.mem_range.mpr hh, ?_⟩⟩
  unfold gainsAt
  exact List.mem_map.mpr ⟨k, List.mem_filter.mpr ⟨hk, decide_eq_true hl⟩, rfl⟩
end
def ratsD : List D → Option (List Rat)
  | [] => some []
  | d :: ds => match ratD d, ratsD ds with
    | some q, some qs => some (q :: qs)
    | _, _ => none
theorem ratsD_of : ∀ qs : List Rat, ratsD (qs.map fracD) = some qs
  | [] => rfl
  | q :: qs => by rw [List.map_cons, ratsD, ratD_of, ratsD_of qs]
theorem ratsD_eq : ∀ {ds : List D} {qs : List Rat}, ratsD ds = some qs → ds = qs.map fracD
  | [], qs, h => by cases h; rfl
  | d :: ds, qs, h => by
    unfold ratsD at h
    split at h
    · rename_i q qs' e1 e2
      cases h
      rw [ratD_eq e1, ratsD_eq e2]
      rfl
    · cases h
@[reducible] def wv (qs : List Rat) : Nat → Rat := fun s => qs.getD s 0
open Classical in
noncomputable def onW (n : Nat) (d : D) (f : List Rat → Option D) : Option D := match d with
  | .tup ds => match ratsD ds with
    | some qs => if qs.length = n ∧ ∀ q ∈ qs, BdR 900 q then f qs else none
    | none => none
  | _ => none
theorem onW_of {n : Nat} {qs : List Rat} {f : List Rat → Option D} (h1 : qs.length = n) (h2 : ∀ q ∈ qs, BdR 900 q) : onW n (.tup (qs.map fracD)) f = f qs := by
  unfold onW
  simp only [ratsD_of]
  exact if_pos ⟨h1, h2⟩
theorem onW_eq {n : Nat} {m d : D} {f : List Rat → Option D} (h : onW n m f = some d) : ∃ qs, m = .tup (qs.map fracD) ∧ qs.length = n ∧ (∀ q ∈ qs, BdR 900 q) ∧ f qs = some d := by
  unfold onW at h
  split at h
  · split at h
    · rename_i qs e
      split at h
      · rename_i ho
        exact ⟨qs, by rw [ratsD_eq e], ho.1, ho.2, h⟩
      · cases h
    · cases h
  · cases h
noncomputable def F_better_deed : List D → Option D
  | [m, p, s, h, w, d] => onMeet m fun ns pay => onPlan ns p fun pl => onHand pl.length s fun s => onHand ns.length h fun h => onW pl.length w fun qs => onPat d fun d => some (.int (bestK ns pay pl d h (wv qs) s))
  | _ => none
noncomputable def F_better_deeds : List D → Option D
  | [m, p, h, w, d] => onMeet m fun ns pay => onPlan ns p fun pl => onHand ns.length h fun h => onW pl.length w fun qs => onPat d fun d => some (dInts ((List.range pl.length).map fun s => bestK ns pay pl d h (wv qs) s))
  | _ => none
noncomputable def worthL (ns : List Int) (pay : List (List Int)) (pl : List (List Int × List Int)) (d : Rat) (h : Nat) : List Rat := (List.range pl.length).map (worthR ns pay pl d h)
section
variable {ns : List Int} {pay : List (List Int)} {pl : List (List Int × List Int)} {d : Rat} {h s : Nat}
theorem worthL_at (hs : s < pl.length) : wv (worthL ns pay pl d h) s = worthR ns pay pl d h s := by
  unfold wv worthL
  rw [getD_of (by simpa using hs), List.getElem_map, List.getElem_range]
theorem worthL_len : (worthL ns pay pl d h).length = pl.length := by simp [worthL]
theorem worthL_bd (ho : MeetOk ns pay) (hp : PlanW ns pl) (hd : PatOk d) : ∀ q ∈ worthL ns pay pl d h, BdR 900 q := fun q hq => by
  obtain ⟨s, hs, rfl⟩ := List.mem_map.mp hq
  exact ((worth_sol (h := h) (pay := pay) hp hd).bd ho hp.few.2 (fun s hs => prow_mem hp hs) (pgo_lt hp) hd (List.mem_range.mp hs)).2.2
theorem FworthsH (hh : h < ns.length) (hp : PlanW ns pl) : F_worths_of_hand [worthsD ns pay pl d, .int h] = some (.tup ((worthL ns pay pl d h).map fracD)) := by
  have at1 : ∀ s, atI ((List.range ns.length).map fun h => fracD (worthR ns pay pl d h s)) (h : Int) = some (fracD (worthR ns pay pl d h s)) := fun s => by
    rw [atI_of (by simpa using hh), List.getElem_map, List.getElem_range]
  unfold worthsD F_worths_of_hand
  simp only []
  rw [if_pos]
  · congr 2
    unfold worthL
    rw [List.map_map, List.map_map]
    refine List.map_congr_left fun s _ => ?_
    show (atI _ _).getD D.non = _
    rw [at1]
    rfl
  · refine ⟨by have := hp.few.2; simp; omega, fun x hx => ?_⟩
    obtain ⟨s, _, rfl⟩ := List.mem_map.mp hx
    exact ⟨_, _, rfl, at1 s⟩
theorem Fbetters (ho : MeetOk ns pay) (hp : PlanW ns pl) (hd : PatOk d) (hh : h < ns.length) : F_better_deeds [meetD ns pay, planD pl, .int h, .tup ((worthL ns pay pl d h).map fracD), fracD d] = some (dInts ((List.range pl.length).map fun s => bestK ns pay pl d h (wv (worthL ns pay pl d h)) s)) := by
  simp only [F_better_deeds, onMeet_of ho, onPlan_of hp, onHand_of hh, onW_of worthL_len (worthL_bd ho hp hd), onPat_of hd]
theorem Fbetter (ho : MeetOk ns pay) (hp : PlanW ns pl) (hd : PatOk d) (hh : h < ns.length) (hs : s < pl.length) {qs : List Rat} (h1 : qs.length = pl.length) (h2 : ∀ q ∈ qs, BdR 900 q) : F_better_deed [meetD ns pay, planD pl, .int s, .int h, .tup (qs.map fracD), fracD d] = some (.int (bestK ns pay pl d h (wv qs) s)) := by
  simp only [F_better_deed, onMeet_of ho, onPlan_of hp, onHand_of hs, onHand_of hh, onW_of h1 h2, onPat_of hd]
theorem Fworths (ho : MeetOk ns pay) (hp : PlanW ns pl) (hd : PatOk d) : F_worths [meetD ns pay, planD pl, fracD d] = some (worthsD ns pay pl d) := by
  simp only [F_worths, onMeet_of ho, onPlan_of hp, onPat_of hd]
end
def bentP (pl : List (List Int × List Int)) (h : Nat) (ks : Nat → Int) : List (List Int × List Int) := (List.range pl.length).map fun s => ((rowAt pl s).set h (ks s), (pl.getD s ([], [])).2)
section
variable {ns : List Int} {pay : List (List Int)} {pl : List (List Int × List Int)} {d : Rat} {h s : Nat} {ks ks' : Nat → Int} {W : Nat → Rat}
theorem bent_len : (bentP pl h ks).length = pl.length := by simp [bentP]
theorem bent_get (hs : s < pl.length) : (bentP pl h ks).getD s ([], []) = ((rowAt pl s).set h (ks s), (pl.getD s ([], [])).2) := by
  unfold bentP
  rw [getD_of (by simpa using hs), List.getElem_map, List.getElem_range]
theorem bent_row (hs : s < pl.length) : rowAt (bentP pl h ks) s = (rowAt pl s).set h (ks s) := by
  unfold rowAt
  rw [bent_get hs]
  rfl
theorem bent_next (hs : s < pl.length) {r : List Int} : nextAt ns (bentP pl h ks) s r = nextAt ns pl s r := by
  unfold nextAt
  rw [bent_get hs]
theorem bent_ok (hp : PlanW ns pl) (hk : ∀ s, s < pl.length → ks s ∈ deedsL ns h) : PlanW ns (bentP pl h ks) := by
  have hm : ∀ s, s < pl.length → pl.getD s ([], []) ∈ pl := fun s hs => by rw [getD_of hs]; exact List.getElem_mem hs
  refine ⟨by rw [bent_len]; exact hp.few, fun x hx => ?_, fun x hx => ?_⟩
  · obtain ⟨s, hs, rfl⟩ := List.mem_map.mp hx
    have hs := List.mem_range.mp hs
    exact mv_mem hp hs (hk s hs)
  · obtain ⟨s, hs, rfl⟩ := List.mem_map.mp hx
    have hs := List.mem_range.mp hs
    rw [bent_len]
    have q := hp.nexts (pl.getD s ([], [])) (hm s hs)
    exact q
theorem bent_own : bentP pl h (fun s => (rowAt pl s).getD h 0) = pl := by
  refine List.ext_getElem bent_len fun s h1 h2 => ?_
  have e := bent_get (h := h) (ks := fun s => (rowAt pl s).getD h 0) h2
  rw [getD_of h1] at e
  rw [e]
  unfold rowAt
  rw [getD_of h2]
  by_cases hl : h < pl[s].1.length
  · rw [set_self hl]
  · rw [List.set_eq_of_length_le (by omega)]
theorem bent_bent (hs : s < pl.length) : ((rowAt (bentP pl h ks) s).set h (ks' s), ((bentP pl h ks).getD s ([], [])).2) = ((rowAt pl s).set h (ks' s), (pl.getD s ([], [])).2) := by
  rw [bent_row hs, bent_get hs, List.set_set]
theorem bent_stray (hs : s < pl.length) {k : Int} : strayV ns pay (bentP pl h ks) d h W s k = strayV ns pay pl d h W s k := by
  unfold strayV
  rw [bent_row hs, bent_next hs, List.set_set]
theorem bent_deed (hp : PlanW ns pl) (hh : h < ns.length) (hs : s < pl.length) : (rowAt (bentP pl h ks) s).getD h 0 = ks s := by
  rw [bent_row hs, getD_of (by rw [List.length_set, row_len (prow_mem hp hs)]; exact hh), List.getElem_set_self]
theorem bent_worth (hp : PlanW ns pl) (hd : PatOk d) (hh : h < ns.length) (hk : ∀ s, s < pl.length → ks s ∈ deedsL ns h) (hs : s < pl.length) : worthR ns pay (bentP pl h ks) d h s = strayV ns pay pl d h (worthR ns pay (bentP pl h ks) d h) s (ks s) := by
  have hb := bent_ok hp hk
  have e := stray_own (pay := pay) hb hd hh (s := s) (by rw [bent_len]; exact hs)
  rw [bent_deed hp hh hs, bent_stray hs] at e
  exact e.symm
theorem bent_ge (hp : PlanW ns pl) (hd : PatOk d) (hh : h < ns.length) (hk : ∀ s, s < pl.length → ks s ∈ deedsL ns h) {V : Nat → Rat} (hV : ∀ s, s < pl.length → V s ≤ strayV ns pay pl d h V s (ks s)) (hs : s < pl.length) : V s ≤ worthR ns pay (bentP pl h ks) d h s := by
  obtain ⟨t, ht, hm⟩ := arg_max (fun s => V s - worthR ns pay (bentP pl h ks) d h s) pl.length (by omega)
  have e := bent_worth (pay := pay) hp hd hh hk ht
  have v := hV t ht
  have q := hm _ (mv_lt hp ht (hk t ht))
  have q2 := hm s hs
  have p0 := hd.pos
  have p1 := hd.lt
  unfold strayV at e v
  generalize hu : nextAt ns pl t ((rowAt pl t).set h (ks t)) = u at *
  generalize ((payH ns pay ((rowAt pl t).set h (ks t)) h : Int) : Rat) = x at *
  generalize worthR ns pay (bentP pl h ks) d h = U at *
  have l1 : V t - U t ≤ d * (V u - U u) := by grind
  have l2 : d * (V u - U u) ≤ d * (V t - U t) := Rat.mul_le_mul_of_nonneg_left q (Rat.le_of_lt p0)
  have l3 : (1 - d) * (V t - U t) ≤ (1 - d) * 0 := by grind
  have l4 : V t - U t ≤ 0 := Rat.le_of_mul_le_mul_left l3 (by grind)
  grind
def Over (n : Nat) (U V : Nat → Rat) : Prop := (∀ s, s < n → U s ≤ V s) ∧ ∃ s, s < n ∧ U s < V s
theorem Over.trans {n : Nat} {U V Z : Nat → Rat} (a : Over n U V) (b : Over n V Z) : Over n U Z := by
  obtain ⟨s, hs, hl⟩ := a.2
  refine ⟨fun t ht => Rat.le_trans (a.1 t ht) (b.1 t ht), s, hs, ?_⟩
  have := b.1 s hs
  grind
theorem Over.irr {n : Nat} {U : Nat → Rat} (a : Over n U U) : False := by
  obtain ⟨s, hs, hl⟩ := a.2
  exact Rat.lt_irrefl hl
theorem bend_over (hp : PlanW ns pl) (hd : PatOk d) (hh : h < ns.length) (hk : ∀ s, s < pl.length → ks s ∈ deedsL ns h) (hk' : ∀ s, s < pl.length → ks' s = bestK ns pay (bentP pl h ks) d h (wv (worthL ns pay (bentP pl h ks) d h)) s) (hne : ∃ s, s < pl.length ∧ ks' s ≠ ks s) : (∀ s, s < pl.length → ks' s ∈ deedsL ns h) ∧ Over pl.length (worthR ns pay (bentP pl h ks) d h) (worthR ns pay (bentP pl h ks') d h) := by
  have hb := bent_ok hp hk
  have key : ∀ s, s < pl.length → (ks' s = ks s) ∨ (ks' s ≠ ks s ∧ ks' s ∈ deedsL ns h ∧ worthR ns pay (bentP pl h ks) d h s < strayV ns pay pl d h (worthR ns pay (bentP pl h ks) d h) s (ks' s)) := fun s hs => by
    have hs' : s < (bentP pl h ks).length := by rw [bent_len]; exact hs
    rcases bestK_own (pay := pay) hb hd hh hs' (W := wv (worthL ns pay (bentP pl h ks) d h)) (fun s hs => worthL_at hs) with ⟨h1, _⟩ | ⟨h1, h2, h3⟩
    · rw [bent_deed hp hh hs, ← hk' s hs] at h1
      exact .inl h1
    · rw [bent_deed hp hh hs, ← hk' s hs] at h1
      rw [← hk' s hs] at h2 h3
      rw [bent_stray hs] at h3
      exact .inr ⟨h1, h2, h3⟩
  have hm : ∀ s, s < pl.length → ks' s ∈ deedsL ns h := fun s hs => by
    rcases key s hs with h1 | ⟨_, h2, _⟩
    · rw [h1]; exact hk s hs
    · exact h2
  have hV : ∀ s, s < pl.length → worthR ns pay (bentP pl h ks) d h s ≤ strayV ns pay pl d h (worthR ns pay (bentP pl h ks) d h) s (ks' s) := fun s hs => by
    rcases key s hs with h1 | ⟨_, _, h3⟩
    · rw [h1, ← bent_worth hp hd hh hk hs]
      exact Rat.le_refl
    · exact Rat.le_of_lt h3
  have hge : ∀ s, s < pl.length → worthR ns pay (bentP pl h ks) d h s ≤ worthR ns pay (bentP pl h ks') d h s := fun s hs => bent_ge hp hd hh hm hV hs
  refine ⟨hm, hge, ?_⟩
  obtain ⟨s, hs, hn⟩ := hne
  refine ⟨s, hs, ?_⟩
  rcases key s hs with h1 | ⟨_, _, h3⟩
  · exact absurd h1 hn
  · have e := bent_worth (pay := pay) hp hd hh hm hs
    have g := hge _ (mv_lt hp hs (hm s hs))
    have g2 := Rat.mul_le_mul_of_nonneg_left g (Rat.le_of_lt hd.pos)
    unfold strayV at e h3
    grind
theorem bend_bell (hp : PlanW ns pl) (hd : PatOk d) (hh : h < ns.length) (hk : ∀ s, s < pl.length → ks s ∈ deedsL ns h) (he : ∀ s, s < pl.length → bestK ns pay (bentP pl h ks) d h (wv (worthL ns pay (bentP pl h ks) d h)) s = ks s) : Bell ns pay pl d h (worthR ns pay (bentP pl h ks) d h) := by
  have hb := bent_ok hp hk
  refine ⟨fun s hs k hkk => ?_, fun s hs => ⟨ks s, hk s hs, (bent_worth hp hd hh hk hs).symm⟩⟩
  have hs' : s < (bentP pl h ks).length := by rw [bent_len]; exact hs
  rcases bestK_own (pay := pay) hb hd hh hs' (W := wv (worthL ns pay (bentP pl h ks) d h)) (fun s hs => worthL_at hs) with ⟨_, h2⟩ | ⟨h1, _, _⟩
  · have := h2 k hkk
    rw [bent_stray hs] at this
    exact this
  · rw [bent_deed hp hh hs] at h1
    exact absurd (he s hs) h1
end
def vecs (ks : List Int) : Nat → List (List Int)
  | 0 => [[]]
  | n + 1 => ks.flatMap fun k => (vecs ks n).map fun v => k :: v
theorem vecs_mem (ks : List Int) : ∀ (v : List Int), (∀ x ∈ v, x ∈ ks) → v ∈ vecs ks v.length
  | [], _ => List.mem_cons_self
  | x :: v, h => List.mem_flatMap.mpr ⟨x, h x List.mem_cons_self, List.mem_map.mpr ⟨v, vecs_mem ks v fun y hy => h y (List.mem_cons_of_mem _ hy), rfl⟩⟩
theorem count_lt {α : Type} {p q : α → Bool} : ∀ {l : List α}, (∀ x ∈ l, p x = true → q x = true) → (∃ x ∈ l, q x = true ∧ p x = false) → l.countP p < l.countP q
  | [], _, ⟨x, hx, _⟩ => absurd hx List.not_mem_nil
  | a :: l, h1, ⟨x, hx, h2, h3⟩ => by
    rw [List.countP_cons, List.countP_cons]
    have hle : l.countP p ≤ l.countP q := List.countP_mono_left fun y hy hp => h1 y (List.mem_cons_of_mem _ hy) hp
    have ha := h1 a List.mem_cons_self
    rcases List.mem_cons.mp hx with rfl | hx
    · rw [h2, h3]
      simp
      omega
    · have := count_lt (l := l) (fun y hy => h1 y (List.mem_cons_of_mem _ hy)) ⟨x, hx, h2, h3⟩
      by_cases ea : p a = true
      · rw [ea, ha ea]
        simp
        omega
      · rw [if_neg ea]
        split <;> omega
open Classical in
noncomputable def bendsLeft (ns : List Int) (pay : List (List Int)) (pl : List (List Int × List Int)) (d : Rat) (h : Nat) (ks : Nat → Int) : Nat := (vecs (deedsL ns h) pl.length).countP fun v => decide (Over pl.length (worthR ns pay (bentP pl h ks) d h) (worthR ns pay (bentP pl h fun s => v.getD s 0) d h))
theorem bent_congr {pl : List (List Int × List Int)} {h : Nat} {ks ks' : Nat → Int} (e : ∀ s, s < pl.length → ks s = ks' s) : bentP pl h ks = bentP pl h ks' := by
  unfold bentP
  refine List.map_congr_left fun s hs => ?_
  rw [e s (List.mem_range.mp hs)]
open Classical in
theorem bends_lt {ns : List Int} {pay : List (List Int)} {pl : List (List Int × List Int)} {d : Rat} {h : Nat} {ks ks' : Nat → Int} (hm : ∀ s, s < pl.length → ks' s ∈ deedsL ns h) (ho : Over pl.length (worthR ns pay (bentP pl h ks) d h) (worthR ns pay (bentP pl h ks') d h)) : bendsLeft ns pay pl d h ks' < bendsLeft ns pay pl d h ks := by
  unfold bendsLeft
  refine count_lt (fun v hv hp => ?_) ⟨(List.range pl.length).map ks', ?_, ?_, ?_⟩
  · exact decide_eq_true (ho.trans (of_decide_eq_true hp))
  · have := vecs_mem (deedsL ns h) ((List.range pl.length).map ks') fun x hx => by
      obtain ⟨s, hs, rfl⟩ := List.mem_map.mp hx
      exact hm s (List.mem_range.mp hs)
    rw [List.length_map, List.length_range] at this
    exact this
  all_goals have ec : (bentP pl h fun s => ((List.range pl.length).map ks').getD s 0) = bentP pl h ks' := bent_congr fun s hs => by rw [getD_of (by simpa using hs), List.getElem_map, List.getElem_range]
  · rw [decide_eq_true_eq, ec]
    exact ho
  · rw [decide_eq_false_iff_not, ec]
    exact fun z => z.irr
noncomputable def F_bent_for : List D → Option (D → Prop)
  | [m, p, .int h, d] => onPlanR m p d (fun ns => 0 ≤ h ∧ h < ns.length) fun ns pay pl d x => ∃ ks : Nat → Int, (∀ s, s < pl.length → ks s ∈ deedsL ns h.toNat) ∧ Bell ns pay pl d h.toNat (worthR ns pay (bentP pl h.toNat ks) d h.toNat) ∧ x = planD (bentP pl h.toNat ks)
  | _ => none
end L2
namespace L2
open PySem PySem.Spec PyProof.Rows
noncomputable def g_common_divisor_2 : GS := (gSeq (gWhile (gTest (gOp oNe (gVar 3) (gC (.int 0)))) (gSeq (gAsg (gOp oMod (gVar 2) (gVar 3)) (gNm 4)) (gSeq (gAsg (gVar 3) (gNm 2)) (gAsg (gVar 4) (gNm 3))))) (gRet (gVar 2)))
noncomputable def g_common_divisor_1 : GS := (gSeq (gAsg (gCallB cAbs (gConsA (gVar 1) gNilA)) (gNm 3)) g_common_divisor_2)
noncomputable def g_common_divisor : GS := (gSeq (gAsg (gCallB cAbs (gConsA (gVar 0) gNilA)) (gNm 2)) g_common_divisor_1)
noncomputable def g_is_less : GS := (gRet (gOp oLt (gOp oMulW (gOp gIx (gVar 0) (gC (.int 0))) (gOp gIx (gVar 1) (gC (.int 1)))) (gOp oMulW (gOp gIx (gVar 1) (gC (.int 0))) (gOp gIx (gVar 0) (gC (.int 1))))))
noncomputable def g_place_of_1 : GS := (gSeq (gFor (gZip (gVar 0) (gVar 1)) (gNm2 3 4) (gAsg (gOp oAdd (gOp oMul (gVar 2) (gVar 4)) (gVar 3)) (gNm 2))) (gRet (gVar 2)))
noncomputable def g_place_of : GS := (gSeq (gAsg (gC (.int 0)) (gNm 2)) g_place_of_1)
noncomputable def g_with_deed : GS := (gRet (gOp oAdd (gOp oAdd (gSlT (gVar 0) gNoP (gPart (gVar 1))) (gTupE (gConsA (gVar 2) gNilA))) (gSlT (gVar 0) (gPart (gOp oAdd (gVar 1) (gC (.int 1)))) gNoP)))
noncomputable def g_now_and_later_1 : GS := (gRet (gTupE (gConsA (gVar 3) (gConsA (gOp oMulW (gOp gIx (gVar 2) (gC (.int 1))) (gOp gIx (gVar 1) (gC (.int 1)))) gNilA))))
noncomputable def g_now_and_later : GS := (gSeq (gAsg (gOp oAdd (gOp oMulW (gOp oMulW (gOp oSub (gOp gIx (gVar 2) (gC (.int 1))) (gOp gIx (gVar 2) (gC (.int 0)))) (gVar 0)) (gOp gIx (gVar 1) (gC (.int 1)))) (gOp oMulW (gOp gIx (gVar 2) (gC (.int 0))) (gOp gIx (gVar 1) (gC (.int 0))))) (gNm 3)) g_now_and_later_1)
noncomputable def g_weighed_2 : GS := (gSeq (gFor (gIl (gVar 0)) (gNm 4) (gSeq (gAsg (gOp oAdd (gOp oMulW (gVar 2) (gOp gIx (gVar 1) (gC (.int 1)))) (gOp oMulW (gVar 3) (gVar 4))) (gNm 2)) (gAsg (gOp oMulW (gVar 3) (gOp gIx (gVar 1) (gC (.int 0)))) (gNm 3)))) (gRet (gVar 2)))
noncomputable def g_weighed : GS := (gSeq (gAsg (gC (.int 0)) (gNm 2)) (gSeq (gAsg (gC (.int 1)) (gNm 3)) g_weighed_2))
noncomputable def g_worths_of_hand : GS := (gRet (gCallB cTuple (gConsA (gF (gComp [none, some 1] (gIt (gVar 0)) (gNm 0) (gOp gIx (gVar 0) (gVar 1)))) gNilA)))
noncomputable def g_deeds_of_hand : GS := (gRet (gCallB cTuple (gConsA (gF (gComp [none, some 1] (gIt (gVar 0)) (gNm 0) (gOp gIx (gOp gIx (gVar 0) (gC (.int 0))) (gVar 1)))) gNilA)))
noncomputable def g__law_cell : GS := (gSeq (gIfS (gTest (gOp oLt (gVar 1) (gCallB cLen (gConsA (gVar 0) gNilA)))) (gRet (gOp gIx (gVar 0) (gVar 1))) gNext) (gRet (gC (.int 0))))
noncomputable def g__law_mix : GS := (gRet (gOp oMod (gOp oMod (gOp oMul (gVar 0) (gC (.int 48271))) (gVar 1)) (gVar 2)))
noncomputable def g__law_rows_1 : GS := (gSeq (gFor (gIt (gVar 0)) (gNm 2) (gSeq (gAsgO 3 (gLst gNilA)) (gSeq (gFor (gIl (gVar 1)) (gNm 4) (gExt 3 (gComp [none, some 4] (gRng1 (gVar 2)) (gNm 0) (gOp oAdd (gVar 1) (gTupE (gConsA (gVar 0) gNilA)))))) (gFrz 3 (gAsg (gVar 3) (gNm 1)))))) (gRet (gVar 1)))
noncomputable def g__law_rows : GS := (gSeq (gAsg (gF (gLst (gConsA (gTupE gNilA) gNilA))) (gNm 1)) g__law_rows_1)
noncomputable def g__law_fraction_4 : GS := (gRet (gTupE (gConsA (gOp oDivW (gVar 0) (gVar 2)) (gConsA (gOp oDivW (gVar 1) (gVar 2)) gNilA))))
noncomputable def g__law_fraction_3 : GS := (gSeq (gWhile (gTest (gOp oGt (gVar 3) (gC (.int 0)))) (gPar 2 3 (gVar 3) (gOp oMod (gVar 2) (gVar 3)))) g__law_fraction_4)
noncomputable def g__law_fraction_1 : GS := (gSeq (gAsg (gCallB cAbs (gConsA (gVar 0) gNilA)) (gNm 2)) (gSeq (gAsg (gVar 1) (gNm 3)) g__law_fraction_3))
noncomputable def g__law_fraction : GS := (gSeq (gIfS (gTest (gOp oLt (gVar 1) (gC (.int 0)))) (gSeq (gAsg (gNeg (gVar 0)) (gNm 0)) (gAsg (gNeg (gVar 1)) (gNm 1))) gNext) g__law_fraction_1)
noncomputable def g__law_more : GS := (gRet (gOp oGt (gOp oMulW (gOp gIx (gVar 0) (gC (.int 0))) (gOp gIx (gVar 1) (gC (.int 1)))) (gOp oMulW (gOp gIx (gVar 1) (gC (.int 0))) (gOp gIx (gVar 0) (gC (.int 1))))))
noncomputable def g__law_stray : GS := (gRet (gOp oAdd (gOp oAdd (gSlT (gVar 0) gNoP (gPart (gVar 1))) (gTupE (gConsA (gVar 2) gNilA))) (gSlT (gVar 0) (gPart (gOp oAdd (gVar 1) (gC (.int 1)))) gNoP)))
noncomputable def g_lowest_2 : GS := (gRet (gTupE (gConsA (gOp oDivW (gVar 0) (gVar 3)) (gConsA (gOp oDivW (gVar 1) (gVar 3)) gNilA))))
noncomputable def g_lowest_1 : GS := (gSeq (gAsg (gOp oMulW (gVar 2) (gCallD F_common_divisor (gConsA (gVar 0) (gConsA (gVar 1) gNilA)))) (gNm 3)) g_lowest_2)
noncomputable def g_lowest : GS := (gSeq (gAsg (gOp oDivW (gVar 1) (gCallB cAbs (gConsA (gVar 1) gNilA))) (gNm 2)) g_lowest_1)
noncomputable def g_paid : GS := (gRet (gOp gIx (gOp gIx (gVar 0) (gC (.int 1))) (gCallD F_place_of (gConsA (gVar 1) (gConsA (gOp gIx (gVar 0) (gC (.int 0))) gNilA)))))
noncomputable def g_state_behind : GS := (gRet (gOp gIx (gOp gIx (gOp gIx (gVar 1) (gVar 2)) (gC (.int 1))) (gCallD F_place_of (gConsA (gVar 3) (gConsA (gOp gIx (gVar 0) (gC (.int 0))) gNilA)))))
noncomputable def g__law_meeting_6 : GS := (gFrz 3 (gRet (gTupE (gConsA (gVar 1) (gConsA (gCallB cTuple (gConsA (gVar 3) gNilA)) gNilA)))))
noncomputable def g__law_meeting_5 : GS := (gSeq (gIfS (gTest (gOp oEq (gOp oMod (gVar 0) (gC (.int 9))) (gC (.int 0)))) (gSeq (gAsg (gF (gCallF cSorted (gConsA (gF (gComp [none, some 0] (gRng1 (gC (.int 4))) (gNm 0) (gOp oSub (gCallD F__law_mix (gConsA (gOp oAdd (gVar 1) (gVar 0)) (gConsA (gC (.int 9931)) (gConsA (gC (.int 19)) gNilA)))) (gC (.int 9))))) gNilA))) (gNm 7)) (gAsgO 3 (gLst (gConsA (gTupE (gConsA (gOp gIx (gVar 7) (gC (.int 2))) (gConsA (gOp gIx (gVar 7) (gC (.int 2))) gNilA))) (gConsA (gTupE (gConsA (gOp gIx (gVar 7) (gC (.int 0))) (gConsA (gOp gIx (gVar 7) (gC (.int 3))) gNilA))) (gConsA (gTupE (gConsA (gOp gIx (gVar 7) (gC (.int 3))) (gConsA (gOp gIx (gVar 7) (gC (.int 0))) gNilA))) (gConsA (gTupE (gConsA (gOp gIx (gVar 7) (gC (.int 1))) (gConsA (gOp gIx (gVar 7) (gC (.int 1))) gNilA))) gNilA))))))) gNext) g__law_meeting_6)
noncomputable def g__law_meeting_4 : GS := (gSeq (gFor (gRng1 (gCallB cLen (gConsA (gCallD F__law_rows (gConsA (gVar 1) gNilA)) gNilA))) (gNm 4) (gSeq (gAsg (gOp oAdd (gVar 0) (gOp oMul (gC (.int 13)) (gVar 4))) (gNm 5)) (gSeq (gAsgO 6 (gComp [none, some 2, some 5] (gRng1 (gCallB cLen (gConsA (gVar 1) gNilA))) (gNm 0) (gOp oSub (gOp oAdd (gCallD F__law_mix (gConsA (gOp oAdd (gVar 2) (gOp oMul (gC (.int 5)) (gVar 0))) (gConsA (gC (.int 9941)) (gConsA (gOp oSub (gOp oMul (gC (.int 2)) (gVar 1)) (gC (.int 1))) gNilA)))) (gC (.int 1))) (gVar 1)))) (gFrz 6 (gApp 3 (gCallB cTuple (gConsA (gVar 6) gNilA))))))) g__law_meeting_5)
noncomputable def g__law_meeting_2 : GS := (gSeq (gAsg (gOp gIx (gF (gLst (gConsA (gC (.int 2)) (gConsA (gC (.int 5)) (gConsA (gC (.int 10)) gNilA))))) (gCallD F__law_mix (gConsA (gVar 0) (gConsA (gC (.int 9949)) (gConsA (gC (.int 3)) gNilA))))) (gNm 2)) (gSeq (gAsgO 3 (gLst gNilA)) g__law_meeting_4))
noncomputable def g__law_meeting_1 : GS := (gSeq (gIfS (gTest (gOp oEq (gOp oMod (gVar 0) (gC (.int 3))) (gC (.int 0)))) (gAsg (gTupE (gConsA (gC (.int 2)) (gConsA (gC (.int 2)) gNilA))) (gNm 1)) gNext) g__law_meeting_2)
noncomputable def g__law_meeting : GS := (gSeq (gAsg (gCallB cTuple (gConsA (gF (gComp [none, some 0] (gRng1 (gOp oAdd (gC (.int 2)) (gOp oDiv (gCallD F__law_mix (gConsA (gVar 0) (gConsA (gC (.int 9967)) (gConsA (gC (.int 4)) gNilA)))) (gC (.int 3))))) (gNm 0) (gOp oAdd (gC (.int 1)) (gCallD F__law_mix (gConsA (gOp oAdd (gVar 1) (gOp oMul (gC (.int 7)) (gVar 0))) (gConsA (gC (.int 9973)) (gConsA (gC (.int 3)) gNilA))))))) gNilA)) (gNm 1)) g__law_meeting_1)
noncomputable def g__law_patience_3 : GS := (gSeq (gFor (gRng2 (gC (.int 2)) (gC (.int 30))) (gNm 3) (gWhile (gAnd (gTest (gOp oEq (gOp oMod (gVar 2) (gVar 3)) (gC (.int 0)))) (gTest (gOp oEq (gOp oMod (gVar 1) (gVar 3)) (gC (.int 0))))) (gSeq (gAsg (gOp oDiv (gVar 2) (gVar 3)) (gNm 2)) (gAsg (gOp oDiv (gVar 1) (gVar 3)) (gNm 1))))) (gRet (gTupE (gConsA (gVar 2) (gConsA (gVar 1) gNilA)))))
noncomputable def g__law_patience_2 : GS := (gSeq (gIfS (gTest (gOp oEq (gOp oMod (gVar 0) (gC (.int 4))) (gC (.int 0)))) (gAsg (gOp oSub (gVar 1) (gC (.int 1))) (gNm 2)) gNext) g__law_patience_3)
noncomputable def g__law_patience_1 : GS := (gSeq (gAsg (gOp oAdd (gC (.int 1)) (gCallD F__law_mix (gConsA (gVar 0) (gConsA (gC (.int 9923)) (gConsA (gOp oSub (gVar 1) (gC (.int 1))) gNilA))))) (gNm 2)) g__law_patience_2)
noncomputable def g__law_patience : GS := (gSeq (gAsg (gOp oAdd (gC (.int 2)) (gCallD F__law_mix (gConsA (gVar 0) (gConsA (gC (.int 9929)) (gConsA (gC (.int 29)) gNilA))))) (gNm 1)) g__law_patience_1)
noncomputable def g__law_row_1 : GS := (gRet (gOp gIx (gVar 2) (gCallD F__law_mix (gConsA (gVar 1) (gConsA (gC (.int 9907)) (gConsA (gCallB cLen (gConsA (gVar 2) gNilA)) gNilA))))))
noncomputable def g__law_row : GS := (gSeq (gAsg (gCallD F__law_rows (gConsA (gOp gIx (gVar 0) (gC (.int 0))) gNilA)) (gNm 2)) g__law_row_1)
noncomputable def g__law_cells : GS := (gRet (gF (gComp [none, some 0, some 1] (gRng1 (gC (.int 4))) (gNm 0) (gCallD F__law_cell (gConsA (gVar 1) (gConsA (gOp oAdd (gVar 2) (gVar 0)) gNilA))))))
noncomputable def g__law_later_1 : GS := (gRet (gCallD F__law_fraction (gConsA (gOp oAdd (gOp oMulW (gOp oMulW (gOp oSub (gVar 4) (gVar 3)) (gVar 0)) (gOp gIx (gVar 1) (gC (.int 1)))) (gOp oMulW (gVar 3) (gOp gIx (gVar 1) (gC (.int 0))))) (gConsA (gOp oMulW (gVar 4) (gOp gIx (gVar 1) (gC (.int 1)))) gNilA))))
noncomputable def g__law_later : GS := (gSeq (gAsg (gVar 2) (gNm2 3 4)) g__law_later_1)
noncomputable def g__law_paid : GS := (gRet (gOp gIx (gOp gIx (gVar 0) (gC (.int 1))) (gIndex (gCallD F__law_rows (gConsA (gOp gIx (gVar 0) (gC (.int 0))) gNilA)) (gVar 1))))
noncomputable def g_pays_of : GS := (gRet (gF (gComp [none, some 2, some 0] (gIs (gVar 1)) (gNm 0) (gOp gIx (gCallD F_paid (gConsA (gVar 2) (gConsA (gVar 0) gNilA))) (gVar 1)))))
noncomputable def g_worth_of_pays_2 : GS := (gRet (gCallD F_lowest (gConsA (gOp gIx (gVar 3) (gC (.int 0))) (gConsA (gOp gIx (gVar 3) (gC (.int 1))) gNilA))))
noncomputable def g_worth_of_pays_1 : GS := (gSeq (gFor (gRev (gVar 0)) (gNm 4) (gAsg (gCallD F_now_and_later (gConsA (gVar 4) (gConsA (gVar 3) (gConsA (gVar 2) gNilA)))) (gNm 3))) g_worth_of_pays_2)
noncomputable def g_worth_of_pays : GS := (gSeq (gAsg (gTupE (gConsA (gCallD F_weighed (gConsA (gVar 1) (gConsA (gVar 2) gNilA))) (gConsA (gCallD F_weighed (gConsA (gF (gRepL (gLst (gConsA (gC (.int 1)) gNilA)) (gCallB cLen (gConsA (gVar 1) gNilA)))) (gConsA (gVar 2) gNilA))) gNilA))) (gNm 3)) g_worth_of_pays_1)
noncomputable def g_better_deed_3 : GS := (gSeq (gFor (gRng1 (gOp gIx (gOp gIx (gVar 0) (gC (.int 0))) (gVar 3))) (gNm 9) (gSeq (gAsg (gCallD F_with_deed (gConsA (gVar 6) (gConsA (gVar 3) (gConsA (gVar 9) gNilA)))) (gNm 10)) (gSeq (gAsg (gOp gIx (gVar 4) (gCallD F_state_behind (gConsA (gVar 0) (gConsA (gVar 1) (gConsA (gVar 2) (gConsA (gVar 10) gNilA)))))) (gNm 11)) (gSeq (gAsg (gCallD F_now_and_later (gConsA (gOp gIx (gCallD F_paid (gConsA (gVar 0) (gConsA (gVar 10) gNilA))) (gVar 3)) (gConsA (gVar 11) (gConsA (gVar 5) gNilA)))) (gNm 12)) (gIfS (gTru (gCallD F_is_less (gConsA (gVar 8) (gConsA (gVar 12) gNilA)))) (gSeq (gAsg (gVar 9) (gNm 7)) (gAsg (gVar 12) (gNm 8))) gNext))))) (gRet (gVar 7)))
noncomputable def g_better_deed_2 : GS := (gSeq (gAsg (gOp gIx (gVar 4) (gVar 2)) (gNm 8)) g_better_deed_3)
noncomputable def g_better_deed_1 : GS := (gSeq (gAsg (gOp gIx (gVar 6) (gVar 3)) (gNm 7)) g_better_deed_2)
noncomputable def g_better_deed : GS := (gSeq (gAsg (gOp gIx (gOp gIx (gVar 1) (gVar 2)) (gC (.int 0))) (gNm 6)) g_better_deed_1)
noncomputable def g__law_plan_2 : GS := (gSeq (gFor (gRng1 (gVar 3)) (gNm 5) (gSeq (gAsg (gOp oAdd (gOp gIx (gVar 1) (gOp oAdd (gC (.int 1)) (gOp oMod (gVar 5) (gC (.int 3))))) (gOp oMul (gC (.int 11)) (gVar 5))) (gNm 6)) (gSeq (gAsgO 7 (gComp [none, some 3, some 6] (gRng1 (gCallB cLen (gConsA (gCallD F__law_rows (gConsA (gOp gIx (gVar 0) (gC (.int 0))) gNilA)) gNilA))) (gNm 0) (gCallD F__law_mix (gConsA (gOp oAdd (gVar 2) (gOp oMul (gC (.int 3)) (gVar 0))) (gConsA (gC (.int 9887)) (gConsA (gVar 1) gNilA)))))) (gFrz 7 (gApp 4 (gTupE (gConsA (gCallD F__law_row (gConsA (gVar 0) (gConsA (gVar 6) gNilA))) (gConsA (gCallB cTuple (gConsA (gVar 7) gNilA)) gNilA)))))))) (gFrz 4 (gRet (gCallB cTuple (gConsA (gVar 4) gNilA)))))
noncomputable def g__law_plan : GS := (gSeq (gAsg (gOp oAdd (gC (.int 1)) (gCallD F__law_mix (gConsA (gOp gIx (gVar 1) (gC (.int 0))) (gConsA (gC (.int 9901)) (gConsA (gVar 2) gNilA))))) (gNm 3)) (gSeq (gAsgO 4 (gLst gNilA)) g__law_plan_2))
noncomputable def g__law_move_1 : GS := (gRet (gTupE (gConsA (gOp gIx (gCallD F__law_paid (gConsA (gVar 0) (gConsA (gVar 5) gNilA))) (gVar 3)) (gConsA (gOp gIx (gOp gIx (gOp gIx (gVar 1) (gVar 2)) (gC (.int 1))) (gIndex (gCallD F__law_rows (gConsA (gOp gIx (gVar 0) (gC (.int 0))) gNilA)) (gVar 5))) gNilA))))
noncomputable def g__law_move : GS := (gSeq (gAsg (gCallD F__law_stray (gConsA (gOp gIx (gOp gIx (gVar 1) (gVar 2)) (gC (.int 0))) (gConsA (gVar 3) (gConsA (gVar 4) gNilA)))) (gNm 5)) g__law_move_1)
noncomputable def g_worth_of_1 : GS := (gSeq (gFor (gRng1 (gCallB cLen (gConsA (gOp gIx (gVar 0) (gC (.int 0))) gNilA))) (gNm 5) (gSeq (gAsg (gCallD F_pays_of (gConsA (gVar 0) (gConsA (gVar 1) (gConsA (gVar 5) gNilA)))) (gNm 6)) (gSeq (gAsg (gCallD F_pays_of (gConsA (gVar 0) (gConsA (gVar 2) (gConsA (gVar 5) gNilA)))) (gNm 7)) (gApp 4 (gCallD F_worth_of_pays (gConsA (gVar 6) (gConsA (gVar 7) (gConsA (gVar 3) gNilA)))))))) (gFrz 4 (gRet (gCallB cTuple (gConsA (gVar 4) gNilA)))))
noncomputable def g_worth_of : GS := (gSeq (gAsgO 4 (gLst gNilA)) g_worth_of_1)
noncomputable def g_better_deeds : GS := (gRet (gCallB cTuple (gConsA (gF (gComp [none, some 0, some 1, some 2, some 3, some 4] (gRng1 (gCallB cLen (gConsA (gVar 1) gNilA))) (gNm 0) (gCallD F_better_deed (gConsA (gVar 1) (gConsA (gVar 2) (gConsA (gVar 0) (gConsA (gVar 3) (gConsA (gVar 4) (gConsA (gVar 5) gNilA))))))))) gNilA)))
noncomputable def g__law_gains_1 : GS := (gSeq (gFor (gRng1 (gCallB cLen (gConsA (gVar 1) gNilA))) (gNm 5) (gFor (gEnumT (gOp gIx (gVar 0) (gC (.int 0)))) (gNm2 6 7) (gFor (gRng1 (gVar 7)) (gNm 8) (gSeq (gAsg (gCallD F__law_move (gConsA (gVar 0) (gConsA (gVar 1) (gConsA (gVar 5) (gConsA (gVar 6) (gConsA (gVar 8) gNilA)))))) (gNm2 9 10)) (gIfS (gTru (gCallD F__law_more (gConsA (gCallD F__law_later (gConsA (gVar 9) (gConsA (gOp gIx (gOp gIx (gVar 3) (gVar 10)) (gVar 6)) (gConsA (gVar 2) gNilA)))) (gConsA (gOp gIx (gOp gIx (gVar 3) (gVar 5)) (gVar 6)) gNilA)))) (gApp 4 (gTupE (gConsA (gVar 5) (gConsA (gVar 6) (gConsA (gVar 8) gNilA))))) gNext))))) (gFrz 4 (gRet (gVar 4))))
noncomputable def g__law_gains : GS := (gSeq (gAsgO 4 (gLst gNilA)) g__law_gains_1)
noncomputable def g__law_best_right_1 : GS := (gSeq (gFor (gRng1 (gCallB cLen (gConsA (gVar 1) gNilA))) (gNm 6) (gSeq (gAsgO 7 (gLst gNilA)) (gSeq (gFor (gRng1 (gOp gIx (gOp gIx (gVar 0) (gC (.int 0))) (gVar 2))) (gNm 8) (gSeq (gAsg (gCallD F__law_move (gConsA (gVar 0) (gConsA (gVar 1) (gConsA (gVar 6) (gConsA (gVar 2) (gConsA (gVar 8) gNilA)))))) (gNm2 9 10)) (gApp 7 (gCallD F__law_later (gConsA (gVar 9) (gConsA (gOp gIx (gVar 4) (gVar 10)) (gConsA (gVar 3) gNilA))))))) (gFrz 7 (gSeq (gIfS (gOr (gNot (gTest (gChain oLe oLt (gC (.int 0)) (gOp gIx (gVar 5) (gVar 6)) (gCallB cLen (gConsA (gVar 7) gNilA))))) (gTest (gOp oNe (gOp gIx (gVar 7) (gOp gIx (gVar 5) (gVar 6))) (gOp gIx (gVar 4) (gVar 6))))) (gRet (gC (.bl false))) gNext) (gIfS (gTru (gF (gCompIf [none, some 4, some 6] (gIl (gVar 7)) (gNm 0) (gTru (gCallD F__law_more (gConsA (gVar 0) (gConsA (gOp gIx (gVar 1) (gVar 2)) gNilA)))) (gVar 0)))) (gRet (gC (.bl false))) gNext)))))) (gRet (gC (.bl true))))
noncomputable def g__law_best_right : GS := (gSeq (gIfS (gOr (gNot (gTru (gInst "tuple" (gVar 4)))) (gOr (gTest (gOp oNe (gCallB cLen (gConsA (gVar 4) gNilA)) (gCallB cLen (gConsA (gVar 1) gNilA)))) (gTest (gOp oNe (gCallB cLen (gConsA (gVar 5) gNilA)) (gCallB cLen (gConsA (gVar 1) gNilA)))))) (gRet (gC (.bl false))) gNext) g__law_best_right_1)
noncomputable def g_worths_from_4 : GS := (gFrz 6 (gRet (gCallD F_worth_of (gConsA (gVar 0) (gConsA (gF (gSlL (gVar 6) gNoP (gPart (gDget 4 (gKI (gVar 5)))))) (gConsA (gF (gSlL (gVar 6) (gPart (gDget 4 (gKI (gVar 5)))) gNoP)) (gConsA (gVar 3) gNilA)))))))
noncomputable def g_worths_from_3 : GS := (gDfrz 4 (gSeq (gAsgO 6 (gComp [none, some 1] (gDkeys 4) (gNm 0) (gOp gIx (gOp gIx (gVar 1) (gVar 0)) (gC (.int 0))))) g_worths_from_4))
noncomputable def g_worths_from_2 : GS := (gSeq (gWhile (gDnotin 4 (gKI (gVar 5))) (gSeq (gDput 4 (gKI (gVar 5)) (gDlen 4)) (gAsg (gCallD F_state_behind (gConsA (gVar 0) (gConsA (gVar 1) (gConsA (gVar 5) (gConsA (gOp gIx (gOp gIx (gVar 1) (gVar 5)) (gC (.int 0))) gNilA))))) (gNm 5)))) g_worths_from_3)
noncomputable def g_worths_from : GS := (gSeq (gDnew 4 (.k [])) (gSeq (gAsg (gVar 2) (gNm 5)) g_worths_from_2))
noncomputable def g_worths : GS := (gRet (gCallB cTuple (gConsA (gF (gComp [none, some 0, some 1, some 2] (gRng1 (gCallB cLen (gConsA (gVar 1) gNilA))) (gNm 0) (gCallD F_worths_from (gConsA (gVar 1) (gConsA (gVar 2) (gConsA (gVar 0) (gConsA (gVar 3) gNilA))))))) gNilA)))
noncomputable def g_gain_1 : GS := (gSeq (gFor (gRng1 (gCallB cLen (gConsA (gOp gIx (gVar 0) (gC (.int 0))) gNilA))) (gNm 4) (gSeq (gAsg (gCallD F_better_deeds (gConsA (gVar 0) (gConsA (gVar 1) (gConsA (gVar 4) (gConsA (gCallD F_worths_of_hand (gConsA (gVar 3) (gConsA (gVar 4) gNilA))) (gConsA (gVar 2) gNilA)))))) (gNm 5)) (gFor (gEnumT (gVar 5)) (gNm2 6 7) (gIfS (gTest (gOp oNe (gVar 7) (gOp gIx (gOp gIx (gOp gIx (gVar 1) (gVar 6)) (gC (.int 0))) (gVar 4)))) (gRet (gTupE (gConsA (gVar 6) (gConsA (gVar 4) (gConsA (gVar 7) gNilA))))) gNext)))) (gRet (gC .non)))
noncomputable def g_gain : GS := (gSeq (gAsg (gCallD F_worths (gConsA (gVar 0) (gConsA (gVar 1) (gConsA (gVar 2) gNilA)))) (gNm 3)) g_gain_1)
noncomputable def g_bent_for_1 : GS := (gWhile (gTru (gC (.bl true))) (gSeq (gAsg (gCallD F_worths_of_hand (gConsA (gCallD F_worths (gConsA (gVar 0) (gConsA (gVar 4) (gConsA (gVar 3) gNilA)))) (gConsA (gVar 2) gNilA))) (gNm 5)) (gSeq (gAsg (gCallD F_better_deeds (gConsA (gVar 0) (gConsA (gVar 4) (gConsA (gVar 2) (gConsA (gVar 5) (gConsA (gVar 3) gNilA)))))) (gNm 6)) (gSeq (gIfS (gTest (gOp oEq (gVar 6) (gCallD F_deeds_of_hand (gConsA (gVar 4) (gConsA (gVar 2) gNilA))))) (gRet (gVar 4)) gNext) (gAsg (gCallB cTuple (gConsA (gF (gComp [none, none, some 2] (gZip (gVar 4) (gVar 6)) (gNm2 0 1) (gTupE (gConsA (gCallD F_with_deed (gConsA (gOp gIx (gVar 0) (gC (.int 0))) (gConsA (gVar 2) (gConsA (gVar 1) gNilA)))) (gConsA (gOp gIx (gVar 0) (gC (.int 1))) gNilA))))) gNilA)) (gNm 4))))))
noncomputable def g_bent_for : GS := (gSeq (gAsg (gVar 1) (gNm 4)) g_bent_for_1)
noncomputable def g_holds : GS := (gRet (gOp oIs2 (gCallR F_gain (gConsA (gVar 0) (gConsA (gVar 1) (gConsA (gVar 2) gNilA)))) (gC .non)))
noncomputable def g_best_worths_1 : GS := (gRet (gCallD F_worths_of_hand (gConsA (gCallD F_worths (gConsA (gVar 0) (gConsA (gVar 4) (gConsA (gVar 3) gNilA)))) (gConsA (gVar 2) gNilA))))
noncomputable def g_best_worths : GS := (gSeq (gAsg (gCallR F_bent_for (gConsA (gVar 0) (gConsA (gVar 1) (gConsA (gVar 2) (gConsA (gVar 3) gNilA))))) (gNm 4)) g_best_worths_1)
noncomputable def g_best_strays : GS := (gRet (gCallD F_deeds_of_hand (gConsA (gCallR F_bent_for (gConsA (gVar 0) (gConsA (gVar 1) (gConsA (gVar 2) (gConsA (gVar 3) gNilA))))) (gConsA (gVar 2) gNilA))))
noncomputable def g_law_f2 : GS := (gSeq (gAsg (gCallR F_best_worths (gConsA (gVar 2) (gConsA (gVar 3) (gConsA (gVar 10) (gConsA (gVar 4) gNilA))))) (gNm 11)) (gSeq (gAsg (gCallR F_best_strays (gConsA (gVar 2) (gConsA (gVar 3) (gConsA (gVar 10) (gConsA (gVar 4) gNilA))))) (gNm 12)) (gSeq (gIfS (gNot (gTru (gCallD F__law_best_right (gConsA (gVar 2) (gConsA (gVar 3) (gConsA (gVar 10) (gConsA (gVar 4) (gConsA (gVar 11) (gConsA (gVar 12) gNilA))))))))) (gRet (gC (.bl false))) gNext) (gAsg (gAndV (gVar 9) (gOp oEq (gVar 11) (gCallB cTuple (gConsA (gF (gComp [none, some 10] (gIt (gVar 5)) (gNm 0) (gOp gIx (gVar 0) (gVar 1)))) gNilA)))) (gNm 9)))))
noncomputable def g_law_f1 : GS := (gSeq (gAsg (gCallR F__law_meeting (gConsA (gCallD F__law_cell (gConsA (gVar 0) (gConsA (gOp oMul (gC (.int 5)) (gVar 1)) gNilA))) gNilA)) (gNm 2)) (gSeq (gAsg (gCallR F__law_plan (gConsA (gVar 2) (gConsA (gCallD F__law_cells (gConsA (gVar 0) (gConsA (gOp oAdd (gOp oMul (gC (.int 5)) (gVar 1)) (gC (.int 1))) gNilA))) (gConsA (gC (.int 5)) gNilA)))) (gNm 3)) (gSeq (gAsg (gCallD F__law_patience (gConsA (gCallD F__law_cell (gConsA (gVar 0) (gConsA (gOp oAdd (gC (.int 20)) (gVar 1)) gNilA))) gNilA)) (gNm 4)) (gSeq (gAsg (gCallD F_worths (gConsA (gVar 2) (gConsA (gVar 3) (gConsA (gVar 4) gNilA)))) (gNm 5)) (gSeq (gAsg (gCallD F__law_gains (gConsA (gVar 2) (gConsA (gVar 3) (gConsA (gVar 4) (gConsA (gVar 5) gNilA))))) (gNm 6)) (gSeq (gAsg (gCallR F_gain (gConsA (gVar 2) (gConsA (gVar 3) (gConsA (gVar 4) gNilA)))) (gNm 7)) (gSeq (gAsg (gCallD F_holds (gConsA (gVar 2) (gConsA (gVar 3) (gConsA (gVar 4) gNilA)))) (gNm 8)) (gSeq (gIfS (gOr (gNot (gTru (gInst "bool" (gVar 8)))) (gOr (gTest (gOp oNe (gVar 8) (gNotT (gVar 6)))) (gTest (gOp oNe (gOp oIs2 (gVar 7) (gC .non)) (gVar 8))))) (gRet (gC (.bl false))) gNext) (gSeq (gIfS (gAnd (gTest (gOp oIsnot2 (gVar 7) (gC .non))) (gTest (gOp oNotin (gVar 7) (gVar 6)))) (gRet (gC (.bl false))) gNext) (gSeq (gAsg (gC (.bl true)) (gNm 9)) (gSeq (gFor (gRng1 (gCallB cLen (gConsA (gOp gIx (gVar 2) (gC (.int 0))) gNilA))) (gNm 10) g_law_f2) (gIfS (gTest (gOp oNe (gVar 9) (gVar 8))) (gRet (gC (.bl false))) gNext))))))))))))
noncomputable def g_law : GS := (gSeq (gFor (gRng1 (gC (.int 3))) (gNm 1) g_law_f1) (gRet (gC (.bl true))))
end L2
namespace L2
open PySem PySem.Spec PyProof.Rows
theorem ends_le {n : Nat} (h : n ≤ 1000) : n ≤ sizeLine := Nat.le_of_lt (small1000 h)
theorem isSub_int (d : D) : isSub (tyD d) "int" = (match d with
  | .int _ => true
  | .bl _ => true
  | _ => false) := by cases d <;> rfl
theorem isSub_bool (d : D) : isSub (tyD d) "bool" = (match d with
  | .bl _ => true
  | _ => false) := by cases d <;> rfl
theorem isSub_tuple (d : D) : isSub (tyD d) "tuple" = (match d with
  | .tup _ => true
  | _ => false) := by cases d <;> rfl
theorem oMulI {i j : Int} {Q : D → Prop} : oMul (.int i) (.int j) Q = (CMul i j ∧ Q (.int (i * j))) := rfl
end L2
local macro_rules | `(tactic| simp_all_arith!) => `(tactic| exact ⟨rfl, rfl, rfl, by decide +kernel, rfl, by decide +kernel, by decide +kernel⟩)
local macro_rules | `(tactic| simp_arith! only [$as,*]) => `(tactic| simp only [L2.gRet, L2.gAndV, L2.gOrV, L2.gNotV, L2.gInst, L2.isSub_int, L2.isSub_bool, L2.isSub_tuple, L2.gVar, L2.gSeq, L2.gAsg, L2.gNm, L2.gC, L2.gF, L2.gLst, L2.gConsA, L2.gNilA, L2.gTupE, L2.gCallB, L2.gCallF, L2.gCallD, L2.gCallR, L2.gOpt, L2.gOptP, L2.cLen, L2.cAbs, L2.cAll, L2.cTuple, L2.cList, L2.gOp, L2.oInt, L2.oIntC, L2.oAdd, L2.oMulI, L2.oNe, L2.oEq, L2.oIs, L2.oIsnot, L2.eqD_int, L2.dep, L2.gIx, L2.gChain, L2.gChain3, L2.gTest, L2.isBl, L2.gIfS, L2.gIt, L2.gIl, L2.gRng1, L2.gRng2, L2.gApp, L2.gExt, L2.gFrz, L2.gAsgO, L2.gNext, L2.gTru, L2.gNot, L2.gAnd, L2.gOr, L2.gPart, L2.gNoP, L2.gSlT, L2.gCatL, L2.gNeg, L2.gNm2, L2.gZip, L2.gNotT, L2.truD, L2.gPeek, L2.gPeekT, L2.gPeekF, L2.gEnumT, L2.gEnumL, L2.cInt, L2.gPar, L2.gIfE, eq_self, if_true, ↓reduceIte, Bool.false_eq_true, if_false, List.getElem?_cons_zero, List.getElem?_cons_succ, List.set_cons_zero, List.set_cons_succ, $as,*])
local macro_rules | `(tactic| simp_arith only [$as,*]) => `(tactic| simp only [L2.gRet, L2.gAndV, L2.gOrV, L2.gNotV, L2.gInst, L2.isSub_int, L2.isSub_bool, L2.isSub_tuple, L2.gVar, L2.gSeq, L2.gAsg, L2.gNm, L2.gC, L2.gF, L2.gLst, L2.gConsA, L2.gNilA, L2.gTupE, L2.gCallB, L2.gCallF, L2.gCallD, L2.gCallR, L2.gOpt, L2.gOptP, L2.cLen, L2.cAbs, L2.cAll, L2.cTuple, L2.cList, L2.gOp, L2.oInt, L2.oIntC, L2.oAdd, L2.oMul, L2.oNe, L2.oEq, L2.oIs, L2.oIsnot, L2.eqD, L2.dep, L2.gIx, L2.gChain, L2.gChain3, L2.gTest, L2.isBl, L2.gIfS, L2.gIt, L2.gIl, L2.gRng1, L2.gRng2, L2.gApp, L2.gExt, L2.gFrz, L2.gAsgO, L2.gNext, L2.gTru, L2.gNot, L2.gAnd, L2.gOr, L2.gPart, L2.gNoP, L2.gSlT, L2.gCatL, L2.gNeg, L2.gNm2, L2.gZip, L2.gNotT, L2.truD, L2.gPeek, L2.gPeekT, L2.gPeekF, L2.gEnumT, L2.gEnumL, L2.cInt, L2.gPar, L2.gIfE, eq_self, if_true, ↓reduceIte, Bool.false_eq_true, if_false, List.getElem?_cons_zero, List.getElem?_cons_succ, List.set_cons_zero, List.set_cons_succ, $as,*])
namespace L2
open PySem PySem.Spec PyProof.Rows
abbrev retD (d : D) : DEnds := { nx := fun _ => d = .non, rt := fun r => r = d }
theorem rowStep_take (R : List (List Int)) (n : Int) (j : Nat) (h : j < R.length) : rowStep (R.take (j + 1)) n = rowStep (R.take j) n ++ (List.range n.toNat).map fun (k : Nat) => R[j] ++ [(k : Int)] := by
  rw [List.take_succ, List.getElem?_eq_getElem h, Option.toList_some, rowStep_append, rowStep_one]
theorem rowsL_take (ns : List Int) (i : Nat) (h : i < ns.length) : rowsL (ns.take (i + 1)) = rowStep (rowsL (ns.take i)) ns[i] := by
  rw [List.take_succ, List.getElem?_eq_getElem h, Option.toList_some, rowsL_snoc]
theorem getm_map {α β : Type} {f : α → β} {l : List α} {i : Nat} {d : β} (e : (l.map f)[i]? = some d) : ∃ h : i < l.length, d = f l[i] := by
  rw [List.getElem?_map] at e
  cases e2 : l[i]? with
  | none => rw [e2] at e; cases e
  | some x =>
    rw [e2] at e
    obtain ⟨h, e3⟩ := List.getElem?_eq_some_iff.mp e2
    cases e
    exact ⟨h, by rw [e3]⟩
theorem row_facts {ns : List Int} (ho : okDeeds ns = true) {i : Nat} (hi : i < ns.length) : 1 ≤ ns[i] ∧ ns[i] ≤ 3 ∧ (rowsL (ns.take i)).length ≤ 27 ∧ ∀ r ∈ rowsL (ns.take i), r.length ≤ 3 := by
  obtain ⟨m1, m2⟩ := okDeeds_mem ho
  have h1 := m2 ns[i] (List.getElem_mem hi)
  refine ⟨h1.1, h1.2, (rows_len (okDeeds_take ho i)).2, fun r hr => ?_⟩
  rw [(rows_row hr).1, List.length_take]
  omega
abbrev retP (p : D → Prop) : DEnds := { nx := fun _ => p .non, rt := p }
theorem mix_nn {c p m : Int} (h : 0 < m) : 0 ≤ mix c p m := Int.emod_nonneg _ (by omega)
theorem mix_lt {c p m : Int} (h : 0 < m) : mix c p m < m := Int.emod_lt_of_pos _ h
theorem Fmix {c p m : Int} (hp : 0 < p) (hm : 0 < m) : F__law_mix [.int c, .int p, .int m] = some (.int (mix c p m)) := if_pos ⟨hp, hm⟩
theorem okD {ns : List Int} (h1 : ns.length ≤ 3) (h2 : ∀ n ∈ ns, 1 ≤ n ∧ n ≤ 3) : okDeeds ns = true := by
  unfold okDeeds
  rw [Bool.and_eq_true, decide_eq_true_eq, List.all_eq_true]
  exact ⟨h1, fun n hn => by simpa using h2 n hn⟩
abbrev meetP (c : Int) : D → Prop := fun d => ∃ ns pay, d = meetD ns pay ∧ MeetOk ns pay ∧ (c % 3 = 0 → ns = [2, 2])
theorem rangeD_len (a : Int) (n : Nat) : (rangeD a n).length = n := by simp [rangeD]
theorem Frows {ns : List Int} (ho : okDeeds ns = true) : F__law_rows [dInts ns] = some (.lst ((rowsL ns).map dInts)) := onDeeds_of _ ho
def encS (s : List Int × List Int) : D := .tup [dInts s.1, dInts s.2]
theorem den_ne (q : Rat) : ((q.den : Int) : Rat) ≠ 0 := by
  intro z
  have z2 : ((q.den : Int) : Rat) = ((0 : Int) : Rat) := z
  rw [Rat.intCast_inj] at z2
  have := q.den_nz
  omega
theorem cut_set (r : List Int) (h : Nat) (k : Int) (hh : h < r.length) : r.take h ++ [k] ++ r.drop (h + 1) = r.set h k := by
  rw [List.set_eq_take_append_cons_drop, if_pos hh]
  simp
theorem cutD_to (r : List Int) (h : Nat) (hh : h < r.length) : cutD (r.map D.int) none (some (h : Int)) = (r.take h).map D.int := by
  unfold cutD
  rw [HT.sIx_none, HT.sIx_nat, List.length_map, Nat.min_eq_left (by omega), List.drop_zero, List.map_take]
  rfl
theorem cutD_from (r : List Int) (h : Nat) (hh : h ≤ r.length) : cutD (r.map D.int) (some (h : Int)) none = (r.drop h).map D.int := by
  unfold cutD
  rw [HT.sIx_none, HT.sIx_nat, List.length_map, Nat.min_eq_left hh, List.map_drop]
  refine List.take_of_length_le ?_
  rw [List.length_drop, List.length_map]
  omega
theorem vc__law_cell : ∀ ds d, F__law_cell ds = some d → g__law_cell (retD d) (dstart ["_law_script", "_law_k"] ds)
  | [.lst xs, .int k], d, h => by
    have h : (match intsD xs with
      | some ns => if 0 ≤ k then some (D.int (ns.getD k.toNat 0)) else none
      | none => none) = some d := h
    split at h
    · rename_i ns e
      split at h
      · rename_i hk
        cases h
        rw [ints_eq e]
        show g__law_cell _ [.im (.lst (ns.map D.int)), .im (.int k)]
        simp_arith only [g__law_cell, List.getElem?_cons_zero, List.getElem?_cons_succ, List.length_map]
        by_cases hl : k < (ns.length : Int)
        · have hl' : k.toNat < ns.length := by omega
          simp [hl, atI, ixN, hk, hl']
        · have hl' : ns.length ≤ k.toNat := by omega
          simp [hl, hl']
      · cases h
    · cases h
theorem vc__law_mix : ∀ ds d, F__law_mix ds = some d → g__law_mix (retD d) (dstart ["_law_cell_here", "_law_prime", "_law_many"] ds)
  | [.int c, .int p, .int m], d, h => by
    have h : (if 0 < p ∧ 0 < m then some (D.int (mix c p m)) else none) = some d := h
    split at h
    · rename_i hp
      cases h
      show g__law_mix _ [.im (.int c), .im (.int p), .im (.int m)]
      simp_arith only [g__law_mix, List.getElem?_cons_zero, List.getElem?_cons_succ, mix]
      exact ⟨Or.inr ⟨by decide, by decide⟩, hp.1, hp.2, trivial⟩
    · cases h
theorem vc__law_rows : ∀ ds d, F__law_rows ds = some d → g__law_rows (retD d) (dstart ["_law_deeds", "_law_found", "_law_many", "_law_more_here", "_law_row_here"] ds)
  | [.tup es], d, h => by
    obtain ⟨ns, rfl, ho, rfl⟩ := onDeeds_eq (show onDeeds es (fun ns => D.lst ((rowsL ns).map dInts)) = some d from h)
    show g__law_rows _ [.im (.tup (ns.map D.int)), .un, .un, .un, .un]
    simp_arith only [g__law_rows, g__law_rows_1, gFor]
    refine ⟨by decide, by decide, fun i δ => ∃ a b c, δ = [.im (.tup (ns.map D.int)), .im (.lst ((rowsL (ns.take i)).map dInts)), a, b, c], ⟨.un, .un, .un, rfl⟩, ?_, ?_⟩
    · rintro i d δ ed ⟨a, b, c, rfl⟩
      obtain ⟨hi, rfl⟩ := getm_map ed
      obtain ⟨f1, f2, f3, f4⟩ := row_facts ho hi
      generalize hR : rowsL (ns.take i) = R at *
      generalize hn : ns[i] = n at *
      simp_arith only []
      refine ⟨by decide, fun j δ => ∃ c, δ = [.im (.tup (ns.map D.int)), .im (.lst (R.map dInts)), .im (.int n), .ow ((rowStep (R.take j) n).map dInts), c], ⟨c, rfl⟩, ?_, ?_⟩
      · rintro j d δ ed ⟨c, rfl⟩
        obtain ⟨hj, rfl⟩ := getm_map ed
        have fr := f4 R[j] (List.getElem_mem hj)
        have hl : (rowStep (R.take j) n).length ≤ 81 := by
          rw [rowStep_length, List.length_take]
          exact Nat.le_trans (Nat.mul_le_mul (Nat.le_trans (Nat.min_le_right _ _) f3) (show n.toNat ≤ 3 by omega)) (by decide)
        simp_arith only [gComp]
        refine ⟨by omega, ?_, fun d => match d with
          | .int k => dInts (R[j] ++ [k])
          | _ => .non, fun d hd => ?_, ?_, ?_⟩
        · unfold rangeD
          rw [List.length_map, List.length_range]
          exact ends_le (by omega)
        · unfold rangeD at hd
          obtain ⟨k, hk, rfl⟩ := List.mem_map.mp hd
          simp_arith only [δc, List.map_cons, List.map_nil, dInts, List.length_cons, List.length_nil, List.length_map]
          exact ⟨by decide, ends_le (by omega), by rw [List.map_append]; rfl⟩
        · unfold rangeD
          simp only [List.length_map, List.length_range]
          exact ends_le (by omega)
        · refine ⟨.im (dInts R[j]), ?_⟩
          rw [rowStep_take R n j hj, List.map_append, List.map_map]
          simp [rangeD, Function.comp_def]
      · rintro δ ⟨c, rfl⟩
        simp_arith only []
        rw [rowsL_take ns i hi, hR, hn, List.length_map, List.take_length]
        exact ⟨_, _, _, rfl⟩
    · rintro δ ⟨a, b, c, rfl⟩
      simp_arith only []
      rw [List.length_map, List.take_length]
theorem meet_end (c : Int) (ns : List Int) (hns : ns.length ≤ 3) (h2 : 2 ≤ ns.length) (ho : okDeeds ns = true) (h3 : c % 3 = 0 → ns = [2, 2]) (w : Sl) (pay : List (List Int)) (hp : MeetOk ns pay) (a b d e : Sl) :
    g__law_meeting_5 (retP (meetP c)) [.im (.int c), .im (dInts ns), w, .ow (pay.map dInts), a, b, d, e] := by
  obtain ⟨l1, l2⟩ := rows_len ho
  have fin : ∀ (pay : List (List Int)) (a b d e : Sl), MeetOk ns pay → g__law_meeting_6 (retP (meetP c)) [.im (.int c), .im (dInts ns), w, .ow (pay.map dInts), a, b, d, e] := by
    intro pay a b d e hp
    simp_arith only [g__law_meeting_6, List.length_cons, List.length_nil]
    exact ⟨by decide, ns, pay, rfl, hp, h3⟩
  simp_arith only [g__law_meeting_5]
  refine ⟨by decide, by decide, ?_⟩
  by_cases e9 : c % 9 = 0
  · have e9' : (c % 9 == 0) = true := by simpa using e9
    simp_arith only [e9', gComp]
    have e3 : ns = [2, 2] := h3 (by omega)
    refine ⟨by decide, by decide, fun x => match x with
      | .int k => .int (mix (c + k) 9931 19 - 9)
      | _ => .non, fun x hx => ?_, ?_⟩
    · unfold rangeD at hx
      obtain ⟨k, hk, rfl⟩ := List.mem_map.mp hx
      simp_arith only [δc, List.map_cons, List.map_nil, Fmix (show (0 : Int) < 9931 by decide) (show (0 : Int) < 19 by decide)]
    · have em : (rangeD 0 (4 : Int).toNat).map (fun x => match x with
          | .int k => D.int (mix (c + k) 9931 19 - 9)
          | _ => .non) = ((List.range 4).map fun (k : Nat) => mix (c + (0 + (k : Int))) 9931 19 - 9).map D.int := by
        simp [rangeD, Function.comp_def]
      rw [em]
      simp only [cSorted, ints_map]
      refine ⟨by simp, fun ms hpm hso => ?_⟩
      have hlen : ms.length = 4 := by rw [hpm.length_eq]; simp
      have hb : ∀ x ∈ ms, -9 ≤ x ∧ x ≤ 9 := by
        intro x hx
        have hx' := hpm.mem_iff.mp hx
        obtain ⟨k, hk, rfl⟩ := List.mem_map.mp hx'
        have := mix_nn (c := c + (0 + (k : Int))) (p := 9931) (show (0 : Int) < 19 by decide)
        have := mix_lt (c := c + (0 + (k : Int))) (p := 9931) (show (0 : Int) < 19 by decide)
        omega
      match ms, hlen, hb with
      | [m0, m1, m2, m3], _, hb =>
        have i0 : atI ([m0, m1, m2, m3].map D.int) 0 = some (.int m0) := rfl
        have i1 : atI ([m0, m1, m2, m3].map D.int) 1 = some (.int m1) := rfl
        have i2 : atI ([m0, m1, m2, m3].map D.int) 2 = some (.int m2) := rfl
        have i3 : atI ([m0, m1, m2, m3].map D.int) 3 = some (.int m3) := rfl
        simp_arith only [i0, i1, i2, i3, List.length_cons, List.length_nil]
        refine ⟨by decide, by decide, by decide, by decide, by decide, ?_⟩
        have b0 := hb m0 (by simp)
        have b1 := hb m1 (by simp)
        have b2 := hb m2 (by simp)
        have b3 := hb m3 (by simp)
        refine fin [[m2, m2], [m0, m3], [m3, m0], [m1, m1]] _ _ _ _ ⟨h2, ho, ?_, ?_⟩
        · rw [e3]; rfl
        · intro r hr
          rw [e3]
          simp only [List.mem_cons, List.not_mem_nil, or_false] at hr
          rcases hr with rfl | rfl | rfl | rfl <;> refine ⟨rfl, fun x hx => ?_⟩ <;> simp only [List.mem_cons, List.not_mem_nil, or_false] at hx <;> rcases hx with rfl | rfl <;> assumption
  · have e9' : (c % 9 == 0) = false := by simpa using e9
    simp_arith only [e9']
    exact fin pay a b d e hp
theorem meet_rest (c : Int) (ns : List Int) (hns : ns.length ≤ 3) (h2 : 2 ≤ ns.length) (ho : okDeeds ns = true) (h3 : c % 3 = 0 → ns = [2, 2]) :
    g__law_meeting_2 (retP (meetP c)) [.im (.int c), .im (dInts ns), .un, .un, .un, .un, .un, .un] := by
  obtain ⟨l1, l2⟩ := rows_len ho
  have w0 := mix_nn (c := c) (p := 9949) (show (0 : Int) < 3 by decide)
  have w1 := mix_lt (c := c) (p := 9949) (show (0 : Int) < 3 by decide)
  have hw : ∃ wd : Int, atI [D.int 2, .int 5, .int 10] (mix c 9949 3) = some (.int wd) ∧ 2 ≤ wd ∧ wd ≤ 10 := by
    have : mix c 9949 3 = 0 ∨ mix c 9949 3 = 1 ∨ mix c 9949 3 = 2 := by omega
    rcases this with e | e | e <;> rw [e]
    · exact ⟨2, rfl, by decide, by decide⟩
    · exact ⟨5, rfl, by decide, by decide⟩
    · exact ⟨10, rfl, by decide, by decide⟩
  obtain ⟨wd, ew, wd1, wd2⟩ := hw
  simp_arith only [g__law_meeting_2, g__law_meeting_4, Fmix (show (0 : Int) < 9949 by decide) (show (0 : Int) < 3 by decide), ew, Frows ho, gFor, List.length_cons, List.length_nil]
  refine ⟨by decide, by decide, ⟨by omega, by rw [List.length_map]; omega⟩, fun i δ => ∃ a b d e, ∃ pay : List (List Int), δ = [.im (.int c), .im (dInts ns), .im (.int wd), .ow (pay.map dInts), a, b, d, e] ∧ pay.length = i ∧ i ≤ (rowsL ns).length ∧ ∀ r ∈ pay, r.length = ns.length ∧ ∀ x ∈ r, -9 ≤ x ∧ x ≤ 9, ⟨.un, .un, .un, .un, [], rfl, rfl, Nat.zero_le _, fun r hr => by simp at hr⟩, ?_, ?_⟩
  · rintro i x δ ed ⟨a, b, d, e, pay, rfl, hpl, hil, hpb⟩
    unfold rangeD at ed
    obtain ⟨hi, rfl⟩ := getm_map ed
    rw [List.length_range, List.length_map] at hi
    have hi' : i < (rowsL ns).length := by omega
    simp_arith only [gComp, dInts, List.length_map, List.getElem_range]
    generalize hsd : c + 13 * (0 + (i : Int)) = sd
    have m1 : 0 < 2 * wd - 1 := by omega
    refine ⟨Or.inl ⟨by decide, by decide⟩, ⟨by omega, by omega⟩, by rw [rangeD_len]; exact ends_le (by omega), fun y => match y with
      | .int k => .int (mix (sd + 5 * k) 9941 (2 * wd - 1) + 1 - wd)
      | _ => .non, fun y hy => ?_, ?_⟩
    · unfold rangeD at hy
      obtain ⟨k, hk, rfl⟩ := List.mem_map.mp hy
      simp_arith only [δc, List.map_cons, List.map_nil, Fmix (show (0 : Int) < 9941 by decide) m1]
      exact ⟨Or.inl ⟨by decide, by decide⟩, Or.inl ⟨by decide, by decide⟩, trivial⟩
    · have em : (rangeD 0 (ns.length : Int).toNat).map (fun y => match y with
          | .int k => D.int (mix (sd + 5 * k) 9941 (2 * wd - 1) + 1 - wd)
          | _ => .non) = ((List.range ns.length).map fun (k : Nat) => mix (sd + 5 * (0 + (k : Int))) 9941 (2 * wd - 1) + 1 - wd).map D.int := by
        simp [rangeD, Function.comp_def]
      rw [em]
      have hrow : ∀ x ∈ (List.range ns.length).map fun (k : Nat) => mix (sd + 5 * (0 + (k : Int))) 9941 (2 * wd - 1) + 1 - wd, -9 ≤ x ∧ x ≤ 9 := by
        intro x hx
        obtain ⟨k, hk, rfl⟩ := List.mem_map.mp hx
        have := mix_nn (c := sd + 5 * (0 + (k : Int))) (p := 9941) m1
        have := mix_lt (c := sd + 5 * (0 + (k : Int))) (p := 9941) m1
        omega
      have hrl : ((List.range ns.length).map fun (k : Nat) => mix (sd + 5 * (0 + (k : Int))) 9941 (2 * wd - 1) + 1 - wd).length = ns.length := by simp
      generalize ((List.range ns.length).map fun (k : Nat) => mix (sd + 5 * (0 + (k : Int))) 9941 (2 * wd - 1) + 1 - wd) = row at hrow hrl
      have e5 : pay.map dInts ++ [D.tup (row.map D.int)] = (pay ++ [row]).map dInts := by
        rw [List.map_append]
        rfl
      rw [e5]
      refine ⟨small1000 (by omega), _, _, _, _, _, rfl, by simp [hpl], hi', fun r hr => ?_⟩
      rcases List.mem_append.mp hr with hr | hr
      · exact hpb r hr
      · obtain rfl := List.mem_singleton.mp hr
        exact ⟨hrl, hrow⟩
  · rintro δ ⟨a, b, d, e, pay, rfl, hpl, hil, hpb⟩
    rw [rangeD_len, List.length_map] at hpl
    exact meet_end c ns hns h2 ho h3 _ pay ⟨h2, ho, by omega, hpb⟩ a b d e
theorem vc__law_meeting : ∀ ds p, F__law_meeting ds = some p → g__law_meeting (retP p) (dstart ["_law_cell_here", "_law_deeds", "_law_wide", "_law_pay", "_law_k", "_law_seed", "_law_one", "_law_few"] ds)
  | [.int c], p, h => by
    cases h
    show g__law_meeting _ [.im (.int c), .un, .un, .un, .un, .un, .un, .un]
    have a0 := mix_nn (c := c) (p := 9967) (show (0 : Int) < 4 by decide)
    have a1 := mix_lt (c := c) (p := 9967) (show (0 : Int) < 4 by decide)
    unfold g__law_meeting g__law_meeting_1
    simp_arith only [Fmix (show (0 : Int) < 9967 by decide) (show (0 : Int) < 4 by decide), gComp]
    have n1 : 2 ≤ 2 + mix c 9967 4 / 3 := by omega
    have n2 : 2 + mix c 9967 4 / 3 ≤ 3 := by omega
    generalize hn : 2 + mix c 9967 4 / 3 = n at *
    refine ⟨⟨by decide, by decide⟩, ⟨by omega, by omega⟩, by rw [rangeD_len]; exact ends_le (by omega), fun y => match y with
      | .int k => .int (1 + mix (c + 7 * k) 9973 3)
      | _ => .non, fun y hy => ?_, ?_⟩
    · unfold rangeD at hy
      obtain ⟨k, hk, rfl⟩ := List.mem_map.mp hy
      simp_arith only [δc, List.map_cons, List.map_nil, Fmix (show (0 : Int) < 9973 by decide) (show (0 : Int) < 3 by decide)]
      exact ⟨Or.inl ⟨by decide, by decide⟩, trivial⟩
    · have em : (rangeD 0 n.toNat).map (fun y => match y with
          | .int k => D.int (1 + mix (c + 7 * k) 9973 3)
          | _ => .non) = ((List.range n.toNat).map fun (k : Nat) => 1 + mix (c + 7 * (0 + (k : Int))) 9973 3).map D.int := by
        simp [rangeD, Function.comp_def]
      rw [em]
      refine ⟨by decide, by decide, ?_⟩
      by_cases e3 : c % 3 = 0
      · have e3' : (c % 3 == 0) = true := by simpa using e3
        simp_arith only [e3', List.length_cons, List.length_nil]
        exact ⟨by decide, meet_rest c [2, 2] (by decide) (by decide) (by decide) fun _ => rfl⟩
      · have e3' : (c % 3 == 0) = false := by simpa using e3
        simp_arith only [e3']
        have hl : ((List.range n.toNat).map fun (k : Nat) => 1 + mix (c + 7 * (0 + (k : Int))) 9973 3).length = n.toNat := by simp
        refine meet_rest c _ (by omega) (by omega) (okD (by omega) fun x hx => ?_) fun z => absurd z e3
        obtain ⟨k, hk, rfl⟩ := List.mem_map.mp hx
        have := mix_nn (c := c + 7 * (0 + (k : Int))) (p := 9973) (show (0 : Int) < 3 by decide)
        have := mix_lt (c := c + 7 * (0 + (k : Int))) (p := 9973) (show (0 : Int) < 3 by decide)
        omega
theorem pat_end {u l U L : Int} (hl : 0 < l) (hL : 0 < L) (hg : Int.gcd u l = 1) (h : u * L = U * l) : D.tup [.int u, .int l] = .tup [.int (Rat.divInt U L).num, .int ((Rat.divInt U L).den : Int)] := by
  have e : Rat.divInt U L = Rat.divInt u l := by
    rw [Rat.divInt_eq_divInt_iff (by omega) (by omega)]
    exact h.symm
  have h1 : l.sign = 1 := Int.sign_eq_one_of_pos hl
  have h2 : l.gcd u = 1 := by rw [Int.gcd_comm]; exact hg
  rw [e, Rat.num_divInt, Rat.den_divInt, if_neg (by omega), h1, h2]
  simp
  omega
theorem vc__law_patience : ∀ ds p, F__law_patience ds = some p → g__law_patience (retD p) (dstart ["_law_cell_here", "_law_lower", "_law_upper", "_law_by"] ds)
  | [.int c], p, h => by
    cases h
    show g__law_patience _ [.im (.int c), .un, .un, .un]
    have a1 : 0 ≤ mix c 9929 29 := mix_nn (by decide)
    have a2 : mix c 9929 29 < 29 := mix_lt (by decide)
    simp_arith only [g__law_patience, g__law_patience_3, g__law_patience_2, g__law_patience_1, Fmix (show (0 : Int) < 9929 by decide) (show (0 : Int) < 29 by decide)]
    generalize hl : 2 + mix c 9929 29 = l
    have hpl : patL c = l := hl
    have l1 : 2 ≤ l := by omega
    have l2 : l ≤ 30 := by omega
    have m1 : 0 < l - 1 := by omega
    simp only [Fmix (show (0 : Int) < 9923 by decide) m1]
    have b1 : 0 ≤ mix c 9923 (l - 1) := mix_nn m1
    have b2 : mix c 9923 (l - 1) < l - 1 := mix_lt m1
    have key : ∀ u : Int, 0 < u → u < l → patU c = u → g__law_patience_3 (retD (.tup [.int (patR c).num, .int ((patR c).den : Int)])) [.im (.int c), .im (.int l), .im (.int u), .un] := by
      intro U u1 u2 hU
      have hR : patR c = Rat.divInt U l := by unfold patR; rw [hU, hpl]
      rw [hR]
      have hL : 0 < l := by omega
      generalize hLL : l = L at hL hR ⊢
      rw [hLL] at u2 l2
      simp_arith only [g__law_patience_3, gFor, gWhile]
      refine ⟨by decide, fun i δ => ∃ (u l : Int) (z : Sl), δ = [.im (.int c), .im (.int l), .im (.int u), z] ∧ u * L = U * l ∧ 0 < u ∧ u < l ∧ l ≤ 30 ∧ ∀ d : Int, 2 ≤ d → d < 2 + i → d ∣ u → d ∣ l → False, ⟨U, L, .un, rfl, rfl, u1, u2, l2, fun d h1 h2 => by omega⟩, ?_, ?_⟩
      · rintro i d δ ed ⟨u, l, z, rfl, hul, u1, u2, l2, hd⟩
        unfold rangeD at ed
        obtain ⟨hi, rfl⟩ := getm_map ed
        rw [List.length_range] at hi
        simp_arith only [List.getElem_range]
        generalize hb : (2 : Int) + (i : Int) = b at *
        have b1 : 0 < b := by omega
        refine ⟨fun n δ => ∃ u l : Int, δ = [.im (.int c), .im (.int l), .im (.int u), .im (.int b)] ∧ n = u.toNat ∧ u * L = U * l ∧ 0 < u ∧ u < l ∧ l ≤ 30 ∧ ∀ d : Int, 2 ≤ d → d < b → d ∣ u → d ∣ l → False, ⟨_, u, l, rfl, rfl, hul, u1, u2, l2, fun d h1 h2 => hd d h1 (by omega)⟩, ?_⟩
        rintro n δ ⟨u, l, rfl, rfl, hul, u1, u2, l2, hd⟩
        simp_arith only []
        refine ⟨b1, by decide, ?_⟩
        by_cases e1 : u % b = 0
        · have e1' : (u % b == 0) = true := by simpa using e1
          simp_arith only [e1']
          refine ⟨b1, by decide, ?_⟩
          by_cases e2 : l % b = 0
          · have e2' : (l % b == 0) = true := by simpa using e2
            simp_arith only [e2']
            have hb2 : 2 ≤ b := by omega
            have hb3 : b < 1073741824 := by omega
            obtain ⟨q, hq⟩ := Int.dvd_of_emod_eq_zero e1
            obtain ⟨r, hr⟩ := Int.dvd_of_emod_eq_zero e2
            have eq1 : u / b = q := by rw [hq]; exact Int.mul_ediv_cancel_left _ (by omega)
            have er1 : l / b = r := by rw [hr]; exact Int.mul_ediv_cancel_left _ (by omega)
            rw [eq1, er1]
            have q0 : 0 < q := by
              by_cases z : 0 < q
              · exact z
              · have := Int.mul_nonpos_of_nonneg_of_nonpos (show 0 ≤ b by omega) (show q ≤ 0 by omega)
                omega
            have qr : q < r := by
              by_cases z : q < r
              · exact z
              · have := Int.mul_le_mul_of_nonneg_left (show r ≤ q by omega) (show 0 ≤ b by omega)
                omega
            have qu : q < u := by
              have : 2 * q ≤ b * q := Int.mul_le_mul_of_nonneg_right hb2 (by omega)
              omega
            have rl : r ≤ l := by
              have : 1 * r ≤ b * r := Int.mul_le_mul_of_nonneg_right (by omega) (by omega)
              omega
            have hqr : q * L = U * r := by
              have h5 : b * (q * L) = b * (U * r) := by
                rw [← Int.mul_assoc, ← hq, hul, hr, ← Int.mul_assoc, ← Int.mul_assoc, Int.mul_comm U b]
              exact Int.eq_of_mul_eq_mul_left (by omega) h5
            refine ⟨⟨b1, hb3⟩, ⟨b1, hb3⟩, q.toNat, by omega, q, r, rfl, rfl, hqr, q0, qr, by omega, fun d h1 h2 h3 h4 => hd d h1 h2 ?_ ?_⟩
            · rw [hq]; exact Int.dvd_trans h3 (Int.dvd_mul_left _ _)
            · rw [hr]; exact Int.dvd_trans h4 (Int.dvd_mul_left _ _)
          · have e2' : (l % b == 0) = false := by simpa using e2
            simp_arith only [e2']
            refine ⟨u, l, _, rfl, hul, u1, u2, l2, fun d h1 h2 h3 h4 => ?_⟩
            by_cases hdb : d = b
            · subst hdb; exact e2 (Int.emod_eq_zero_of_dvd h4)
            · exact hd d h1 (by omega) h3 h4
        · have e1' : (u % b == 0) = false := by simpa using e1
          simp_arith only [e1']
          refine ⟨u, l, _, rfl, hul, u1, u2, l2, fun d h1 h2 h3 h4 => ?_⟩
          by_cases hdb : d = b
          · subst hdb; exact e1 (Int.emod_eq_zero_of_dvd h3)
          · exact hd d h1 (by omega) h3 h4
      · rintro δ ⟨u, l, z, rfl, hul, u1, u2, l2, hd⟩
        simp_arith only []
        refine ⟨ends_le (by simp), pat_end (by omega) hL ?_ hul⟩
        rw [show (rangeD 2 ((30 : Int) - 2).toNat).length = 28 from by simp [rangeD]] at hd
        have g1 : (Int.gcd u l : Int) ∣ u := Int.gcd_dvd_left ..
        have g2 : (Int.gcd u l : Int) ∣ l := Int.gcd_dvd_right ..
        have g3 : (Int.gcd u l : Int) ≤ u := Int.le_of_dvd u1 g1
        have g4 : 0 < Int.gcd u l := Int.gcd_pos_of_ne_zero_left _ (by omega)
        by_cases g5 : Int.gcd u l = 1
        · exact g5
        · exact (hd (Int.gcd u l) (by omega) (by omega) g1 g2).elim
    refine ⟨by decide, by decide, ?_⟩
    by_cases e1 : c % 4 = 0
    · have e1' : (c % 4 == 0) = true := by simpa using e1
      simp_arith only [e1']
      exact key _ (by omega) (by omega) (by unfold patU; rw [if_pos e1, hpl])
    · have e1' : (c % 4 == 0) = false := by simpa using e1
      simp_arith only [e1']
      exact key _ (by omega) (by omega) (by unfold patU; rw [if_neg e1, hpl])
theorem vc__law_row : ∀ ds d, F__law_row ds = some d → g__law_row (retD d) (dstart ["_law_meeting_here", "_law_cell_here", "_law_some"] ds)
  | [.tup [.tup es, p], .int c], d, h => by
    obtain ⟨ns, rfl, ho, rfl⟩ := onDeeds_eq (show onDeeds es (fun ns => dInts ((rowsL ns).getD (mix c 9907 (rowsL ns).length).toNat [])) = some d from h)
    show g__law_row _ [.im (.tup [.tup (ns.map D.int), p]), .im (.int c), .un]
    obtain ⟨l1, l2⟩ := rows_len ho
    have hm : (0 : Int) < ((rowsL ns).length : Int) := by omega
    have b1 : 0 ≤ mix c 9907 (rowsL ns).length := Int.emod_nonneg _ (by omega)
    have b2 : mix c 9907 (rowsL ns).length < (rowsL ns).length := Int.emod_lt_of_pos _ hm
    have b3 : (mix c 9907 (rowsL ns).length).toNat < (rowsL ns).length := by omega
    have e1 : atI [D.tup (ns.map D.int), p] 0 = some (D.tup (ns.map D.int)) := rfl
    have e2 : F__law_mix [.int c, .int 9907, .int ((((rowsL ns).map dInts).length : Nat) : Int)] = some (.int (mix c 9907 (rowsL ns).length)) := by
      rw [List.length_map]
      exact if_pos ⟨by decide, hm⟩
    have e3 : atI ((rowsL ns).map dInts) (mix c 9907 (rowsL ns).length) = some (dInts ((rowsL ns).getD (mix c 9907 (rowsL ns).length).toNat [])) := by
      simp [atI, ixN, b1, b2, b3]
    simp_arith only [g__law_row, g__law_row_1, e1, F__law_rows, onDeeds_of _ ho, e2, e3]
theorem vc__law_cells : ∀ ds d, F__law_cells ds = some d → g__law_cells (retD d) (dstart ["_law_script", "_law_k"] ds)
  | [.lst xs, .int k], d, h => by
    have h : (match intsD xs with
      | some ns => if 0 ≤ k then some (D.lst ((List.range 4).map fun (n : Nat) => .int (ns.getD (k.toNat + n) 0))) else none
      | none => none) = some d := h
    split at h
    · rename_i ns e
      split at h
      · rename_i hk
        cases h
        rw [ints_eq e]
        show g__law_cells _ [.im (.lst (ns.map D.int)), .im (.int k)]
        simp_arith only [g__law_cells, gComp]
        refine ⟨by decide, by decide, fun d => match d with
          | .int n => .int (ns.getD (k + n).toNat 0)
          | _ => .non, fun d hd => ?_, ?_⟩
        · unfold rangeD at hd
          obtain ⟨n, hn, rfl⟩ := List.mem_map.mp hd
          have h0 : 0 ≤ k + (0 + (n : Int)) := by omega
          simp_arith only [δc, List.map_cons, List.map_nil, F__law_cell, ints_map, if_pos h0]
        · congr 1
          unfold rangeD
          rw [List.map_map]
          refine List.map_congr_left fun n hn => ?_
          have : (k + (0 + (n : Int))).toNat = k.toNat + n := by omega
          simp only [Function.comp_def, this]
      · cases h
    · cases h
theorem vc__law_plan : ∀ ds p, F__law_plan ds = some p → g__law_plan (retP p) (dstart ["_law_meeting_here", "_law_cells_here", "_law_most", "_law_many", "_law_found", "_law_k", "_law_cell_here", "_law_nexts"] ds)
  | [.tup [.tup es, q], .lst cs, .int m], p, h => by
    have h' : (match intsD es, intsD cs with
      | some ns, some xs => if okDeeds ns = true ∧ xs.length = 4 ∧ 0 < m ∧ m ≤ 8 then some (fun d => ∃ pl, d = planD pl ∧ PlanOk ns pl) else none
      | _, _ => none) = some p := h
    clear h
    split at h'
    · rename_i ns xs e1 e2
      split at h'
      · rename_i hh
        obtain ⟨ho, hx, hm0, hm8⟩ := hh
        have e := Option.some.inj h'
        subst e
        rw [ints_eq e1, ints_eq e2]
        clear h' e1 e2
        match xs, hx with
        | [c0, c1, c2, c3], _ =>
          show g__law_plan _ [.im (.tup [.tup (ns.map D.int), q]), .im (.lst [.int c0, .int c1, .int c2, .int c3]), .im (.int m), .un, .un, .un, .un, .un]
          obtain ⟨l1, l2⟩ := rows_len ho
          have m0 := mix_nn (c := c0) (p := 9901) hm0
          have m1 := mix_lt (c := c0) (p := 9901) hm0
          have i0 : atI [D.int c0, .int c1, .int c2, .int c3] 0 = some (.int c0) := rfl
          have j0 : atI [D.tup (ns.map D.int), q] 0 = some (dInts ns) := rfl
          unfold g__law_plan g__law_plan_2
          simp_arith only [i0, Fmix (show (0 : Int) < 9901 by decide) hm0, gFor, List.length_cons, List.length_nil]
          generalize hmany : 1 + mix c0 9901 m = many
          have k1 : 1 ≤ many := by omega
          have k2 : many ≤ 8 := by omega
          refine ⟨by decide, ⟨by omega, by omega⟩, fun i δ => ∃ a b d, ∃ pl : List (List Int × List Int), δ = [.im (.tup [.tup (ns.map D.int), q]), .im (.lst [.int c0, .int c1, .int c2, .int c3]), .im (.int m), .im (.int many), .ow (pl.map encS), a, b, d] ∧ pl.length = i ∧ (i : Int) ≤ many ∧ ∀ s ∈ pl, s.1 ∈ rowsL ns ∧ s.2.length = (rowsL ns).length ∧ ∀ x ∈ s.2, 0 ≤ x ∧ x < many, ⟨.un, .un, .un, [], rfl, rfl, by omega, fun r hr => by simp at hr⟩, ?_, ?_⟩
          · rintro i x δ ed ⟨a, b, d, pl, rfl, hpl, hil, hpb⟩
            unfold rangeD at ed
            obtain ⟨hi, rfl⟩ := getm_map ed
            rw [List.length_range] at hi
            have hcell : ∃ cc : Int, atI [D.int c0, .int c1, .int c2, .int c3] (1 + (0 + (i : Int)) % 3) = some (.int cc) := by
              have : (0 + (i : Int)) % 3 = 0 ∨ (0 + (i : Int)) % 3 = 1 ∨ (0 + (i : Int)) % 3 = 2 := by omega
              rcases this with e | e | e <;> rw [e]
              · exact ⟨c1, rfl⟩
              · exact ⟨c2, rfl⟩
              · exact ⟨c3, rfl⟩
            obtain ⟨cc, hcc⟩ := hcell
            simp_arith only [gComp, List.getElem_range, hcc, j0, Frows ho]
            generalize hsd : cc + 11 * (0 + (i : Int)) = sd
            refine ⟨by decide, Or.inl ⟨by decide, by decide⟩, ⟨by omega, by rw [List.length_map]; omega⟩, by rw [rangeD_len, List.length_map]; exact ends_le (by omega), fun y => match y with
              | .int k => .int (mix (sd + 3 * k) 9887 many)
              | _ => .non, fun y hy => ?_, ?_⟩
            · unfold rangeD at hy
              obtain ⟨k, hk, rfl⟩ := List.mem_map.mp hy
              simp_arith only [δc, List.map_cons, List.map_nil, Fmix (show (0 : Int) < 9887 by decide) (show 0 < many by omega)]
              exact ⟨Or.inl ⟨by decide, by decide⟩, trivial⟩
            · have em : (rangeD 0 (((rowsL ns).map dInts).length : Int).toNat).map (fun y => match y with
                  | .int k => D.int (mix (sd + 3 * k) 9887 many)
                  | _ => .non) = ((List.range (rowsL ns).length).map fun (k : Nat) => mix (sd + 3 * (0 + (k : Int))) 9887 many).map D.int := by
                simp [rangeD, Function.comp_def]
              rw [em]
              have hrow : ∀ x ∈ (List.range (rowsL ns).length).map fun (k : Nat) => mix (sd + 3 * (0 + (k : Int))) 9887 many, 0 ≤ x ∧ x < many := by
                intro x hx
                obtain ⟨k, hk, rfl⟩ := List.mem_map.mp hx
                exact ⟨mix_nn (by omega), mix_lt (by omega)⟩
              have hrl : ((List.range (rowsL ns).length).map fun (k : Nat) => mix (sd + 3 * (0 + (k : Int))) 9887 many).length = (rowsL ns).length := by simp
              generalize ((List.range (rowsL ns).length).map fun (k : Nat) => mix (sd + 3 * (0 + (k : Int))) 9887 many) = nx at hrow hrl
              have er : F__law_row [.tup [.tup (ns.map D.int), q], .int sd] = some (dInts ((rowsL ns).getD (mix sd 9907 (rowsL ns).length).toNat [])) := onDeeds_of _ ho
              simp_arith only [er, List.length_cons, List.length_nil]
              have b1 : 0 ≤ mix sd 9907 (rowsL ns).length := mix_nn (by omega)
              have b2 : mix sd 9907 (rowsL ns).length < (rowsL ns).length := mix_lt (by omega)
              have hmem : (rowsL ns).getD (mix sd 9907 (rowsL ns).length).toNat [] ∈ rowsL ns := by
                have hlt : (mix sd 9907 (rowsL ns).length).toNat < (rowsL ns).length := by omega
                rw [List.getD_eq_getElem?_getD, List.getElem?_eq_getElem hlt]
                exact List.getElem_mem hlt
              generalize (rowsL ns).getD (mix sd 9907 (rowsL ns).length).toNat [] = rw0 at hmem
              have e5 : pl.map encS ++ [D.tup [dInts rw0, .tup (nx.map D.int)]] = (pl ++ [(rw0, nx)]).map encS := by
                rw [List.map_append]
                rfl
              rw [e5]
              refine ⟨by decide, small1000 (by rw [List.length_map]; omega), _, _, _, _, rfl, by simp [hpl], by omega, fun s hs => ?_⟩
              rcases List.mem_append.mp hs with hs | hs
              · exact hpb s hs
              · obtain rfl := List.mem_singleton.mp hs
                exact ⟨hmem, hrl, hrow⟩
          · rintro δ ⟨a, b, d, pl, rfl, hpl, hil, hpb⟩
            rw [rangeD_len] at hpl hil
            simp_arith only []
            refine ⟨pl, rfl, ⟨by omega, by omega⟩, fun s hs => (hpb s hs).1, fun s hs => ⟨(hpb s hs).2.1, fun x hx => ?_⟩⟩
            have := (hpb s hs).2.2 x hx
            omega
      · cases h'
    · cases h'
theorem Fpaid {ns : List Int} {pay : List (List Int)} {r : List Int} (ho : MeetOk ns pay) (hr : r ∈ rowsL ns) : F__law_paid [meetD ns pay, dInts r] = some (dInts (payAt ns pay r)) := by
  simp only [F__law_paid, onMeet_of ho, onRow_of hr]
theorem vc__law_paid : ∀ ds d, F__law_paid ds = some d → g__law_paid (retD d) (dstart ["_law_meeting_here", "_law_row_here"] ds)
  | [m, x], d, h => by
    obtain ⟨ns, pay, rfl, ho, h⟩ := onMeet_eq (show onMeet m _ = some d from h)
    obtain ⟨r, rfl, hr, h⟩ := onRow_eq h
    cases h
    show g__law_paid _ [.im (meetD ns pay), .im (dInts r)]
    have e0 : atI [dInts ns, D.tup (pay.map dInts)] 0 = some (dInts ns) := rfl
    have e1 : atI [dInts ns, D.tup (pay.map dInts)] 1 = some (D.tup (pay.map dInts)) := rfl
    have e2 : atI (pay.map dInts) ((rowsL ns).idxOf r : Nat) = some (dInts (payAt ns pay r)) := atI_rows (payAt_ix ho hr)
    simp_arith only [g__law_paid, meetD, gIndex, e0, e1, Frows ho.ok, ansD_rows, firstT_idx r hr, e2]
    exact ⟨Nat.le_trans (deps_rows _) (by decide), trivial⟩
theorem Fstray {r : List Int} {h : Nat} {k : Int} (hl : r.length ≤ 1000) (hh : h < r.length) : F__law_stray [dInts r, .int h, .int k] = some (dInts (r.set h k)) := by
  simp only [F__law_stray, rowD_of]
  rw [if_pos ⟨hl, by omega, by omega⟩]
  rfl
theorem vc__law_stray : ∀ ds d, F__law_stray ds = some d → g__law_stray (retD d) (dstart ["_law_row_here", "_law_hand", "_law_deed"] ds)
  | [x, .int i, .int k], d, h => by
    cases e : rowD x with
    | none => simp [F__law_stray, e] at h
    | some r =>
      simp only [F__law_stray, e] at h
      rw [rowD_eq e]
      split at h
      · rename_i hc
        cases h
        obtain ⟨n, rfl⟩ : ∃ n : Nat, i = n := ⟨i.toNat, by omega⟩
        show g__law_stray _ [.im (dInts r), .im (.int n), .im (.int k)]
        have hn : n < r.length := by omega
        have e3 : ((n : Int) + 1) = ((n + 1 : Nat) : Int) := by omega
        simp_arith only [g__law_stray, dInts, e3, cutD_to r n hn, cutD_from r (n + 1) hn, List.length_append, List.length_map, List.length_cons, List.length_nil, List.length_take, List.length_drop]
        refine ⟨by decide, ends_le (by omega), ends_le (by omega), ?_⟩
        rw [Int.toNat_natCast, ← cut_set r n k hn]
        simp
      · cases h
end L2
namespace L2
open PySem PySem.Spec PyProof.Rows
theorem frac_rest {u l : Int} (hl : 0 < l) (hb : Bd 7000 l) (a b : Sl) : g__law_fraction_1 (retD (fracD (Rat.divInt u l))) [.im (.int u), .im (.int l), a, b] := by
  have ea : (if u < 0 then -u else u) = (u.natAbs : Int) := by split <;> omega
  obtain ⟨m, rfl⟩ : ∃ m : Nat, l = m := ⟨l.toNat, by omega⟩
  simp_arith only [g__law_fraction_1, g__law_fraction_3, gWhile, ea]
  refine ⟨fun n δ => ∃ (x y : Nat), δ = [.im (.int u), .im (.int m), .im (.int x), .im (.int y)] ∧ n = y ∧ Nat.gcd x y = Int.gcd u m, ⟨m, u.natAbs, m, rfl, rfl, rfl⟩, ?_⟩
  rintro n δ ⟨x, y, rfl, rfl, hg⟩
  simp_arith only []
  cases n with
  | zero =>
    have hx : x = Int.gcd u m := by rw [← hg, Nat.gcd_zero_right]
    have gd : (Int.gcd u m) ∣ m := by
      have := Int.gcd_dvd_natAbs_right u m
      simpa using this
    have gle : Int.gcd u m ≤ m := Nat.le_of_dvd (by omega) gd
    have gpos : 0 < Int.gcd u m := Nat.pos_of_dvd_of_pos gd (by omega)
    have bx : Bd 8000 ((Int.gcd u m : Nat) : Int) := (hb.of_le (by omega) (by omega)).mono (by decide)
    simp_arith only [Int.natCast_zero, Int.lt_irrefl, decide_false, g__law_fraction_4, List.length_cons, List.length_nil, hx, divInt_frac hl]
    exact ⟨⟨by omega, bx⟩, ⟨by omega, bx⟩, by decide, trivial⟩
  | succ y =>
    have e : decide (0 < (((y + 1 : Nat) : Int))) = true := decide_eq_true (by omega)
    simp_arith only [e]
    refine ⟨by omega, (x % (y + 1) : Nat), Nat.mod_lt _ (Nat.succ_pos _), y + 1, x % (y + 1), rfl, rfl, ?_⟩
    rw [← hg, Nat.gcd_comm x, Nat.gcd_rec (y + 1) x, Nat.gcd_comm]
theorem Ffrac {u l : Int} (hl : l ≠ 0) (h1 : Bd 7000 u) (h2 : Bd 7000 l) : F__law_fraction [.int u, .int l] = some (fracD (Rat.divInt u l)) := if_pos ⟨hl, h1, h2⟩
theorem vc__law_fraction : ∀ ds d, F__law_fraction ds = some d → g__law_fraction (retD d) (dstart ["_law_upper", "_law_lower", "_law_one", "_law_other"] ds)
  | [.int u, .int l], d, h => by
    simp only [F__law_fraction] at h
    split at h
    · rename_i hh
      obtain ⟨hl, b1, b2⟩ := hh
      cases h
      show g__law_fraction _ [.im (.int u), .im (.int l), .un, .un]
      unfold g__law_fraction
      simp_arith only []
      by_cases h0 : l < 0
      · rw [decide_eq_true h0]
        simp_arith only []
        have e : Rat.divInt u l = Rat.divInt (-u) (-l) := by
          rw [Rat.divInt_eq_div, Rat.divInt_eq_div, Rat.intCast_neg, Rat.intCast_neg]
          grind
        rw [e]
        exact frac_rest (by omega) b2.neg _ _
      · rw [decide_eq_false h0]
        simp_arith only []
        exact frac_rest (by omega) b2 _ _
    · cases h
theorem later_eq (pay : Int) (w d : Rat) : Rat.divInt (((d.den : Int) - d.num) * pay * (w.den : Int) + d.num * w.num) ((d.den : Int) * (w.den : Int)) = (1 - d) * pay + d * w := by
  have h1 := rat_num d
  have h2 := rat_num w
  have n1 := den_ne d
  have n2 := den_ne w
  rw [Rat.divInt_eq_div, Rat.intCast_add, Rat.intCast_mul, Rat.intCast_mul, Rat.intCast_mul, Rat.intCast_mul, Rat.intCast_sub]
  generalize ((d.den : Int) : Rat) = a at *
  generalize ((w.den : Int) : Rat) = b at *
  generalize ((d.num : Int) : Rat) = x at *
  generalize ((w.num : Int) : Rat) = y at *
  grind
theorem Flater {pay : Int} {w d : Rat} (h1 : Bd 1000 pay) (h2 : BdR 1000 w) (h3 : BdR 1000 d) : F__law_later [.int pay, fracD w, fracD d] = some (fracD ((1 - d) * pay + d * w)) := by
  simp only [F__law_later, onRat_of]
  exact if_pos ⟨h1, h2, h3⟩
theorem vc__law_later : ∀ ds d, F__law_later ds = some d → g__law_later (retD d) (dstart ["_law_pay", "_law_worth", "_law_patience_here", "_law_p", "_law_q"] ds)
  | [.int pay, x, y], r, h => by
    obtain ⟨w, rfl, h1⟩ := onRat_eq (show onRat x _ = some r from h)
    obtain ⟨d, rfl, h2⟩ := onRat_eq h1
    clear h h1
    split at h2
    · rename_i hh
      obtain ⟨b1, ⟨b2, b3⟩, b4, b5⟩ := hh
      cases h2
      show g__law_later _ [.im (.int pay), .im (fracD w), .im (fracD d), .un, .un]
      have e0 : atI [D.int w.num, D.int w.den] 0 = some (.int w.num) := rfl
      have e1 : atI [D.int w.num, D.int w.den] 1 = some (.int w.den) := rfl
      have c1 := b5.sub b4
      have c2 := c1.mul b1
      have c3 := c2.mul b3
      have c4 := b4.mul b2
      have c5 := b5.mul b3
      have c6 := c3.add (c4.mono (by decide))
      have hp : (d.den : Int) * (w.den : Int) ≠ 0 := by
        have := Int.mul_pos (den_pos d) (den_pos w)
        omega
      simp_arith only [g__law_later, g__law_later_1, g__law_later_1, e0, e1, Ffrac hp (c6.mono (by decide)) (c5.mono (by decide)), later_eq]
      exact ⟨.inr ⟨c1.mono (by decide), b1.mono (by decide)⟩, .inr ⟨c2.mono (by decide), b3.mono (by decide)⟩, .inr ⟨b4.mono (by decide), b2.mono (by decide)⟩, .inr ⟨b5.mono (by decide), b3.mono (by decide)⟩, trivial⟩
    · cases h2
theorem Fmore {a b : Rat} (h1 : BdR 1000 a) (h2 : BdR 1000 b) : F__law_more [fracD a, fracD b] = some (.bl (decide (b < a))) := by
  simp only [F__law_more, onRat_of]
  exact if_pos ⟨h1, h2⟩
theorem vc__law_more : ∀ ds d, F__law_more ds = some d → g__law_more (retD d) (dstart ["_law_one", "_law_other"] ds)
  | [x, y], r, h => by
    obtain ⟨a, rfl, h1⟩ := onRat_eq (show onRat x _ = some r from h)
    obtain ⟨b, rfl, h2⟩ := onRat_eq h1
    clear h h1
    split at h2
    · rename_i hh
      obtain ⟨⟨b1, b2⟩, b3, b4⟩ := hh
      cases h2
      show g__law_more _ [.im (fracD a), .im (fracD b)]
      have e0 : ∀ w : Rat, atI [D.int w.num, D.int w.den] 0 = some (.int w.num) := fun _ => rfl
      have e1 : ∀ w : Rat, atI [D.int w.num, D.int w.den] 1 = some (.int w.den) := fun _ => rfl
      simp_arith only [g__law_more, e0, e1]
      refine ⟨.inr ⟨b1.mono (by decide), b4.mono (by decide)⟩, .inr ⟨b3.mono (by decide), b2.mono (by decide)⟩, ?_⟩
      congr 1
      exact decide_eq_decide.mpr (Rat.lt_iff b a).symm
    · cases h2
section
variable {ns : List Int} {pay : List (List Int)} {pl : List (List Int × List Int)} {d : Rat} {h s : Nat}
theorem mAtI_plan (hs : s < pl.length) : atI (pl.map fun s => D.tup [dInts s.1, dInts s.2]) (s : Int) = some (.tup [dInts (rowAt pl s), dInts (pl.getD s ([], [])).2]) := by
  rw [atI_of (by rw [List.length_map]; exact hs), List.getElem_map]
  unfold rowAt
  rw [getD_of hs]
theorem mNext (hp : PlanW ns pl) (hs : s < pl.length) {r : List Int} (hr : r ∈ rowsL ns) : atI ((pl.getD s ([], [])).2.map D.int) ((rowsL ns).idxOf r : Nat) = some (.int (nextAt ns pl s r)) := by
  have hm : pl.getD s ([], []) ∈ pl := by rw [getD_of hs]; exact List.getElem_mem hs
  obtain ⟨h1, h2⟩ := hp.nexts _ hm
  have hi : (rowsL ns).idxOf r < (pl.getD s ([], [])).2.length := by
    rw [h1]
    exact List.idxOf_lt_length_of_mem hr
  have := h2 _ (List.getElem_mem hi)
  rw [atI_ints hi]
  unfold nextAt
  rw [getD_of hi, Int.toNat_of_nonneg this.1]
theorem Fmove (ho : MeetOk ns pay) (hp : PlanW ns pl) (hs : s < pl.length) (hh : h < ns.length) {k : Int} (hk : k ∈ deedsL ns h) : F__law_move [meetD ns pay, planD pl, .int s, .int h, .int k] = some (.tup [.int (payH ns pay ((rowAt pl s).set h k) h), .int (nextAt ns pl s ((rowAt pl s).set h k))]) := by
  simp only [F__law_move, onMeet_of ho, onPlan_of hp, onHand_of hs, onHand_of hh, if_pos hk]
end
theorem vc__law_move : ∀ ds d, F__law_move ds = some d → g__law_move (retD d) (dstart ["_law_meeting_here", "_law_plan_here", "_law_state", "_law_hand", "_law_deed", "_law_row_here"] ds)
  | [m, p, x, y, .int k], d, h => by
    obtain ⟨ns, pay, rfl, ho, h1⟩ := onMeet_eq (show onMeet m _ = some d from h)
    obtain ⟨pl, rfl, hp, h2⟩ := onPlan_eq h1
    obtain ⟨s, rfl, hs, h3⟩ := onHand_eq h2
    obtain ⟨hd, rfl, hh, h4⟩ := onHand_eq h3
    clear h h1 h2 h3
    split at h4
    · rename_i hk
      cases h4
      show g__law_move _ [.im (meetD ns pay), .im (planD pl), .im (.int s), .im (.int hd), .im (.int k), .un]
      have hr := prow_mem hp hs
      have rl := row_len hr
      have n3 := (okDeeds_mem ho.ok).1
      have hm := mv_mem hp hs hk
      have e0 : atI [dInts (rowAt pl s), dInts (pl.getD s ([], [])).2] 0 = some (dInts (rowAt pl s)) := rfl
      have e1 : atI [dInts (rowAt pl s), dInts (pl.getD s ([], [])).2] 1 = some (dInts (pl.getD s ([], [])).2) := rfl
      have e2 : atI [dInts ns, D.tup (pay.map dInts)] 0 = some (dInts ns) := rfl
      have e3 : atI ((payAt ns pay ((rowAt pl s).set hd k)).map D.int) (hd : Int) = some (.int (payH ns pay ((rowAt pl s).set hd k) hd)) := atI_ints (by rw [(payAt_ok ho hm).1]; exact hh)
      have fs := Fstray (r := rowAt pl s) (h := hd) (k := k) (by omega) (by omega)
      simp_arith only [g__law_move, g__law_move_1, mAtI_plan hs, e0, fs, g__law_move_1, Fpaid ho hm, e3, e1, e2, gIndex, Frows ho.ok, ansD_rows, firstT_idx _ hm, mNext hp hs hm, List.length_cons, List.length_nil]
      exact ⟨Nat.le_trans (deps_rows _) (by decide), by decide, trivial⟩
    · cases h4
section
variable {ns : List Int} {pay : List (List Int)} {pl : List (List Int × List Int)} {d : Rat} {h s : Nat}
theorem gAtI_rng {f : Nat → D} {n i : Nat} (hi : i < n) : atI ((List.range n).map f) (i : Int) = some (f i) := by
  rw [atI_of (by simpa using hi), List.getElem_map, List.getElem_range]
theorem stray_bd (ho : MeetOk ns pay) (hp : PlanW ns pl) (hd : PatOk d) (hs : s < pl.length) {k : Int} (hk : k ∈ deedsL ns h) {B : Nat → Rat} (hB : ∀ s, s < pl.length → BdR 900 (B s)) :
    Bd 1000 (payH ns pay ((rowAt pl s).set h k) h) ∧ BdR 1000 (B (nextAt ns pl s ((rowAt pl s).set h k))) ∧ BdR 1000 d ∧ BdR 1000 (strayV ns pay pl d h B s k) := by
  have hm := mv_mem hp hs hk
  have hn := mv_lt hp hs hk
  have b0 : Bd 4 (payH ns pay ((rowAt pl s).set h k) h) := by
    have := payH_bd (h := h) ho hm
    unfold Bd
    omega
  have b1 := hB _ hn
  have b2 := hd.bits
  refine ⟨b0.mono (by decide), ⟨b1.1.mono (by decide), b1.2.mono (by decide)⟩, ⟨b2.1.mono (by decide), b2.2.mono (by decide)⟩, ?_⟩
  unfold strayV
  generalize nextAt ns pl s ((rowAt pl s).set h k) = n at *
  generalize payH ns pay ((rowAt pl s).set h k) h = x at *
  have e := later_eq x (B n) d
  have c1 := b2.2.sub b2.1
  have c2 := (c1.mul b0).mul b1.2
  have c3 := b2.1.mul b1.1
  have c4 := c2.add (c3.mono (by decide))
  have c5 := b2.2.mul b1.2
  rw [← e]
  have hl : 0 < (d.den : Int) * ((B n).den : Int) := Int.mul_pos (den_pos d) (den_pos _)
  generalize ((d.den : Int) - d.num) * x * ((B n).den : Int) + d.num * (B n).num = U at *
  generalize (d.den : Int) * ((B n).den : Int) = L at *
  have ef := divInt_frac (u := U) hl
  unfold fracD at ef
  injection ef with ef
  injection ef with e1 e2
  injection e1 with e1
  injection e2 with e2
  injection e2 with e2
  have hg : 0 < (Int.gcd U L : Int) := by
    have : Int.gcd U L ≠ 0 := fun z => by
      have := (Int.gcd_eq_zero_iff.mp z).2
      omega
    omega
  unfold BdR
  rw [e1, e2]
  constructor
  · refine (c4.abs (i := U / (Int.gcd U L : Int)) ?_).mono (by decide)
    exact Int.natAbs_ediv_le_natAbs U (Int.gcd U L : Int)
  · refine (c5.abs (i := L / (Int.gcd U L : Int)) ?_).mono (by decide)
    exact Int.natAbs_ediv_le_natAbs L (Int.gcd U L : Int)
theorem worth_bd9 (ho : MeetOk ns pay) (hp : PlanW ns pl) (hd : PatOk d) : ∀ s, s < pl.length → BdR 900 (worthR ns pay pl d h s) := fun s hs => ((worth_sol (h := h) (pay := pay) hp hd).bd ho hp.few.2 (fun s hs => prow_mem hp hs) (pgo_lt hp) hd hs).2.2
theorem BdR.k {q : Rat} (h : BdR 900 q) : BdR 1000 q := ⟨h.1.mono (by decide), h.2.mono (by decide)⟩
end
section
variable {ns : List Int} {pay : List (List Int)} {pl : List (List Int × List Int)} {d : Rat} {h s : Nat}
noncomputable def gsS (ns : List Int) (pay : List (List Int)) (pl : List (List Int × List Int)) (d : Rat) (s : Nat) : List (Int × Int × Int) := (List.range s).flatMap fun s => (List.range ns.length).flatMap fun h => gainsAt ns pay pl d s h
noncomputable def gsH (ns : List Int) (pay : List (List Int)) (pl : List (List Int × List Int)) (d : Rat) (s h : Nat) : List (Int × Int × Int) := (List.range h).flatMap fun h => gainsAt ns pay pl d s h
noncomputable def gsK (ns : List Int) (pay : List (List Int)) (pl : List (List Int × List Int)) (d : Rat) (s h j : Nat) : List (Int × Int × Int) := (((deedsL ns h).take j).filter fun k => decide (worthR ns pay pl d h s < strayV ns pay pl d h (worthR ns pay pl d h) s k)).map fun k => ((s : Int), (h : Int), k)
theorem deedsL_len (ho : MeetOk ns pay) (hh : h < ns.length) : (deedsL ns h).length ≤ 3 := by
  have := deeds_ne ho hh
  unfold deedsL
  simp only [List.length_map, List.length_range]
  omega
theorem gsK_len (j : Nat) : (gsK ns pay pl d s h j).length ≤ j := by
  unfold gsK
  rw [List.length_map]
  refine Nat.le_trans (List.length_filter_le _ _) ?_
  rw [List.length_take]
  omega
theorem gsK_all : gsK ns pay pl d s h (deedsL ns h).length = gainsAt ns pay pl d s h := by
  unfold gsK gainsAt
  rw [List.take_length]
theorem gsH_succ : gsH ns pay pl d s (h + 1) = gsH ns pay pl d s h ++ gainsAt ns pay pl d s h := by
  unfold gsH
  rw [List.range_succ, List.flatMap_append]
  simp
theorem gsS_succ : gsS ns pay pl d (s + 1) = gsS ns pay pl d s ++ gsH ns pay pl d s ns.length := by
  unfold gsS gsH
  rw [List.range_succ, List.flatMap_append]
  simp
theorem gsH_len (ho : MeetOk ns pay) : ∀ h, h ≤ ns.length → (gsH ns pay pl d s h).length ≤ 3 * h
  | 0, _ => by simp [gsH]
  | h + 1, hh => by
    rw [gsH_succ, List.length_append, ← gsK_all]
    have := gsH_len ho h (by omega)
    have := gsK_len (ns := ns) (pay := pay) (pl := pl) (d := d) (s := s) (h := h) (deedsL ns h).length
    have := deedsL_len ho (h := h) (by omega)
    omega
theorem gsS_len (ho : MeetOk ns pay) : ∀ s, (gsS ns pay pl d s).length ≤ 9 * s
  | 0 => by simp [gsS]
  | s + 1 => by
    rw [gsS_succ, List.length_append]
    have := gsS_len ho s
    have := gsH_len (pl := pl) (d := d) (s := s) ho ns.length (Nat.le_refl _)
    have := (okDeeds_mem ho.ok).1
    omega
theorem gsK_succ {j : Nat} (hj : j < (deedsL ns h).length) : gsK ns pay pl d s h (j + 1) = gsK ns pay pl d s h j ++ if worthR ns pay pl d h s < strayV ns pay pl d h (worthR ns pay pl d h) s (deedsL ns h)[j] then [((s : Int), (h : Int), (deedsL ns h)[j])] else [] := by
  unfold gsK
  rw [List.take_succ, List.getElem?_eq_getElem hj, Option.toList_some, List.filter_append, List.map_append]
  congr 1
  by_cases e : worthR ns pay pl d h s < strayV ns pay pl d h (worthR ns pay pl d h) s (deedsL ns h)[j]
  · rw [if_pos e, List.filter_cons_of_pos (by simpa using e)]
    rfl
  · rw [if_neg e, List.filter_cons_of_neg (by simpa using e)]
    rfl
end
theorem vc__law_gains : ∀ ds d, F__law_gains ds = some d → g__law_gains (retD d) (dstart ["_law_meeting_here", "_law_plan_here", "_law_patience_here", "_law_known", "_law_found", "_law_state", "_law_hand", "_law_many", "_law_deed", "_law_pay", "_law_there"] ds)
  | [m, p, y, w], r, hF => by
    obtain ⟨ns, pay, rfl, ho, h1⟩ := onMeet_eq (show onMeet m _ = some r from hF)
    obtain ⟨pl, rfl, hp, h2⟩ := onPlan_eq h1
    obtain ⟨d, rfl, hd, h3⟩ := onPat_eq h2
    clear hF h1 h2
    split at h3
    · rename_i hw
      subst hw
      cases h3
      show g__law_gains _ [.im (meetD ns pay), .im (planD pl), .im (fracD d), .im (worthsD ns pay pl d), .un, .un, .un, .un, .un, .un, .un]
      have n3 := (okDeeds_mem ho.ok).1
      have h20 := hp.few.2
      have e2 : atI [dInts ns, D.tup (pay.map dInts)] 0 = some (dInts ns) := rfl
      simp_arith only [g__law_gains, g__law_gains_1, g__law_gains_1, gFor, List.length_nil, List.length_map]
      refine ⟨by decide, ⟨by omega, by omega⟩, fun s δ => ∃ a5 a6 a7 a8 a9 a10, δ = [.im (meetD ns pay), .im (planD pl), .im (fracD d), .im (worthsD ns pay pl d), .ow ((gsS ns pay pl d s).map trip), a5, a6, a7, a8, a9, a10], ⟨_, _, _, _, _, _, rfl⟩, ?_, ?_⟩
      · rintro s x δ ed ⟨a5, a6, a7, a8, a9, a10, rfl⟩
        unfold rangeD at ed
        obtain ⟨hs, rfl⟩ := getm_map ed
        rw [List.length_range] at hs
        have hs : s < pl.length := by omega
        rw [List.getElem_range, Int.zero_add]
        simp_arith only [e2]
        refine ⟨fun h δ => ∃ a6 a7 a8 a9 a10, δ = [.im (meetD ns pay), .im (planD pl), .im (fracD d), .im (worthsD ns pay pl d), .ow ((gsS ns pay pl d s ++ gsH ns pay pl d s h).map trip), .im (.int s), a6, a7, a8, a9, a10], ⟨_, _, _, _, _, by unfold gsH; rw [List.range_zero, List.flatMap_nil, List.append_nil]⟩, ?_, ?_⟩
        · rintro h x δ ed ⟨a6, a7, a8, a9, a10, rfl⟩
          rw [enumD_at] at ed
          cases ex : (ns.map D.int)[h]? with
          | none => rw [ex] at ed; cases ed
          | some y =>
            rw [ex] at ed
            cases ed
            obtain ⟨hh, rfl⟩ := getm_map ex
            have d3 := deeds_ne ho hh
            have dl := deedsL_len ho hh
            rw [← getD_of hh 0]
            simp_arith only []
            refine ⟨⟨by omega, by omega⟩, fun j δ => ∃ a8 a9 a10, δ = [.im (meetD ns pay), .im (planD pl), .im (fracD d), .im (worthsD ns pay pl d), .ow ((gsS ns pay pl d s ++ gsH ns pay pl d s h ++ gsK ns pay pl d s h j).map trip), .im (.int s), .im (.int h), .im (.int (ns.getD h 0)), a8, a9, a10], ⟨_, _, _, by unfold gsK; rw [List.take_zero, List.filter_nil, List.map_nil, List.append_nil]⟩, ?_, ?_⟩
            · rintro j x δ ed ⟨a8, a9, a10, rfl⟩
              rw [range_deeds] at ed
              obtain ⟨hj, rfl⟩ := getm_map ed
              have hk : (deedsL ns h)[j] ∈ deedsL ns h := List.getElem_mem hj
              obtain ⟨b1, b2, b3, b4⟩ := stray_bd ho hp hd hs hk (worth_bd9 (h := h) ho hp hd)
              have hn := mv_lt hp hs hk
              have fm := Fmove ho hp hs hh hk
              have fl := Flater b1 b2 b3
              have fo := Fmore b4 (worth_bd9 (h := h) ho hp hd s hs).k
              unfold strayV at fo
              have k1 : atI ((List.range pl.length).map fun s => D.tup ((List.range ns.length).map fun h => fracD (worthR ns pay pl d h s))) (nextAt ns pl s ((rowAt pl s).set h (deedsL ns h)[j]) : Nat) = some (.tup ((List.range ns.length).map fun h' => fracD (worthR ns pay pl d h' (nextAt ns pl s ((rowAt pl s).set h (deedsL ns h)[j]))))) := gAtI_rng hn
              have k2 : atI ((List.range pl.length).map fun s => D.tup ((List.range ns.length).map fun h => fracD (worthR ns pay pl d h s))) (s : Nat) = some (.tup ((List.range ns.length).map fun h' => fracD (worthR ns pay pl d h' s))) := gAtI_rng hs
              have k3 : ∀ t, atI ((List.range ns.length).map fun h' => fracD (worthR ns pay pl d h' t)) (h : Nat) = some (fracD (worthR ns pay pl d h t)) := fun t => gAtI_rng hh
              have l1 := gsS_len (pl := pl) (d := d) ho s
              have l2 := gsH_len (pl := pl) (d := d) (s := s) ho h (by omega)
              have l3 := gsK_len (ns := ns) (pay := pay) (pl := pl) (d := d) (s := s) (h := h) j
              simp_arith only [fm, worthsD, k1, k2, k3, fl, fo]
              have es := gsK_succ (ns := ns) (pay := pay) (pl := pl) (d := d) (s := s) hj
              unfold strayV at es
              by_cases e : worthR ns pay pl d h s < (1 - d) * payH ns pay ((rowAt pl s).set h (deedsL ns h)[j]) h + d * worthR ns pay pl d h (nextAt ns pl s ((rowAt pl s).set h (deedsL ns h)[j]))
              · rw [if_pos e] at es
                rw [decide_eq_true e]
                simp_arith only [List.length_cons, List.length_nil, List.length_map, List.length_append]
                refine ⟨by decide, small1000 (by omega), ?_⟩
                have e5 : (gsS ns pay pl d s ++ gsH ns pay pl d s h ++ gsK ns pay pl d s h (j + 1)).map trip = (gsS ns pay pl d s ++ gsH ns pay pl d s h ++ gsK ns pay pl d s h j).map trip ++ [D.tup [.int s, .int h, .int (deedsL ns h)[j]]] := by
                  rw [es, ← List.append_assoc, List.map_append]
                  rfl
                rw [e5]
                exact ⟨_, _, _, rfl⟩
              · rw [if_neg e, List.append_nil] at es
                rw [decide_eq_false e, es]
                simp_arith only []
                exact ⟨_, _, _, rfl⟩
            · rintro δ ⟨a8, a9, a10, rfl⟩
              rw [range_deeds, List.length_map, gsK_all, List.append_assoc, ← gsH_succ]
              exact ⟨_, _, _, _, _, rfl⟩
        · rintro δ ⟨a6, a7, a8, a9, a10, rfl⟩
          rw [enumD_length, List.length_map, ← gsS_succ]
          exact ⟨_, _, _, _, _, _, rfl⟩
      · rintro δ ⟨a5, a6, a7, a8, a9, a10, rfl⟩
        rw [rangeD_len, Int.toNat_natCast]
        simp_arith only []
        rfl
    · cases h3
end L2
namespace L2
open PySem PySem.Spec PyProof.Rows
section
variable {ns : List Int} {pay : List (List Int)} {pl : List (List Int × List Int)} {d : Rat} {h s : Nat} {B C : Nat → Rat}
theorem atI_deeds {f : Int → D} {k : Int} (hk : k ∈ deedsL ns h) : atI ((deedsL ns h).map f) k = some (f k) := by
  obtain ⟨h0, h1⟩ := deed_mem.mp hk
  obtain ⟨n, rfl⟩ : ∃ n : Nat, k = n := ⟨k.toNat, by omega⟩
  have hl : n < (deedsL ns h).length := by
    unfold deedsL
    simp only [List.length_map, List.length_range]
    omega
  rw [atI_of (by rw [List.length_map]; exact hl), List.getElem_map]
  congr 2
  simp [deedsL]
theorem stray_same (hp : PlanW ns pl) (hd : PatOk d) (hB : Bell ns pay pl d h B) (hC : Bell ns pay pl d h C) (hs : s < pl.length) {k : Int} (hk : k ∈ deedsL ns h) : strayV ns pay pl d h B s k = strayV ns pay pl d h C s k := by
  unfold strayV
  rw [hB.uniq hp hd hC (mv_lt hp hs hk)]
theorem FbestRight (ho : MeetOk ns pay) (hp : PlanW ns pl) (hd : PatOk d) (hh : h < ns.length) {w k : D} (h1 : BestW ns pay pl d h w) (h2 : BestS ns pay pl d h k) : F__law_best_right [meetD ns pay, planD pl, .int h, fracD d, w, k] = some (.bl true) := by
  simp only [F__law_best_right, onMeet_of ho, onPlan_of hp, onHand_of hh, onPat_of hd]
  exact if_pos ⟨h1, h2⟩
end
theorem vc__law_best_right : ∀ ds d, F__law_best_right ds = some d → g__law_best_right (retD d) (dstart ["_law_meeting_here", "_law_plan_here", "_law_hand", "_law_patience_here", "_law_told", "_law_deeds", "_law_state", "_law_some", "_law_deed", "_law_pay", "_law_there"] ds)
  | [m, p, x, y, w, z], r, hF => by
    obtain ⟨ns, pay, rfl, ho, h1⟩ := onMeet_eq (show onMeet m _ = some r from hF)
    obtain ⟨pl, rfl, hp, h2⟩ := onPlan_eq h1
    obtain ⟨h, rfl, hh, h3⟩ := onHand_eq h2
    obtain ⟨d, rfl, hd, h4⟩ := onPat_eq h3
    clear hF h1 h2 h3
    split at h4
    · rename_i hw
      obtain ⟨⟨B, hB, rfl⟩, C, ks, hC, hks, rfl⟩ := hw
      cases h4
      have hk : ∀ s, s < pl.length → ks s ∈ deedsL ns h ∧ strayV ns pay pl d h B s (ks s) = B s := fun s hs => by
        obtain ⟨q1, q2⟩ := hks s hs
        exact ⟨q1, by rw [stray_same hp hd hB hC hs q1, q2, hB.uniq hp hd hC hs]⟩
      clear hks hC
      show g__law_best_right _ [.im (meetD ns pay), .im (planD pl), .im (.int h), .im (fracD d), .im (.tup ((List.range pl.length).map fun s => fracD (B s))), .im (.tup ((List.range pl.length).map fun s => .int (ks s))), .un, .un, .un, .un, .un]
      have n3 := (okDeeds_mem ho.ok).1
      have h20 := hp.few.2
      have d3 := deeds_ne ho hh
      have dl := deedsL_len ho hh
      have e2 : atI [dInts ns, D.tup (pay.map dInts)] 0 = some (dInts ns) := rfl
      have hb : ∀ s, s < pl.length → BdR 900 (B s) := fun s hs => hB.bd ho hp hd hs
      simp_arith! only [g__law_best_right, g__law_best_right_1, g__law_best_right_1, gFor, List.length_map, List.length_range, Bool.not_true]
      refine ⟨by simp [dep], ?_⟩
      rw [show ((pl.length : Int) == (pl.length : Int)) = true by simp]
      simp_arith! only [Bool.not_true]
      refine ⟨by simp [dep], ⟨by omega, by omega⟩, fun s δ => ∃ a6 a7 a8 a9 a10, δ = [.im (meetD ns pay), .im (planD pl), .im (.int h), .im (fracD d), .im (.tup ((List.range pl.length).map fun s => fracD (B s))), .im (.tup ((List.range pl.length).map fun s => .int (ks s))), a6, a7, a8, a9, a10], ⟨_, _, _, _, _, rfl⟩, ?_, ?_⟩
      · rintro s x δ ed ⟨a6, a7, a8, a9, a10, rfl⟩
        unfold rangeD at ed
        obtain ⟨hs, rfl⟩ := getm_map ed
        rw [List.length_range] at hs
        have hs : s < pl.length := by omega
        rw [List.getElem_range, Int.zero_add]
        simp_arith! only [e2, atI_ints hh, List.length_nil]
        refine ⟨by decide, ⟨by omega, by omega⟩, fun j δ => ∃ a8 a9 a10, δ = [.im (meetD ns pay), .im (planD pl), .im (.int h), .im (fracD d), .im (.tup ((List.range pl.length).map fun s => fracD (B s))), .im (.tup ((List.range pl.length).map fun s => .int (ks s))), .im (.int s), .ow (((deedsL ns h).take j).map fun k => fracD (strayV ns pay pl d h B s k)), a8, a9, a10], ⟨_, _, _, rfl⟩, ?_, ?_⟩
        · rintro j x δ ed ⟨a8, a9, a10, rfl⟩
          rw [range_deeds] at ed
          obtain ⟨hj, rfl⟩ := getm_map ed
          have hkj : (deedsL ns h)[j] ∈ deedsL ns h := List.getElem_mem hj
          obtain ⟨b1, b2, b3, b4⟩ := stray_bd ho hp hd hs hkj hb
          have fm := Fmove ho hp hs hh hkj
          have fl := Flater b1 b2 b3
          have k1 : atI ((List.range pl.length).map fun s => fracD (B s)) (nextAt ns pl s ((rowAt pl s).set h (deedsL ns h)[j]) : Nat) = some (fracD (B (nextAt ns pl s ((rowAt pl s).set h (deedsL ns h)[j])))) := gAtI_rng (mv_lt hp hs hkj)
          simp_arith! only [fm, k1, fl, List.length_map]
          refine ⟨small1000 (by rw [List.length_take]; omega), ?_⟩
          have e5 : ((deedsL ns h).take (j + 1)).map (fun k => fracD (strayV ns pay pl d h B s k)) = ((deedsL ns h).take j).map (fun k => fracD (strayV ns pay pl d h B s k)) ++ [fracD ((1 - d) * payH ns pay ((rowAt pl s).set h (deedsL ns h)[j]) h + d * B (nextAt ns pl s ((rowAt pl s).set h (deedsL ns h)[j])))] := by
            rw [List.take_succ, List.getElem?_eq_getElem hj, Option.toList_some, List.map_append]
            rfl
          rw [e5]
          exact ⟨_, _, _, rfl⟩
        · rintro δ ⟨a8, a9, a10, rfl⟩
          rw [range_deeds, List.length_map, List.take_length]
          obtain ⟨q1, q2⟩ := hk s hs
          obtain ⟨q3, q4⟩ := deed_mem.mp q1
          have k1 : atI ((List.range pl.length).map fun s => fracD (B s)) (s : Nat) = some (fracD (B s)) := gAtI_rng hs
          have k2 : atI ((List.range pl.length).map fun s => D.int (ks s)) (s : Nat) = some (.int (ks s)) := gAtI_rng hs
          have k3 : atI ((deedsL ns h).map fun k => fracD (strayV ns pay pl d h B s k)) (ks s) = some (fracD (B s)) := by rw [atI_deeds q1, q2]
          have k4 : decide ((0 : Int) ≤ ks s) = true := decide_eq_true q3
          have k5 : decide (ks s < (((deedsL ns h).length : Nat) : Int)) = true := decide_eq_true (by
            unfold deedsL
            simp only [List.length_map, List.length_range]
            omega)
          simp_arith! only [k1, k2, k3, k4, k5, List.length_map, Bool.not_true, eqD_self, gCompIf]
          refine ⟨by simp [deps, dep], ends_le (by omega), fun _ => false, fun y => y, fun y hy => ?_, ?_⟩
          · obtain ⟨k, hkk, rfl⟩ := List.mem_map.mp hy
            obtain ⟨b1, b2, b3, b4⟩ := stray_bd ho hp hd hs hkk hb
            simp_arith! only [δc, List.map_cons, List.map_nil, k1, Fmore b4 (hb s hs).k]
            refine ⟨?_, fun _ => trivial⟩
            have := hB.ge s hs k hkk
            rw [decide_eq_false_iff_not]
            grind
          · rw [List.filter_eq_nil_iff.mpr (fun _ _ => by simp)]
            exact ⟨_, _, _, _, _, rfl⟩
      · rintro δ ⟨a6, a7, a8, a9, a10, rfl⟩
        trivial
    · cases h4
end L2
namespace L2
open PySem PySem.Spec PyProof.Rows
section
variable {ns0 : List Int} {ns : List Int} {pay : List (List Int)} {pl : List (List Int × List Int)} {d : Rat}
theorem Fcell {k : Int} (hk : 0 ≤ k) : F__law_cell [.lst (ns0.map D.int), .int k] = some (.int (ns0.getD k.toNat 0)) := by
  unfold F__law_cell
  simp only [ints_map, if_pos hk]
theorem Fcells {k : Int} (hk : 0 ≤ k) : ∃ cs : List Int, cs.length = 4 ∧ F__law_cells [.lst (ns0.map D.int), .int k] = some (.lst (cs.map D.int)) := by
  refine ⟨(List.range 4).map fun (n : Nat) => ns0.getD (k.toNat + n) 0, by simp, ?_⟩
  unfold F__law_cells
  simp only [ints_map, if_pos hk, List.map_map, Function.comp_def]
theorem Fplan (ho : MeetOk ns pay) {cs : List Int} (hc : cs.length = 4) {m : Int} (h0 : 0 < m) (h8 : m ≤ 8) : F__law_plan [meetD ns pay, .lst (cs.map D.int), .int m] = some fun d => ∃ pl, d = planD pl ∧ PlanOk ns pl := by
  unfold F__law_plan
  simp only [ints_map]
  exact if_pos ⟨ho.ok, hc, h0, h8⟩
end
section
variable {ns : List Int} {pay : List (List Int)} {pl : List (List Int × List Int)} {d : Rat} {h s : Nat} {B C : Nat → Rat}
theorem eqDs_fracs {f g : Nat → Rat} : ∀ l : List Nat, eqDs (l.map fun s => fracD (f s)) (l.map fun s => fracD (g s)) = some (decide (∀ s ∈ l, f s = g s))
  | [] => by
    rw [List.map_nil, List.map_nil, eqDs]
    congr 1
    simp
  | x :: l => by
    rw [List.map_cons, List.map_cons, eqDs, eqD_frac, eqDs_fracs l]
    show some (decide (f x = g x) && decide (∀ s ∈ l, f s = g s)) = _
    congr 1
    rw [Bool.eq_iff_iff]
    simp
theorem eqD_fracs {f g : Nat → Rat} (l : List Nat) : eqD (.tup (l.map fun s => fracD (f s))) (.tup (l.map fun s => fracD (g s))) = some (decide (∀ s ∈ l, f s = g s)) := by
  unfold eqD
  rw [eqDs_fracs, List.length_map, List.length_map, Option.map_some]
  simp
theorem bell_same (hp : PlanW ns pl) (hd : PatOk d) (hB : Bell ns pay pl d h B) : (∀ s ∈ List.range pl.length, B s = C s) ↔ Bell ns pay pl d h C := by
  constructor
  · intro e
    have e' : ∀ s, s < pl.length → B s = C s := fun s hs => e s (List.mem_range.mpr hs)
    have es : ∀ s, s < pl.length → ∀ k ∈ deedsL ns h, strayV ns pay pl d h C s k = strayV ns pay pl d h B s k := fun s hs k hk => by
      unfold strayV
      rw [e' _ (mv_lt hp hs hk)]
    refine ⟨fun s hs k hk => ?_, fun s hs => ?_⟩
    · rw [es s hs k hk, ← e' s hs]
      exact hB.ge s hs k hk
    · obtain ⟨k, hk, q⟩ := hB.hit s hs
      exact ⟨k, hk, by rw [es s hs k hk, ← e' s hs]; exact q⟩
  · intro hC s hs
    exact hB.uniq hp hd hC (List.mem_range.mp hs)
open Classical in
noncomputable def sameTo (ns : List Int) (pay : List (List Int)) (pl : List (List Int × List Int)) (d : Rat) (n : Nat) : Bool := decide (∀ h, h < n → Bell ns pay pl d h (worthR ns pay pl d h))
open Classical in
theorem same_zero : sameTo ns pay pl d 0 = true := by
  unfold sameTo
  exact decide_eq_true fun h z => absurd z (Nat.not_lt_zero h)
open Classical in
theorem same_gain (ho : MeetOk ns pay) (hp : PlanW ns pl) (hd : PatOk d) : sameTo ns pay pl d ns.length = decide (gainsL ns pay pl d = []) := by
  unfold sameTo
  rw [Bool.eq_iff_iff, decide_eq_true_eq, decide_eq_true_eq]
  constructor
  · intro H
    exact gains_nil.mpr fun s hs h hh k hk => (H h hh).ge s hs k hk
  · intro hg h hh
    exact worth_bell ho hp hd hg hh
theorem Fholds (ho : MeetOk ns pay) (hp : PlanW ns pl) (hd : PatOk d) : F_holds [meetD ns pay, planD pl, fracD d] = some (.bl (decide (gainsL ns pay pl d = []))) := by
  simp only [F_holds, onMeet_of ho, onPlan_of hp, onPat_of hd]
theorem Fgain (ho : MeetOk ns pay) (hp : PlanW ns pl) (hd : PatOk d) : F_gain [meetD ns pay, planD pl, fracD d] = some fun x => (x = .non ∧ gainsL ns pay pl d = []) ∨ ∃ y ∈ gainsL ns pay pl d, x = trip y := by
  simp only [F_gain]
  exact onPlanR_of ho hp hd trivial
theorem FbestW (ho : MeetOk ns pay) (hp : PlanW ns pl) (hd : PatOk d) (hh : h < ns.length) : F_best_worths [meetD ns pay, planD pl, .int h, fracD d] = some (BestW ns pay pl d h) := by
  simp only [F_best_worths]
  exact onPlanR_of (f := fun ns pay pl d x => BestW ns pay pl d (h : Int).toNat x) ho hp hd ⟨by omega, by omega⟩
theorem FbestS (ho : MeetOk ns pay) (hp : PlanW ns pl) (hd : PatOk d) (hh : h < ns.length) : F_best_strays [meetD ns pay, planD pl, .int h, fracD d] = some (BestS ns pay pl d h) := by
  simp only [F_best_strays]
  exact onPlanR_of (f := fun ns pay pl d x => BestS ns pay pl d (h : Int).toNat x) ho hp hd ⟨by omega, by omega⟩
theorem Fgains (ho : MeetOk ns pay) (hp : PlanW ns pl) (hd : PatOk d) : F__law_gains [meetD ns pay, planD pl, fracD d, worthsD ns pay pl d] = some (.lst ((gainsL ns pay pl d).map trip)) := by
  simp only [F__law_gains, onMeet_of ho, onPlan_of hp, onPat_of hd]
  exact if_pos trivial
theorem FworthsW (ho : MeetOk ns pay) (hp : PlanW ns pl) (hd : PatOk d) : F_worths [meetD ns pay, planD pl, fracD d] = some (worthsD ns pay pl d) := by
  simp only [F_worths, onMeet_of ho, onPlan_of hp, onPat_of hd]
theorem eqD_trip (x y : Int × Int × Int) : eqD (trip x) (trip y) = some (x == y) := by
  refine Eq.trans (show eqD (trip x) (trip y) = eqD (dInts [x.1, x.2.1, x.2.2]) (dInts [y.1, y.2.1, y.2.2]) from rfl) ((eqD_dInts _ _).trans ?_)
  congr 1
  rw [Bool.eq_iff_iff]
  obtain ⟨a, b, c⟩ := x
  obtain ⟨a', b', c'⟩ := y
  simp
theorem ansD_trips (y : Int × Int × Int) : ∀ xs : List (Int × Int × Int), ansD (trip y) (xs.map trip) = some (xs.map fun x => x == y)
  | [] => rfl
  | x :: xs => by
    rw [List.map_cons, ansD, eqD_trip, ansD_trips y xs]
    rfl
theorem deps_trips (l : List (Int × Int × Int)) : deps (l.map trip) ≤ 1 := by
  induction l with
  | nil => rw [List.map_nil, deps]; omega
  | cons x l ih =>
    rw [List.map_cons, deps]
    have : dep (trip x) = 1 := by simp [dep, deps]
    omega
theorem deps_fracs (f : Nat → Rat) (l : List Nat) : deps (l.map fun s => fracD (f s)) ≤ 1 := by
  induction l with
  | nil => rw [List.map_nil, deps]; omega
  | cons x l ih =>
    rw [List.map_cons, deps]
    have : dep (fracD (f x)) = 1 := by simp [dep, deps]
    omega
open Classical in
theorem l5_hand (ho : MeetOk ns pay) (hp : PlanW ns pl) (hd : PatOk d) (hh : h < ns.length) {De : DEnds} {a0 a1 a6 a7 a8 a11 a12 : Sl}
    (hn : ∀ a11 a12, De.nx [a0, a1, .im (meetD ns pay), .im (planD pl), .im (fracD d), .im (worthsD ns pay pl d), a6, a7, a8, .im (.bl (sameTo ns pay pl d (h + 1))), .im (.int h), a11, a12]) :
    g_law_f2 De [a0, a1, .im (meetD ns pay), .im (planD pl), .im (fracD d), .im (worthsD ns pay pl d), a6, a7, a8, .im (.bl (sameTo ns pay pl d h)), .im (.int h), a11, a12] := by
  simp_arith! only [g_law_f2, FbestW ho hp hd hh]
  rintro w hw
  simp only [FbestS ho hp hd hh]
  rintro z hz
  simp_arith! only [FbestRight ho hp hd hh hw hz, Bool.not_true]
  have es : sameTo ns pay pl d (h + 1) = (sameTo ns pay pl d h && decide (Bell ns pay pl d h (worthR ns pay pl d h))) := by
    unfold sameTo
    rw [Bool.eq_iff_iff, Bool.and_eq_true, decide_eq_true_eq, decide_eq_true_eq, decide_eq_true_eq]
    constructor
    · intro H
      exact ⟨fun h' q => H h' (by omega), H h (by omega)⟩
    · rintro ⟨H1, H2⟩ h' q
      by_cases e : h' = h
      · subst e; exact H2
      · exact H1 h' (by omega)
  rw [es] at hn
  cases hg : sameTo ns pay pl d h with
  | false =>
    rw [hg] at hn
    exact hn _ _
  | true =>
    rw [hg] at hn
    obtain ⟨B, hB, rfl⟩ := hw
    have h20 := hp.few.2
    simp_arith! only [worthsD, gComp, List.length_map, List.length_range]
    refine ⟨ends_le (by omega), fun y => match y with
      | .tup l => (atI l (h : Int)).getD .non
      | _ => .non, fun y hy => ?_, ?_⟩
    · obtain ⟨s, hs, rfl⟩ := List.mem_map.mp hy
      have k3 : atI ((List.range ns.length).map fun h' => fracD (worthR ns pay pl d h' s)) (h : Nat) = some (fracD (worthR ns pay pl d h s)) := gAtI_rng hh
      simp_arith! only [δc, List.map_cons, List.map_nil, k3, Option.getD_some]
    · have em : ((List.range pl.length).map fun s => D.tup ((List.range ns.length).map fun h => fracD (worthR ns pay pl d h s))).map (fun y => match y with
          | .tup l => (atI l (h : Int)).getD .non
          | _ => .non) = (List.range pl.length).map fun s => fracD (worthR ns pay pl d h s) := by
        rw [List.map_map]
        refine List.map_congr_left fun s hs => ?_
        have k3 : atI ((List.range ns.length).map fun h' => fracD (worthR ns pay pl d h' s)) (h : Nat) = some (fracD (worthR ns pay pl d h s)) := gAtI_rng hh
        simp only [Function.comp, k3, Option.getD_some]
      rw [em, eqD_fracs]
      have eb : decide (∀ s ∈ List.range pl.length, B s = worthR ns pay pl d h s) = decide (Bell ns pay pl d h (worthR ns pay pl d h)) := by
        rw [Bool.eq_iff_iff, decide_eq_true_eq, decide_eq_true_eq]
        exact bell_same hp hd hB
      rw [eb]
      have := deps_fracs B (List.range pl.length)
      rw [Bool.true_and] at hn
      exact ⟨by omega, hn _ _⟩
end
theorem l5_turn {ns0 : List Int} {i : Nat} (hi : i < 3) {De : DEnds} {a2 a3 a4 a5 a6 a7 a8 a9 a10 a11 a12 : Sl}
    (hn : ∀ a1 a2 a3 a4 a5 a6 a7 a8 a9 a10 a11 a12, De.nx [.im (.lst (ns0.map D.int)), a1, a2, a3, a4, a5, a6, a7, a8, a9, a10, a11, a12]) :
    g_law_f1 De [.im (.lst (ns0.map D.int)), .im (.int i), a2, a3, a4, a5, a6, a7, a8, a9, a10, a11, a12] := by
  obtain ⟨cs, hcs, fcs⟩ := Fcells (ns0 := ns0) (k := 5 * (i : Int) + 1) (by omega)
  simp_arith! only [g_law_f1, Fcell (ns0 := ns0) (k := 5 * (i : Int)) (by omega)]
  refine ⟨Or.inl ⟨by decide, by decide⟩, ?_⟩
  simp only [F__law_meeting]
  rintro m ⟨ns, pay, rfl, ho, _⟩
  refine ⟨Or.inl ⟨by decide, by decide⟩, ?_⟩
  simp only [fcs, Fplan ho hcs (show (0 : Int) < 5 by decide) (show (5 : Int) ≤ 8 by decide)]
  rintro x ⟨pl, rfl, hpk⟩
  have hp := hpk.w
  simp only [Fcell (ns0 := ns0) (k := 20 + (i : Int)) (by omega), F__law_patience]
  have hd := patR_ok (ns0.getD (20 + (i : Int)).toNat 0)
  generalize patR (ns0.getD (20 + (i : Int)).toNat 0) = d at hd ⊢
  have n3 := (okDeeds_mem ho.ok).1
  have h0 : 0 < pl.length := hp.few.1
  have h20 := hp.few.2
  have e2 : atI [dInts ns, D.tup (pay.map dInts)] 0 = some (dInts ns) := rfl
  simp_arith! only [FworthsW ho hp hd, Fgains ho hp hd, Fgain ho hp hd]
  intro f hf
  have ef : isNon f = decide (gainsL ns pay pl d = []) := by
    rcases hf with ⟨rfl, hf⟩ | ⟨y, hy, rfl⟩
    · rw [decide_eq_true hf]
      rfl
    · rw [decide_eq_false (List.ne_nil_of_mem hy)]
      rfl
  have eg : (!(!((gainsL ns pay pl d).map trip).isEmpty)) = decide (gainsL ns pay pl d = []) := by
    cases gainsL ns pay pl d <;> simp
  have eb : ∀ a b : Bool, eqD (.bl a) (.bl b) = some (a == b) := fun a b => by unfold eqD; rfl
  simp_arith! only [Fholds ho hp hd, eg, eb, oIs2, ef, beq_self_eq_true, Bool.not_true]
  refine ⟨by simp [dep], by simp [dep], ?_⟩
  simp_arith! only [oIsnot2, ef]
  have rest : ∀ a10 a11 a12 : Sl, (gFor (gRng1 (gCallB cLen (gConsA (gOp gIx (gVar 2) (gC (.int 0))) gNilA))) (gNm 10) g_law_f2) { De with nx := fun δ => (gIfS (gTest (gOp oNe (gVar 9) (gVar 8))) (gRet (gC (.bl false))) gNext) De δ } [.im (.lst (ns0.map D.int)), .im (.int i), .im (meetD ns pay), .im (planD pl), .im (fracD d), .im (worthsD ns pay pl d), .im (.lst ((gainsL ns pay pl d).map trip)), .im f, .im (.bl (decide (gainsL ns pay pl d = []))), .im (.bl true), a10, a11, a12] := by
    intro a10 a11 a12
    simp_arith! only [gFor, e2, List.length_map]
    refine ⟨⟨by omega, by omega⟩, fun h δ => ∃ a10 a11 a12, δ = [.im (.lst (ns0.map D.int)), .im (.int i), .im (meetD ns pay), .im (planD pl), .im (fracD d), .im (worthsD ns pay pl d), .im (.lst ((gainsL ns pay pl d).map trip)), .im f, .im (.bl (decide (gainsL ns pay pl d = []))), .im (.bl (sameTo ns pay pl d h)), a10, a11, a12], ⟨a10, a11, a12, ?_⟩, ?_, ?_⟩
    · rw [same_zero]
    · rintro h x δ ed ⟨a10, a11, a12, rfl⟩
      unfold rangeD at ed
      obtain ⟨hh, rfl⟩ := getm_map ed
      rw [List.length_range] at hh
      rw [List.getElem_range, Int.zero_add]
      exact l5_hand ho hp hd (by omega) fun _ _ => ⟨_, _, _, rfl⟩
    · rintro δ ⟨a10, a11, a12, rfl⟩
      rw [rangeD_len, Int.toNat_natCast, same_gain ho hp hd]
      simp_arith! only [eb, beq_self_eq_true, Bool.not_true]
      exact ⟨by simp [dep], hn _ _ _ _ _ _ _ _ _ _ _ _⟩
  by_cases hg : gainsL ns pay pl d = []
  · rw [decide_eq_true hg] at rest ⊢
    exact rest _ _ _
  · rw [decide_eq_false hg] at rest ⊢
    rcases hf with ⟨_, z⟩ | ⟨y, hy, rfl⟩
    · exact absurd z hg
    · have ha : ((gainsL ns pay pl d).map fun x => x == y).any id = true := by
        rw [List.any_map, List.any_eq_true]
        exact ⟨y, hy, by simp⟩
      have hdp := deps_trips (gainsL ns pay pl d)
      simp only [Bool.not_false, if_true, oNotin, seqOf, ansD_trips, ha, Bool.not_true, isBl, Bool.false_eq_true, if_false]
      exact ⟨by omega, rest _ _ _⟩
theorem vc_law : ∀ ds p, F_law ds = some p → g_law (retP p) (dstart ["_law_script", "_law_k", "_law_meeting_here", "_law_plan_here", "_law_patience_here", "_law_known", "_law_due", "_law_found", "_law_good", "_law_same", "_law_hand", "_law_told", "_law_deeds"] ds)
  | [.lst xs], p, h => by
    have h' : (match intsD xs with
      | some _ => some (fun d => d = D.bl true)
      | none => none) = some p := h
    clear h
    split at h'
    · rename_i ns0 e
      cases h'
      rw [ints_eq e]
      clear e
      show g_law _ [.im (.lst (ns0.map D.int)), .un, .un, .un, .un, .un, .un, .un, .un, .un, .un, .un, .un]
      unfold g_law
      simp_arith! only [gFor]
      refine ⟨by decide, fun i δ => ∃ (a1 a2 a3 a4 a5 a6 a7 a8 a9 a10 a11 a12 : Sl), δ = [.im (.lst (ns0.map D.int)), a1, a2, a3, a4, a5, a6, a7, a8, a9, a10, a11, a12], ⟨_, _, _, _, _, _, _, _, _, _, _, _, rfl⟩, ?_, ?_⟩
      · rintro i x δ ed ⟨a1, a2, a3, a4, a5, a6, a7, a8, a9, a10, a11, a12, rfl⟩
        unfold rangeD at ed
        obtain ⟨hi, rfl⟩ := getm_map ed
        rw [List.length_range] at hi
        rw [List.getElem_range, Int.zero_add]
        exact l5_turn hi fun _ _ _ _ _ _ _ _ _ _ _ _ => ⟨_, _, _, _, _, _, _, _, _, _, _, _, rfl⟩
      · rintro δ ⟨a1, a2, a3, a4, a5, a6, a7, a8, a9, a10, a11, a12, rfl⟩
        trivial
    · cases h'
end L2
namespace L2
open PySem PySem.Spec PyProof.Rows
section
variable {ns : List Int} {pay : List (List Int)} {pl : List (List Int × List Int)} {s : Nat} {r : List Int}
theorem atI_plan (hs : s < pl.length) : atI (pl.map fun s => D.tup [dInts s.1, dInts s.2]) (s : Int) = some (.tup [dInts (rowAt pl s), dInts (pl.getD s ([], [])).2]) := by
  rw [atI_of (by rw [List.length_map]; exact hs), List.getElem_map]
  unfold rowAt
  rw [getD_of hs]
theorem next_ok (hp : PlanW ns pl) (hs : s < pl.length) (hr : r ∈ rowsL ns) : (pl.getD s ([], [])).2.getD ((rowsL ns).idxOf r) 0 = (nextAt ns pl s r : Int) ∧ nextAt ns pl s r < pl.length ∧ (rowsL ns).idxOf r < (pl.getD s ([], [])).2.length := by
  have hm : pl.getD s ([], []) ∈ pl := by rw [getD_of hs]; exact List.getElem_mem hs
  obtain ⟨h1, h2⟩ := hp.nexts _ hm
  have hi : (rowsL ns).idxOf r < (pl.getD s ([], [])).2.length := by
    rw [h1]
    exact List.idxOf_lt_length_of_mem hr
  have := h2 _ (List.getElem_mem hi)
  unfold nextAt
  rw [getD_of hi]
  omega
theorem rowAt_mem (hp : PlanW ns pl) (hs : s < pl.length) : rowAt pl s ∈ rowsL ns := by
  unfold rowAt
  rw [getD_of hs]
  exact hp.row _ (List.getElem_mem hs)
end
theorem Fplace {ns r : List Int} (ho : okDeeds ns = true) (hr : r ∈ rowsL ns) : F_place_of [dInts r, dInts ns] = some (.int ((rowsL ns).idxOf r : Nat)) := by
  simp only [F_place_of, rowD_of, ints_map]
  rw [if_pos ⟨ho, hr⟩]
theorem vc_place_of : ∀ ds d, F_place_of ds = some d → g_place_of (retD d) (dstart ["row", "deeds", "place", "deed", "many"] ds)
  | [x, .tup es], d, h => by
    cases e1 : rowD x with
    | none => simp [F_place_of, e1] at h
    | some r =>
      cases e2 : intsD es with
      | none => simp [F_place_of, e1, e2] at h
      | some ns =>
        simp only [F_place_of, e1, e2] at h
        rw [rowD_eq e1, ints_eq e2]
        split at h
        · rename_i hc
          obtain ⟨ho, hr⟩ := hc
          cases h
          have rl := row_len hr
          show g_place_of _ [.im (dInts r), .im (.tup (ns.map D.int)), .un, .un, .un]
          simp_arith! only [g_place_of, g_place_of_1, dInts, zip_ints, gFor]
          refine ⟨fun i δ => ∃ a b, δ = [.im (.tup (r.map D.int)), .im (.tup (ns.map D.int)), .im (.int (placeI (r.take i) (ns.take i))), a, b], ⟨.un, .un, rfl⟩, ?_, ?_⟩
          · rintro i d δ ed ⟨a, b, rfl⟩
            obtain ⟨hi, rfl⟩ := getm_map ed
            rw [List.length_zip] at hi
            have h1 : i < r.length := by omega
            have h2 : i < ns.length := by omega
            have bd := place_bd ho hr i
            simp_arith! only [List.getElem_zip]
            refine ⟨.inl ⟨by omega, by omega⟩, .im (.int r[i]), .im (.int ns[i]), ?_⟩
            rw [placeI_take h1 h2 rl]
          · rintro δ ⟨a, b, rfl⟩
            simp_arith! only []
            rw [List.length_map, List.length_zip, rl, Nat.min_self, List.take_length, ← rl, List.take_length, place_idx hr]
        · cases h
theorem Fwith {r : List Int} {h : Nat} {k : Int} (hl : r.length ≤ 1000) (hh : h < r.length) : F_with_deed [dInts r, .int h, .int k] = some (dInts (r.set h k)) := by
  simp only [F_with_deed, rowD_of]
  rw [if_pos ⟨hl, by omega, by omega⟩]
  rfl
theorem vc_with_deed : ∀ ds d, F_with_deed ds = some d → g_with_deed (retD d) (dstart ["row", "hand", "deed"] ds)
  | [x, .int i, .int k], d, h => by
    cases e : rowD x with
    | none => simp [F_with_deed, e] at h
    | some r =>
      simp only [F_with_deed, e] at h
      rw [rowD_eq e]
      split at h
      · rename_i hc
        cases h
        obtain ⟨n, rfl⟩ : ∃ n : Nat, i = n := ⟨i.toNat, by omega⟩
        show g_with_deed _ [.im (dInts r), .im (.int n), .im (.int k)]
        have hn : n < r.length := by omega
        have e3 : ((n : Int) + 1) = ((n + 1 : Nat) : Int) := by omega
        simp_arith only [g_with_deed, dInts, e3, cutD_to r n hn, cutD_from r (n + 1) hn, List.length_append, List.length_map, List.length_cons, List.length_nil, List.length_take, List.length_drop]
        refine ⟨by decide, ends_le (by omega), ends_le (by omega), ?_⟩
        rw [Int.toNat_natCast, ← cut_set r n k hn]
        simp
      · cases h
theorem FpaidQ {ns : List Int} {pay : List (List Int)} {r : List Int} (ho : MeetOk ns pay) (hr : r ∈ rowsL ns) : F_paid [meetD ns pay, dInts r] = some (dInts (payAt ns pay r)) := by
  simp only [F_paid, onMeet_of ho, onRow_of hr]
theorem vc_paid : ∀ ds d, F_paid ds = some d → g_paid (retD d) (dstart ["meeting", "row"] ds)
  | [m, x], d, h => by
    obtain ⟨ns, pay, rfl, ho, h⟩ := onMeet_eq (show onMeet m _ = some d from h)
    obtain ⟨r, rfl, hr, h⟩ := onRow_eq h
    cases h
    show g_paid _ [.im (meetD ns pay), .im (dInts r)]
    have e0 : atI [dInts ns, D.tup (pay.map dInts)] 0 = some (dInts ns) := rfl
    have e1 : atI [dInts ns, D.tup (pay.map dInts)] 1 = some (D.tup (pay.map dInts)) := rfl
    have e2 : atI (pay.map dInts) ((rowsL ns).idxOf r : Nat) = some (dInts (payAt ns pay r)) := atI_rows (payAt_ix ho hr)
    simp_arith only [g_paid, meetD, e0, e1, Fplace ho.ok hr, e2]
theorem vc_common_divisor : ∀ ds d, F_common_divisor ds = some d → g_common_divisor (retD d) (dstart ["one", "other", "greater", "smaller", "rest"] ds)
  | [.int a, .int b], d, h => by
    cases h
    show g_common_divisor _ [.im (.int a), .im (.int b), .un, .un, .un]
    simp_arith only [g_common_divisor, g_common_divisor_2, g_common_divisor_1, gWhile]
    have ea : ∀ a : Int, (if a < 0 then -a else a) = (a.natAbs : Int) := fun a => by split <;> omega
    refine ⟨fun n δ => ∃ (x y : Nat) (z : Sl), δ = [.im (.int a), .im (.int b), .im (.int x), .im (.int y), z] ∧ n = y ∧ Nat.gcd x y = Int.gcd a b, ⟨b.natAbs, a.natAbs, b.natAbs, .un, by rw [ea, ea], rfl, rfl⟩, ?_⟩
    rintro n δ ⟨x, y, z, rfl, rfl, hg⟩
    simp_arith only []
    refine ⟨by decide, ?_⟩
    cases n with
    | zero =>
      simp
      rw [← hg]
      simp
    | succ y =>
      have e : ((((y + 1 : Nat) : Int)) == 0) = false := by simp; omega
      simp_arith only [e, Bool.not_false]
      refine ⟨by omega, (x % (y + 1) : Nat), Nat.mod_lt _ (Nat.succ_pos _), y + 1, x % (y + 1), _, rfl, rfl, ?_⟩
      rw [← hg, Nat.gcd_comm x, Nat.gcd_rec (y + 1) x, Nat.gcd_comm]
theorem Flowest {u l : Int} (hl : 0 < l) (h1 : Bd 7000 u) (h2 : Bd 7000 l) : F_lowest [.int u, .int l] = some (fracD (Rat.divInt u l)) := if_pos ⟨hl, h1, h2⟩
theorem vc_lowest : ∀ ds d, F_lowest ds = some d → g_lowest (retD d) (dstart ["upper", "lower", "sign", "divisor"] ds)
  | [.int u, .int l], d, h => by
    simp only [F_lowest] at h
    split at h
    · rename_i hh
      obtain ⟨hl, b1, b2⟩ := hh
      cases h
      show g_lowest _ [.im (.int u), .im (.int l), .un, .un]
      have ea : (if l < 0 then -l else l) = l := if_neg (by omega)
      have ed : l / l = 1 := Int.ediv_self (by omega)
      have gd : (Int.gcd u l) ∣ l.natAbs := Int.gcd_dvd_natAbs_right u l
      have gle : Int.gcd u l ≤ l.natAbs := Nat.le_of_dvd (by omega) gd
      have gpos : 0 < Int.gcd u l := Nat.pos_of_dvd_of_pos gd (by omega)
      have bx : Bd 8000 ((Int.gcd u l : Nat) : Int) := (b2.of_le (i := (Int.gcd u l : Nat)) (by omega) (by omega)).mono (by decide)
      have bl : Bd 8000 l := b2.mono (by decide)
      simp_arith only [g_lowest, g_lowest_2, g_lowest_1, ea, ed, F_common_divisor, Int.one_mul, divInt_frac hl, List.length_cons, List.length_nil]
      exact ⟨⟨hl, bl⟩, .inl (.inl ⟨by decide, by decide⟩), ⟨by omega, bx⟩, ⟨by omega, bx⟩, by decide, trivial⟩
    · cases h
theorem Fbehind {ns : List Int} {pay : List (List Int)} {pl : List (List Int × List Int)} {s : Nat} {r : List Int} (ho : MeetOk ns pay) (hp : PlanW ns pl) (hs : s < pl.length) (hr : r ∈ rowsL ns) : F_state_behind [meetD ns pay, planD pl, .int s, dInts r] = some (.int (nextAt ns pl s r)) := by
  simp only [F_state_behind, onMeet_of ho, onPlan_of hp, onHand_of hs, onRow_of hr]
theorem vc_state_behind : ∀ ds d, F_state_behind ds = some d → g_state_behind (retD d) (dstart ["meeting", "plan", "state", "row"] ds)
  | [m, p, x, y], d, h => by
    obtain ⟨ns, pay, rfl, ho, h⟩ := onMeet_eq (show onMeet m _ = some d from h)
    obtain ⟨pl, rfl, hp, h⟩ := onPlan_eq h
    obtain ⟨s, rfl, hs, h⟩ := onHand_eq h
    obtain ⟨r, rfl, hr, h⟩ := onRow_eq h
    cases h
    show g_state_behind _ [.im (meetD ns pay), .im (.tup (pl.map fun s => D.tup [dInts s.1, dInts s.2])), .im (.int s), .im (dInts r)]
    have e0 : atI [dInts ns, D.tup (pay.map dInts)] 0 = some (dInts ns) := rfl
    have e1 : atI [dInts (rowAt pl s), dInts (pl.getD s ([], [])).2] 1 = some (dInts (pl.getD s ([], [])).2) := rfl
    obtain ⟨n1, n2, n3⟩ := next_ok hp hs hr
    have e2 : atI ((pl.getD s ([], [])).2.map D.int) ((rowsL ns).idxOf r : Nat) = some (.int (nextAt ns pl s r)) := by rw [atI_ints n3, n1]
    simp_arith only [g_state_behind, e0, e1, atI_plan hs, Fplace ho.ok hr, e2]
theorem FpaysOf {ns : List Int} {pay : List (List Int)} {rs : List (List Int)} {x : D} {h : Nat} (ho : MeetOk ns pay) (hx : seqOf x = some (rs.map dInts)) (h1 : rs.length ≤ 20) (h2 : ∀ r ∈ rs, r ∈ rowsL ns) (hh : h < ns.length) :
    F_pays_of [meetD ns pay, x, .int h] = some (.lst ((rs.map fun r => payH ns pay r h).map D.int)) := by
  simp only [F_pays_of, onMeet_of ho, onRows_ofS hx h1 h2, onHand_of hh]
theorem vc_pays_of : ∀ ds d, F_pays_of ds = some d → g_pays_of (retD d) (dstart ["meeting", "rows", "hand"] ds)
  | [m, x, y], d, h => by
    obtain ⟨ns, pay, rfl, ho, h⟩ := onMeet_eq (show onMeet m _ = some d from h)
    obtain ⟨rs, hx, h1, h2, h⟩ := onRows_eq h
    obtain ⟨i, rfl, hi, h⟩ := onHand_eq h
    cases h
    show g_pays_of _ [.im (meetD ns pay), .im x, .im (.int i)]
    simp_arith only [g_pays_of, gIs, hx, gComp]
    refine ⟨by rw [List.length_map]; exact ends_le (by omega), fun x => match rowD x with
      | some r => .int (payH ns pay r i)
      | none => .non, fun x hx => ?_, ?_⟩
    · obtain ⟨r, hr, rfl⟩ := List.mem_map.mp hx
      have hr := h2 r hr
      have hp : i < (payAt ns pay r).length := by rw [(payAt_ok ho hr).1]; exact hi
      have ei : atI ((payAt ns pay r).map D.int) (i : Nat) = some (.int (payH ns pay r i)) := atI_ints hp
      simp_arith only [δc, List.map_cons, List.map_nil, FpaidQ ho hr, ei, rowD_of]
    · rw [List.map_map, List.map_map]
      congr 1
      refine List.map_congr_left fun r _ => ?_
      simp only [Function.comp, rowD_of]
theorem Fweighed {ys : List Int} {d : Rat} (hy : okPays ys = true) (hd : PatOk d) : F_weighed [.lst (ys.map D.int), fracD d] = some (.int (wgh d.num d.den ys)) := by
  simp only [F_weighed, ints_map, if_pos hy, onPat_of hd]
theorem wgh_take (p q : Int) (ys : List Int) {i : Nat} (hi : i < ys.length) : ((ys.take (i + 1)).foldl (fun (a : Int × Int) y => (a.1 * q + a.2 * y, a.2 * p)) (0, 1)) = (((ys.take i).foldl (fun (a : Int × Int) y => (a.1 * q + a.2 * y, a.2 * p)) (0, 1)).1 * q + ((ys.take i).foldl (fun (a : Int × Int) y => (a.1 * q + a.2 * y, a.2 * p)) (0, 1)).2 * ys[i], ((ys.take i).foldl (fun (a : Int × Int) y => (a.1 * q + a.2 * y, a.2 * p)) (0, 1)).2 * p) := by
  rw [List.take_succ, List.getElem?_eq_getElem hi, Option.toList_some, List.foldl_append]
  rfl
theorem vc_weighed : ∀ ds d, F_weighed ds = some d → g_weighed (retD d) (dstart ["pays", "patience", "total", "weight", "pay"] ds)
  | [.lst es, x], r, h => by
    cases ei : intsD es with
    | none => simp [F_weighed, ei] at h
    | some ys =>
      simp only [F_weighed, ei] at h
      split at h
      · rename_i hy
        obtain ⟨d, rfl, hd, h⟩ := onPat_eq h
        cases h
        rw [ints_eq ei]
        obtain ⟨y1, y2⟩ := okPays_mem hy
        show g_weighed _ [.im (.lst (ys.map D.int)), .im (fracD d), .un, .un, .un]
        have e0 : atI [D.int d.num, D.int d.den] 0 = some (.int d.num) := rfl
        have e1 : atI [D.int d.num, D.int d.den] 1 = some (.int d.den) := rfl
        have bp : Bd 40 d.num := hd.bits.1
        have bq : Bd 40 (d.den : Int) := hd.bits.2
        have key : ∀ i, (ys.take i).foldl (fun (a : Int × Int) y => (a.1 * (d.den : Int) + a.2 * y, a.2 * d.num)) (0, 1) = (wgh d.num d.den (ys.take i), d.num ^ (ys.take i).length) := by
          intro i
          rw [wgh_fold]
          simp
        simp_arith only [g_weighed, g_weighed_2, gFor]
        refine ⟨fun i δ => ∃ a4, δ = [.im (.lst (ys.map D.int)), .im (fracD d), .im (.int (wgh d.num d.den (ys.take i))), .im (.int (d.num ^ (ys.take i).length)), a4], ⟨.un, by simp [wgh]⟩, ?_, ?_⟩
        · rintro i x δ ed ⟨a4, rfl⟩
          obtain ⟨hi, rfl⟩ := getm_map ed
          have k1 := key i
          have k2 := wgh_take d.num d.den ys hi
          rw [key (i + 1), k1] at k2
          have hl : (ys.take i).length ≤ 20 := by rw [List.length_take]; omega
          have b1 : Bd 8000 (wgh d.num d.den (ys.take i)) := (wgh_bd bp bq (ys := ys.take i) fun y hy => y2 y (List.mem_of_mem_take hy)).mono (by omega)
          have b2 : Bd 8000 (d.num ^ (ys.take i).length) := (bp.pow _).mono (by omega)
          have b3 : Bd 8000 ys[i] := by
            have := y2 ys[i] (List.getElem_mem hi)
            have b : Bd 4 ys[i] := by unfold Bd; omega
            exact b.mono (by decide)
          simp_arith only [e0, e1]
          refine ⟨.inr ⟨b1, bq.mono (by decide)⟩, .inr ⟨b2, b3⟩, .inr ⟨b2, bp.mono (by decide)⟩, .im (.int ys[i]), ?_⟩
          have k3 := congrArg Prod.fst k2
          have k4 := congrArg Prod.snd k2
          simp only at k3 k4
          rw [k3, k4]
        · rintro δ ⟨a4, rfl⟩
          simp_arith only []
          rw [List.length_map, List.take_length]
      · cases h
theorem at2_0 (a b : Int) : atI [D.int a, D.int b] 0 = some (.int a) := rfl
theorem at2_1 (a b : Int) : atI [D.int a, D.int b] 1 = some (.int b) := rfl
theorem vc_is_less : ∀ ds d, F_is_less ds = some d → g_is_less (retD d) (dstart ["one", "other"] ds)
  | [.tup [.int a, .int b], .tup [.int c, .int e]], r, h => by
    simp only [F_is_less] at h
    split at h
    · rename_i hh
      obtain ⟨h1, h2, h3, h4⟩ := hh
      cases h
      show g_is_less _ [.im (.tup [.int a, .int b]), .im (.tup [.int c, .int e])]
      simp_arith only [g_is_less, at2_0, at2_1]
      exact ⟨.inr ⟨h1.mono (by decide), h4.mono (by decide)⟩, .inr ⟨h3.mono (by decide), h2.mono (by decide)⟩, trivial⟩
    · cases h
theorem at3_0 (a b : Int) : atI [D.int a, D.int b] 0 = some (.int a) := rfl
theorem at3_1 (a b : Int) : atI [D.int a, D.int b] 1 = some (.int b) := rfl
theorem vc_now_and_later : ∀ ds d, F_now_and_later ds = some d → g_now_and_later (retD d) (dstart ["pay", "later", "patience", "upper"] ds)
  | [.int x, .tup [.int u, .int l], y], r, h => by
    obtain ⟨d, rfl, hd, h1⟩ := onPat_eq (show onPat y _ = some r from h)
    clear h
    split at h1
    · rename_i hh
      obtain ⟨b1, b2, b3⟩ := hh
      cases h1
      show g_now_and_later _ [.im (.int x), .im (.tup [.int u, .int l]), .im (fracD d), .un]
      have c1 := hd.bits.2.sub hd.bits.1
      have c2 := c1.mul b1
      simp_arith only [g_now_and_later, g_now_and_later_1, at3_0, at3_1, List.length_cons, List.length_nil]
      exact ⟨.inr ⟨c1.mono (by decide), b1.mono (by decide)⟩, .inr ⟨c2.mono (by decide), b3.mono (by decide)⟩, .inr ⟨hd.bits.1.mono (by decide), b2.mono (by decide)⟩, .inr ⟨hd.bits.2.mono (by decide), b3.mono (by decide)⟩, by decide, trivial⟩
    · cases h1
end L2
namespace L2
open PySem PySem.Spec PyProof.Rows
theorem FworthP {xs ys : List Int} {d : Rat} (hx : okPays xs = true) (hy : okPays ys = true) (hn : ys ≠ []) (hd : PatOk d) : F_worth_of_pays [.lst (xs.map D.int), .lst (ys.map D.int), fracD d] = some (fracD (woL d xs ys)) := by
  simp only [F_worth_of_pays, ints_map, if_pos (show okPays xs = true ∧ okPays ys = true ∧ ys ≠ [] from ⟨hx, hy, hn⟩), onPat_of hd]
theorem woL_cons (d : Rat) (x : Int) (xs ys : List Int) : woL d (x :: xs) ys = (1 - d) * x + d * woL d xs ys := by
  unfold woL
  rw [List.map_cons, List.length_cons, Rat.pow_succ]
  show (1 - d) * (x : Rat) + d * fstL d (xs.map fun (x : Int) => (x : Rat)) + _ = _
  grind
theorem step_eq {d : Rat} (x u l : Int) (hl : 0 < l) : Rat.divInt (((d.den : Int) - d.num) * x * l + d.num * u) ((d.den : Int) * l) = (1 - d) * x + d * Rat.divInt u l := by
  have h1 := rat_num d
  have n1 := den_ne d
  have n2 : ((l : Int) : Rat) ≠ 0 := by
    intro z
    have z2 : ((l : Int) : Rat) = ((0 : Int) : Rat) := z
    rw [Rat.intCast_inj] at z2
    omega
  rw [Rat.divInt_eq_div, Rat.divInt_eq_div, Rat.intCast_add, Rat.intCast_mul, Rat.intCast_mul, Rat.intCast_mul, Rat.intCast_mul, Rat.intCast_sub]
  generalize ((d.den : Int) : Rat) = a at *
  generalize ((d.num : Int) : Rat) = p at *
  generalize ((l : Int) : Rat) = b at *
  generalize ((u : Int) : Rat) = y at *
  grind
theorem vc_worth_of_pays : ∀ ds d, F_worth_of_pays ds = some d → g_worth_of_pays (retD d) (dstart ["before", "again", "patience", "worth", "pay"] ds)
  | [.lst as, .lst bs, x], r, h => by
    cases ea : intsD as with
    | none => simp [F_worth_of_pays, ea] at h
    | some xs =>
      cases eb : intsD bs with
      | none => simp [F_worth_of_pays, ea, eb] at h
      | some ys =>
        simp only [F_worth_of_pays, ea, eb] at h
        split at h
        · rename_i hc
          obtain ⟨hx, hy, hn⟩ := hc
          obtain ⟨d, rfl, hd, h⟩ := onPat_eq h
          cases h
          rw [ints_eq ea, ints_eq eb]
          obtain ⟨x1, x2⟩ := okPays_mem hx
          obtain ⟨y1, y2⟩ := okPays_mem hy
          have hyl : 0 < ys.length := List.length_pos_iff.mpr hn
          show g_worth_of_pays _ [.im (.lst (xs.map D.int)), .im (.lst (ys.map D.int)), .im (fracD d), .un, .un]
          have e0 : ∀ a b : Int, atI [D.int a, D.int b] 0 = some (.int a) := fun _ _ => rfl
          have e1 : ∀ a b : Int, atI [D.int a, D.int b] 1 = some (.int b) := fun _ _ => rfl
          have bp : Bd 40 d.num := hd.bits.1
          have bq : Bd 40 (d.den : Int) := hd.bits.2
          have o1 : okPays (List.replicate ys.length 1) = true := okPays_of (by simpa using y1) fun y hy => by rw [List.eq_of_mem_replicate hy]; decide
          have er : (List.replicate (ys.length : Int).toNat [D.int 1]).flatten = (List.replicate ys.length (1 : Int)).map D.int := by
            rw [Int.toNat_natCast]
            generalize ys.length = n
            induction n with
            | zero => rfl
            | succ n ih => rw [List.replicate_succ, List.flatten_cons, ih, List.replicate_succ]; rfl
          have b1 : Bd 1000 (wgh d.num d.den ys) := (wgh_bd bp bq y2).mono (by omega)
          have b2 : Bd 1000 (wgh d.num d.den (List.replicate ys.length 1)) := (wgh_bd bp bq (ys := List.replicate ys.length 1) fun y hy => by rw [List.eq_of_mem_replicate hy]; decide).mono (by rw [List.length_replicate]; omega)
          obtain ⟨pn1, pn2⟩ := pat_num hd
          have b3 : Bd 41 ((d.den : Int) - d.num) := bq.sub bp
          simp_arith only [g_worth_of_pays, g_worth_of_pays_2, g_worth_of_pays_1, Fweighed hy hd, gRepL, List.length_map, List.length_cons, List.length_nil, er, Fweighed o1 hd, gRev, gFor]
          refine ⟨by decide, ⟨by omega, by omega, ends_le (by omega)⟩, by decide, fun i δ => ∃ (u l : Int) (a4 : Sl), δ = [.im (.lst (xs.map D.int)), .im (.lst (ys.map D.int)), .im (fracD d), .im (.tup [.int u, .int l]), a4] ∧ 0 < l ∧ Bd (50 * i + 1000) u ∧ Bd (50 * i + 1000) l ∧ Rat.divInt u l = woL d (xs.drop (xs.length - i)) ys, ⟨_, _, .un, rfl, wgh_pos hd hyl, b1, b2, ?_⟩, ?_, ?_⟩
          · rw [Nat.sub_zero, List.drop_length, ← over_eq hd hn]
            show _ = (0 : Rat) + d ^ 0 * _
            rw [Rat.pow_zero]
            grind
          · rintro i x δ ed ⟨u, l, a4, rfl, hl, bu, bl, ew⟩
            have hi : i < xs.length := by
              have := (List.getElem?_eq_some_iff.mp ed).1
              simpa using this
            rw [List.getElem?_reverse (by simpa using hi), List.length_map] at ed
            obtain ⟨hj, rfl⟩ := getm_map ed
            have bx : Bd 4 xs[xs.length - 1 - i] := by
              have := x2 _ (List.getElem_mem hj)
              unfold Bd
              omega
            have c1 := b3.mul bx
            have c2 := c1.mul bl
            have c3 := bp.mul bu
            have c4 := bq.mul bl
            have c5 : Bd (50 * i + 1045 + 1) (((d.den : Int) - d.num) * xs[xs.length - 1 - i] * l + d.num * u) := (c2.mono (by omega)).add (c3.mono (by omega))
            simp_arith only [Fnow hd (bx.mono (by decide)) (bu.mono (by omega)) (bl.mono (by omega))]
            refine ⟨_, _, _, rfl, Int.mul_pos (by omega) hl, c5.mono (by omega), c4.mono (by omega), ?_⟩
            rw [step_eq _ u l hl, ew, show xs.length - (i + 1) = xs.length - 1 - i by omega, List.drop_eq_getElem_cons hj, woL_cons, show xs.length - 1 - i + 1 = xs.length - i by omega]
          · rintro δ ⟨u, l, a4, rfl, hl, bu, bl, ew⟩
            rw [List.length_reverse, List.length_map] at bu bl ew
            rw [Nat.sub_self, List.drop_zero] at ew
            simp_arith only [e0, e1, Flowest hl (bu.mono (by omega)) (bl.mono (by omega)), ew]
        · cases h
theorem FwoS {ns : List Int} {pay : List (List Int)} {d : Rat} (ho : MeetOk ns pay) (hd : PatOk d) {x y : D} {rows over : List (List Int)} (hx : seqOf x = some (rows.map dInts)) (hy : seqOf y = some (over.map dInts)) (h1 : rows.length ≤ 20) (h2 : ∀ r ∈ rows, r ∈ rowsL ns) (h3 : over.length ≤ 20) (h4 : ∀ r ∈ over, r ∈ rowsL ns) (h5 : over ≠ []) :
    F_worth_of [meetD ns pay, x, y, fracD d] = some (.tup ((List.range ns.length).map fun h => fracD (woR ns pay rows over d h))) := by
  simp only [F_worth_of, onMeet_of ho, onRows_ofS hx h1 h2, onRows_ofS hy h3 h4, onPat_of hd, if_neg h5]
theorem woL_R {ns : List Int} {pay : List (List Int)} {d : Rat} (rows over : List (List Int)) (h : Nat) : woL d (rows.map fun r => payH ns pay r h) (over.map fun r => payH ns pay r h) = woR ns pay rows over d h := by
  unfold woL woR
  rw [List.map_map, List.map_map, List.length_map, List.length_map]
  rfl
theorem vc_worth_of : ∀ ds d, F_worth_of ds = some d → g_worth_of (retD d) (dstart ["meeting", "rows", "over", "patience", "told", "hand", "before", "again"] ds)
  | [m, x, y, z], r, h => by
    obtain ⟨ns, pay, rfl, ho, h⟩ := onMeet_eq (show onMeet m _ = some r from h)
    obtain ⟨rows, hx, h1, h2, h⟩ := onRows_eq h
    obtain ⟨over, hy, h3, h4, h⟩ := onRows_eq h
    obtain ⟨d, rfl, hd, h⟩ := onPat_eq h
    split at h
    · cases h
    · rename_i h5
      cases h
      show g_worth_of _ [.im (meetD ns pay), .im x, .im y, .im (fracD d), .un, .un, .un, .un]
      have e0 : atI [dInts ns, D.tup (pay.map dInts)] 0 = some (dInts ns) := rfl
      have n3 := (okDeeds_mem ho.ok).1
      simp_arith only [g_worth_of, g_worth_of_1, e0, gFor, List.length_nil, List.length_map]
      refine ⟨by decide, ⟨by omega, by omega⟩, fun i δ => ∃ a5 a6 a7, δ = [.im (meetD ns pay), .im x, .im y, .im (fracD d), .ow ((List.range i).map fun h => fracD (woR ns pay rows over d h)), a5, a6, a7], ⟨_, _, _, rfl⟩, ?_, ?_⟩
      · rintro i w δ ed ⟨a5, a6, a7, rfl⟩
        unfold rangeD at ed
        obtain ⟨hi, rfl⟩ := getm_map ed
        rw [List.length_range] at hi
        have hi' : i < ns.length := by omega
        rw [List.getElem_range, Int.zero_add]
        have o1 : okPays (rows.map fun r => payH ns pay r i) = true := okPays_of (by simpa using h1) fun w hw => by
          obtain ⟨r, hr, rfl⟩ := List.mem_map.mp hw
          exact payH_bd ho (h2 r hr)
        have o2 : okPays (over.map fun r => payH ns pay r i) = true := okPays_of (by simpa using h3) fun w hw => by
          obtain ⟨r, hr, rfl⟩ := List.mem_map.mp hw
          exact payH_bd ho (h4 r hr)
        have o3 : (over.map fun r => payH ns pay r i) ≠ [] := by simpa using h5
        simp_arith only [FpaysOf ho hx h1 h2 hi', FpaysOf ho hy h3 h4 hi', FworthP o1 o2 o3 hd, woL_R, List.length_map, List.length_range]
        refine ⟨small1000 (by omega), ?_⟩
        rw [show (List.range (i + 1)).map (fun h => fracD (woR ns pay rows over d h)) = (List.range i).map (fun h => fracD (woR ns pay rows over d h)) ++ [fracD (woR ns pay rows over d i)] by rw [List.range_succ, List.map_append]; rfl]
        exact ⟨_, _, _, rfl⟩
      · rintro δ ⟨a5, a6, a7, rfl⟩
        simp_arith only []
        rw [rangeD_len, Int.toNat_natCast]
end L2
namespace L2
open PySem PySem.Spec PyProof.Rows
section
variable {ns : List Int} {pay : List (List Int)} {pl : List (List Int × List Int)} {d : Rat} {h s : Nat}
theorem worth_pathS (hp : PlanW ns pl) (hd : PatOk d) (hs : s < pl.length) {n i : Nat} (hi : i < n) (e : stp (goAt ns pl) n s = stp (goAt ns pl) i s) : worthR ns pay pl d h s = woR ns pay (((List.range n).map fun t => rowAt pl (stp (goAt ns pl) t s)).take i) (((List.range n).map fun t => rowAt pl (stp (goAt ns pl) t s)).drop i) d h := by
  have W := worth_sol (h := h) (pay := pay) hp hd
  have hf := pgo_lt hp
  have a := W.unroll hf i s hs
  have hc := stp_lt hf i s hs
  have b := W.unroll hf (n - i) (stp (goAt ns pl) i s) hc
  rw [← stp_add, show i + (n - i) = n by omega, e] at b
  unfold woR
  have l1 : fstL d ((((List.range n).map fun t => rowAt pl (stp (goAt ns pl) t s)).take i).map (fun r => (payH ns pay r h : Rat))) = fst d (fun s => (payH ns pay (rowAt pl s) h : Rat)) (goAt ns pl) i s := by
    rw [fst_list, ← List.map_take, List.map_map, List.take_range, Nat.min_eq_left (by omega)]
    rfl
  have l2 : fstL d ((((List.range n).map fun t => rowAt pl (stp (goAt ns pl) t s)).drop i).map (fun r => (payH ns pay r h : Rat))) = fst d (fun s => (payH ns pay (rowAt pl s) h : Rat)) (goAt ns pl) (n - i) (stp (goAt ns pl) i s) := by
    rw [fst_list, ← List.map_drop, List.map_map]
    congr 1
    refine List.ext_getElem (by simp) fun k h1 h2 => ?_
    simp only [List.getElem_map, List.getElem_drop, List.getElem_range, Function.comp]
    rw [← stp_add]
  rw [l1, l2, List.length_take, List.length_drop, List.length_map, List.length_range, Nat.min_eq_left (by omega), a]
  obtain ⟨p1, p2⟩ := pow_lt_one hd.pos hd.lt (n - i) (by omega)
  have hne : (1 - d ^ (n - i)) ≠ 0 := by grind
  have k : worthR ns pay pl d h (stp (goAt ns pl) i s) = fst d (fun s => (payH ns pay (rowAt pl s) h : Rat)) (goAt ns pl) (n - i) (stp (goAt ns pl) i s) / (1 - d ^ (n - i)) := by grind
  rw [k]
def cameL (f : Nat → Nat) (t : Nat) : List (Int × Int) := (List.range t).map fun (k : Nat) => ((f k : Int), (k : Int))
theorem look_some {f : Nat → Nat} {t : Nat} {x i : Int} (e : lookM (cameL f t) x = some i) : ∃ k, k < t ∧ i = (k : Int) ∧ (f k : Int) = x := by
  unfold lookM at e
  obtain ⟨p, hp, e2⟩ := Option.map_eq_some_iff.mp e
  have h1 := List.mem_of_find?_eq_some hp
  have h2 := List.find?_some hp
  unfold cameL at h1
  obtain ⟨k, hk, rfl⟩ := List.mem_map.mp h1
  exact ⟨k, List.mem_range.mp hk, e2.symm, of_decide_eq_true h2⟩
theorem look_none {f : Nat → Nat} {t : Nat} {x : Int} (e : lookM (cameL f t) x = none) : ∀ k, k < t → (f k : Int) ≠ x := by
  intro k hk z
  unfold lookM at e
  have e2 := Option.map_eq_none_iff.mp e
  have := List.find?_eq_none.mp e2 ((f k : Int), (k : Int)) (List.mem_map.mpr ⟨k, List.mem_range.mpr hk, rfl⟩)
  exact this (decide_eq_true z)
theorem put_new {f : Nat → Nat} {t : Nat} {x : Int} (hx : (f t : Int) = x) (e : lookM (cameL f t) x = none) : putM (cameL f t) x t = cameL f (t + 1) := by
  unfold putM
  have hn : ¬ ((cameL f t).any fun p => decide (p.1 = x)) = true := by
    intro z
    obtain ⟨p, hp, hq⟩ := List.any_eq_true.mp z
    unfold cameL at hp
    obtain ⟨k, hk, rfl⟩ := List.mem_map.mp hp
    exact look_none e k (List.mem_range.mp hk) (of_decide_eq_true hq)
  rw [if_neg hn]
  unfold cameL
  rw [List.range_succ, List.map_append, ← hx]
  rfl
theorem FworthsF (ho : MeetOk ns pay) (hp : PlanW ns pl) (hs : s < pl.length) (hd : PatOk d) : F_worths_from [meetD ns pay, planD pl, .int s, fracD d] = some (.tup ((List.range ns.length).map fun h => fracD (worthR ns pay pl d h s))) := by
  simp only [F_worths_from, onMeet_of ho, onPlan_of hp, onHand_of hs, onPat_of hd]
end
theorem vc_worths_from : ∀ ds d, F_worths_from ds = some d → g_worths_from (retD d) (dstart ["meeting", "plan", "start", "patience", "came", "state", "rows"] ds)
  | [m, p, x, z], r, h => by
    obtain ⟨ns, pay, rfl, ho, h⟩ := onMeet_eq (show onMeet m _ = some r from h)
    obtain ⟨pl, rfl, hp, h⟩ := onPlan_eq h
    obtain ⟨s, rfl, hs, h⟩ := onHand_eq h
    obtain ⟨d, rfl, hd, h⟩ := onPat_eq h
    cases h
    show g_worths_from _ [.im (meetD ns pay), .im (planD pl), .im (.int s), .im (fracD d), .un, .un, .un]
    have hf := pgo_lt hp
    have h20 := hp.few.2
    simp_arith only [g_worths_from, g_worths_from_4, g_worths_from_3, g_worths_from_2, g_worths_from_2, gDnew, gWhile]
    refine ⟨fun n δ => ∃ t : Nat, δ = [.im (meetD ns pay), .im (planD pl), .im (.int s), .im (fracD d), .od (.k (cameL (fun k => stp (goAt ns pl) k s) t)), .im (.int (stp (goAt ns pl) t s)), .un] ∧ n = pl.length - t ∧ t ≤ pl.length ∧ ∀ i j, i < j → j < t → stp (goAt ns pl) i s ≠ stp (goAt ns pl) j s, ⟨pl.length, 0, rfl, rfl, Nat.zero_le _, fun i j _ hj => absurd hj (Nat.not_lt_zero j)⟩, ?_⟩
    rintro n δ ⟨t, rfl, rfl, ht, hdis⟩
    have hst := stp_lt hf t s hs
    simp_arith only [gDnotin, slotM, gKI, DM.get]
    cases el : lookM (cameL (fun k => stp (goAt ns pl) k s) t) (stp (goAt ns pl) t s : Int) with
    | none =>
      have hnew := look_none el
      have hdis' : ∀ i j, i < j → j < t + 1 → stp (goAt ns pl) i s ≠ stp (goAt ns pl) j s := by
        intro i j hij hj z
        by_cases hjt : j = t
        · subst hjt
          exact hnew i hij (by rw [z])
        · exact hdis i j hij (by omega) z
      have htl : t < pl.length := by
        apply Nat.lt_of_not_le
        intro z
        have e : t = pl.length := by omega
        obtain ⟨i, j, hij, hj, ez⟩ := dup_of_lt pl.length (fun k => stp (goAt ns pl) k s) fun k _ => stp_lt hf k s hs
        exact hdis' i j hij (by omega) ez
      have e0 : atI [dInts (rowAt pl (stp (goAt ns pl) t s)), dInts (pl.getD (stp (goAt ns pl) t s) ([], [])).2] 0 = some (dInts (rowAt pl (stp (goAt ns pl) t s))) := rfl
      have hlen : (cameL (fun k => stp (goAt ns pl) k s) t).length = t := by simp [cameL]
      have hz : t < sizeLine := small1000 (by omega)
      have hstep : nextAt ns pl (stp (goAt ns pl) t s) (rowAt pl (stp (goAt ns pl) t s)) = stp (goAt ns pl) (t + 1) s := by
        rw [stp_add]
        rfl
      simp_arith only [Option.isSome_none, Bool.not_false, gDput, gDlen, slotM, gKI, DM.put, hlen, hz, atI_plan hst, e0, Fbehind ho hp hst (rowAt_mem hp hst), hstep]
      refine ⟨pl.length - (t + 1), by omega, t + 1, ?_, rfl, htl, hdis'⟩
      rw [put_new (f := fun k => stp (goAt ns pl) k s) rfl el]
    | some i0 =>
      obtain ⟨i, hi, rfl, hii⟩ := look_some el
      have hii : stp (goAt ns pl) i s = stp (goAt ns pl) t s := by omega
      simp_arith only [Option.isSome_some, Bool.not_true, g_worths_from_3, g_worths_from_4, gDfrz, gDkeys, gComp]
      refine ⟨by simp only [List.length_map, cameL, List.length_range]; exact ends_le (by omega), fun x => match x with
        | .int k => dInts (rowAt pl k.toNat)
        | _ => .non, fun x hx => ?_, ?_⟩
      · obtain ⟨q, hq, rfl⟩ := List.mem_map.mp hx
        unfold cameL at hq
        obtain ⟨k, hk, rfl⟩ := List.mem_map.mp hq
        have hsk := stp_lt hf k s hs
        have e0 : atI [dInts (rowAt pl (stp (goAt ns pl) k s)), dInts (pl.getD (stp (goAt ns pl) k s) ([], [])).2] 0 = some (dInts (rowAt pl (stp (goAt ns pl) k s))) := rfl
        simp_arith only [δc, List.map_cons, List.map_nil, atI_plan hsk, e0, Int.toNat_natCast]
      · have em : ((cameL (fun k => stp (goAt ns pl) k s) t).map fun p => D.int p.1).map (fun x => match x with
          | .int k => dInts (rowAt pl k.toNat)
          | _ => .non) = ((List.range t).map fun k => rowAt pl (stp (goAt ns pl) k s)).map dInts := by
          unfold cameL
          rw [List.map_map, List.map_map, List.map_map]
          refine List.map_congr_left fun k _ => ?_
          simp
        rw [em]
        generalize hR : ((List.range t).map fun k => rowAt pl (stp (goAt ns pl) k s)) = R
        have hl : R.length = t := by rw [← hR]; simp
        have hm : ∀ r ∈ R, r ∈ rowsL ns := by
          intro r hr
          rw [← hR] at hr
          obtain ⟨k, _, rfl⟩ := List.mem_map.mp hr
          exact rowAt_mem hp (stp_lt hf k s hs)
        have c1 : cutD (R.map dInts) none (some (i : Int)) = (R.take i).map dInts := by rw [cutD_take _ _ (by rw [List.length_map]; omega), List.map_take]
        have c2 : cutD (R.map dInts) (some (i : Int)) none = (R.drop i).map dInts := by rw [cutD_drop _ _ (by rw [List.length_map]; omega), List.map_drop]
        have fw := FwoS (pay := pay) ho hd (x := .lst ((R.take i).map dInts)) (y := .lst ((R.drop i).map dInts)) (rows := R.take i) (over := R.drop i) rfl rfl (by rw [List.length_take]; omega) (fun r hr => hm r (List.mem_of_mem_take hr)) (by rw [List.length_drop]; omega) (fun r hr => hm r (List.mem_of_mem_drop hr)) (by
          intro z
          have := congrArg List.length z
          rw [List.length_drop] at this
          simp at this
          omega)
        simp_arith only [gSlL, gDget, slotM, gKI, DM.get, el, c1, c2, fw]
        congr 1
        refine List.map_congr_left fun h _ => ?_
        rw [← hR, worth_pathS hp hd hs hi hii.symm]
theorem vc_worths : ∀ ds d, F_worths ds = some d → g_worths (retD d) (dstart ["meeting", "plan", "patience"] ds)
  | [m, p, z], r, h => by
    obtain ⟨ns, pay, rfl, ho, h⟩ := onMeet_eq (show onMeet m _ = some r from h)
    obtain ⟨pl, rfl, hp, h⟩ := onPlan_eq h
    obtain ⟨d, rfl, hd, h⟩ := onPat_eq h
    cases h
    show g_worths _ [.im (meetD ns pay), .im (planD pl), .im (fracD d)]
    have h20 := hp.few.2
    simp_arith only [g_worths, gComp, List.length_map]
    refine ⟨⟨by omega, by omega⟩, by rw [rangeD_len]; exact ends_le (by omega), fun x => match x with
      | .int s => .tup ((List.range ns.length).map fun h => fracD (worthR ns pay pl d h s.toNat))
      | _ => .non, fun x hx => ?_, ?_⟩
    · unfold rangeD at hx
      obtain ⟨s, hs, rfl⟩ := List.mem_map.mp hx
      have hs' : s < pl.length := by
        have := List.mem_range.mp hs
        omega
      simp_arith only [δc, List.map_cons, List.map_nil, Int.zero_add, FworthsF ho hp hs' hd, Int.toNat_natCast]
    · unfold rangeD worthsD
      rw [List.map_map, Int.toNat_natCast]
      congr 1
      refine List.map_congr_left fun s _ => ?_
      simp
end L2
namespace L2
open PySem PySem.Spec PyProof.Rows
theorem vc_worths_of_hand : ∀ ds d, F_worths_of_hand ds = some d → g_worths_of_hand (retD d) (dstart ["told", "hand"] ds)
  | [.tup ds, .int h], r, hF => by
    simp only [F_worths_of_hand] at hF
    split at hF
    · rename_i hh
      obtain ⟨h1, h2⟩ := hh
      cases hF
      show g_worths_of_hand _ [.im (.tup ds), .im (.int h)]
      simp_arith only [g_worths_of_hand, gComp]
      refine ⟨ends_le h1, hAt h, fun x hx => ?_, ?_⟩
      · obtain ⟨xs, y, rfl, e⟩ := h2 x hx
        simp_arith only [δc, List.map_cons, List.map_nil, hAt, e, Option.getD_some]
      · first | trivial | rfl
    · cases hF
theorem Fdeeds {pl : List (List Int × List Int)} {h : Nat} (h1 : pl.length ≤ 1000) (h2 : ∀ s ∈ pl, h < s.1.length) : F_deeds_of_hand [planD pl, .int h] = some (dInts (pl.map fun s => s.1.getD h 0)) := by
  simp only [F_deeds_of_hand, planOf_of]
  exact if_pos ⟨h1, by omega, h2⟩
theorem vc_deeds_of_hand : ∀ ds d, F_deeds_of_hand ds = some d → g_deeds_of_hand (retD d) (dstart ["plan", "hand"] ds)
  | [p, .int h], r, hF => by
    cases e : planOf p with
    | none => simp [F_deeds_of_hand, e] at hF
    | some pl =>
      simp only [F_deeds_of_hand, e] at hF
      rw [planOf_eq e]
      split at hF
      · rename_i hh
        obtain ⟨h1, h0, h2⟩ := hh
        cases hF
        obtain ⟨n, rfl⟩ : ∃ n : Nat, h = n := ⟨h.toNat, by omega⟩
        rw [Int.toNat_natCast] at h2 ⊢
        show g_deeds_of_hand _ [.im (planD pl), .im (.int n)]
        simp_arith only [g_deeds_of_hand, gComp, List.length_map]
        refine ⟨ends_le h1, fun x => match pairP x with
          | some s => .int (s.1.getD n 0)
          | none => .non, fun x hx => ?_, ?_⟩
        · obtain ⟨s, hs, rfl⟩ := List.mem_map.mp hx
          have e0 : atI [dInts s.1, dInts s.2] 0 = some (dInts s.1) := rfl
          have e1 : pairP (.tup [dInts s.1, dInts s.2]) = some s := by simp only [pairP, rowD_of]
          simp_arith only [δc, List.map_cons, List.map_nil, e0, e1, atI_ints (h2 s hs)]
        · unfold dInts
          rw [List.map_map, List.map_map]
          congr 1
          refine List.map_congr_left fun s _ => ?_
          have e1 : pairP (.tup [dInts s.1, dInts s.2]) = some s := by simp only [pairP, rowD_of]
          simp only [Function.comp, e1]
      · cases hF
theorem vc_better_deed : ∀ ds d, F_better_deed ds = some d → g_better_deed (retD d) (dstart ["meeting", "plan", "state", "hand", "own", "patience", "row", "best", "most", "deed", "done", "later", "worth"] ds)
  | [m, p, x, y, w, z], r, hF => by
    obtain ⟨ns, pay, rfl, ho, h1⟩ := onMeet_eq (show onMeet m _ = some r from hF)
    obtain ⟨pl, rfl, hp, h2⟩ := onPlan_eq h1
    obtain ⟨s, rfl, hs, h3⟩ := onHand_eq h2
    obtain ⟨h, rfl, hh, h4⟩ := onHand_eq h3
    obtain ⟨qs, rfl, q1, q2, h5⟩ := onW_eq h4
    obtain ⟨d, rfl, hd, h6⟩ := onPat_eq h5
    cases h6
    clear hF h1 h2 h3 h4 h5
    show g_better_deed _ [.im (meetD ns pay), .im (planD pl), .im (.int s), .im (.int h), .im (.tup (qs.map fracD)), .im (fracD d), .un, .un, .un, .un, .un, .un, .un]
    have hr := prow_mem hp hs
    have rl := row_len hr
    have n3 := (okDeeds_mem ho.ok).1
    have d3 := deeds_ne ho hh
    have e0 : atI [dInts (rowAt pl s), dInts (pl.getD s ([], [])).2] 0 = some (dInts (rowAt pl s)) := rfl
    have e2 : atI [dInts ns, D.tup (pay.map dInts)] 0 = some (dInts ns) := rfl
    have at_w : ∀ t, t < pl.length → atI (qs.map fracD) (t : Int) = some (fracD (wv qs t)) := fun t ht => by
      rw [atI_of (by rw [List.length_map, q1]; exact ht), List.getElem_map]
      show _ = some (fracD (qs.getD t 0))
      rw [getD_of (by omega)]
    have bd_w : ∀ t, t < pl.length → BdR 900 (wv qs t) := fun t ht => by
      show BdR 900 (qs.getD t 0)
      rw [getD_of (by omega)]
      exact q2 _ (List.getElem_mem _)
    simp_arith only [g_better_deed, g_better_deed_3, g_better_deed_2, g_better_deed_1, atI_plan hs, e0, e2, atI_ints (show h < (rowAt pl s).length by omega), atI_ints hh, at_w s hs, gFor]
    refine ⟨⟨by omega, by omega⟩, fun j δ => ∃ (u l : Int) (a9 a10 a11 a12 : Sl), δ = [.im (meetD ns pay), .im (planD pl), .im (.int s), .im (.int h), .im (.tup (qs.map fracD)), .im (fracD d), .im (dInts (rowAt pl s)), .im (.int (bestA ns pay pl d h (wv qs) s j).1), .im (.tup [.int u, .int l]), a9, a10, a11, a12] ∧ 0 < l ∧ Bd 1000 u ∧ Bd 1000 l ∧ Rat.divInt u l = (bestA ns pay pl d h (wv qs) s j).2, ⟨_, _, _, _, _, _, rfl, den_pos _, (bd_w s hs).1.mono (by decide), (bd_w s hs).2.mono (by decide), Rat.num_divInt_den _⟩, ?_, ?_⟩
    · rintro j x δ ed ⟨u, l, a9, a10, a11, a12, rfl, hl, bu, bl, ev⟩
      rw [range_deeds] at ed
      obtain ⟨hj, rfl⟩ := getm_map ed
      have hk : (deedsL ns h)[j] ∈ deedsL ns h := List.getElem_mem hj
      have hm := mv_mem hp hs hk
      have hn := mv_lt hp hs hk
      have es := bestA_succ (pay := pay) (pl := pl) (d := d) (W := wv qs) (s := s) hj
      have hv : strayV ns pay pl d h (wv qs) s (deedsL ns h)[j] = (1 - d) * payH ns pay ((rowAt pl s).set h (deedsL ns h)[j]) h + d * wv qs (nextAt ns pl s ((rowAt pl s).set h (deedsL ns h)[j])) := rfl
      have fw := Fwith (r := rowAt pl s) (h := h) (k := (deedsL ns h)[j]) (by omega) (by omega)
      have e3 : atI ((payAt ns pay ((rowAt pl s).set h (deedsL ns h)[j])).map D.int) (h : Int) = some (.int (payH ns pay ((rowAt pl s).set h (deedsL ns h)[j]) h)) := atI_ints (by rw [(payAt_ok ho hm).1]; exact hh)
      have bx : Bd 4 (payH ns pay ((rowAt pl s).set h (deedsL ns h)[j]) h) := by
        have := payH_bd (h := h) ho hm
        unfold Bd
        omega
      have bw := bd_w _ hn
      have fb := Fbehind ho hp hs hm
      have fp := FpaidQ ho hm
      have aw := at_w _ hn
      generalize (deedsL ns h)[j] = k at *
      generalize (rowAt pl s).set h k = row at *
      generalize nextAt ns pl s row = t at *
      generalize payH ns pay row h = X at *
      have sq := step_eq (d := d) X (wv qs t).num (wv qs t).den (den_pos _)
      rw [Rat.num_divInt_den, ← hv] at sq
      have fl : F_now_and_later [.int X, fracD (wv qs t), fracD d] = _ := Fnow hd (bx.mono (by decide)) (bw.1.mono (by decide)) (bw.2.mono (by decide))
      have c1 := ((hd.bits.2.sub hd.bits.1).mul bx).mul bw.2
      have c2 := hd.bits.1.mul bw.1
      have c3 := c1.add (c2.mono (by decide))
      have c4 := hd.bits.2.mul bw.2
      have hL : 0 < (d.den : Int) * ((wv qs t).den : Int) := Int.mul_pos (den_pos d) (den_pos _)
      generalize ((d.den : Int) - d.num) * X * ((wv qs t).den : Int) + d.num * (wv qs t).num = U at *
      generalize (d.den : Int) * ((wv qs t).den : Int) = L at *
      have c5 : Bd 1000 U := c3.mono (by decide)
      have c6 : Bd 1000 L := c4.mono (by decide)
      have fi := FisLess (bu.mono (by decide)) (bl.mono (by decide)) (c5.mono (by decide) : Bd 3000 U) (c6.mono (by decide) : Bd 3000 L)
      have key := less_div (a := u) (c := U) hl hL
      rw [ev, sq] at key
      simp_arith only [fw, fb, aw, fp, e3, fl, fi]
      by_cases hc : (bestA ns pay pl d h (wv qs) s j).2 < strayV ns pay pl d h (wv qs) s k
      · rw [decide_eq_true (key.mpr hc)]
        unfold betF at es
        rw [if_pos hc] at es
        rw [es]
        simp_arith only []
        exact ⟨U, L, _, _, _, _, rfl, hL, c5, c6, sq⟩
      · rw [decide_eq_false (fun z => hc (key.mp z))]
        unfold betF at es
        rw [if_neg hc] at es
        rw [es]
        simp_arith only []
        exact ⟨u, l, _, _, _, _, rfl, hl, bu, bl, ev⟩
    · rintro δ ⟨u, l, a9, a10, a11, a12, rfl, hl, bu, bl, ev⟩
      rw [range_deeds, List.length_map]
      simp_arith only []
      first | done | rfl
end L2
namespace L2
open PySem PySem.Spec PyProof.Rows
theorem vc_better_deeds : ∀ ds d, F_better_deeds ds = some d → g_better_deeds (retD d) (dstart ["meeting", "plan", "hand", "own", "patience"] ds)
  | [m, p, y, w, z], r, hF => by
    obtain ⟨ns, pay, rfl, ho, h1⟩ := onMeet_eq (show onMeet m _ = some r from hF)
    obtain ⟨pl, rfl, hp, h2⟩ := onPlan_eq h1
    obtain ⟨h, rfl, hh, h4⟩ := onHand_eq h2
    obtain ⟨qs, rfl, q1, q2, h5⟩ := onW_eq h4
    obtain ⟨d, rfl, hd, h6⟩ := onPat_eq h5
    cases h6
    clear hF h1 h2 h4 h5
    show g_better_deeds _ [.im (meetD ns pay), .im (planD pl), .im (.int h), .im (.tup (qs.map fracD)), .im (fracD d)]
    have h20 := hp.few.2
    simp_arith only [g_better_deeds, gComp, List.length_map]
    refine ⟨⟨by omega, by omega⟩, by rw [rangeD_len]; exact ends_le (by omega), fun x => match x with
      | .int s => .int (bestK ns pay pl d h (wv qs) s.toNat)
      | _ => .non, fun x hx => ?_, ?_⟩
    · unfold rangeD at hx
      obtain ⟨s, hs, rfl⟩ := List.mem_map.mp hx
      have hs' : s < pl.length := by
        have := List.mem_range.mp hs
        omega
      simp_arith only [δc, List.map_cons, List.map_nil, Int.zero_add, Fbetter ho hp hd hh hs' q1 q2, Int.toNat_natCast]
    · unfold rangeD dInts
      rw [List.map_map, Int.toNat_natCast, List.map_map]
      congr 1
      refine List.map_congr_left fun s _ => ?_
      simp
theorem vc_gain : ∀ ds p, F_gain ds = some p → g_gain (retP p) (dstart ["meeting", "plan", "patience", "told", "hand", "better", "state", "deed"] ds)
  | [m, q, z], P, hF => by
    obtain ⟨ns, pay, pl, d, rfl, rfl, rfl, ho, hp, hd, -, rfl⟩ := onPlanR_eq (show onPlanR m q z _ _ = some P from hF)
    clear hF
    show g_gain _ [.im (meetD ns pay), .im (planD pl), .im (fracD d), .un, .un, .un, .un, .un]
    have n3 := (okDeeds_mem ho.ok).1
    have h20 := hp.few.2
    have e2 : atI [dInts ns, D.tup (pay.map dInts)] 0 = some (dInts ns) := rfl
    simp_arith only [g_gain, g_gain_1, Fworths ho hp hd, e2, gFor, List.length_map]
    refine ⟨⟨by omega, by omega⟩, fun i δ => ∃ a4 a5 a6 a7, δ = [.im (meetD ns pay), .im (planD pl), .im (fracD d), .im (worthsD ns pay pl d), a4, a5, a6, a7] ∧ ∀ h, h < i → ∀ s, s < pl.length → ∀ k ∈ deedsL ns h, strayV ns pay pl d h (worthR ns pay pl d h) s k ≤ worthR ns pay pl d h s, ⟨_, _, _, _, rfl, fun h hh => absurd hh (Nat.not_lt_zero h)⟩, ?_, ?_⟩
    · rintro h x δ ed ⟨a4, a5, a6, a7, rfl, hno⟩
      unfold rangeD at ed
      obtain ⟨hh, rfl⟩ := getm_map ed
      rw [List.length_range] at hh
      have hh : h < ns.length := by omega
      rw [List.getElem_range, Int.zero_add]
      simp_arith only [FworthsH hh hp, Fbetters ho hp hd hh]
      refine ⟨fun j δ => ∃ a6 a7, δ = [.im (meetD ns pay), .im (planD pl), .im (fracD d), .im (worthsD ns pay pl d), .im (.int h), .im (dInts ((List.range pl.length).map fun s => bestK ns pay pl d h (wv (worthL ns pay pl d h)) s)), a6, a7] ∧ ∀ s, s < j → s < pl.length → ∀ k ∈ deedsL ns h, strayV ns pay pl d h (worthR ns pay pl d h) s k ≤ worthR ns pay pl d h s, ⟨_, _, rfl, fun s hs => absurd hs (Nat.not_lt_zero s)⟩, ?_, ?_⟩
      · rintro s x δ ed ⟨a6, a7, rfl, hno2⟩
        rw [enumD_ints] at ed
        obtain ⟨hs, rfl⟩ := getm_map ed
        rw [List.length_range, List.length_map, List.length_range] at hs
        rw [List.getElem_range]
        have eb : ((List.range pl.length).map fun s => bestK ns pay pl d h (wv (worthL ns pay pl d h)) s).getD s 0 = bestK ns pay pl d h (wv (worthL ns pay pl d h)) s := by rw [getD_of (by simpa using hs), List.getElem_map, List.getElem_range]
        have e0 : atI [dInts (rowAt pl s), dInts (pl.getD s ([], [])).2] 0 = some (dInts (rowAt pl s)) := rfl
        have e3 : atI ((rowAt pl s).map D.int) (h : Int) = some (.int ((rowAt pl s).getD h 0)) := atI_ints (by rw [row_len (prow_mem hp hs)]; exact hh)
        simp_arith! only [eb, atI_plan hs, e0, e3]
        refine ⟨by simp [dep], ?_⟩
        rcases bestK_own (pay := pay) hp hd hh hs (W := wv (worthL ns pay pl d h)) (fun s hs => worthL_at hs) with ⟨h1, h2⟩ | ⟨h1, h2, h3⟩
        · rw [show (bestK ns pay pl d h (wv (worthL ns pay pl d h)) s == (rowAt pl s).getD h 0) = true from beq_iff_eq.mpr h1]
          simp_arith! only [Bool.not_true]
          refine ⟨_, _, rfl, fun t ht htl => ?_⟩
          by_cases e : t = s
          · rw [e]; exact h2
          · exact hno2 t (by omega) htl
        · rw [show (bestK ns pay pl d h (wv (worthL ns pay pl d h)) s == (rowAt pl s).getD h 0) = false from beq_eq_false_iff_ne.mpr h1]
          simp_arith! only [Bool.not_false, List.length_cons, List.length_nil]
          exact ⟨by decide, .inr ⟨_, mem_gains hs hh h2 h3, rfl⟩⟩
      · rintro δ ⟨a6, a7, rfl, hno2⟩
        rw [enumD_length, List.length_map, List.length_map, List.length_range] at hno2
        refine ⟨_, _, _, _, rfl, fun h' hh' s hs => ?_⟩
        by_cases e : h' = h
        · rw [e]; exact hno2 s hs hs
        · exact hno h' (by omega) s hs
    · rintro δ ⟨a4, a5, a6, a7, rfl, hno⟩
      rw [rangeD_len, Int.toNat_natCast] at hno
      exact .inl ⟨trivial, gains_nil.mpr fun s hs h hh k hk => hno h hh s hs k hk⟩
theorem FgainQ {ns : List Int} {pay : List (List Int)} {pl : List (List Int × List Int)} {d : Rat} (ho : MeetOk ns pay) (hp : PlanW ns pl) (hd : PatOk d) : F_gain [meetD ns pay, planD pl, fracD d] = some fun x => (x = .non ∧ gainsL ns pay pl d = []) ∨ ∃ y ∈ gainsL ns pay pl d, x = trip y := by
  simp only [F_gain]
  exact onPlanR_of ho hp hd trivial
theorem vc_holds : ∀ ds d, F_holds ds = some d → g_holds (retD d) (dstart ["meeting", "plan", "patience"] ds)
  | [m, q, z], r, hF => by
    obtain ⟨ns, pay, rfl, ho, h1⟩ := onMeet_eq (show onMeet m _ = some r from hF)
    obtain ⟨pl, rfl, hp, h2⟩ := onPlan_eq h1
    obtain ⟨d, rfl, hd, h3⟩ := onPat_eq h2
    cases h3
    clear hF h1 h2
    show g_holds _ [.im (meetD ns pay), .im (planD pl), .im (fracD d)]
    simp_arith only [g_holds, FgainQ ho hp hd, oIs2]
    rintro x (⟨rfl, hg⟩ | ⟨y, hy, rfl⟩)
    · rw [decide_eq_true hg]
      rfl
    · rw [decide_eq_false (fun z => by rw [z] at hy; exact absurd hy List.not_mem_nil)]
      rfl
end L2
namespace L2
open PySem PySem.Spec PyProof.Rows
section
variable {ns : List Int} {pay : List (List Int)} {pl : List (List Int × List Int)} {d : Rat} {h : Nat}
theorem bent_zip (hp : PlanW ns pl) {ks : Nat → Int} : List.zipWith (fun x y => D.tup [x, y]) (pl.map fun s => D.tup [dInts s.1, dInts s.2]) ((List.range pl.length).map fun s => D.int (ks s)) = (List.range pl.length).map fun s => D.tup [.tup [dInts (rowAt pl s), dInts (pl.getD s ([], [])).2], .int (ks s)] := by
  refine List.ext_getElem (by simp) fun s h1 h2 => ?_
  have hs : s < pl.length := by simpa using h2
  simp only [List.getElem_zipWith, List.getElem_map, List.getElem_range]
  unfold rowAt
  rw [getD_of hs]
def bendD (h : Nat) : D → D
  | .tup [s, .int k] => match pairP s with
    | some s => .tup [dInts (s.1.set h k), dInts s.2]
    | none => .non
  | _ => .non
theorem bent_map {ks ks' : Nat → Int} : ((List.range pl.length).map fun s => D.tup [.tup [dInts (rowAt (bentP pl h ks) s), dInts ((bentP pl h ks).getD s ([], [])).2], .int (ks' s)]).map (bendD h) = (bentP pl h ks').map fun s => D.tup [dInts s.1, dInts s.2] := by
  have e2 : ∀ row nx : List Int, pairP (.tup [dInts row, dInts nx]) = some (row, nx) := fun row nx => by simp only [pairP, rowD_of]
  have er : bentP pl h ks' = (List.range pl.length).map fun s => ((rowAt pl s).set h (ks' s), (pl.getD s ([], [])).2) := rfl
  rw [er, List.map_map, List.map_map]
  refine List.map_congr_left fun s hs => ?_
  have hs := List.mem_range.mp hs
  have eb := bent_bent (h := h) (ks := ks) (ks' := ks') hs
  simp only [Function.comp, bendD, e2]
  rw [← (Prod.mk.inj eb).1, ← (Prod.mk.inj eb).2]
end
theorem vc_bent_for : ∀ ds p, F_bent_for ds = some p → g_bent_for (retP p) (dstart ["meeting", "plan", "hand", "patience", "bent", "own", "better"] ds)
  | [m, q, .int h, z], P, hF => by
    obtain ⟨ns, pay, pl, d, rfl, rfl, rfl, ho, hp, hd, hc, rfl⟩ := onPlanR_eq (show onPlanR m q z _ _ = some P from hF)
    clear hF
    obtain ⟨n, rfl⟩ : ∃ n : Nat, h = n := ⟨h.toNat, by omega⟩
    have hh : n < ns.length := by omega
    rw [Int.toNat_natCast]
    clear hc
    show g_bent_for _ [.im (meetD ns pay), .im (planD pl), .im (.int n), .im (fracD d), .un, .un, .un]
    have h20 := hp.few.2
    have n3 := (okDeeds_mem ho.ok).1
    simp_arith only [g_bent_for, g_bent_for_1, gWhile]
    refine ⟨fun i δ => ∃ (ks : Nat → Int) (a5 a6 : Sl), δ = [.im (meetD ns pay), .im (planD pl), .im (.int n), .im (fracD d), .im (planD (bentP pl n ks)), a5, a6] ∧ (∀ s, s < pl.length → ks s ∈ deedsL ns n) ∧ i = bendsLeft ns pay pl d n ks, ⟨_, fun s => (rowAt pl s).getD n 0, _, _, by rw [bent_own], fun s hs => own_mem hp hh hs, rfl⟩, ?_⟩
    rintro i δ ⟨ks, a5, a6, rfl, hk, rfl⟩
    have hb := bent_ok hp hk
    have fd := Fdeeds (pl := bentP pl n ks) (h := n) (by rw [bent_len]; omega) fun s hs => by rw [row_len (hb.row s hs)]; exact hh
    have ed : ((bentP pl n ks).map fun s => s.1.getD n 0) = (List.range pl.length).map ks := by
      refine List.ext_getElem (by simp [bent_len]) fun s h1 h2 => ?_
      have hs : s < pl.length := by simpa using h2
      have e := bent_deed (ks := ks) hp hh hs
      unfold rowAt at e
      rw [getD_of (l := bentP pl n ks) (by rw [bent_len]; exact hs)] at e
      simp only [List.getElem_map, List.getElem_range]
      exact e
    simp_arith! only [if_true, Fworths ho hb hd, FworthsH hh hb, Fbetters ho hb hd hh, fd]
    rw [ed, eqD_dInts, bent_len]
    refine ⟨by rw [deps_ints]; decide, ?_⟩
    simp only []
    by_cases he : ∀ s, s < pl.length → bestK ns pay (bentP pl n ks) d n (wv (worthL ns pay (bentP pl n ks) d n)) s = ks s
    · rw [show (((List.range pl.length).map fun s => bestK ns pay (bentP pl n ks) d n (wv (worthL ns pay (bentP pl n ks) d n)) s) == (List.range pl.length).map ks) = true from beq_iff_eq.mpr (List.map_congr_left fun s hs => he s (List.mem_range.mp hs))]
      simp_arith only []
      exact ⟨ks, hk, bend_bell hp hd hh hk he, rfl⟩
    · rw [show (((List.range pl.length).map fun s => bestK ns pay (bentP pl n ks) d n (wv (worthL ns pay (bentP pl n ks) d n)) s) == (List.range pl.length).map ks) = false from beq_eq_false_iff_ne.mpr fun z => he fun s hs => by
        have := congrArg (fun l => l.getD s 0) z
        try simp only at this
        rwa [getD_of (by simpa using hs), getD_of (by simpa using hs), List.getElem_map, List.getElem_map, List.getElem_range] at this]
      have hne : ∃ s, s < pl.length ∧ bestK ns pay (bentP pl n ks) d n (wv (worthL ns pay (bentP pl n ks) d n)) s ≠ ks s := by
        apply Classical.byContradiction
        intro z
        exact he fun s hs => Classical.byContradiction fun y => z ⟨s, hs, y⟩
      obtain ⟨hm, hov⟩ := bend_over (ks' := fun s => bestK ns pay (bentP pl n ks) d n (wv (worthL ns pay (bentP pl n ks) d n)) s) hp hd hh hk (fun s _ => rfl) hne
      have hlt := bends_lt hm hov
      have ez := bent_zip (pl := bentP pl n ks) hb (ks := fun s => bestK ns pay (bentP pl n ks) d n (wv (worthL ns pay (bentP pl n ks) d n)) s)
      rw [bent_len] at ez
      have ez2 : List.zipWith (fun x y => D.tup [x, y]) ((bentP pl n ks).map fun s => D.tup [dInts s.1, dInts s.2]) (((List.range pl.length).map fun s => bestK ns pay (bentP pl n ks) d n (wv (worthL ns pay (bentP pl n ks) d n)) s).map D.int) = (List.range pl.length).map fun s => D.tup [.tup [dInts (rowAt (bentP pl n ks) s), dInts ((bentP pl n ks).getD s ([], [])).2], .int (bestK ns pay (bentP pl n ks) d n (wv (worthL ns pay (bentP pl n ks) d n)) s)] := by rw [List.map_map]; exact ez
      simp_arith only [gComp, ez2, List.length_map, List.length_range]
      refine ⟨ends_le (by omega), bendD n, fun x hx => ?_, ?_⟩
      · obtain ⟨s, hs, rfl⟩ := List.mem_map.mp hx
        have hs := List.mem_range.mp hs
        have hr := prow_mem hb (s := s) (by rw [bent_len]; exact hs)
        have rl := row_len hr
        generalize bestK ns pay (bentP pl n ks) d n (wv (worthL ns pay (bentP pl n ks) d n)) s = k at *
        have fw := Fwith (r := rowAt (bentP pl n ks) s) (h := n) (k := k) (by omega) (by omega)
        generalize rowAt (bentP pl n ks) s = row at *
        generalize ((bentP pl n ks).getD s ([], [])).2 = nx at *
        have e0 : atI [dInts row, dInts nx] 0 = some (dInts row) := rfl
        have e1 : atI [dInts row, dInts nx] 1 = some (dInts nx) := rfl
        have e2 : pairP (.tup [dInts row, dInts nx]) = some (row, nx) := by simp only [pairP, rowD_of]
        simp_arith only [δc, List.map_cons, List.map_nil, e0, e1, e2, bendD, fw, List.length_cons, List.length_nil]
        exact ⟨by decide, trivial⟩
      · rw [bent_map]
        exact ⟨_, hlt, _, _, _, rfl, hm, rfl⟩
theorem Fbent {ns : List Int} {pay : List (List Int)} {pl : List (List Int × List Int)} {d : Rat} {h : Nat} (ho : MeetOk ns pay) (hp : PlanW ns pl) (hd : PatOk d) (hh : h < ns.length) : F_bent_for [meetD ns pay, planD pl, .int h, fracD d] = some fun x => ∃ ks : Nat → Int, (∀ s, s < pl.length → ks s ∈ deedsL ns h) ∧ Bell ns pay pl d h (worthR ns pay (bentP pl h ks) d h) ∧ x = planD (bentP pl h ks) := by
  simp only [F_bent_for]
  exact onPlanR_of (f := fun ns pay pl d x => ∃ ks : Nat → Int, (∀ s, s < pl.length → ks s ∈ deedsL ns (h : Int).toNat) ∧ Bell ns pay pl d (h : Int).toNat (worthR ns pay (bentP pl (h : Int).toNat ks) d (h : Int).toNat) ∧ x = planD (bentP pl (h : Int).toNat ks)) ho hp hd ⟨by omega, by omega⟩
theorem vc_best_worths : ∀ ds p, F_best_worths ds = some p → g_best_worths (retP p) (dstart ["meeting", "plan", "hand", "patience", "bent"] ds)
  | [m, q, .int h, z], P, hF => by
    obtain ⟨ns, pay, pl, d, rfl, rfl, rfl, ho, hp, hd, hc, rfl⟩ := onPlanR_eq (show onPlanR m q z _ _ = some P from hF)
    clear hF
    obtain ⟨n, rfl⟩ : ∃ n : Nat, h = n := ⟨h.toNat, by omega⟩
    have hh : n < ns.length := by omega
    rw [Int.toNat_natCast]
    show g_best_worths _ [.im (meetD ns pay), .im (planD pl), .im (.int n), .im (fracD d), .un]
    simp_arith only [g_best_worths, g_best_worths_1, Fbent ho hp hd hh]
    rintro x ⟨ks, hk, hB, rfl⟩
    have hb := bent_ok hp hk
    simp_arith only [Fworths ho hb hd, FworthsH hh hb]
    refine ⟨_, hB, ?_⟩
    unfold worthL
    rw [bent_len, List.map_map]
    rfl
theorem vc_best_strays : ∀ ds p, F_best_strays ds = some p → g_best_strays (retP p) (dstart ["meeting", "plan", "hand", "patience"] ds)
  | [m, q, .int h, z], P, hF => by
    obtain ⟨ns, pay, pl, d, rfl, rfl, rfl, ho, hp, hd, hc, rfl⟩ := onPlanR_eq (show onPlanR m q z _ _ = some P from hF)
    clear hF
    obtain ⟨n, rfl⟩ : ∃ n : Nat, h = n := ⟨h.toNat, by omega⟩
    have hh : n < ns.length := by omega
    rw [Int.toNat_natCast]
    show g_best_strays _ [.im (meetD ns pay), .im (planD pl), .im (.int n), .im (fracD d)]
    simp_arith only [g_best_strays, Fbent ho hp hd hh]
    rintro x ⟨ks, hk, hB, rfl⟩
    have hb := bent_ok hp hk
    have h20 := hp.few.2
    have fd := Fdeeds (pl := bentP pl n ks) (h := n) (by rw [bent_len]; omega) fun s hs => by rw [row_len (hb.row s hs)]; exact hh
    have ed : ((bentP pl n ks).map fun s => s.1.getD n 0) = (List.range pl.length).map ks := by
      refine List.ext_getElem (by simp [bent_len]) fun s h1 h2 => ?_
      have hs : s < pl.length := by simpa using h2
      have e := bent_deed (ks := ks) hp hh hs
      unfold rowAt at e
      rw [getD_of (l := bentP pl n ks) (by rw [bent_len]; exact hs)] at e
      simp only [List.getElem_map, List.getElem_range]
      exact e
    simp_arith only [fd, ed]
    refine ⟨_, ks, hB, fun s hs => ⟨hk s hs, (bent_worth hp hd hh hk hs).symm⟩, ?_⟩
    unfold dInts
    rw [List.map_map]
    rfl
end L2
namespace L2
open PySem PySem.Spec PyProof.Rows
def top (i : Nat) : Stmt := PySem.Challenge.pw_pactkeep_k05_whole_strays.main.body.getD i (.Pass ⟨0, 0, 0, 0⟩)
abbrev s_common_divisor : Stmt := top 1
abbrev s_lowest : Stmt := top 2
abbrev s_is_less : Stmt := top 3
abbrev s_place_of : Stmt := top 5
abbrev s_with_deed : Stmt := top 6
abbrev s_paid : Stmt := top 8
abbrev s_worths : Stmt := top 10
abbrev s_worth_of : Stmt := top 11
abbrev s_worths_from : Stmt := top 12
abbrev s_state_behind : Stmt := top 13
abbrev s_pays_of : Stmt := top 14
abbrev s_worth_of_pays : Stmt := top 15
abbrev s_now_and_later : Stmt := top 16
abbrev s_weighed : Stmt := top 17
abbrev s_gain : Stmt := top 19
abbrev s_holds : Stmt := top 20
abbrev s_best_worths : Stmt := top 21
abbrev s_best_strays : Stmt := top 22
abbrev s_bent_for : Stmt := top 23
abbrev s_better_deeds : Stmt := top 24
abbrev s_better_deed : Stmt := top 25
abbrev s_worths_of_hand : Stmt := top 26
abbrev s_deeds_of_hand : Stmt := top 27
abbrev s__law_cell : Stmt := top 29
abbrev s__law_mix : Stmt := top 30
abbrev s__law_rows : Stmt := top 31
abbrev s__law_meeting : Stmt := top 32
abbrev s__law_patience : Stmt := top 33
abbrev s__law_row : Stmt := top 34
abbrev s__law_plan : Stmt := top 35
abbrev s__law_cells : Stmt := top 36
abbrev s__law_fraction : Stmt := top 37
abbrev s__law_later : Stmt := top 38
abbrev s__law_more : Stmt := top 39
abbrev s__law_paid : Stmt := top 40
abbrev s__law_stray : Stmt := top 41
abbrev s__law_move : Stmt := top 42
abbrev s__law_gains : Stmt := top 43
abbrev s__law_best_right : Stmt := top 44
abbrev s_law : Stmt := top 45
structure Txt (K : PySem.W.Frag) (mg : Str → Option Value) : Prop where
  n_abs : mg "abs" = none
  n_bool : mg "bool" = none
  n_enumerate : mg "enumerate" = none
  n_isinstance : mg "isinstance" = none
  n_len : mg "len" = none
  n_range : mg "range" = none
  n_reversed : mg "reversed" = none
  n_sorted : mg "sorted" = none
  n_tuple : mg "tuple" = none
  n_zip : mg "zip" = none
section
variable {P : Program} {w : World} {K : PySem.W.Frag} {mg : Str → Option Value} {base : Heap}
section
set_option maxHeartbeats 8000000
variable {f : Addr} {cdv : Value} {A : Around} {outer : List Env} {s : Shared} {H : Hp} {E : XK}
theorem sc_common_divisor : FnScope ["one", "other", "greater", "smaller", "rest"] ["one", "other"] (defScope s_common_divisor) := by simp_all_arith!
theorem body_common_divisor (T : Txt K mg) (hr : Room 0 (A.deeper (envOfC "common_divisor" (defScope s_common_divisor) s.heap.objs.size f cdv))) :
    DSs (cxOf CX0 P w K mg base ["one", "other", "greater", "smaller", "rest"] "common_divisor" (defScope s_common_divisor) f cdv A outer s H E).nox (defBody s_common_divisor) g_common_divisor := by
  have hu := hr.units
  exact (dss_cons (ds_asg (de_callG dc_abs (da_cons (de_var (pv 0)) da_nil) (fun h1 h2 => pe_callB h1 rfl T.n_abs bt_abs h2)) (dg_name (pg_name (i := 2) sc_common_divisor.nd rfl (Or.inl rfl))) (fun h1 h2 => ps_asg h1 h2)) (dss_cons (ds_asg (de_callG dc_abs (da_cons (de_var (pv 1)) da_nil) (fun h1 h2 => pe_callB h1 rfl T.n_abs bt_abs h2)) (dg_name (pg_name (i := 3) sc_common_divisor.nd rfl (Or.inl rfl))) (fun h1 h2 => ps_asg h1 h2)) (dss_cons (ds_while PassesOwn.never (dt_cmp (do_ne hu) (de_var (pv 3)) de_int) (dss_cons (ds_asg (de_op do_mod (de_var (pv 2)) (de_var (pv 3))) (dg_name (pg_name (i := 4) sc_common_divisor.nd rfl (Or.inl rfl))) (fun h1 h2 => ps_asg h1 h2)) (dss_cons (ds_asg (de_var (pv 3)) (dg_name (pg_name (i := 2) sc_common_divisor.nd rfl (Or.inl rfl))) (fun h1 h2 => ps_asg h1 h2)) (dss_one (ds_asg (de_var (pv 4)) (dg_name (pg_name (i := 3) sc_common_divisor.nd rfl (Or.inl rfl))) (fun h1 h2 => ps_asg h1 h2)))))) (dss_one (ds_ret (de_var (pv 2)))))))
theorem sc_is_less : FnScope ["one", "other"] ["one", "other"] (defScope s_is_less) := by simp_all_arith!
theorem body_is_less (T : Txt K mg) (hr : Room 0 (A.deeper (envOfC "is_less" (defScope s_is_less) s.heap.objs.size f cdv))) :
    DSs (cxOf CX0 P w K mg base ["one", "other"] "is_less" (defScope s_is_less) f cdv A outer s H E).nox (defBody s_is_less) g_is_less := by
  have hu := hr.units
  exact (dss_one (ds_ret (de_cmp do_lt (de_op do_mulW (de_ix (de_var (pv 0)) de_int (fun _ _ => rfl)) (de_ix (de_var (pv 1)) de_int (fun _ _ => rfl))) (de_op do_mulW (de_ix (de_var (pv 1)) de_int (fun _ _ => rfl)) (de_ix (de_var (pv 0)) de_int (fun _ _ => rfl))))))
theorem sc_place_of : FnScope ["row", "deeds", "place", "deed", "many"] ["row", "deeds"] (defScope s_place_of) := by simp_all_arith!
theorem body_place_of (T : Txt K mg) (hr : Room 0 (A.deeper (envOfC "place_of" (defScope s_place_of) s.heap.objs.size f cdv))) :
    DSs (cxOf CX0 P w K mg base ["row", "deeds", "place", "deed", "many"] "place_of" (defScope s_place_of) f cdv A outer s H E).nox (defBody s_place_of) g_place_of := by
  have hu := hr.units
  exact (dss_cons (ds_asg de_int (dg_name (pg_name (i := 2) sc_place_of.nd rfl (Or.inl rfl))) (fun h1 h2 => ps_asg h1 h2)) (dss_cons (ds_for rfl PassesOwn.never (di_zip rfl T.n_zip bt_zip (de_var (pv 0)) (de_var (pv 1))) (dg_two (pg_name (i := 3) sc_place_of.nd rfl (Or.inl rfl)) (pg_name (i := 4) sc_place_of.nd rfl (Or.inl rfl)) (fun h1 h2 => pg_tup rfl (pgs_cons h1 (pgs_cons h2 pgs_nil)))) (dss_one (ds_asg (de_op do_add (de_op do_mul (de_var (pv 2)) (de_var (pv 4))) (de_var (pv 3))) (dg_name (pg_name (i := 2) sc_place_of.nd rfl (Or.inl rfl))) (fun h1 h2 => ps_asg h1 h2)))) (dss_one (ds_ret (de_var (pv 2))))))
theorem sc_with_deed : FnScope ["row", "hand", "deed"] ["row", "hand", "deed"] (defScope s_with_deed) := by simp_all_arith!
theorem body_with_deed (T : Txt K mg) (hr : Room 0 (A.deeper (envOfC "with_deed" (defScope s_with_deed) s.heap.objs.size f cdv))) :
    DSs (cxOf CX0 P w K mg base ["row", "hand", "deed"] "with_deed" (defScope s_with_deed) f cdv A outer s H E).nox (defBody s_with_deed) g_with_deed := by
  have hu := hr.units
  exact (dss_one (ds_ret (de_op do_add (de_op do_add (de_slT (de_var (pv 0)) do_none (do_some (de_var (pv 1)))) (de_tup (da_cons (de_var (pv 2)) da_nil))) (de_slT (de_var (pv 0)) (do_some (de_op do_add (de_var (pv 1)) de_int)) do_none))))
theorem sc_now_and_later : FnScope ["pay", "later", "patience", "upper"] ["pay", "later", "patience"] (defScope s_now_and_later) := by simp_all_arith!
theorem body_now_and_later (T : Txt K mg) (hr : Room 0 (A.deeper (envOfC "now_and_later" (defScope s_now_and_later) s.heap.objs.size f cdv))) :
    DSs (cxOf CX0 P w K mg base ["pay", "later", "patience", "upper"] "now_and_later" (defScope s_now_and_later) f cdv A outer s H E).nox (defBody s_now_and_later) g_now_and_later := by
  have hu := hr.units
  exact (dss_cons (ds_asg (de_op do_add (de_op do_mulW (de_op do_mulW (de_op do_sub (de_ix (de_var (pv 2)) de_int (fun _ _ => rfl)) (de_ix (de_var (pv 2)) de_int (fun _ _ => rfl))) (de_var (pv 0))) (de_ix (de_var (pv 1)) de_int (fun _ _ => rfl))) (de_op do_mulW (de_ix (de_var (pv 2)) de_int (fun _ _ => rfl)) (de_ix (de_var (pv 1)) de_int (fun _ _ => rfl)))) (dg_name (pg_name (i := 3) sc_now_and_later.nd rfl (Or.inl rfl))) (fun h1 h2 => ps_asg h1 h2)) (dss_one (ds_ret (de_tup (da_cons (de_var (pv 3)) (da_cons (de_op do_mulW (de_ix (de_var (pv 2)) de_int (fun _ _ => rfl)) (de_ix (de_var (pv 1)) de_int (fun _ _ => rfl))) da_nil))))))
theorem sc_weighed : FnScope ["pays", "patience", "total", "weight", "pay"] ["pays", "patience"] (defScope s_weighed) := by simp_all_arith!
theorem body_weighed (T : Txt K mg) (hr : Room 0 (A.deeper (envOfC "weighed" (defScope s_weighed) s.heap.objs.size f cdv))) :
    DSs (cxOf CX0 P w K mg base ["pays", "patience", "total", "weight", "pay"] "weighed" (defScope s_weighed) f cdv A outer s H E).nox (defBody s_weighed) g_weighed := by
  have hu := hr.units
  exact (dss_cons (ds_asg de_int (dg_name (pg_name (i := 2) sc_weighed.nd rfl (Or.inl rfl))) (fun h1 h2 => ps_asg h1 h2)) (dss_cons (ds_asg de_int (dg_name (pg_name (i := 3) sc_weighed.nd rfl (Or.inl rfl))) (fun h1 h2 => ps_asg h1 h2)) (dss_cons (ds_for rfl PassesOwn.never (di_lst (de_var (pv 0))) (dg_name (pg_name (i := 4) sc_weighed.nd rfl (Or.inl rfl))) (dss_cons (ds_asg (de_op do_add (de_op do_mulW (de_var (pv 2)) (de_ix (de_var (pv 1)) de_int (fun _ _ => rfl))) (de_op do_mulW (de_var (pv 3)) (de_var (pv 4)))) (dg_name (pg_name (i := 2) sc_weighed.nd rfl (Or.inl rfl))) (fun h1 h2 => ps_asg h1 h2)) (dss_one (ds_asg (de_op do_mulW (de_var (pv 3)) (de_ix (de_var (pv 1)) de_int (fun _ _ => rfl))) (dg_name (pg_name (i := 3) sc_weighed.nd rfl (Or.inl rfl))) (fun h1 h2 => ps_asg h1 h2))))) (dss_one (ds_ret (de_var (pv 2)))))))
theorem sc_worths_of_hand : FnScope ["told", "hand"] ["told", "hand"] (defScope s_worths_of_hand) := by simp_all_arith!
theorem body_worths_of_hand (T : Txt K mg) (hr : Room 0 (A.deeper (envOfC "worths_of_hand" (defScope s_worths_of_hand) s.heap.objs.size f cdv))) :
    DSs (cxOf CX0 P w K mg base ["told", "hand"] "worths_of_hand" (defScope s_worths_of_hand) f cdv A outer s H E).nox (defBody s_worths_of_hand) g_worths_of_hand := by
  have hu := hr.units
  exact (dss_one (ds_ret (de_callG dc_tuple (da_cons (DF.toE (df_comp (Nc := ["of_hands", "hand"]) (fr := [none, some 1]) (ss := [0]) (compOk_of (sc := (defScope s_worths_of_hand)) (N := ["told", "hand"]) rfl rfl (by decide +kernel)) (by decide) rfl (di_tup (de_var (pv 0))) (fun Cc pins fp s3 H3 => dg_name (pg_name (i := 0) (show (["of_hands", "hand"] : List Str).Nodup by decide +kernel) rfl (Or.inl rfl))) (fun Cc pins fp s3 H3 => (de_ix (de_var (pv 0)) (de_var (pv 1)) (fun _ _ => rfl))) mono_nm)) da_nil) (fun h1 h2 => pe_callTy h1 rfl T.n_tuple bt_tuple h2))))
theorem sc_deeds_of_hand : FnScope ["plan", "hand"] ["plan", "hand"] (defScope s_deeds_of_hand) := by simp_all_arith!
theorem body_deeds_of_hand (T : Txt K mg) (hr : Room 0 (A.deeper (envOfC "deeds_of_hand" (defScope s_deeds_of_hand) s.heap.objs.size f cdv))) :
    DSs (cxOf CX0 P w K mg base ["plan", "hand"] "deeds_of_hand" (defScope s_deeds_of_hand) f cdv A outer s H E).nox (defBody s_deeds_of_hand) g_deeds_of_hand := by
  have hu := hr.units
  exact (dss_one (ds_ret (de_callG dc_tuple (da_cons (DF.toE (df_comp (Nc := ["part", "hand"]) (fr := [none, some 1]) (ss := [0]) (compOk_of (sc := (defScope s_deeds_of_hand)) (N := ["plan", "hand"]) rfl rfl (by decide +kernel)) (by decide) rfl (di_tup (de_var (pv 0))) (fun Cc pins fp s3 H3 => dg_name (pg_name (i := 0) (show (["part", "hand"] : List Str).Nodup by decide +kernel) rfl (Or.inl rfl))) (fun Cc pins fp s3 H3 => (de_ix (de_ix (de_var (pv 0)) de_int (fun _ _ => rfl)) (de_var (pv 1)) (fun _ _ => rfl))) mono_nm)) da_nil) (fun h1 h2 => pe_callTy h1 rfl T.n_tuple bt_tuple h2))))
theorem sc__law_cell : FnScope ["_law_script", "_law_k"] ["_law_script", "_law_k"] (defScope s__law_cell) := by simp_all_arith!
theorem body__law_cell (T : Txt K mg) (hr : Room 0 (A.deeper (envOfC "_law_cell" (defScope s__law_cell) s.heap.objs.size f cdv))) :
    DSs (cxOf CX0 P w K mg base ["_law_script", "_law_k"] "_law_cell" (defScope s__law_cell) f cdv A outer s H E).nox (defBody s__law_cell) g__law_cell := by
  have hu := hr.units
  exact (dss_cons (ds_if (dt_cmp do_lt (de_var (pv 1)) (de_callG dc_len (da_cons (de_var (pv 0)) da_nil) (fun h1 h2 => pe_callB h1 rfl T.n_len bt_len h2))) (dss_one (ds_ret (de_ix (de_var (pv 0)) (de_var (pv 1)) (fun _ _ => rfl)))) dss_nil) (dss_one (ds_ret de_int)))
theorem sc__law_mix : FnScope ["_law_cell_here", "_law_prime", "_law_many"] ["_law_cell_here", "_law_prime", "_law_many"] (defScope s__law_mix) := by simp_all_arith!
theorem body__law_mix (T : Txt K mg) (hr : Room 0 (A.deeper (envOfC "_law_mix" (defScope s__law_mix) s.heap.objs.size f cdv))) :
    DSs (cxOf CX0 P w K mg base ["_law_cell_here", "_law_prime", "_law_many"] "_law_mix" (defScope s__law_mix) f cdv A outer s H E).nox (defBody s__law_mix) g__law_mix := by
  have hu := hr.units
  exact (dss_one (ds_ret (de_op do_mod (de_op do_mod (de_op do_mul (de_var (pv 0)) de_int) (de_var (pv 1))) (de_var (pv 2)))))
theorem sc__law_rows : FnScope ["_law_deeds", "_law_found", "_law_many", "_law_more_here", "_law_row_here"] ["_law_deeds"] (defScope s__law_rows) := by simp_all_arith!
theorem body__law_rows (T : Txt K mg) (hr : Room 0 (A.deeper (envOfC "_law_rows" (defScope s__law_rows) s.heap.objs.size f cdv))) :
    DSs (cxOf CX0 P w K mg base ["_law_deeds", "_law_found", "_law_many", "_law_more_here", "_law_row_here"] "_law_rows" (defScope s__law_rows) f cdv A outer s H E).nox (defBody s__law_rows) g__law_rows := by
  have hu := hr.units
  exact (dss_cons (ds_asg (DF.toE (df_lst (da_cons (de_tup da_nil) da_nil))) (dg_name (pg_name (i := 1) sc__law_rows.nd rfl (Or.inl rfl))) (fun h1 h2 => ps_asg h1 h2)) (dss_cons (ds_for rfl PassesOwn.never (di_tup (de_var (pv 0))) (dg_name (pg_name (i := 2) sc__law_rows.nd rfl (Or.inl rfl))) (dss_cons (ds_asgO (i := 3) (df_lst da_nil) (fun h => ps_set (i := 3) sc__law_rows.nd rfl (Or.inl rfl) h)) (dss_cons (ds_for rfl PassesOwn.never (di_lst (de_var (pv 1))) (dg_name (pg_name (i := 4) sc__law_rows.nd rfl (Or.inr rfl))) (dss_one (ds_ext (i := 3) (df_comp (Nc := ["_law_deed", "_law_row_here"]) (fr := [none, some 4]) (ss := [0]) (compOk_of (sc := (defScope s__law_rows)) (N := ["_law_deeds", "_law_found", "_law_many", "_law_more_here", "_law_row_here"]) rfl rfl (by decide +kernel)) (by decide) rfl (di_rng1 rfl T.n_range (de_var (pv 2))) (fun Cc pins fp s3 H3 => dg_name (pg_name (i := 0) (show (["_law_deed", "_law_row_here"] : List Str).Nodup by decide +kernel) rfl (Or.inl rfl))) (fun Cc pins fp s3 H3 => (de_op do_add (de_var (pv 1)) (de_tup (da_cons (de_var (pv 0)) da_nil)))) mono_nm) (fun h => ps_expr (pe_bm PySem.F.plainAttrs_list PySem.F.slot_list_extend PySem.F.type_list_extend mt_extend (pv 3) (pa_cons h pa_nil)))))) (dss_frz 3 (dss_one (ds_asg (de_var (pv 3)) (dg_name (pg_name (i := 1) sc__law_rows.nd rfl (Or.inl rfl))) (fun h1 h2 => ps_asg h1 h2))))))) (dss_one (ds_ret (de_var (pv 1))))))
theorem sc__law_fraction : FnScope ["_law_upper", "_law_lower", "_law_one", "_law_other"] ["_law_upper", "_law_lower"] (defScope s__law_fraction) := by simp_all_arith!
theorem body__law_fraction (T : Txt K mg) (hr : Room 0 (A.deeper (envOfC "_law_fraction" (defScope s__law_fraction) s.heap.objs.size f cdv))) :
    DSs (cxOf CX0 P w K mg base ["_law_upper", "_law_lower", "_law_one", "_law_other"] "_law_fraction" (defScope s__law_fraction) f cdv A outer s H E).nox (defBody s__law_fraction) g__law_fraction := by
  have hu := hr.units
  exact (dss_cons (ds_if (dt_cmp do_lt (de_var (pv 1)) de_int) (dss_cons (ds_asg (de_neg (de_var (pv 0))) (dg_name (pg_name (i := 0) sc__law_fraction.nd rfl (Or.inl rfl))) (fun h1 h2 => ps_asg h1 h2)) (dss_one (ds_asg (de_neg (de_var (pv 1))) (dg_name (pg_name (i := 1) sc__law_fraction.nd rfl (Or.inl rfl))) (fun h1 h2 => ps_asg h1 h2)))) dss_nil) (dss_cons (ds_asg (de_callG dc_abs (da_cons (de_var (pv 0)) da_nil) (fun h1 h2 => pe_callB h1 rfl T.n_abs bt_abs h2)) (dg_name (pg_name (i := 2) sc__law_fraction.nd rfl (Or.inl rfl))) (fun h1 h2 => ps_asg h1 h2)) (dss_cons (ds_asg (de_var (pv 1)) (dg_name (pg_name (i := 3) sc__law_fraction.nd rfl (Or.inl rfl))) (fun h1 h2 => ps_asg h1 h2)) (dss_cons (ds_while PassesOwn.never (dt_cmp do_gt (de_var (pv 3)) de_int) (dss_one (ds_par (i := 2) (j := 3) (de_var (pv 3)) (de_op do_mod (de_var (pv 2)) (de_var (pv 3))) (fun h => ps_par (i := 2) (j := 3) rfl sc__law_fraction.nd rfl rfl (by decide) rfl rfl h rfl)))) (dss_one (ds_ret (de_tup (da_cons (de_op do_divW (de_var (pv 0)) (de_var (pv 2))) (da_cons (de_op do_divW (de_var (pv 1)) (de_var (pv 2))) da_nil)))))))))
theorem sc__law_more : FnScope ["_law_one", "_law_other"] ["_law_one", "_law_other"] (defScope s__law_more) := by simp_all_arith!
theorem body__law_more (T : Txt K mg) (hr : Room 0 (A.deeper (envOfC "_law_more" (defScope s__law_more) s.heap.objs.size f cdv))) :
    DSs (cxOf CX0 P w K mg base ["_law_one", "_law_other"] "_law_more" (defScope s__law_more) f cdv A outer s H E).nox (defBody s__law_more) g__law_more := by
  have hu := hr.units
  exact (dss_one (ds_ret (de_cmp do_gt (de_op do_mulW (de_ix (de_var (pv 0)) de_int (fun _ _ => rfl)) (de_ix (de_var (pv 1)) de_int (fun _ _ => rfl))) (de_op do_mulW (de_ix (de_var (pv 1)) de_int (fun _ _ => rfl)) (de_ix (de_var (pv 0)) de_int (fun _ _ => rfl))))))
theorem sc__law_stray : FnScope ["_law_row_here", "_law_hand", "_law_deed"] ["_law_row_here", "_law_hand", "_law_deed"] (defScope s__law_stray) := by simp_all_arith!
theorem body__law_stray (T : Txt K mg) (hr : Room 0 (A.deeper (envOfC "_law_stray" (defScope s__law_stray) s.heap.objs.size f cdv))) :
    DSs (cxOf CX0 P w K mg base ["_law_row_here", "_law_hand", "_law_deed"] "_law_stray" (defScope s__law_stray) f cdv A outer s H E).nox (defBody s__law_stray) g__law_stray := by
  have hu := hr.units
  exact (dss_one (ds_ret (de_op do_add (de_op do_add (de_slT (de_var (pv 0)) do_none (do_some (de_var (pv 1)))) (de_tup (da_cons (de_var (pv 2)) da_nil))) (de_slT (de_var (pv 0)) (do_some (de_op do_add (de_var (pv 1)) de_int)) do_none))))
theorem sc_lowest : FnScope ["upper", "lower", "sign", "divisor"] ["upper", "lower"] (defScope s_lowest) := by simp_all_arith!
theorem body_lowest (T : Txt K mg) (h_common_divisor : DFn P w K mg base 1 "common_divisor" F_common_divisor) (hr : Room 1 (A.deeper (envOfC "lowest" (defScope s_lowest) s.heap.objs.size f cdv))) :
    DSs (cxOf CX0 P w K mg base ["upper", "lower", "sign", "divisor"] "lowest" (defScope s_lowest) f cdv A outer s H E).nox (defBody s_lowest) g_lowest := by
  have hu := hr.units
  exact (dss_cons (ds_asg (de_op do_divW (de_var (pv 1)) (de_callG dc_abs (da_cons (de_var (pv 1)) da_nil) (fun h1 h2 => pe_callB h1 rfl T.n_abs bt_abs h2))) (dg_name (pg_name (i := 2) sc_lowest.nd rfl (Or.inl rfl))) (fun h1 h2 => ps_asg h1 h2)) (dss_cons (ds_asg (de_op do_mulW (de_var (pv 2)) (de_call h_common_divisor (hr.mono (by decide)) rfl (da_cons (de_var (pv 0)) (da_cons (de_var (pv 1)) da_nil)))) (dg_name (pg_name (i := 3) sc_lowest.nd rfl (Or.inl rfl))) (fun h1 h2 => ps_asg h1 h2)) (dss_one (ds_ret (de_tup (da_cons (de_op do_divW (de_var (pv 0)) (de_var (pv 3))) (da_cons (de_op do_divW (de_var (pv 1)) (de_var (pv 3))) da_nil)))))))
theorem sc_paid : FnScope ["meeting", "row"] ["meeting", "row"] (defScope s_paid) := by simp_all_arith!
theorem body_paid (T : Txt K mg) (h_place_of : DFn P w K mg base 1 "place_of" F_place_of) (hr : Room 1 (A.deeper (envOfC "paid" (defScope s_paid) s.heap.objs.size f cdv))) :
    DSs (cxOf CX0 P w K mg base ["meeting", "row"] "paid" (defScope s_paid) f cdv A outer s H E).nox (defBody s_paid) g_paid := by
  have hu := hr.units
  exact (dss_one (ds_ret (de_ix (de_ix (de_var (pv 0)) de_int (fun _ _ => rfl)) (de_call h_place_of (hr.mono (by decide)) rfl (da_cons (de_var (pv 1)) (da_cons (de_ix (de_var (pv 0)) de_int (fun _ _ => rfl)) da_nil))) (fun _ _ => rfl))))
theorem sc_state_behind : FnScope ["meeting", "plan", "state", "row"] ["meeting", "plan", "state", "row"] (defScope s_state_behind) := by simp_all_arith!
theorem body_state_behind (T : Txt K mg) (h_place_of : DFn P w K mg base 1 "place_of" F_place_of) (hr : Room 1 (A.deeper (envOfC "state_behind" (defScope s_state_behind) s.heap.objs.size f cdv))) :
    DSs (cxOf CX0 P w K mg base ["meeting", "plan", "state", "row"] "state_behind" (defScope s_state_behind) f cdv A outer s H E).nox (defBody s_state_behind) g_state_behind := by
  have hu := hr.units
  exact (dss_one (ds_ret (de_ix (de_ix (de_ix (de_var (pv 1)) (de_var (pv 2)) (fun _ _ => rfl)) de_int (fun _ _ => rfl)) (de_call h_place_of (hr.mono (by decide)) rfl (da_cons (de_var (pv 3)) (da_cons (de_ix (de_var (pv 0)) de_int (fun _ _ => rfl)) da_nil))) (fun _ _ => rfl))))
theorem sc__law_meeting : FnScope ["_law_cell_here", "_law_deeds", "_law_wide", "_law_pay", "_law_k", "_law_seed", "_law_one", "_law_few"] ["_law_cell_here"] (defScope s__law_meeting) := by simp_all_arith!
theorem body__law_meeting (T : Txt K mg) (h__law_mix : DFn P w K mg base 1 "_law_mix" F__law_mix) (h__law_rows : DFn P w K mg base 1 "_law_rows" F__law_rows) (hr : Room 1 (A.deeper (envOfC "_law_meeting" (defScope s__law_meeting) s.heap.objs.size f cdv))) :
    DSs (cxOf CX0 P w K mg base ["_law_cell_here", "_law_deeds", "_law_wide", "_law_pay", "_law_k", "_law_seed", "_law_one", "_law_few"] "_law_meeting" (defScope s__law_meeting) f cdv A outer s H E).nox (defBody s__law_meeting) g__law_meeting := by
  have hu := hr.units
  exact (dss_cons (ds_asg (de_callG dc_tuple (da_cons (DF.toE (df_comp (Nc := ["_law_k", "_law_cell_here"]) (fr := [none, some 0]) (ss := [0]) (compOk_of (sc := (defScope s__law_meeting)) (N := ["_law_cell_here", "_law_deeds", "_law_wide", "_law_pay", "_law_k", "_law_seed", "_law_one", "_law_few"]) rfl rfl (by decide +kernel)) (by decide) rfl (di_rng1 rfl T.n_range (de_op do_add de_int (de_op do_div (de_call h__law_mix (hr.mono (by decide)) rfl (da_cons (de_var (pv 0)) (da_cons de_int (da_cons de_int da_nil)))) de_int))) (fun Cc pins fp s3 H3 => dg_name (pg_name (i := 0) (show (["_law_k", "_law_cell_here"] : List Str).Nodup by decide +kernel) rfl (Or.inl rfl))) (fun Cc pins fp s3 H3 => (de_op do_add de_int (de_call h__law_mix (hr.mono (by decide)) rfl (da_cons (de_op do_add (de_var (pv 1)) (de_op do_mul de_int (de_var (pv 0)))) (da_cons de_int (da_cons de_int da_nil)))))) mono_nm)) da_nil) (fun h1 h2 => pe_callTy h1 rfl T.n_tuple bt_tuple h2)) (dg_name (pg_name (i := 1) sc__law_meeting.nd rfl (Or.inl rfl))) (fun h1 h2 => ps_asg h1 h2)) (dss_cons (ds_if (dt_cmp (do_eq hu) (de_op do_mod (de_var (pv 0)) de_int) de_int) (dss_one (ds_asg (de_tup (da_cons de_int (da_cons de_int da_nil))) (dg_name (pg_name (i := 1) sc__law_meeting.nd rfl (Or.inl rfl))) (fun h1 h2 => ps_asg h1 h2))) dss_nil) (dss_cons (ds_asg (de_ix (DF.toE (df_lst (da_cons de_int (da_cons de_int (da_cons de_int da_nil))))) (de_call h__law_mix (hr.mono (by decide)) rfl (da_cons (de_var (pv 0)) (da_cons de_int (da_cons de_int da_nil)))) (fun _ _ => rfl)) (dg_name (pg_name (i := 2) sc__law_meeting.nd rfl (Or.inr rfl))) (fun h1 h2 => ps_asg h1 h2)) (dss_cons (ds_asgO (i := 3) (df_lst da_nil) (fun h => ps_set (i := 3) sc__law_meeting.nd rfl (Or.inl rfl) h)) (dss_cons (ds_for rfl PassesOwn.never (di_rng1 rfl T.n_range (de_callG dc_len (da_cons (de_call h__law_rows (hr.mono (by decide)) rfl (da_cons (de_var (pv 1)) da_nil)) da_nil) (fun h1 h2 => pe_callB h1 rfl T.n_len bt_len h2))) (dg_name (pg_name (i := 4) sc__law_meeting.nd rfl (Or.inl rfl))) (dss_cons (ds_asg (de_op do_add (de_var (pv 0)) (de_op do_mul de_int (de_var (pv 4)))) (dg_name (pg_name (i := 5) sc__law_meeting.nd rfl (Or.inr rfl))) (fun h1 h2 => ps_asg h1 h2)) (dss_cons (ds_compO0 (i := 6) (Nc := ["_law_hand", "_law_wide", "_law_seed"]) (fr := [none, some 2, some 5]) (ss := [0]) (compOk_of (sc := (defScope s__law_meeting)) (N := ["_law_cell_here", "_law_deeds", "_law_wide", "_law_pay", "_law_k", "_law_seed", "_law_one", "_law_few"]) rfl rfl (by decide +kernel)) (by decide) rfl sc__law_meeting.nd rfl (Or.inl rfl) (di_rng1 rfl T.n_range (de_callG dc_len (da_cons (de_var (pv 1)) da_nil) (fun h1 h2 => pe_callB h1 rfl T.n_len bt_len h2))) (fun Cc pins fp s3 H3 => dg_name (pg_name (i := 0) (show (["_law_hand", "_law_wide", "_law_seed"] : List Str).Nodup by decide +kernel) rfl (Or.inl rfl))) (fun Cc pins fp s3 H3 => (de_op do_sub (de_op do_add (de_call h__law_mix (hr.mono (by decide)) rfl (da_cons (de_op do_add (de_var (pv 2)) (de_op do_mul de_int (de_var (pv 0)))) (da_cons de_int (da_cons (de_op do_sub (de_op do_mul de_int (de_var (pv 1))) de_int) da_nil)))) de_int) (de_var (pv 1)))) mono_nm rfl) (dss_frz 6 (dss_one (ds_app (i := 3) (de_callG dc_tuple (da_cons (de_var (pv 6)) da_nil) (fun h1 h2 => pe_callTy h1 rfl T.n_tuple bt_tuple h2)) (fun h => ps_expr (pe_bm PySem.F.plainAttrs_list PySem.F.slot_list_append PySem.F.type_list_append mt_append (pv 3) (pa_cons h pa_nil))))))))) (dss_cons (ds_if (dt_cmp (do_eq hu) (de_op do_mod (de_var (pv 0)) de_int) de_int) (dss_cons (ds_asg (DF.toE (df_call dc_sorted (da_cons (DF.toE (df_comp (Nc := ["_law_k", "_law_cell_here"]) (fr := [none, some 0]) (ss := [0]) (compOk_of (sc := (defScope s__law_meeting)) (N := ["_law_cell_here", "_law_deeds", "_law_wide", "_law_pay", "_law_k", "_law_seed", "_law_one", "_law_few"]) rfl rfl (by decide +kernel)) (by decide) rfl (di_rng1 rfl T.n_range de_int) (fun Cc pins fp s3 H3 => dg_name (pg_name (i := 0) (show (["_law_k", "_law_cell_here"] : List Str).Nodup by decide +kernel) rfl (Or.inl rfl))) (fun Cc pins fp s3 H3 => (de_op do_sub (de_call h__law_mix (hr.mono (by decide)) rfl (da_cons (de_op do_add (de_var (pv 1)) (de_var (pv 0))) (da_cons de_int (da_cons de_int da_nil)))) de_int)) mono_nm)) da_nil) (fun h1 h2 => pe_callB h1 rfl T.n_sorted bt_sorted h2))) (dg_name (pg_name (i := 7) sc__law_meeting.nd rfl (Or.inl rfl))) (fun h1 h2 => ps_asg h1 h2)) (dss_one (ds_asgO (i := 3) (df_lst (da_cons (de_tup (da_cons (de_ix (de_var (pv 7)) de_int (fun _ _ => rfl)) (da_cons (de_ix (de_var (pv 7)) de_int (fun _ _ => rfl)) da_nil))) (da_cons (de_tup (da_cons (de_ix (de_var (pv 7)) de_int (fun _ _ => rfl)) (da_cons (de_ix (de_var (pv 7)) de_int (fun _ _ => rfl)) da_nil))) (da_cons (de_tup (da_cons (de_ix (de_var (pv 7)) de_int (fun _ _ => rfl)) (da_cons (de_ix (de_var (pv 7)) de_int (fun _ _ => rfl)) da_nil))) (da_cons (de_tup (da_cons (de_ix (de_var (pv 7)) de_int (fun _ _ => rfl)) (da_cons (de_ix (de_var (pv 7)) de_int (fun _ _ => rfl)) da_nil))) da_nil))))) (fun h => ps_set (i := 3) sc__law_meeting.nd rfl (Or.inl rfl) h)))) dss_nil) (dss_frz 3 (dss_one (ds_ret (de_tup (da_cons (de_var (pv 1)) (da_cons (de_callG dc_tuple (da_cons (de_var (pv 3)) da_nil) (fun h1 h2 => pe_callTy h1 rfl T.n_tuple bt_tuple h2)) da_nil))))))))))))
theorem sc__law_patience : FnScope ["_law_cell_here", "_law_lower", "_law_upper", "_law_by"] ["_law_cell_here"] (defScope s__law_patience) := by simp_all_arith!
theorem body__law_patience (T : Txt K mg) (h__law_mix : DFn P w K mg base 1 "_law_mix" F__law_mix) (hr : Room 1 (A.deeper (envOfC "_law_patience" (defScope s__law_patience) s.heap.objs.size f cdv))) :
    DSs (cxOf CX0 P w K mg base ["_law_cell_here", "_law_lower", "_law_upper", "_law_by"] "_law_patience" (defScope s__law_patience) f cdv A outer s H E).nox (defBody s__law_patience) g__law_patience := by
  have hu := hr.units
  exact (dss_cons (ds_asg (de_op do_add de_int (de_call h__law_mix (hr.mono (by decide)) rfl (da_cons (de_var (pv 0)) (da_cons de_int (da_cons de_int da_nil))))) (dg_name (pg_name (i := 1) sc__law_patience.nd rfl (Or.inl rfl))) (fun h1 h2 => ps_asg h1 h2)) (dss_cons (ds_asg (de_op do_add de_int (de_call h__law_mix (hr.mono (by decide)) rfl (da_cons (de_var (pv 0)) (da_cons de_int (da_cons (de_op do_sub (de_var (pv 1)) de_int) da_nil))))) (dg_name (pg_name (i := 2) sc__law_patience.nd rfl (Or.inl rfl))) (fun h1 h2 => ps_asg h1 h2)) (dss_cons (ds_if (dt_cmp (do_eq hu) (de_op do_mod (de_var (pv 0)) de_int) de_int) (dss_one (ds_asg (de_op do_sub (de_var (pv 1)) de_int) (dg_name (pg_name (i := 2) sc__law_patience.nd rfl (Or.inl rfl))) (fun h1 h2 => ps_asg h1 h2))) dss_nil) (dss_cons (ds_for rfl PassesOwn.never (di_rng2 rfl T.n_range de_int de_int (hp := fun h => pi_range2 rfl T.n_range h)) (dg_name (pg_name (i := 3) sc__law_patience.nd rfl (Or.inl rfl))) (dss_one (ds_while PassesOwn.never (DW.t (dw_and (dt_cmp (do_eq hu) (de_op do_mod (de_var (pv 2)) (de_var (pv 3))) de_int) (dw_and1 (dt_cmp (do_eq hu) (de_op do_mod (de_var (pv 1)) (de_var (pv 3))) de_int)))) (dss_cons (ds_asg (de_op do_div (de_var (pv 2)) (de_var (pv 3))) (dg_name (pg_name (i := 2) sc__law_patience.nd rfl (Or.inl rfl))) (fun h1 h2 => ps_asg h1 h2)) (dss_one (ds_asg (de_op do_div (de_var (pv 1)) (de_var (pv 3))) (dg_name (pg_name (i := 1) sc__law_patience.nd rfl (Or.inl rfl))) (fun h1 h2 => ps_asg h1 h2))))))) (dss_one (ds_ret (de_tup (da_cons (de_var (pv 2)) (da_cons (de_var (pv 1)) da_nil)))))))))
theorem sc__law_row : FnScope ["_law_meeting_here", "_law_cell_here", "_law_some"] ["_law_meeting_here", "_law_cell_here"] (defScope s__law_row) := by simp_all_arith!
theorem body__law_row (T : Txt K mg) (h__law_rows : DFn P w K mg base 1 "_law_rows" F__law_rows) (h__law_mix : DFn P w K mg base 1 "_law_mix" F__law_mix) (hr : Room 1 (A.deeper (envOfC "_law_row" (defScope s__law_row) s.heap.objs.size f cdv))) :
    DSs (cxOf CX0 P w K mg base ["_law_meeting_here", "_law_cell_here", "_law_some"] "_law_row" (defScope s__law_row) f cdv A outer s H E).nox (defBody s__law_row) g__law_row := by
  have hu := hr.units
  exact (dss_cons (ds_asg (de_call h__law_rows (hr.mono (by decide)) rfl (da_cons (de_ix (de_var (pv 0)) de_int (fun _ _ => rfl)) da_nil)) (dg_name (pg_name (i := 2) sc__law_row.nd rfl (Or.inl rfl))) (fun h1 h2 => ps_asg h1 h2)) (dss_one (ds_ret (de_ix (de_var (pv 2)) (de_call h__law_mix (hr.mono (by decide)) rfl (da_cons (de_var (pv 1)) (da_cons de_int (da_cons (de_callG dc_len (da_cons (de_var (pv 2)) da_nil) (fun h1 h2 => pe_callB h1 rfl T.n_len bt_len h2)) da_nil)))) (fun _ _ => rfl)))))
theorem sc__law_cells : FnScope ["_law_script", "_law_k"] ["_law_script", "_law_k"] (defScope s__law_cells) := by simp_all_arith!
theorem body__law_cells (T : Txt K mg) (h__law_cell : DFn P w K mg base 1 "_law_cell" F__law_cell) (hr : Room 1 (A.deeper (envOfC "_law_cells" (defScope s__law_cells) s.heap.objs.size f cdv))) :
    DSs (cxOf CX0 P w K mg base ["_law_script", "_law_k"] "_law_cells" (defScope s__law_cells) f cdv A outer s H E).nox (defBody s__law_cells) g__law_cells := by
  have hu := hr.units
  exact (dss_one (ds_ret (DF.toE (df_comp (Nc := ["_law_n", "_law_script", "_law_k"]) (fr := [none, some 0, some 1]) (ss := [0]) (compOk_of (sc := (defScope s__law_cells)) (N := ["_law_script", "_law_k"]) rfl rfl (by decide +kernel)) (by decide) rfl (di_rng1 rfl T.n_range de_int) (fun Cc pins fp s3 H3 => dg_name (pg_name (i := 0) (show (["_law_n", "_law_script", "_law_k"] : List Str).Nodup by decide +kernel) rfl (Or.inl rfl))) (fun Cc pins fp s3 H3 => (de_call h__law_cell (hr.mono (by decide)) rfl (da_cons (de_var (pv 1)) (da_cons (de_op do_add (de_var (pv 2)) (de_var (pv 0))) da_nil)))) mono_nm))))
theorem sc__law_later : FnScope ["_law_pay", "_law_worth", "_law_patience_here", "_law_p", "_law_q"] ["_law_pay", "_law_worth", "_law_patience_here"] (defScope s__law_later) := by simp_all_arith!
theorem body__law_later (T : Txt K mg) (h__law_fraction : DFn P w K mg base 1 "_law_fraction" F__law_fraction) (hr : Room 1 (A.deeper (envOfC "_law_later" (defScope s__law_later) s.heap.objs.size f cdv))) :
    DSs (cxOf CX0 P w K mg base ["_law_pay", "_law_worth", "_law_patience_here", "_law_p", "_law_q"] "_law_later" (defScope s__law_later) f cdv A outer s H E).nox (defBody s__law_later) g__law_later := by
  have hu := hr.units
  exact (dss_cons (ds_asg (de_var (pv 2)) (dg_two (pg_name (i := 3) sc__law_later.nd rfl (Or.inl rfl)) (pg_name (i := 4) sc__law_later.nd rfl (Or.inl rfl)) (fun h1 h2 => pg_tup rfl (pgs_cons h1 (pgs_cons h2 pgs_nil)))) (fun h1 h2 => ps_asg h1 h2)) (dss_one (ds_ret (de_call h__law_fraction (hr.mono (by decide)) rfl (da_cons (de_op do_add (de_op do_mulW (de_op do_mulW (de_op do_sub (de_var (pv 4)) (de_var (pv 3))) (de_var (pv 0))) (de_ix (de_var (pv 1)) de_int (fun _ _ => rfl))) (de_op do_mulW (de_var (pv 3)) (de_ix (de_var (pv 1)) de_int (fun _ _ => rfl)))) (da_cons (de_op do_mulW (de_var (pv 4)) (de_ix (de_var (pv 1)) de_int (fun _ _ => rfl))) da_nil))))))
theorem sc__law_paid : FnScope ["_law_meeting_here", "_law_row_here"] ["_law_meeting_here", "_law_row_here"] (defScope s__law_paid) := by simp_all_arith!
theorem body__law_paid (T : Txt K mg) (h__law_rows : DFn P w K mg base 1 "_law_rows" F__law_rows) (hr : Room 1 (A.deeper (envOfC "_law_paid" (defScope s__law_paid) s.heap.objs.size f cdv))) :
    DSs (cxOf CX0 P w K mg base ["_law_meeting_here", "_law_row_here"] "_law_paid" (defScope s__law_paid) f cdv A outer s H E).nox (defBody s__law_paid) g__law_paid := by
  have hu := hr.units
  exact (dss_one (ds_ret (de_ix (de_ix (de_var (pv 0)) de_int (fun _ _ => rfl)) (de_index hu (de_call h__law_rows (hr.mono (by decide)) rfl (da_cons (de_ix (de_var (pv 0)) de_int (fun _ _ => rfl)) da_nil)) (de_var (pv 1)) (fun h1 h2 => pe_bm PySem.F.plainAttrs_list PySem.F.slot_list_index PySem.F.type_list_index (mt_index hu) h1 h2)) (fun _ _ => rfl))))
theorem sc_pays_of : FnScope ["meeting", "rows", "hand"] ["meeting", "rows", "hand"] (defScope s_pays_of) := by simp_all_arith!
theorem body_pays_of (T : Txt K mg) (h_paid : DFn P w K mg base 2 "paid" F_paid) (hr : Room 2 (A.deeper (envOfC "pays_of" (defScope s_pays_of) s.heap.objs.size f cdv))) :
    DSs (cxOf CX0 P w K mg base ["meeting", "rows", "hand"] "pays_of" (defScope s_pays_of) f cdv A outer s H E).nox (defBody s_pays_of) g_pays_of := by
  have hu := hr.units
  exact (dss_one (ds_ret (DF.toE (df_comp (Nc := ["row", "hand", "meeting"]) (fr := [none, some 2, some 0]) (ss := [0]) (compOk_of (sc := (defScope s_pays_of)) (N := ["meeting", "rows", "hand"]) rfl rfl (by decide +kernel)) (by decide) rfl (di_seq (de_var (pv 1))) (fun Cc pins fp s3 H3 => dg_name (pg_name (i := 0) (show (["row", "hand", "meeting"] : List Str).Nodup by decide +kernel) rfl (Or.inl rfl))) (fun Cc pins fp s3 H3 => (de_ix (de_call h_paid (hr.mono (by decide)) rfl (da_cons (de_var (pv 2)) (da_cons (de_var (pv 0)) da_nil))) (de_var (pv 1)) (fun _ _ => rfl))) mono_nm))))
theorem sc_worth_of_pays : FnScope ["before", "again", "patience", "worth", "pay"] ["before", "again", "patience"] (defScope s_worth_of_pays) := by simp_all_arith!
theorem body_worth_of_pays (T : Txt K mg) (h_weighed : DFn P w K mg base 1 "weighed" F_weighed) (h_now_and_later : DFn P w K mg base 1 "now_and_later" F_now_and_later) (h_lowest : DFn P w K mg base 2 "lowest" F_lowest) (hr : Room 2 (A.deeper (envOfC "worth_of_pays" (defScope s_worth_of_pays) s.heap.objs.size f cdv))) :
    DSs (cxOf CX0 P w K mg base ["before", "again", "patience", "worth", "pay"] "worth_of_pays" (defScope s_worth_of_pays) f cdv A outer s H E).nox (defBody s_worth_of_pays) g_worth_of_pays := by
  have hu := hr.units
  exact (dss_cons (ds_asg (de_tup (da_cons (de_call h_weighed (hr.mono (by decide)) rfl (da_cons (de_var (pv 1)) (da_cons (de_var (pv 2)) da_nil))) (da_cons (de_call h_weighed (hr.mono (by decide)) rfl (da_cons (DF.toE (df_rep (df_lst (da_cons de_int da_nil)) (de_callG dc_len (da_cons (de_var (pv 1)) da_nil) (fun h1 h2 => pe_callB h1 rfl T.n_len bt_len h2)))) (da_cons (de_var (pv 2)) da_nil))) da_nil))) (dg_name (pg_name (i := 3) sc_worth_of_pays.nd rfl (Or.inl rfl))) (fun h1 h2 => ps_asg h1 h2)) (dss_cons (ds_for rfl PassesOwn.never (di_rev rfl T.n_reversed bt_reversed (de_var (pv 0))) (dg_name (pg_name (i := 4) sc_worth_of_pays.nd rfl (Or.inl rfl))) (dss_one (ds_asg (de_call h_now_and_later (hr.mono (by decide)) rfl (da_cons (de_var (pv 4)) (da_cons (de_var (pv 3)) (da_cons (de_var (pv 2)) da_nil)))) (dg_name (pg_name (i := 3) sc_worth_of_pays.nd rfl (Or.inl rfl))) (fun h1 h2 => ps_asg h1 h2)))) (dss_one (ds_ret (de_call h_lowest (hr.mono (by decide)) rfl (da_cons (de_ix (de_var (pv 3)) de_int (fun _ _ => rfl)) (da_cons (de_ix (de_var (pv 3)) de_int (fun _ _ => rfl)) da_nil)))))))
theorem sc_better_deed : FnScope ["meeting", "plan", "state", "hand", "own", "patience", "row", "best", "most", "deed", "done", "later", "worth"] ["meeting", "plan", "state", "hand", "own", "patience"] (defScope s_better_deed) := by simp_all_arith!
theorem body_better_deed (T : Txt K mg) (h_with_deed : DFn P w K mg base 1 "with_deed" F_with_deed) (h_state_behind : DFn P w K mg base 2 "state_behind" F_state_behind) (h_paid : DFn P w K mg base 2 "paid" F_paid) (h_now_and_later : DFn P w K mg base 1 "now_and_later" F_now_and_later) (h_is_less : DFn P w K mg base 1 "is_less" F_is_less) (hr : Room 2 (A.deeper (envOfC "better_deed" (defScope s_better_deed) s.heap.objs.size f cdv))) :
    DSs (cxOf CX0 P w K mg base ["meeting", "plan", "state", "hand", "own", "patience", "row", "best", "most", "deed", "done", "later", "worth"] "better_deed" (defScope s_better_deed) f cdv A outer s H E).nox (defBody s_better_deed) g_better_deed := by
  have hu := hr.units
  exact (dss_cons (ds_asg (de_ix (de_ix (de_var (pv 1)) (de_var (pv 2)) (fun _ _ => rfl)) de_int (fun _ _ => rfl)) (dg_name (pg_name (i := 6) sc_better_deed.nd rfl (Or.inl rfl))) (fun h1 h2 => ps_asg h1 h2)) (dss_cons (ds_asg (de_ix (de_var (pv 6)) (de_var (pv 3)) (fun _ _ => rfl)) (dg_name (pg_name (i := 7) sc_better_deed.nd rfl (Or.inl rfl))) (fun h1 h2 => ps_asg h1 h2)) (dss_cons (ds_asg (de_ix (de_var (pv 4)) (de_var (pv 2)) (fun _ _ => rfl)) (dg_name (pg_name (i := 8) sc_better_deed.nd rfl (Or.inl rfl))) (fun h1 h2 => ps_asg h1 h2)) (dss_cons (ds_for rfl PassesOwn.never (di_rng1 rfl T.n_range (de_ix (de_ix (de_var (pv 0)) de_int (fun _ _ => rfl)) (de_var (pv 3)) (fun _ _ => rfl))) (dg_name (pg_name (i := 9) sc_better_deed.nd rfl (Or.inl rfl))) (dss_cons (ds_asg (de_call h_with_deed (hr.mono (by decide)) rfl (da_cons (de_var (pv 6)) (da_cons (de_var (pv 3)) (da_cons (de_var (pv 9)) da_nil)))) (dg_name (pg_name (i := 10) sc_better_deed.nd rfl (Or.inl rfl))) (fun h1 h2 => ps_asg h1 h2)) (dss_cons (ds_asg (de_ix (de_var (pv 4)) (de_call h_state_behind (hr.mono (by decide)) rfl (da_cons (de_var (pv 0)) (da_cons (de_var (pv 1)) (da_cons (de_var (pv 2)) (da_cons (de_var (pv 10)) da_nil))))) (fun _ _ => rfl)) (dg_name (pg_name (i := 11) sc_better_deed.nd rfl (Or.inl rfl))) (fun h1 h2 => ps_asg h1 h2)) (dss_cons (ds_asg (de_call h_now_and_later (hr.mono (by decide)) rfl (da_cons (de_ix (de_call h_paid (hr.mono (by decide)) rfl (da_cons (de_var (pv 0)) (da_cons (de_var (pv 10)) da_nil))) (de_var (pv 3)) (fun _ _ => rfl)) (da_cons (de_var (pv 11)) (da_cons (de_var (pv 5)) da_nil)))) (dg_name (pg_name (i := 12) sc_better_deed.nd rfl (Or.inl rfl))) (fun h1 h2 => ps_asg h1 h2)) (dss_one (ds_if (dt_tru (de_call h_is_less (hr.mono (by decide)) rfl (da_cons (de_var (pv 8)) (da_cons (de_var (pv 12)) da_nil))) (fun _ => rfl)) (dss_cons (ds_asg (de_var (pv 9)) (dg_name (pg_name (i := 7) sc_better_deed.nd rfl (Or.inl rfl))) (fun h1 h2 => ps_asg h1 h2)) (dss_one (ds_asg (de_var (pv 12)) (dg_name (pg_name (i := 8) sc_better_deed.nd rfl (Or.inl rfl))) (fun h1 h2 => ps_asg h1 h2)))) dss_nil)))))) (dss_one (ds_ret (de_var (pv 7))))))))
theorem sc__law_plan : FnScope ["_law_meeting_here", "_law_cells_here", "_law_most", "_law_many", "_law_found", "_law_k", "_law_cell_here", "_law_nexts"] ["_law_meeting_here", "_law_cells_here", "_law_most"] (defScope s__law_plan) := by simp_all_arith!
theorem body__law_plan (T : Txt K mg) (h__law_mix : DFn P w K mg base 1 "_law_mix" F__law_mix) (h__law_rows : DFn P w K mg base 1 "_law_rows" F__law_rows) (h__law_row : DFn P w K mg base 2 "_law_row" F__law_row) (hr : Room 2 (A.deeper (envOfC "_law_plan" (defScope s__law_plan) s.heap.objs.size f cdv))) :
    DSs (cxOf CX0 P w K mg base ["_law_meeting_here", "_law_cells_here", "_law_most", "_law_many", "_law_found", "_law_k", "_law_cell_here", "_law_nexts"] "_law_plan" (defScope s__law_plan) f cdv A outer s H E).nox (defBody s__law_plan) g__law_plan := by
  have hu := hr.units
  exact (dss_cons (ds_asg (de_op do_add de_int (de_call h__law_mix (hr.mono (by decide)) rfl (da_cons (de_ix (de_var (pv 1)) de_int (fun _ _ => rfl)) (da_cons de_int (da_cons (de_var (pv 2)) da_nil))))) (dg_name (pg_name (i := 3) sc__law_plan.nd rfl (Or.inr rfl))) (fun h1 h2 => ps_asg h1 h2)) (dss_cons (ds_asgO (i := 4) (df_lst da_nil) (fun h => ps_set (i := 4) sc__law_plan.nd rfl (Or.inl rfl) h)) (dss_cons (ds_for rfl PassesOwn.never (di_rng1 rfl T.n_range (de_var (pv 3))) (dg_name (pg_name (i := 5) sc__law_plan.nd rfl (Or.inl rfl))) (dss_cons (ds_asg (de_op do_add (de_ix (de_var (pv 1)) (de_op do_add de_int (de_op do_mod (de_var (pv 5)) de_int)) (fun _ _ => rfl)) (de_op do_mul de_int (de_var (pv 5)))) (dg_name (pg_name (i := 6) sc__law_plan.nd rfl (Or.inr rfl))) (fun h1 h2 => ps_asg h1 h2)) (dss_cons (ds_compO0 (i := 7) (Nc := ["_law_n", "_law_many", "_law_cell_here"]) (fr := [none, some 3, some 6]) (ss := [0]) (compOk_of (sc := (defScope s__law_plan)) (N := ["_law_meeting_here", "_law_cells_here", "_law_most", "_law_many", "_law_found", "_law_k", "_law_cell_here", "_law_nexts"]) rfl rfl (by decide +kernel)) (by decide) rfl sc__law_plan.nd rfl (Or.inl rfl) (di_rng1 rfl T.n_range (de_callG dc_len (da_cons (de_call h__law_rows (hr.mono (by decide)) rfl (da_cons (de_ix (de_var (pv 0)) de_int (fun _ _ => rfl)) da_nil)) da_nil) (fun h1 h2 => pe_callB h1 rfl T.n_len bt_len h2))) (fun Cc pins fp s3 H3 => dg_name (pg_name (i := 0) (show (["_law_n", "_law_many", "_law_cell_here"] : List Str).Nodup by decide +kernel) rfl (Or.inl rfl))) (fun Cc pins fp s3 H3 => (de_call h__law_mix (hr.mono (by decide)) rfl (da_cons (de_op do_add (de_var (pv 2)) (de_op do_mul de_int (de_var (pv 0)))) (da_cons de_int (da_cons (de_var (pv 1)) da_nil))))) mono_nm rfl) (dss_frz 7 (dss_one (ds_app (i := 4) (de_tup (da_cons (de_call h__law_row (hr.mono (by decide)) rfl (da_cons (de_var (pv 0)) (da_cons (de_var (pv 6)) da_nil))) (da_cons (de_callG dc_tuple (da_cons (de_var (pv 7)) da_nil) (fun h1 h2 => pe_callTy h1 rfl T.n_tuple bt_tuple h2)) da_nil))) (fun h => ps_expr (pe_bm PySem.F.plainAttrs_list PySem.F.slot_list_append PySem.F.type_list_append mt_append (pv 4) (pa_cons h pa_nil))))))))) (dss_frz 4 (dss_one (ds_ret (de_callG dc_tuple (da_cons (de_var (pv 4)) da_nil) (fun h1 h2 => pe_callTy h1 rfl T.n_tuple bt_tuple h2))))))))
theorem sc__law_move : FnScope ["_law_meeting_here", "_law_plan_here", "_law_state", "_law_hand", "_law_deed", "_law_row_here"] ["_law_meeting_here", "_law_plan_here", "_law_state", "_law_hand", "_law_deed"] (defScope s__law_move) := by simp_all_arith!
theorem body__law_move (T : Txt K mg) (h__law_stray : DFn P w K mg base 1 "_law_stray" F__law_stray) (h__law_rows : DFn P w K mg base 1 "_law_rows" F__law_rows) (h__law_paid : DFn P w K mg base 2 "_law_paid" F__law_paid) (hr : Room 2 (A.deeper (envOfC "_law_move" (defScope s__law_move) s.heap.objs.size f cdv))) :
    DSs (cxOf CX0 P w K mg base ["_law_meeting_here", "_law_plan_here", "_law_state", "_law_hand", "_law_deed", "_law_row_here"] "_law_move" (defScope s__law_move) f cdv A outer s H E).nox (defBody s__law_move) g__law_move := by
  have hu := hr.units
  exact (dss_cons (ds_asg (de_call h__law_stray (hr.mono (by decide)) rfl (da_cons (de_ix (de_ix (de_var (pv 1)) (de_var (pv 2)) (fun _ _ => rfl)) de_int (fun _ _ => rfl)) (da_cons (de_var (pv 3)) (da_cons (de_var (pv 4)) da_nil)))) (dg_name (pg_name (i := 5) sc__law_move.nd rfl (Or.inl rfl))) (fun h1 h2 => ps_asg h1 h2)) (dss_one (ds_ret (de_tup (da_cons (de_ix (de_call h__law_paid (hr.mono (by decide)) rfl (da_cons (de_var (pv 0)) (da_cons (de_var (pv 5)) da_nil))) (de_var (pv 3)) (fun _ _ => rfl)) (da_cons (de_ix (de_ix (de_ix (de_var (pv 1)) (de_var (pv 2)) (fun _ _ => rfl)) de_int (fun _ _ => rfl)) (de_index hu (de_call h__law_rows (hr.mono (by decide)) rfl (da_cons (de_ix (de_var (pv 0)) de_int (fun _ _ => rfl)) da_nil)) (de_var (pv 5)) (fun h1 h2 => pe_bm PySem.F.plainAttrs_list PySem.F.slot_list_index PySem.F.type_list_index (mt_index hu) h1 h2)) (fun _ _ => rfl)) da_nil))))))
theorem sc_worth_of : FnScope ["meeting", "rows", "over", "patience", "told", "hand", "before", "again"] ["meeting", "rows", "over", "patience"] (defScope s_worth_of) := by simp_all_arith!
theorem body_worth_of (T : Txt K mg) (h_pays_of : DFn P w K mg base 3 "pays_of" F_pays_of) (h_worth_of_pays : DFn P w K mg base 3 "worth_of_pays" F_worth_of_pays) (hr : Room 3 (A.deeper (envOfC "worth_of" (defScope s_worth_of) s.heap.objs.size f cdv))) :
    DSs (cxOf CX0 P w K mg base ["meeting", "rows", "over", "patience", "told", "hand", "before", "again"] "worth_of" (defScope s_worth_of) f cdv A outer s H E).nox (defBody s_worth_of) g_worth_of := by
  have hu := hr.units
  exact (dss_cons (ds_asgO (i := 4) (df_lst da_nil) (fun h => ps_set (i := 4) sc_worth_of.nd rfl (Or.inl rfl) h)) (dss_cons (ds_for rfl PassesOwn.never (di_rng1 rfl T.n_range (de_callG dc_len (da_cons (de_ix (de_var (pv 0)) de_int (fun _ _ => rfl)) da_nil) (fun h1 h2 => pe_callB h1 rfl T.n_len bt_len h2))) (dg_name (pg_name (i := 5) sc_worth_of.nd rfl (Or.inl rfl))) (dss_cons (ds_asg (de_call h_pays_of (hr.mono (by decide)) rfl (da_cons (de_var (pv 0)) (da_cons (de_var (pv 1)) (da_cons (de_var (pv 5)) da_nil)))) (dg_name (pg_name (i := 6) sc_worth_of.nd rfl (Or.inl rfl))) (fun h1 h2 => ps_asg h1 h2)) (dss_cons (ds_asg (de_call h_pays_of (hr.mono (by decide)) rfl (da_cons (de_var (pv 0)) (da_cons (de_var (pv 2)) (da_cons (de_var (pv 5)) da_nil)))) (dg_name (pg_name (i := 7) sc_worth_of.nd rfl (Or.inl rfl))) (fun h1 h2 => ps_asg h1 h2)) (dss_one (ds_app (i := 4) (de_call h_worth_of_pays (hr.mono (by decide)) rfl (da_cons (de_var (pv 6)) (da_cons (de_var (pv 7)) (da_cons (de_var (pv 3)) da_nil)))) (fun h => ps_expr (pe_bm PySem.F.plainAttrs_list PySem.F.slot_list_append PySem.F.type_list_append mt_append (pv 4) (pa_cons h pa_nil)))))))) (dss_frz 4 (dss_one (ds_ret (de_callG dc_tuple (da_cons (de_var (pv 4)) da_nil) (fun h1 h2 => pe_callTy h1 rfl T.n_tuple bt_tuple h2)))))))
theorem sc_better_deeds : FnScope ["meeting", "plan", "hand", "own", "patience"] ["meeting", "plan", "hand", "own", "patience"] (defScope s_better_deeds) := by simp_all_arith!
theorem body_better_deeds (T : Txt K mg) (h_better_deed : DFn P w K mg base 3 "better_deed" F_better_deed) (hr : Room 3 (A.deeper (envOfC "better_deeds" (defScope s_better_deeds) s.heap.objs.size f cdv))) :
    DSs (cxOf CX0 P w K mg base ["meeting", "plan", "hand", "own", "patience"] "better_deeds" (defScope s_better_deeds) f cdv A outer s H E).nox (defBody s_better_deeds) g_better_deeds := by
  have hu := hr.units
  exact (dss_one (ds_ret (de_callG dc_tuple (da_cons (DF.toE (df_comp (Nc := ["state", "meeting", "plan", "hand", "own", "patience"]) (fr := [none, some 0, some 1, some 2, some 3, some 4]) (ss := [0]) (compOk_of (sc := (defScope s_better_deeds)) (N := ["meeting", "plan", "hand", "own", "patience"]) rfl rfl (by decide +kernel)) (by decide) rfl (di_rng1 rfl T.n_range (de_callG dc_len (da_cons (de_var (pv 1)) da_nil) (fun h1 h2 => pe_callB h1 rfl T.n_len bt_len h2))) (fun Cc pins fp s3 H3 => dg_name (pg_name (i := 0) (show (["state", "meeting", "plan", "hand", "own", "patience"] : List Str).Nodup by decide +kernel) rfl (Or.inl rfl))) (fun Cc pins fp s3 H3 => (de_call h_better_deed (hr.mono (by decide)) rfl (da_cons (de_var (pv 1)) (da_cons (de_var (pv 2)) (da_cons (de_var (pv 0)) (da_cons (de_var (pv 3)) (da_cons (de_var (pv 4)) (da_cons (de_var (pv 5)) da_nil)))))))) mono_nm)) da_nil) (fun h1 h2 => pe_callTy h1 rfl T.n_tuple bt_tuple h2))))
theorem sc__law_gains : FnScope ["_law_meeting_here", "_law_plan_here", "_law_patience_here", "_law_known", "_law_found", "_law_state", "_law_hand", "_law_many", "_law_deed", "_law_pay", "_law_there"] ["_law_meeting_here", "_law_plan_here", "_law_patience_here", "_law_known"] (defScope s__law_gains) := by simp_all_arith!
theorem body__law_gains (T : Txt K mg) (h__law_move : DFn P w K mg base 3 "_law_move" F__law_move) (h__law_later : DFn P w K mg base 2 "_law_later" F__law_later) (h__law_more : DFn P w K mg base 1 "_law_more" F__law_more) (hr : Room 3 (A.deeper (envOfC "_law_gains" (defScope s__law_gains) s.heap.objs.size f cdv))) :
    DSs (cxOf CX0 P w K mg base ["_law_meeting_here", "_law_plan_here", "_law_patience_here", "_law_known", "_law_found", "_law_state", "_law_hand", "_law_many", "_law_deed", "_law_pay", "_law_there"] "_law_gains" (defScope s__law_gains) f cdv A outer s H E).nox (defBody s__law_gains) g__law_gains := by
  have hu := hr.units
  exact (dss_cons (ds_asgO (i := 4) (df_lst da_nil) (fun h => ps_set (i := 4) sc__law_gains.nd rfl (Or.inl rfl) h)) (dss_cons (ds_for rfl PassesOwn.never (di_rng1 rfl T.n_range (de_callG dc_len (da_cons (de_var (pv 1)) da_nil) (fun h1 h2 => pe_callB h1 rfl T.n_len bt_len h2))) (dg_name (pg_name (i := 5) sc__law_gains.nd rfl (Or.inl rfl))) (dss_one (ds_for rfl PassesOwn.never (di_enumT rfl T.n_enumerate bt_enumerate (de_ix (de_var (pv 0)) de_int (fun _ _ => rfl))) (dg_two (pg_name (i := 6) sc__law_gains.nd rfl (Or.inl rfl)) (pg_name (i := 7) sc__law_gains.nd rfl (Or.inl rfl)) (fun h1 h2 => pg_tup rfl (pgs_cons h1 (pgs_cons h2 pgs_nil)))) (dss_one (ds_for rfl PassesOwn.never (di_rng1 rfl T.n_range (de_var (pv 7))) (dg_name (pg_name (i := 8) sc__law_gains.nd rfl (Or.inl rfl))) (dss_cons (ds_asg (de_call h__law_move (hr.mono (by decide)) rfl (da_cons (de_var (pv 0)) (da_cons (de_var (pv 1)) (da_cons (de_var (pv 5)) (da_cons (de_var (pv 6)) (da_cons (de_var (pv 8)) da_nil)))))) (dg_two (pg_name (i := 9) sc__law_gains.nd rfl (Or.inl rfl)) (pg_name (i := 10) sc__law_gains.nd rfl (Or.inl rfl)) (fun h1 h2 => pg_tup rfl (pgs_cons h1 (pgs_cons h2 pgs_nil)))) (fun h1 h2 => ps_asg h1 h2)) (dss_one (ds_if (dt_tru (de_call h__law_more (hr.mono (by decide)) rfl (da_cons (de_call h__law_later (hr.mono (by decide)) rfl (da_cons (de_var (pv 9)) (da_cons (de_ix (de_ix (de_var (pv 3)) (de_var (pv 10)) (fun _ _ => rfl)) (de_var (pv 6)) (fun _ _ => rfl)) (da_cons (de_var (pv 2)) da_nil)))) (da_cons (de_ix (de_ix (de_var (pv 3)) (de_var (pv 5)) (fun _ _ => rfl)) (de_var (pv 6)) (fun _ _ => rfl)) da_nil))) (fun _ => rfl)) (dss_one (ds_app (i := 4) (de_tup (da_cons (de_var (pv 5)) (da_cons (de_var (pv 6)) (da_cons (de_var (pv 8)) da_nil)))) (fun h => ps_expr (pe_bm PySem.F.plainAttrs_list PySem.F.slot_list_append PySem.F.type_list_append mt_append (pv 4) (pa_cons h pa_nil))))) dss_nil)))))))) (dss_frz 4 (dss_one (ds_ret (de_var (pv 4)))))))
theorem sc__law_best_right : FnScope ["_law_meeting_here", "_law_plan_here", "_law_hand", "_law_patience_here", "_law_told", "_law_deeds", "_law_state", "_law_some", "_law_deed", "_law_pay", "_law_there"] ["_law_meeting_here", "_law_plan_here", "_law_hand", "_law_patience_here", "_law_told", "_law_deeds"] (defScope s__law_best_right) := by simp_all_arith!
theorem body__law_best_right (T : Txt K mg) (h__law_move : DFn P w K mg base 3 "_law_move" F__law_move) (h__law_later : DFn P w K mg base 2 "_law_later" F__law_later) (h__law_more : DFn P w K mg base 1 "_law_more" F__law_more) (hr : Room 3 (A.deeper (envOfC "_law_best_right" (defScope s__law_best_right) s.heap.objs.size f cdv))) :
    DSs (cxOf CX0 P w K mg base ["_law_meeting_here", "_law_plan_here", "_law_hand", "_law_patience_here", "_law_told", "_law_deeds", "_law_state", "_law_some", "_law_deed", "_law_pay", "_law_there"] "_law_best_right" (defScope s__law_best_right) f cdv A outer s H E).nox (defBody s__law_best_right) g__law_best_right := by
  have hu := hr.units
  exact (dss_cons (ds_if (DW.t (dw_or (dt_not (dt_tru (de_inst (T := "tuple") (by decide) (de_var (pv 4)) (pe_bltn rfl T.n_tuple bt_tuple rfl) (fun h1 h2 => pe_callB h1 rfl T.n_isinstance bt_isinstance h2)) (fun _ => rfl))) (dw_or (dt_cmp (do_ne hu) (de_callG dc_len (da_cons (de_var (pv 4)) da_nil) (fun h1 h2 => pe_callB h1 rfl T.n_len bt_len h2)) (de_callG dc_len (da_cons (de_var (pv 1)) da_nil) (fun h1 h2 => pe_callB h1 rfl T.n_len bt_len h2))) (dw_or1 (dt_cmp (do_ne hu) (de_callG dc_len (da_cons (de_var (pv 5)) da_nil) (fun h1 h2 => pe_callB h1 rfl T.n_len bt_len h2)) (de_callG dc_len (da_cons (de_var (pv 1)) da_nil) (fun h1 h2 => pe_callB h1 rfl T.n_len bt_len h2))))))) (dss_one (ds_ret de_bl)) dss_nil) (dss_cons (ds_for rfl PassesOwn.never (di_rng1 rfl T.n_range (de_callG dc_len (da_cons (de_var (pv 1)) da_nil) (fun h1 h2 => pe_callB h1 rfl T.n_len bt_len h2))) (dg_name (pg_name (i := 6) sc__law_best_right.nd rfl (Or.inr rfl))) (dss_cons (ds_asgO (i := 7) (df_lst da_nil) (fun h => ps_set (i := 7) sc__law_best_right.nd rfl (Or.inl rfl) h)) (dss_cons (ds_for rfl PassesOwn.never (di_rng1 rfl T.n_range (de_ix (de_ix (de_var (pv 0)) de_int (fun _ _ => rfl)) (de_var (pv 2)) (fun _ _ => rfl))) (dg_name (pg_name (i := 8) sc__law_best_right.nd rfl (Or.inl rfl))) (dss_cons (ds_asg (de_call h__law_move (hr.mono (by decide)) rfl (da_cons (de_var (pv 0)) (da_cons (de_var (pv 1)) (da_cons (de_var (pv 6)) (da_cons (de_var (pv 2)) (da_cons (de_var (pv 8)) da_nil)))))) (dg_two (pg_name (i := 9) sc__law_best_right.nd rfl (Or.inl rfl)) (pg_name (i := 10) sc__law_best_right.nd rfl (Or.inl rfl)) (fun h1 h2 => pg_tup rfl (pgs_cons h1 (pgs_cons h2 pgs_nil)))) (fun h1 h2 => ps_asg h1 h2)) (dss_one (ds_app (i := 7) (de_call h__law_later (hr.mono (by decide)) rfl (da_cons (de_var (pv 9)) (da_cons (de_ix (de_var (pv 4)) (de_var (pv 10)) (fun _ _ => rfl)) (da_cons (de_var (pv 3)) da_nil)))) (fun h => ps_expr (pe_bm PySem.F.plainAttrs_list PySem.F.slot_list_append PySem.F.type_list_append mt_append (pv 7) (pa_cons h pa_nil))))))) (dss_frz 7 (dss_cons (ds_if (DW.t (dw_or (dt_not (dt_chain do_le do_lt de_int (de_ix (de_var (pv 5)) (de_var (pv 6)) (fun _ _ => rfl)) (de_callG dc_len (da_cons (de_var (pv 7)) da_nil) (fun h1 h2 => pe_callB h1 rfl T.n_len bt_len h2)))) (dw_or1 (dt_cmp (do_ne hu) (de_ix (de_var (pv 7)) (de_ix (de_var (pv 5)) (de_var (pv 6)) (fun _ _ => rfl)) (fun _ _ => rfl)) (de_ix (de_var (pv 4)) (de_var (pv 6)) (fun _ _ => rfl)))))) (dss_one (ds_ret de_bl)) dss_nil) (dss_one (ds_if (dt_tru (DF.toE (df_compIf (ifs := [_]) (Nc := ["_law_one", "_law_told", "_law_state"]) (fr := [none, some 4, some 6]) (ss := [0]) (compOk_of (sc := (defScope s__law_best_right)) (N := ["_law_meeting_here", "_law_plan_here", "_law_hand", "_law_patience_here", "_law_told", "_law_deeds", "_law_state", "_law_some", "_law_deed", "_law_pay", "_law_there"]) rfl rfl (by decide +kernel)) (by decide) rfl (di_lst (de_var (pv 7))) (fun Cc pins fp s3 H3 => dg_name (pg_name (i := 0) (show (["_law_one", "_law_told", "_law_state"] : List Str).Nodup by decide +kernel) rfl (Or.inl rfl))) (fun Cc pins fp s3 H3 => difs_one (dt_tru (de_call h__law_more (hr.mono (by decide)) rfl (da_cons (de_var (pv 0)) (da_cons (de_ix (de_var (pv 1)) (de_var (pv 2)) (fun _ _ => rfl)) da_nil))) (fun _ => rfl))) (fun Cc pins fp s3 H3 => (de_var (pv 0))))) (fun _ => rfl)) (dss_one (ds_ret de_bl)) dss_nil))))))) (dss_one (ds_ret de_bl))))
theorem sc_worths_from : FnScope ["meeting", "plan", "start", "patience", "came", "state", "rows"] ["meeting", "plan", "start", "patience"] (defScope s_worths_from) := by simp_all_arith!
theorem body_worths_from (T : Txt K mg) (h_state_behind : DFn P w K mg base 2 "state_behind" F_state_behind) (h_worth_of : DFn P w K mg base 4 "worth_of" F_worth_of) (hr : Room 4 (A.deeper (envOfC "worths_from" (defScope s_worths_from) s.heap.objs.size f cdv))) :
    DSs (cxOf CX0 P w K mg base ["meeting", "plan", "start", "patience", "came", "state", "rows"] "worths_from" (defScope s_worths_from) f cdv A outer s H E).nox (defBody s_worths_from) g_worths_from := by
  have hu := hr.units
  exact (dss_cons (ds_dnew (i := 4) (.k []) (ps_set (i := 4) sc_worths_from.nd rfl (Or.inl rfl) pe_dnewK) rfl) (dss_cons (ds_asg (de_var (pv 2)) (dg_name (pg_name (i := 5) sc_worths_from.nd rfl (Or.inl rfl))) (fun h1 h2 => ps_asg h1 h2)) (dss_cons (ds_while PassesOwn.never (dt_dnotin hu (pv 4) (dk_int (de_var (pv 5)))) (dss_cons (ds_dput hu (pv 4) (dk_int (de_var (pv 5))) (de_dlen (i := 4) (pe_callB call_lenR rfl T.n_len bt_len (pa_cons (pv 4) pa_nil)) rfl)) (dss_one (ds_asg (de_call h_state_behind (hr.mono (by decide)) rfl (da_cons (de_var (pv 0)) (da_cons (de_var (pv 1)) (da_cons (de_var (pv 5)) (da_cons (de_ix (de_ix (de_var (pv 1)) (de_var (pv 5)) (fun _ _ => rfl)) de_int (fun _ _ => rfl)) da_nil))))) (dg_name (pg_name (i := 5) sc_worths_from.nd rfl (Or.inl rfl))) (fun h1 h2 => ps_asg h1 h2))))) (dss_dfrz 4 (dss_cons (ds_compO0 (i := 6) (Nc := ["number", "plan"]) (fr := [none, some 1]) (ss := [0]) (compOk_of (sc := (defScope s_worths_from)) (N := ["meeting", "plan", "start", "patience", "came", "state", "rows"]) rfl rfl (by decide +kernel)) (by decide) rfl sc_worths_from.nd rfl (Or.inl rfl) (di_dict (pv 4)) (fun Cc pins fp s3 H3 => dg_name (pg_name (i := 0) (show (["number", "plan"] : List Str).Nodup by decide +kernel) rfl (Or.inl rfl))) (fun Cc pins fp s3 H3 => (de_ix (de_ix (de_var (pv 1)) (de_var (pv 0)) (fun _ _ => rfl)) de_int (fun _ _ => rfl))) mono_nm rfl) (dss_frz 6 (dss_one (ds_ret (de_call h_worth_of (hr.mono (by decide)) rfl (da_cons (de_var (pv 0)) (da_cons (DF.toE (df_slL (de_var (pv 6)) do_none (do_some (de_dget hu (pv 4) (dk_int (de_var (pv 5))) (fun _ _ => rfl))))) (da_cons (DF.toE (df_slL (de_var (pv 6)) (do_some (de_dget hu (pv 4) (dk_int (de_var (pv 5))) (fun _ _ => rfl))) do_none)) (da_cons (de_var (pv 3)) da_nil)))))))))))))
theorem sc_worths : FnScope ["meeting", "plan", "patience"] ["meeting", "plan", "patience"] (defScope s_worths) := by simp_all_arith!
theorem body_worths (T : Txt K mg) (h_worths_from : DFn P w K mg base 5 "worths_from" F_worths_from) (hr : Room 5 (A.deeper (envOfC "worths" (defScope s_worths) s.heap.objs.size f cdv))) :
    DSs (cxOf CX0 P w K mg base ["meeting", "plan", "patience"] "worths" (defScope s_worths) f cdv A outer s H E).nox (defBody s_worths) g_worths := by
  have hu := hr.units
  exact (dss_one (ds_ret (de_callG dc_tuple (da_cons (DF.toE (df_comp (Nc := ["state", "meeting", "plan", "patience"]) (fr := [none, some 0, some 1, some 2]) (ss := [0]) (compOk_of (sc := (defScope s_worths)) (N := ["meeting", "plan", "patience"]) rfl rfl (by decide +kernel)) (by decide) rfl (di_rng1 rfl T.n_range (de_callG dc_len (da_cons (de_var (pv 1)) da_nil) (fun h1 h2 => pe_callB h1 rfl T.n_len bt_len h2))) (fun Cc pins fp s3 H3 => dg_name (pg_name (i := 0) (show (["state", "meeting", "plan", "patience"] : List Str).Nodup by decide +kernel) rfl (Or.inl rfl))) (fun Cc pins fp s3 H3 => (de_call h_worths_from (hr.mono (by decide)) rfl (da_cons (de_var (pv 1)) (da_cons (de_var (pv 2)) (da_cons (de_var (pv 0)) (da_cons (de_var (pv 3)) da_nil)))))) mono_nm)) da_nil) (fun h1 h2 => pe_callTy h1 rfl T.n_tuple bt_tuple h2))))
theorem sc_gain : FnScope ["meeting", "plan", "patience", "told", "hand", "better", "state", "deed"] ["meeting", "plan", "patience"] (defScope s_gain) := by simp_all_arith!
theorem body_gain (T : Txt K mg) (h_worths : DFn P w K mg base 6 "worths" F_worths) (h_worths_of_hand : DFn P w K mg base 1 "worths_of_hand" F_worths_of_hand) (h_better_deeds : DFn P w K mg base 4 "better_deeds" F_better_deeds) (hr : Room 6 (A.deeper (envOfC "gain" (defScope s_gain) s.heap.objs.size f cdv))) :
    DSs (cxOf CX0 P w K mg base ["meeting", "plan", "patience", "told", "hand", "better", "state", "deed"] "gain" (defScope s_gain) f cdv A outer s H E).nox (defBody s_gain) g_gain := by
  have hu := hr.units
  exact (dss_cons (ds_asg (de_call h_worths (hr.mono (by decide)) rfl (da_cons (de_var (pv 0)) (da_cons (de_var (pv 1)) (da_cons (de_var (pv 2)) da_nil)))) (dg_name (pg_name (i := 3) sc_gain.nd rfl (Or.inl rfl))) (fun h1 h2 => ps_asg h1 h2)) (dss_cons (ds_for rfl PassesOwn.never (di_rng1 rfl T.n_range (de_callG dc_len (da_cons (de_ix (de_var (pv 0)) de_int (fun _ _ => rfl)) da_nil) (fun h1 h2 => pe_callB h1 rfl T.n_len bt_len h2))) (dg_name (pg_name (i := 4) sc_gain.nd rfl (Or.inl rfl))) (dss_cons (ds_asg (de_call h_better_deeds (hr.mono (by decide)) rfl (da_cons (de_var (pv 0)) (da_cons (de_var (pv 1)) (da_cons (de_var (pv 4)) (da_cons (de_call h_worths_of_hand (hr.mono (by decide)) rfl (da_cons (de_var (pv 3)) (da_cons (de_var (pv 4)) da_nil))) (da_cons (de_var (pv 2)) da_nil)))))) (dg_name (pg_name (i := 5) sc_gain.nd rfl (Or.inl rfl))) (fun h1 h2 => ps_asg h1 h2)) (dss_one (ds_for rfl PassesOwn.never (di_enumT rfl T.n_enumerate bt_enumerate (de_var (pv 5))) (dg_two (pg_name (i := 6) sc_gain.nd rfl (Or.inl rfl)) (pg_name (i := 7) sc_gain.nd rfl (Or.inl rfl)) (fun h1 h2 => pg_tup rfl (pgs_cons h1 (pgs_cons h2 pgs_nil)))) (dss_one (ds_if (dt_cmp (do_ne hu) (de_var (pv 7)) (de_ix (de_ix (de_ix (de_var (pv 1)) (de_var (pv 6)) (fun _ _ => rfl)) de_int (fun _ _ => rfl)) (de_var (pv 4)) (fun _ _ => rfl))) (dss_one (ds_ret (de_tup (da_cons (de_var (pv 6)) (da_cons (de_var (pv 4)) (da_cons (de_var (pv 7)) da_nil)))))) dss_nil)))))) (dss_one (ds_ret de_non))))
theorem sc_bent_for : FnScope ["meeting", "plan", "hand", "patience", "bent", "own", "better"] ["meeting", "plan", "hand", "patience"] (defScope s_bent_for) := by simp_all_arith!
theorem body_bent_for (T : Txt K mg) (h_worths : DFn P w K mg base 6 "worths" F_worths) (h_worths_of_hand : DFn P w K mg base 1 "worths_of_hand" F_worths_of_hand) (h_better_deeds : DFn P w K mg base 4 "better_deeds" F_better_deeds) (h_deeds_of_hand : DFn P w K mg base 1 "deeds_of_hand" F_deeds_of_hand) (h_with_deed : DFn P w K mg base 1 "with_deed" F_with_deed) (hr : Room 6 (A.deeper (envOfC "bent_for" (defScope s_bent_for) s.heap.objs.size f cdv))) :
    DSs (cxOf CX0 P w K mg base ["meeting", "plan", "hand", "patience", "bent", "own", "better"] "bent_for" (defScope s_bent_for) f cdv A outer s H E).nox (defBody s_bent_for) g_bent_for := by
  have hu := hr.units
  exact (dss_cons (ds_asg (de_var (pv 1)) (dg_name (pg_name (i := 4) sc_bent_for.nd rfl (Or.inl rfl))) (fun h1 h2 => ps_asg h1 h2)) (dss_one (ds_while PassesOwn.never (dt_tru de_bl (fun _ => rfl)) (dss_cons (ds_asg (de_call h_worths_of_hand (hr.mono (by decide)) rfl (da_cons (de_call h_worths (hr.mono (by decide)) rfl (da_cons (de_var (pv 0)) (da_cons (de_var (pv 4)) (da_cons (de_var (pv 3)) da_nil)))) (da_cons (de_var (pv 2)) da_nil))) (dg_name (pg_name (i := 5) sc_bent_for.nd rfl (Or.inl rfl))) (fun h1 h2 => ps_asg h1 h2)) (dss_cons (ds_asg (de_call h_better_deeds (hr.mono (by decide)) rfl (da_cons (de_var (pv 0)) (da_cons (de_var (pv 4)) (da_cons (de_var (pv 2)) (da_cons (de_var (pv 5)) (da_cons (de_var (pv 3)) da_nil)))))) (dg_name (pg_name (i := 6) sc_bent_for.nd rfl (Or.inl rfl))) (fun h1 h2 => ps_asg h1 h2)) (dss_cons (ds_if (dt_cmp (do_eq hu) (de_var (pv 6)) (de_call h_deeds_of_hand (hr.mono (by decide)) rfl (da_cons (de_var (pv 4)) (da_cons (de_var (pv 2)) da_nil)))) (dss_one (ds_ret (de_var (pv 4)))) dss_nil) (dss_one (ds_asg (de_callG dc_tuple (da_cons (DF.toE (df_comp (Nc := ["part", "deed", "hand"]) (fr := [none, none, some 2]) (ss := [0, 1]) (compOk_of (sc := (defScope s_bent_for)) (N := ["meeting", "plan", "hand", "patience", "bent", "own", "better"]) rfl rfl (by decide +kernel)) (by decide) rfl (di_zip rfl T.n_zip bt_zip (de_var (pv 4)) (de_var (pv 6))) (fun Cc pins fp s3 H3 => dg_two (pg_name (i := 0) (show (["part", "deed", "hand"] : List Str).Nodup by decide +kernel) rfl (Or.inl rfl)) (pg_name (i := 1) (show (["part", "deed", "hand"] : List Str).Nodup by decide +kernel) rfl (Or.inl rfl)) (fun h1 h2 => pg_tup rfl (pgs_cons h1 (pgs_cons h2 pgs_nil)))) (fun Cc pins fp s3 H3 => (de_tup (da_cons (de_call h_with_deed (hr.mono (by decide)) rfl (da_cons (de_ix (de_var (pv 0)) de_int (fun _ _ => rfl)) (da_cons (de_var (pv 2)) (da_cons (de_var (pv 1)) da_nil)))) (da_cons (de_ix (de_var (pv 0)) de_int (fun _ _ => rfl)) da_nil)))) mono_nm2)) da_nil) (fun h1 h2 => pe_callTy h1 rfl T.n_tuple bt_tuple h2)) (dg_name (pg_name (i := 4) sc_bent_for.nd rfl (Or.inl rfl))) (fun h1 h2 => ps_asg h1 h2)))))))))
theorem sc_holds : FnScope ["meeting", "plan", "patience"] ["meeting", "plan", "patience"] (defScope s_holds) := by simp_all_arith!
theorem body_holds (T : Txt K mg) (h_gain : DFnR P w K mg base 7 "gain" F_gain) (hr : Room 7 (A.deeper (envOfC "holds" (defScope s_holds) s.heap.objs.size f cdv))) :
    DSs (cxOf CX0 P w K mg base ["meeting", "plan", "patience"] "holds" (defScope s_holds) f cdv A outer s H E).nox (defBody s_holds) g_holds := by
  have hu := hr.units
  exact (dss_one (ds_ret (de_cmp do_is2 (de_callR h_gain (hr.mono (by decide)) rfl (da_cons (de_var (pv 0)) (da_cons (de_var (pv 1)) (da_cons (de_var (pv 2)) da_nil)))) de_non)))
theorem sc_best_worths : FnScope ["meeting", "plan", "hand", "patience", "bent"] ["meeting", "plan", "hand", "patience"] (defScope s_best_worths) := by simp_all_arith!
theorem body_best_worths (T : Txt K mg) (h_bent_for : DFnR P w K mg base 7 "bent_for" F_bent_for) (h_worths : DFn P w K mg base 6 "worths" F_worths) (h_worths_of_hand : DFn P w K mg base 1 "worths_of_hand" F_worths_of_hand) (hr : Room 7 (A.deeper (envOfC "best_worths" (defScope s_best_worths) s.heap.objs.size f cdv))) :
    DSs (cxOf CX0 P w K mg base ["meeting", "plan", "hand", "patience", "bent"] "best_worths" (defScope s_best_worths) f cdv A outer s H E).nox (defBody s_best_worths) g_best_worths := by
  have hu := hr.units
  exact (dss_cons (ds_asg (de_callR h_bent_for (hr.mono (by decide)) rfl (da_cons (de_var (pv 0)) (da_cons (de_var (pv 1)) (da_cons (de_var (pv 2)) (da_cons (de_var (pv 3)) da_nil))))) (dg_name (pg_name (i := 4) sc_best_worths.nd rfl (Or.inl rfl))) (fun h1 h2 => ps_asg h1 h2)) (dss_one (ds_ret (de_call h_worths_of_hand (hr.mono (by decide)) rfl (da_cons (de_call h_worths (hr.mono (by decide)) rfl (da_cons (de_var (pv 0)) (da_cons (de_var (pv 4)) (da_cons (de_var (pv 3)) da_nil)))) (da_cons (de_var (pv 2)) da_nil))))))
theorem sc_best_strays : FnScope ["meeting", "plan", "hand", "patience"] ["meeting", "plan", "hand", "patience"] (defScope s_best_strays) := by simp_all_arith!
theorem body_best_strays (T : Txt K mg) (h_bent_for : DFnR P w K mg base 7 "bent_for" F_bent_for) (h_deeds_of_hand : DFn P w K mg base 1 "deeds_of_hand" F_deeds_of_hand) (hr : Room 7 (A.deeper (envOfC "best_strays" (defScope s_best_strays) s.heap.objs.size f cdv))) :
    DSs (cxOf CX0 P w K mg base ["meeting", "plan", "hand", "patience"] "best_strays" (defScope s_best_strays) f cdv A outer s H E).nox (defBody s_best_strays) g_best_strays := by
  have hu := hr.units
  exact (dss_one (ds_ret (de_call h_deeds_of_hand (hr.mono (by decide)) rfl (da_cons (de_callR h_bent_for (hr.mono (by decide)) rfl (da_cons (de_var (pv 0)) (da_cons (de_var (pv 1)) (da_cons (de_var (pv 2)) (da_cons (de_var (pv 3)) da_nil))))) (da_cons (de_var (pv 2)) da_nil)))))
theorem sc_law : FnScope ["_law_script", "_law_k", "_law_meeting_here", "_law_plan_here", "_law_patience_here", "_law_known", "_law_due", "_law_found", "_law_good", "_law_same", "_law_hand", "_law_told", "_law_deeds"] ["_law_script"] (defScope s_law) := by simp_all_arith!
theorem body_law (T : Txt K mg) (h__law_cell : DFn P w K mg base 1 "_law_cell" F__law_cell) (h__law_meeting : DFnR P w K mg base 2 "_law_meeting" F__law_meeting) (h__law_cells : DFn P w K mg base 2 "_law_cells" F__law_cells) (h__law_plan : DFnR P w K mg base 3 "_law_plan" F__law_plan) (h__law_patience : DFn P w K mg base 2 "_law_patience" F__law_patience) (h_worths : DFn P w K mg base 6 "worths" F_worths) (h__law_gains : DFn P w K mg base 4 "_law_gains" F__law_gains) (h_gain : DFnR P w K mg base 7 "gain" F_gain) (h_holds : DFn P w K mg base 8 "holds" F_holds) (h_best_worths : DFnR P w K mg base 8 "best_worths" F_best_worths) (h_best_strays : DFnR P w K mg base 8 "best_strays" F_best_strays) (h__law_best_right : DFn P w K mg base 4 "_law_best_right" F__law_best_right) (hr : Room 8 (A.deeper (envOfC "law" (defScope s_law) s.heap.objs.size f cdv))) :
    DSs (cxOf CX0 P w K mg base ["_law_script", "_law_k", "_law_meeting_here", "_law_plan_here", "_law_patience_here", "_law_known", "_law_due", "_law_found", "_law_good", "_law_same", "_law_hand", "_law_told", "_law_deeds"] "law" (defScope s_law) f cdv A outer s H E).nox (defBody s_law) g_law := by
  have hu := hr.units
  exact (dss_cons (ds_for rfl PassesOwn.never (di_rng1 rfl T.n_range de_int) (dg_name (pg_name (i := 1) sc_law.nd rfl (Or.inl rfl))) (dss_cons (ds_asg (de_callR h__law_meeting (hr.mono (by decide)) rfl (da_cons (de_call h__law_cell (hr.mono (by decide)) rfl (da_cons (de_var (pv 0)) (da_cons (de_op do_mul de_int (de_var (pv 1))) da_nil))) da_nil)) (dg_name (pg_name (i := 2) sc_law.nd rfl (Or.inl rfl))) (fun h1 h2 => ps_asg h1 h2)) (dss_cons (ds_asg (de_callR h__law_plan (hr.mono (by decide)) rfl (da_cons (de_var (pv 2)) (da_cons (de_call h__law_cells (hr.mono (by decide)) rfl (da_cons (de_var (pv 0)) (da_cons (de_op do_add (de_op do_mul de_int (de_var (pv 1))) de_int) da_nil))) (da_cons de_int da_nil)))) (dg_name (pg_name (i := 3) sc_law.nd rfl (Or.inl rfl))) (fun h1 h2 => ps_asg h1 h2)) (dss_cons (ds_asg (de_call h__law_patience (hr.mono (by decide)) rfl (da_cons (de_call h__law_cell (hr.mono (by decide)) rfl (da_cons (de_var (pv 0)) (da_cons (de_op do_add de_int (de_var (pv 1))) da_nil))) da_nil)) (dg_name (pg_name (i := 4) sc_law.nd rfl (Or.inl rfl))) (fun h1 h2 => ps_asg h1 h2)) (dss_cons (ds_asg (de_call h_worths (hr.mono (by decide)) rfl (da_cons (de_var (pv 2)) (da_cons (de_var (pv 3)) (da_cons (de_var (pv 4)) da_nil)))) (dg_name (pg_name (i := 5) sc_law.nd rfl (Or.inl rfl))) (fun h1 h2 => ps_asg h1 h2)) (dss_cons (ds_asg (de_call h__law_gains (hr.mono (by decide)) rfl (da_cons (de_var (pv 2)) (da_cons (de_var (pv 3)) (da_cons (de_var (pv 4)) (da_cons (de_var (pv 5)) da_nil))))) (dg_name (pg_name (i := 6) sc_law.nd rfl (Or.inl rfl))) (fun h1 h2 => ps_asg h1 h2)) (dss_cons (ds_asg (de_callR h_gain (hr.mono (by decide)) rfl (da_cons (de_var (pv 2)) (da_cons (de_var (pv 3)) (da_cons (de_var (pv 4)) da_nil)))) (dg_name (pg_name (i := 7) sc_law.nd rfl (Or.inl rfl))) (fun h1 h2 => ps_asg h1 h2)) (dss_cons (ds_asg (de_call h_holds (hr.mono (by decide)) rfl (da_cons (de_var (pv 2)) (da_cons (de_var (pv 3)) (da_cons (de_var (pv 4)) da_nil)))) (dg_name (pg_name (i := 8) sc_law.nd rfl (Or.inl rfl))) (fun h1 h2 => ps_asg h1 h2)) (dss_cons (ds_if (DW.t (dw_or (dt_not (dt_tru (de_inst (T := "bool") (by decide) (de_var (pv 8)) (pe_bltn rfl T.n_bool bt_bool rfl) (fun h1 h2 => pe_callB h1 rfl T.n_isinstance bt_isinstance h2)) (fun _ => rfl))) (dw_or (dt_cmp (do_ne hu) (de_var (pv 8)) (de_notT (de_var (pv 6)))) (dw_or1 (dt_cmp (do_ne hu) (de_cmp do_is2 (de_var (pv 7)) de_non) (de_var (pv 8))))))) (dss_one (ds_ret de_bl)) dss_nil) (dss_cons (ds_if (DW.t (dw_and (dt_cmp do_isnot2 (de_var (pv 7)) de_non) (dw_and1 (dt_cmp (do_notin hu) (de_var (pv 7)) (de_var (pv 6)))))) (dss_one (ds_ret de_bl)) dss_nil) (dss_cons (ds_asg de_bl (dg_name (pg_name (i := 9) sc_law.nd rfl (Or.inl rfl))) (fun h1 h2 => ps_asg h1 h2)) (dss_cons (ds_for rfl PassesOwn.never (di_rng1 rfl T.n_range (de_callG dc_len (da_cons (de_ix (de_var (pv 2)) de_int (fun _ _ => rfl)) da_nil) (fun h1 h2 => pe_callB h1 rfl T.n_len bt_len h2))) (dg_name (pg_name (i := 10) sc_law.nd rfl (Or.inr rfl))) (dss_cons (ds_asg (de_callR h_best_worths (hr.mono (by decide)) rfl (da_cons (de_var (pv 2)) (da_cons (de_var (pv 3)) (da_cons (de_var (pv 10)) (da_cons (de_var (pv 4)) da_nil))))) (dg_name (pg_name (i := 11) sc_law.nd rfl (Or.inl rfl))) (fun h1 h2 => ps_asg h1 h2)) (dss_cons (ds_asg (de_callR h_best_strays (hr.mono (by decide)) rfl (da_cons (de_var (pv 2)) (da_cons (de_var (pv 3)) (da_cons (de_var (pv 10)) (da_cons (de_var (pv 4)) da_nil))))) (dg_name (pg_name (i := 12) sc_law.nd rfl (Or.inl rfl))) (fun h1 h2 => ps_asg h1 h2)) (dss_cons (ds_if (dt_not (dt_tru (de_call h__law_best_right (hr.mono (by decide)) rfl (da_cons (de_var (pv 2)) (da_cons (de_var (pv 3)) (da_cons (de_var (pv 10)) (da_cons (de_var (pv 4)) (da_cons (de_var (pv 11)) (da_cons (de_var (pv 12)) da_nil))))))) (fun _ => rfl))) (dss_one (ds_ret de_bl)) dss_nil) (dss_one (ds_asg (de_and (de_var (pv 9)) (de_one (de_cmp (do_eq hu) (de_var (pv 11)) (de_callG dc_tuple (da_cons (DF.toE (df_comp (Nc := ["_law_row_here", "_law_hand"]) (fr := [none, some 10]) (ss := [0]) (compOk_of (sc := (defScope s_law)) (N := ["_law_script", "_law_k", "_law_meeting_here", "_law_plan_here", "_law_patience_here", "_law_known", "_law_due", "_law_found", "_law_good", "_law_same", "_law_hand", "_law_told", "_law_deeds"]) rfl rfl (by decide +kernel)) (by decide) rfl (di_tup (de_var (pv 5))) (fun Cc pins fp s3 H3 => dg_name (pg_name (i := 0) (show (["_law_row_here", "_law_hand"] : List Str).Nodup by decide +kernel) rfl (Or.inl rfl))) (fun Cc pins fp s3 H3 => (de_ix (de_var (pv 0)) (de_var (pv 1)) (fun _ _ => rfl))) mono_nm)) da_nil) (fun h1 h2 => pe_callTy h1 rfl T.n_tuple bt_tuple h2))))) (dg_name (pg_name (i := 9) sc_law.nd rfl (Or.inl rfl))) (fun h1 h2 => ps_asg h1 h2))))))) (dss_one (ds_if (dt_cmp (do_ne hu) (de_var (pv 9)) (de_var (pv 8))) (dss_one (ds_ret de_bl)) dss_nil)))))))))))))) (dss_one (ds_ret de_bl)))
end
end
end L2
namespace L2
open PySem PySem.Spec PyProof.Rows
theorem len_common_divisor : ∀ ds d, F_common_divisor ds = some d → ds.length = (["one", "other"] : List Str).length := by
  intro ds d h
  unfold F_common_divisor at h
  split at h
  all_goals first | rfl | cases h
theorem len_is_less : ∀ ds d, F_is_less ds = some d → ds.length = (["one", "other"] : List Str).length := by
  intro ds d h
  unfold F_is_less at h
  split at h
  all_goals first | rfl | cases h
theorem len_place_of : ∀ ds d, F_place_of ds = some d → ds.length = (["row", "deeds"] : List Str).length := by
  intro ds d h
  unfold F_place_of at h
  split at h
  all_goals first | rfl | cases h
theorem len_with_deed : ∀ ds d, F_with_deed ds = some d → ds.length = (["row", "hand", "deed"] : List Str).length := by
  intro ds d h
  unfold F_with_deed at h
  split at h
  all_goals first | rfl | cases h
theorem len_now_and_later : ∀ ds d, F_now_and_later ds = some d → ds.length = (["pay", "later", "patience"] : List Str).length := by
  intro ds d h
  unfold F_now_and_later at h
  split at h
  all_goals first | rfl | cases h
theorem len_weighed : ∀ ds d, F_weighed ds = some d → ds.length = (["pays", "patience"] : List Str).length := by
  intro ds d h
  unfold F_weighed at h
  split at h
  all_goals first | rfl | cases h
theorem len_worths_of_hand : ∀ ds d, F_worths_of_hand ds = some d → ds.length = (["told", "hand"] : List Str).length := by
  intro ds d h
  unfold F_worths_of_hand at h
  split at h
  all_goals first | rfl | cases h
theorem len_deeds_of_hand : ∀ ds d, F_deeds_of_hand ds = some d → ds.length = (["plan", "hand"] : List Str).length := by
  intro ds d h
  unfold F_deeds_of_hand at h
  split at h
  all_goals first | rfl | cases h
theorem len__law_cell : ∀ ds d, F__law_cell ds = some d → ds.length = (["_law_script", "_law_k"] : List Str).length := by
  intro ds d h
  unfold F__law_cell at h
  split at h
  all_goals first | rfl | cases h
theorem len__law_mix : ∀ ds d, F__law_mix ds = some d → ds.length = (["_law_cell_here", "_law_prime", "_law_many"] : List Str).length := by
  intro ds d h
  unfold F__law_mix at h
  split at h
  all_goals first | rfl | cases h
theorem len__law_rows : ∀ ds d, F__law_rows ds = some d → ds.length = (["_law_deeds"] : List Str).length := by
  intro ds d h
  unfold F__law_rows at h
  split at h
  all_goals first | rfl | cases h
theorem len__law_fraction : ∀ ds d, F__law_fraction ds = some d → ds.length = (["_law_upper", "_law_lower"] : List Str).length := by
  intro ds d h
  unfold F__law_fraction at h
  split at h
  all_goals first | rfl | cases h
theorem len__law_more : ∀ ds d, F__law_more ds = some d → ds.length = (["_law_one", "_law_other"] : List Str).length := by
  intro ds d h
  unfold F__law_more at h
  split at h
  all_goals first | rfl | cases h
theorem len__law_stray : ∀ ds d, F__law_stray ds = some d → ds.length = (["_law_row_here", "_law_hand", "_law_deed"] : List Str).length := by
  intro ds d h
  unfold F__law_stray at h
  split at h
  all_goals first | rfl | cases h
theorem len_lowest : ∀ ds d, F_lowest ds = some d → ds.length = (["upper", "lower"] : List Str).length := by
  intro ds d h
  unfold F_lowest at h
  split at h
  all_goals first | rfl | cases h
theorem len_paid : ∀ ds d, F_paid ds = some d → ds.length = (["meeting", "row"] : List Str).length := by
  intro ds d h
  unfold F_paid at h
  split at h
  all_goals first | rfl | cases h
theorem len_state_behind : ∀ ds d, F_state_behind ds = some d → ds.length = (["meeting", "plan", "state", "row"] : List Str).length := by
  intro ds d h
  unfold F_state_behind at h
  split at h
  all_goals first | rfl | cases h
theorem len__law_meeting : ∀ ds d, F__law_meeting ds = some d → ds.length = (["_law_cell_here"] : List Str).length := by
  intro ds d h
  unfold F__law_meeting at h
  split at h
  all_goals first | rfl | cases h
theorem len__law_patience : ∀ ds d, F__law_patience ds = some d → ds.length = (["_law_cell_here"] : List Str).length := by
  intro ds d h
  unfold F__law_patience at h
  split at h
  all_goals first | rfl | cases h
theorem len__law_row : ∀ ds d, F__law_row ds = some d → ds.length = (["_law_meeting_here", "_law_cell_here"] : List Str).length := by
  intro ds d h
  unfold F__law_row at h
  split at h
  all_goals first | rfl | cases h
theorem len__law_cells : ∀ ds d, F__law_cells ds = some d → ds.length = (["_law_script", "_law_k"] : List Str).length := by
  intro ds d h
  unfold F__law_cells at h
  split at h
  all_goals first | rfl | cases h
theorem len__law_later : ∀ ds d, F__law_later ds = some d → ds.length = (["_law_pay", "_law_worth", "_law_patience_here"] : List Str).length := by
  intro ds d h
  unfold F__law_later at h
  split at h
  all_goals first | rfl | cases h
theorem len__law_paid : ∀ ds d, F__law_paid ds = some d → ds.length = (["_law_meeting_here", "_law_row_here"] : List Str).length := by
  intro ds d h
  unfold F__law_paid at h
  split at h
  all_goals first | rfl | cases h
theorem len_pays_of : ∀ ds d, F_pays_of ds = some d → ds.length = (["meeting", "rows", "hand"] : List Str).length := by
  intro ds d h
  unfold F_pays_of at h
  split at h
  all_goals first | rfl | cases h
theorem len_worth_of_pays : ∀ ds d, F_worth_of_pays ds = some d → ds.length = (["before", "again", "patience"] : List Str).length := by
  intro ds d h
  unfold F_worth_of_pays at h
  split at h
  all_goals first | rfl | cases h
theorem len_better_deed : ∀ ds d, F_better_deed ds = some d → ds.length = (["meeting", "plan", "state", "hand", "own", "patience"] : List Str).length := by
  intro ds d h
  unfold F_better_deed at h
  split at h
  all_goals first | rfl | cases h
theorem len__law_plan : ∀ ds d, F__law_plan ds = some d → ds.length = (["_law_meeting_here", "_law_cells_here", "_law_most"] : List Str).length := by
  intro ds d h
  unfold F__law_plan at h
  split at h
  all_goals first | rfl | cases h
theorem len__law_move : ∀ ds d, F__law_move ds = some d → ds.length = (["_law_meeting_here", "_law_plan_here", "_law_state", "_law_hand", "_law_deed"] : List Str).length := by
  intro ds d h
  unfold F__law_move at h
  split at h
  all_goals first | rfl | cases h
theorem len_worth_of : ∀ ds d, F_worth_of ds = some d → ds.length = (["meeting", "rows", "over", "patience"] : List Str).length := by
  intro ds d h
  unfold F_worth_of at h
  split at h
  all_goals first | rfl | cases h
theorem len_better_deeds : ∀ ds d, F_better_deeds ds = some d → ds.length = (["meeting", "plan", "hand", "own", "patience"] : List Str).length := by
  intro ds d h
  unfold F_better_deeds at h
  split at h
  all_goals first | rfl | cases h
theorem len__law_gains : ∀ ds d, F__law_gains ds = some d → ds.length = (["_law_meeting_here", "_law_plan_here", "_law_patience_here", "_law_known"] : List Str).length := by
  intro ds d h
  unfold F__law_gains at h
  split at h
  all_goals first | rfl | cases h
theorem len__law_best_right : ∀ ds d, F__law_best_right ds = some d → ds.length = (["_law_meeting_here", "_law_plan_here", "_law_hand", "_law_patience_here", "_law_told", "_law_deeds"] : List Str).length := by
  intro ds d h
  unfold F__law_best_right at h
  split at h
  all_goals first | rfl | cases h
theorem len_worths_from : ∀ ds d, F_worths_from ds = some d → ds.length = (["meeting", "plan", "start", "patience"] : List Str).length := by
  intro ds d h
  unfold F_worths_from at h
  split at h
  all_goals first | rfl | cases h
theorem len_worths : ∀ ds d, F_worths ds = some d → ds.length = (["meeting", "plan", "patience"] : List Str).length := by
  intro ds d h
  unfold F_worths at h
  split at h
  all_goals first | rfl | cases h
theorem len_gain : ∀ ds d, F_gain ds = some d → ds.length = (["meeting", "plan", "patience"] : List Str).length := by
  intro ds d h
  unfold F_gain at h
  split at h
  all_goals first | rfl | cases h
theorem len_bent_for : ∀ ds d, F_bent_for ds = some d → ds.length = (["meeting", "plan", "hand", "patience"] : List Str).length := by
  intro ds d h
  unfold F_bent_for at h
  split at h
  all_goals first | rfl | cases h
theorem len_holds : ∀ ds d, F_holds ds = some d → ds.length = (["meeting", "plan", "patience"] : List Str).length := by
  intro ds d h
  unfold F_holds at h
  split at h
  all_goals first | rfl | cases h
theorem len_best_worths : ∀ ds d, F_best_worths ds = some d → ds.length = (["meeting", "plan", "hand", "patience"] : List Str).length := by
  intro ds d h
  unfold F_best_worths at h
  split at h
  all_goals first | rfl | cases h
theorem len_best_strays : ∀ ds d, F_best_strays ds = some d → ds.length = (["meeting", "plan", "hand", "patience"] : List Str).length := by
  intro ds d h
  unfold F_best_strays at h
  split at h
  all_goals first | rfl | cases h
theorem len_law : ∀ ds d, F_law ds = some d → ds.length = (["_law_script"] : List Str).length := by
  intro ds d h
  unfold F_law at h
  split at h
  all_goals first | rfl | cases h
theorem last_law {P : Program} {w : World} {K : PySem.W.Frag} {mg : Str → Option Value} {base : Heap} {f : Addr} {fd : FuncData} (T : Txt K mg) (H_common_divisor : FunAt K mg "common_divisor" s_common_divisor ["one", "other"]) (H_is_less : FunAt K mg "is_less" s_is_less ["one", "other"]) (H_place_of : FunAt K mg "place_of" s_place_of ["row", "deeds"]) (H_with_deed : FunAt K mg "with_deed" s_with_deed ["row", "hand", "deed"]) (H_now_and_later : FunAt K mg "now_and_later" s_now_and_later ["pay", "later", "patience"]) (H_weighed : FunAt K mg "weighed" s_weighed ["pays", "patience"]) (H_worths_of_hand : FunAt K mg "worths_of_hand" s_worths_of_hand ["told", "hand"]) (H_deeds_of_hand : FunAt K mg "deeds_of_hand" s_deeds_of_hand ["plan", "hand"]) (H__law_cell : FunAt K mg "_law_cell" s__law_cell ["_law_script", "_law_k"]) (H__law_mix : FunAt K mg "_law_mix" s__law_mix ["_law_cell_here", "_law_prime", "_law_many"]) (H__law_rows : FunAt K mg "_law_rows" s__law_rows ["_law_deeds"]) (H__law_fraction : FunAt K mg "_law_fraction" s__law_fraction ["_law_upper", "_law_lower"]) (H__law_more : FunAt K mg "_law_more" s__law_more ["_law_one", "_law_other"]) (H__law_stray : FunAt K mg "_law_stray" s__law_stray ["_law_row_here", "_law_hand", "_law_deed"]) (H_lowest : FunAt K mg "lowest" s_lowest ["upper", "lower"]) (H_paid : FunAt K mg "paid" s_paid ["meeting", "row"]) (H_state_behind : FunAt K mg "state_behind" s_state_behind ["meeting", "plan", "state", "row"]) (H__law_meeting : FunAt K mg "_law_meeting" s__law_meeting ["_law_cell_here"]) (H__law_patience : FunAt K mg "_law_patience" s__law_patience ["_law_cell_here"]) (H__law_row : FunAt K mg "_law_row" s__law_row ["_law_meeting_here", "_law_cell_here"]) (H__law_cells : FunAt K mg "_law_cells" s__law_cells ["_law_script", "_law_k"]) (H__law_later : FunAt K mg "_law_later" s__law_later ["_law_pay", "_law_worth", "_law_patience_here"]) (H__law_paid : FunAt K mg "_law_paid" s__law_paid ["_law_meeting_here", "_law_row_here"]) (H_pays_of : FunAt K mg "pays_of" s_pays_of ["meeting", "rows", "hand"]) (H_worth_of_pays : FunAt K mg "worth_of_pays" s_worth_of_pays ["before", "again", "patience"]) (H_better_deed : FunAt K mg "better_deed" s_better_deed ["meeting", "plan", "state", "hand", "own", "patience"]) (H__law_plan : FunAt K mg "_law_plan" s__law_plan ["_law_meeting_here", "_law_cells_here", "_law_most"]) (H__law_move : FunAt K mg "_law_move" s__law_move ["_law_meeting_here", "_law_plan_here", "_law_state", "_law_hand", "_law_deed"]) (H_worth_of : FunAt K mg "worth_of" s_worth_of ["meeting", "rows", "over", "patience"]) (H_better_deeds : FunAt K mg "better_deeds" s_better_deeds ["meeting", "plan", "hand", "own", "patience"]) (H__law_gains : FunAt K mg "_law_gains" s__law_gains ["_law_meeting_here", "_law_plan_here", "_law_patience_here", "_law_known"]) (H__law_best_right : FunAt K mg "_law_best_right" s__law_best_right ["_law_meeting_here", "_law_plan_here", "_law_hand", "_law_patience_here", "_law_told", "_law_deeds"]) (H_worths_from : FunAt K mg "worths_from" s_worths_from ["meeting", "plan", "start", "patience"]) (H_worths : FunAt K mg "worths" s_worths ["meeting", "plan", "patience"]) (H_gain : FunAt K mg "gain" s_gain ["meeting", "plan", "patience"]) (H_bent_for : FunAt K mg "bent_for" s_bent_for ["meeting", "plan", "hand", "patience"]) (H_holds : FunAt K mg "holds" s_holds ["meeting", "plan", "patience"]) (H_best_worths : FunAt K mg "best_worths" s_best_worths ["meeting", "plan", "hand", "patience"]) (H_best_strays : FunAt K mg "best_strays" s_best_strays ["meeting", "plan", "hand", "patience"]) (FL : Fun K "law" "law" s_law f fd) : FnOk P w K mg base CX0 9 f fd ["_law_script"] (spR K F_law) := by
  have h_common_divisor : DFn P w K mg base 1 "common_divisor" F_common_divisor := by
    obtain ⟨f, fd, Fn, hm, bi⟩ := H_common_divisor
    exact fnD Fn sc_common_divisor len_common_divisor (fun cdv A outer s H E hr => body_common_divisor T  hr) vc_common_divisor hm bi
  have h_is_less : DFn P w K mg base 1 "is_less" F_is_less := by
    obtain ⟨f, fd, Fn, hm, bi⟩ := H_is_less
    exact fnD Fn sc_is_less len_is_less (fun cdv A outer s H E hr => body_is_less T  hr) vc_is_less hm bi
  have h_place_of : DFn P w K mg base 1 "place_of" F_place_of := by
    obtain ⟨f, fd, Fn, hm, bi⟩ := H_place_of
    exact fnD Fn sc_place_of len_place_of (fun cdv A outer s H E hr => body_place_of T  hr) vc_place_of hm bi
  have h_with_deed : DFn P w K mg base 1 "with_deed" F_with_deed := by
    obtain ⟨f, fd, Fn, hm, bi⟩ := H_with_deed
    exact fnD Fn sc_with_deed len_with_deed (fun cdv A outer s H E hr => body_with_deed T  hr) vc_with_deed hm bi
  have h_now_and_later : DFn P w K mg base 1 "now_and_later" F_now_and_later := by
    obtain ⟨f, fd, Fn, hm, bi⟩ := H_now_and_later
    exact fnD Fn sc_now_and_later len_now_and_later (fun cdv A outer s H E hr => body_now_and_later T  hr) vc_now_and_later hm bi
  have h_weighed : DFn P w K mg base 1 "weighed" F_weighed := by
    obtain ⟨f, fd, Fn, hm, bi⟩ := H_weighed
    exact fnD Fn sc_weighed len_weighed (fun cdv A outer s H E hr => body_weighed T  hr) vc_weighed hm bi
  have h_worths_of_hand : DFn P w K mg base 1 "worths_of_hand" F_worths_of_hand := by
    obtain ⟨f, fd, Fn, hm, bi⟩ := H_worths_of_hand
    exact fnD Fn sc_worths_of_hand len_worths_of_hand (fun cdv A outer s H E hr => body_worths_of_hand T  hr) vc_worths_of_hand hm bi
  have h_deeds_of_hand : DFn P w K mg base 1 "deeds_of_hand" F_deeds_of_hand := by
    obtain ⟨f, fd, Fn, hm, bi⟩ := H_deeds_of_hand
    exact fnD Fn sc_deeds_of_hand len_deeds_of_hand (fun cdv A outer s H E hr => body_deeds_of_hand T  hr) vc_deeds_of_hand hm bi
  have h__law_cell : DFn P w K mg base 1 "_law_cell" F__law_cell := by
    obtain ⟨f, fd, Fn, hm, bi⟩ := H__law_cell
    exact fnD Fn sc__law_cell len__law_cell (fun cdv A outer s H E hr => body__law_cell T  hr) vc__law_cell hm bi
  have h__law_mix : DFn P w K mg base 1 "_law_mix" F__law_mix := by
    obtain ⟨f, fd, Fn, hm, bi⟩ := H__law_mix
    exact fnD Fn sc__law_mix len__law_mix (fun cdv A outer s H E hr => body__law_mix T  hr) vc__law_mix hm bi
  have h__law_rows : DFn P w K mg base 1 "_law_rows" F__law_rows := by
    obtain ⟨f, fd, Fn, hm, bi⟩ := H__law_rows
    exact fnD Fn sc__law_rows len__law_rows (fun cdv A outer s H E hr => body__law_rows T  hr) vc__law_rows hm bi
  have h__law_fraction : DFn P w K mg base 1 "_law_fraction" F__law_fraction := by
    obtain ⟨f, fd, Fn, hm, bi⟩ := H__law_fraction
    exact fnD Fn sc__law_fraction len__law_fraction (fun cdv A outer s H E hr => body__law_fraction T  hr) vc__law_fraction hm bi
  have h__law_more : DFn P w K mg base 1 "_law_more" F__law_more := by
    obtain ⟨f, fd, Fn, hm, bi⟩ := H__law_more
    exact fnD Fn sc__law_more len__law_more (fun cdv A outer s H E hr => body__law_more T  hr) vc__law_more hm bi
  have h__law_stray : DFn P w K mg base 1 "_law_stray" F__law_stray := by
    obtain ⟨f, fd, Fn, hm, bi⟩ := H__law_stray
    exact fnD Fn sc__law_stray len__law_stray (fun cdv A outer s H E hr => body__law_stray T  hr) vc__law_stray hm bi
  have h_lowest : DFn P w K mg base 2 "lowest" F_lowest := by
    obtain ⟨f, fd, Fn, hm, bi⟩ := H_lowest
    exact fnD Fn sc_lowest len_lowest (fun cdv A outer s H E hr => body_lowest T h_common_divisor hr) vc_lowest hm bi
  have h_paid : DFn P w K mg base 2 "paid" F_paid := by
    obtain ⟨f, fd, Fn, hm, bi⟩ := H_paid
    exact fnD Fn sc_paid len_paid (fun cdv A outer s H E hr => body_paid T h_place_of hr) vc_paid hm bi
  have h_state_behind : DFn P w K mg base 2 "state_behind" F_state_behind := by
    obtain ⟨f, fd, Fn, hm, bi⟩ := H_state_behind
    exact fnD Fn sc_state_behind len_state_behind (fun cdv A outer s H E hr => body_state_behind T h_place_of hr) vc_state_behind hm bi
  have h__law_meeting : DFnR P w K mg base 2 "_law_meeting" F__law_meeting := by
    obtain ⟨f, fd, Fn, hm, bi⟩ := H__law_meeting
    exact fnR Fn sc__law_meeting len__law_meeting (fun cdv A outer s H E hr => body__law_meeting T h__law_mix h__law_rows hr) vc__law_meeting hm bi
  have h__law_patience : DFn P w K mg base 2 "_law_patience" F__law_patience := by
    obtain ⟨f, fd, Fn, hm, bi⟩ := H__law_patience
    exact fnD Fn sc__law_patience len__law_patience (fun cdv A outer s H E hr => body__law_patience T h__law_mix hr) vc__law_patience hm bi
  have h__law_row : DFn P w K mg base 2 "_law_row" F__law_row := by
    obtain ⟨f, fd, Fn, hm, bi⟩ := H__law_row
    exact fnD Fn sc__law_row len__law_row (fun cdv A outer s H E hr => body__law_row T h__law_rows h__law_mix hr) vc__law_row hm bi
  have h__law_cells : DFn P w K mg base 2 "_law_cells" F__law_cells := by
    obtain ⟨f, fd, Fn, hm, bi⟩ := H__law_cells
    exact fnD Fn sc__law_cells len__law_cells (fun cdv A outer s H E hr => body__law_cells T h__law_cell hr) vc__law_cells hm bi
  have h__law_later : DFn P w K mg base 2 "_law_later" F__law_later := by
    obtain ⟨f, fd, Fn, hm, bi⟩ := H__law_later
    exact fnD Fn sc__law_later len__law_later (fun cdv A outer s H E hr => body__law_later T h__law_fraction hr) vc__law_later hm bi
  have h__law_paid : DFn P w K mg base 2 "_law_paid" F__law_paid := by
    obtain ⟨f, fd, Fn, hm, bi⟩ := H__law_paid
    exact fnD Fn sc__law_paid len__law_paid (fun cdv A outer s H E hr => body__law_paid T h__law_rows hr) vc__law_paid hm bi
  have h_pays_of : DFn P w K mg base 3 "pays_of" F_pays_of := by
    obtain ⟨f, fd, Fn, hm, bi⟩ := H_pays_of
    exact fnD Fn sc_pays_of len_pays_of (fun cdv A outer s H E hr => body_pays_of T h_paid hr) vc_pays_of hm bi
  have h_worth_of_pays : DFn P w K mg base 3 "worth_of_pays" F_worth_of_pays := by
    obtain ⟨f, fd, Fn, hm, bi⟩ := H_worth_of_pays
    exact fnD Fn sc_worth_of_pays len_worth_of_pays (fun cdv A outer s H E hr => body_worth_of_pays T h_weighed h_now_and_later h_lowest hr) vc_worth_of_pays hm bi
  have h_better_deed : DFn P w K mg base 3 "better_deed" F_better_deed := by
    obtain ⟨f, fd, Fn, hm, bi⟩ := H_better_deed
    exact fnD Fn sc_better_deed len_better_deed (fun cdv A outer s H E hr => body_better_deed T h_with_deed h_state_behind h_paid h_now_and_later h_is_less hr) vc_better_deed hm bi
  have h__law_plan : DFnR P w K mg base 3 "_law_plan" F__law_plan := by
    obtain ⟨f, fd, Fn, hm, bi⟩ := H__law_plan
    exact fnR Fn sc__law_plan len__law_plan (fun cdv A outer s H E hr => body__law_plan T h__law_mix h__law_rows h__law_row hr) vc__law_plan hm bi
  have h__law_move : DFn P w K mg base 3 "_law_move" F__law_move := by
    obtain ⟨f, fd, Fn, hm, bi⟩ := H__law_move
    exact fnD Fn sc__law_move len__law_move (fun cdv A outer s H E hr => body__law_move T h__law_stray h__law_rows h__law_paid hr) vc__law_move hm bi
  have h_worth_of : DFn P w K mg base 4 "worth_of" F_worth_of := by
    obtain ⟨f, fd, Fn, hm, bi⟩ := H_worth_of
    exact fnD Fn sc_worth_of len_worth_of (fun cdv A outer s H E hr => body_worth_of T h_pays_of h_worth_of_pays hr) vc_worth_of hm bi
  have h_better_deeds : DFn P w K mg base 4 "better_deeds" F_better_deeds := by
    obtain ⟨f, fd, Fn, hm, bi⟩ := H_better_deeds
    exact fnD Fn sc_better_deeds len_better_deeds (fun cdv A outer s H E hr => body_better_deeds T h_better_deed hr) vc_better_deeds hm bi
  have h__law_gains : DFn P w K mg base 4 "_law_gains" F__law_gains := by
    obtain ⟨f, fd, Fn, hm, bi⟩ := H__law_gains
    exact fnD Fn sc__law_gains len__law_gains (fun cdv A outer s H E hr => body__law_gains T h__law_move h__law_later h__law_more hr) vc__law_gains hm bi
  have h__law_best_right : DFn P w K mg base 4 "_law_best_right" F__law_best_right := by
    obtain ⟨f, fd, Fn, hm, bi⟩ := H__law_best_right
    exact fnD Fn sc__law_best_right len__law_best_right (fun cdv A outer s H E hr => body__law_best_right T h__law_move h__law_later h__law_more hr) vc__law_best_right hm bi
  have h_worths_from : DFn P w K mg base 5 "worths_from" F_worths_from := by
    obtain ⟨f, fd, Fn, hm, bi⟩ := H_worths_from
    exact fnD Fn sc_worths_from len_worths_from (fun cdv A outer s H E hr => body_worths_from T h_state_behind h_worth_of hr) vc_worths_from hm bi
  have h_worths : DFn P w K mg base 6 "worths" F_worths := by
    obtain ⟨f, fd, Fn, hm, bi⟩ := H_worths
    exact fnD Fn sc_worths len_worths (fun cdv A outer s H E hr => body_worths T h_worths_from hr) vc_worths hm bi
  have h_gain : DFnR P w K mg base 7 "gain" F_gain := by
    obtain ⟨f, fd, Fn, hm, bi⟩ := H_gain
    exact fnR Fn sc_gain len_gain (fun cdv A outer s H E hr => body_gain T h_worths h_worths_of_hand h_better_deeds hr) vc_gain hm bi
  have h_bent_for : DFnR P w K mg base 7 "bent_for" F_bent_for := by
    obtain ⟨f, fd, Fn, hm, bi⟩ := H_bent_for
    exact fnR Fn sc_bent_for len_bent_for (fun cdv A outer s H E hr => body_bent_for T h_worths h_worths_of_hand h_better_deeds h_deeds_of_hand h_with_deed hr) vc_bent_for hm bi
  have h_holds : DFn P w K mg base 8 "holds" F_holds := by
    obtain ⟨f, fd, Fn, hm, bi⟩ := H_holds
    exact fnD Fn sc_holds len_holds (fun cdv A outer s H E hr => body_holds T h_gain hr) vc_holds hm bi
  have h_best_worths : DFnR P w K mg base 8 "best_worths" F_best_worths := by
    obtain ⟨f, fd, Fn, hm, bi⟩ := H_best_worths
    exact fnR Fn sc_best_worths len_best_worths (fun cdv A outer s H E hr => body_best_worths T h_bent_for h_worths h_worths_of_hand hr) vc_best_worths hm bi
  have h_best_strays : DFnR P w K mg base 8 "best_strays" F_best_strays := by
    obtain ⟨f, fd, Fn, hm, bi⟩ := H_best_strays
    exact fnR Fn sc_best_strays len_best_strays (fun cdv A outer s H E hr => body_best_strays T h_bent_for h_deeds_of_hand hr) vc_best_strays hm bi
  exact fnR0 FL sc_law len_law (fun cdv A outer s H E hr => body_law T h__law_cell h__law_meeting h__law_cells h__law_plan h__law_patience h_worths h__law_gains h_gain h_holds h_best_worths h_best_strays h__law_best_right hr) vc_law
theorem walk_law {l : PySem.W.OpenLaw} {q : Program} {loose : List Str} {XP : (Str → Option Value) → Heap → Prop} {YP : World → Heap → Prop} {d : DefRec} {K : Params → PySem.W.Frag} (hn : l.most = some 63) (hdf : d.params.defaults = []) (hY : ∀ (w : World) (h : Heap), YP w h → (K w.params).In h)
    (F : ∀ (w : World) (mg : Str → Option Value) (fa : Addr) (h : Heap), (K w.params).In h → h.Ns mainGlobals mg → mg d.name = some (.ref fa) →
      ∃ fd : FuncData, (∀ (s : Shared) (u : Value), BindsTo s fd ⟨[u], []⟩ [("_law_script", u)]) ∧ ∀ base : Heap, (K w.params).In base → base.Ns mainGlobals mg → FnOk l.prog w (K w.params) mg base CX0 9 fa fd ["_law_script"] (spR (K w.params) F_law)) :
    PySem.W.WalkO q loose XP YP l.row.toRowW d [] (fun f vs => PySem.call f vs) :=
  walk_ofK (n := 63) (k := 9) (x := "_law_script") (CX := CX0) (sp := fun K => spR K F_law) hn (by decide) hdf ⟨rfl, by decide, by decide⟩ hY F (fun K H a ns _ _ hS => ⟨H, [.lst (ns.map D.int)], fun d => d = .bl true, Same.refl _, .cons (den_lst.mpr ⟨a, ns.map V.int, rfl, hS, dens_ints ns⟩) .nil, by simp [F_law, ints_map], fun d v C' H' hd _ nv => by subst hd; exact den_bl.mp nv⟩) fun _ _ _ _ z => z
theorem txt_of {K : PySem.W.Frag} {mg : Str → Option Value} {h : Heap} (X : K.In h) (G : h.Ns mainGlobals mg) (z_abs : PySem.W.nsIn K mainGlobals "abs" = some none) (z_bool : PySem.W.nsIn K mainGlobals "bool" = some none) (z_enumerate : PySem.W.nsIn K mainGlobals "enumerate" = some none) (z_isinstance : PySem.W.nsIn K mainGlobals "isinstance" = some none) (z_len : PySem.W.nsIn K mainGlobals "len" = some none) (z_range : PySem.W.nsIn K mainGlobals "range" = some none) (z_reversed : PySem.W.nsIn K mainGlobals "reversed" = some none) (z_sorted : PySem.W.nsIn K mainGlobals "sorted" = some none) (z_tuple : PySem.W.nsIn K mainGlobals "tuple" = some none) (z_zip : PySem.W.nsIn K mainGlobals "zip" = some none) : Txt K mg :=
  ⟨PySem.W.mg_none_of X G z_abs, PySem.W.mg_none_of X G z_bool, PySem.W.mg_none_of X G z_enumerate, PySem.W.mg_none_of X G z_isinstance, PySem.W.mg_none_of X G z_len, PySem.W.mg_none_of X G z_range, PySem.W.mg_none_of X G z_reversed, PySem.W.mg_none_of X G z_sorted, PySem.W.mg_none_of X G z_tuple, PySem.W.mg_none_of X G z_zip⟩
theorem law_mk {l : PySem.W.OpenLaw} {w : World} {K : PySem.W.Frag} {h : Heap} {mg : Str → Option Value} {fa f : Addr} {od an : Option Addr} {sl : Array (Option Value)} {oc kV dc pm cd ct : Value} (X : K.In h) (G : h.Ns mainGlobals mg) (hfa : mg "law" = some (.ref fa)) (T : Txt K mg) (H_common_divisor : FunAt K mg "common_divisor" s_common_divisor ["one", "other"]) (H_is_less : FunAt K mg "is_less" s_is_less ["one", "other"]) (H_place_of : FunAt K mg "place_of" s_place_of ["row", "deeds"]) (H_with_deed : FunAt K mg "with_deed" s_with_deed ["row", "hand", "deed"]) (H_now_and_later : FunAt K mg "now_and_later" s_now_and_later ["pay", "later", "patience"]) (H_weighed : FunAt K mg "weighed" s_weighed ["pays", "patience"]) (H_worths_of_hand : FunAt K mg "worths_of_hand" s_worths_of_hand ["told", "hand"]) (H_deeds_of_hand : FunAt K mg "deeds_of_hand" s_deeds_of_hand ["plan", "hand"]) (H__law_cell : FunAt K mg "_law_cell" s__law_cell ["_law_script", "_law_k"]) (H__law_mix : FunAt K mg "_law_mix" s__law_mix ["_law_cell_here", "_law_prime", "_law_many"]) (H__law_rows : FunAt K mg "_law_rows" s__law_rows ["_law_deeds"]) (H__law_fraction : FunAt K mg "_law_fraction" s__law_fraction ["_law_upper", "_law_lower"]) (H__law_more : FunAt K mg "_law_more" s__law_more ["_law_one", "_law_other"]) (H__law_stray : FunAt K mg "_law_stray" s__law_stray ["_law_row_here", "_law_hand", "_law_deed"]) (H_lowest : FunAt K mg "lowest" s_lowest ["upper", "lower"]) (H_paid : FunAt K mg "paid" s_paid ["meeting", "row"]) (H_state_behind : FunAt K mg "state_behind" s_state_behind ["meeting", "plan", "state", "row"]) (H__law_meeting : FunAt K mg "_law_meeting" s__law_meeting ["_law_cell_here"]) (H__law_patience : FunAt K mg "_law_patience" s__law_patience ["_law_cell_here"]) (H__law_row : FunAt K mg "_law_row" s__law_row ["_law_meeting_here", "_law_cell_here"]) (H__law_cells : FunAt K mg "_law_cells" s__law_cells ["_law_script", "_law_k"]) (H__law_later : FunAt K mg "_law_later" s__law_later ["_law_pay", "_law_worth", "_law_patience_here"]) (H__law_paid : FunAt K mg "_law_paid" s__law_paid ["_law_meeting_here", "_law_row_here"]) (H_pays_of : FunAt K mg "pays_of" s_pays_of ["meeting", "rows", "hand"]) (H_worth_of_pays : FunAt K mg "worth_of_pays" s_worth_of_pays ["before", "again", "patience"]) (H_better_deed : FunAt K mg "better_deed" s_better_deed ["meeting", "plan", "state", "hand", "own", "patience"]) (H__law_plan : FunAt K mg "_law_plan" s__law_plan ["_law_meeting_here", "_law_cells_here", "_law_most"]) (H__law_move : FunAt K mg "_law_move" s__law_move ["_law_meeting_here", "_law_plan_here", "_law_state", "_law_hand", "_law_deed"]) (H_worth_of : FunAt K mg "worth_of" s_worth_of ["meeting", "rows", "over", "patience"]) (H_better_deeds : FunAt K mg "better_deeds" s_better_deeds ["meeting", "plan", "hand", "own", "patience"]) (H__law_gains : FunAt K mg "_law_gains" s__law_gains ["_law_meeting_here", "_law_plan_here", "_law_patience_here", "_law_known"]) (H__law_best_right : FunAt K mg "_law_best_right" s__law_best_right ["_law_meeting_here", "_law_plan_here", "_law_hand", "_law_patience_here", "_law_told", "_law_deeds"]) (H_worths_from : FunAt K mg "worths_from" s_worths_from ["meeting", "plan", "start", "patience"]) (H_worths : FunAt K mg "worths" s_worths ["meeting", "plan", "patience"]) (H_gain : FunAt K mg "gain" s_gain ["meeting", "plan", "patience"]) (H_bent_for : FunAt K mg "bent_for" s_bent_for ["meeting", "plan", "hand", "patience"]) (H_holds : FunAt K mg "holds" s_holds ["meeting", "plan", "patience"]) (H_best_worths : FunAt K mg "best_worths" s_best_worths ["meeting", "plan", "hand", "patience"]) (H_best_strays : FunAt K mg "best_strays" s_best_strays ["meeting", "plan", "hand", "patience"])
    (a : PySem.W.nsIn K mainGlobals "law" = some (some (.ref f))) (ll : K.lookup f = some ⟨oc, od, .func (PySem.W.fnOf "law" "law" (defArgs s_law) (defBody s_law) (defScope s_law) .none kV dc pm an cd ct), sl⟩) (c : PySem.W.codeIn K cd "law" = true) (k : PySem.W.keepIn K (.ref f) = true) :
    ∃ fd : FuncData, (∀ (s : Shared) (v : Value), BindsTo s fd ⟨[v], []⟩ [("_law_script", v)]) ∧ ∀ base : Heap, K.In base → base.Ns mainGlobals mg → FnOk l.prog w K mg base CX0 9 fa fd ["_law_script"] (spR K F_law) := by
  have e := hfa.symm.trans (PySem.W.mg_of X G a)
  cases e
  exact ⟨PySem.W.fnOf "law" "law" (defArgs s_law) (defBody s_law) (defScope s_law) .none kV dc pm an cd ct, fun s v => .of_eq rfl, fun base _ _ => last_law T H_common_divisor H_is_less H_place_of H_with_deed H_now_and_later H_weighed H_worths_of_hand H_deeds_of_hand H__law_cell H__law_mix H__law_rows H__law_fraction H__law_more H__law_stray H_lowest H_paid H_state_behind H__law_meeting H__law_patience H__law_row H__law_cells H__law_later H__law_paid H_pays_of H_worth_of_pays H_better_deed H__law_plan H__law_move H_worth_of H_better_deeds H__law_gains H__law_best_right H_worths_from H_worths H_gain H_bent_for H_holds H_best_worths H_best_strays (fun_mk (st := s_law) ll c k)⟩
end L2
def PySem.W.Fast.tw10412778150585725729 : Nat := 0
def PySem.W.Fast.tw7148105062794869668 : Nat := 0
def PySem.W.Fast.tw13860167437156321164 : Nat := 0
def PySem.W.Fast.tw1417023000696892092 : Nat := 0
def PySem.W.Fast.tw10842966237078262127 : Nat := 0
def PySem.W.Fast.tw10717879699295744883 : Nat := 0
def PySem.W.Fast.tw1549030601359316965 : Nat := 0
def PySem.W.Fast.tw15108020448022939863 : Nat := 0
def PySem.W.Fast.tw15064966867787863677 : Nat := 0
def PySem.W.Fast.tw17856453152042632975 : Nat := 0
def PySem.W.Fast.tw6893438058732110860 : Nat := 0
def PySem.W.Fast.tw1999889500491869251 : Nat := 0
def PySem.W.Fast.tw2967865322359801996 : Nat := 0
def PySem.W.Fast.tw10245576821254066336 : Nat := 0
open PySem PySem.W PyProof.Rows
set_option maxRecDepth 100000 in
set_option maxHeartbeats 0 in
theorem PySem.Challenge.cw_pactkeep_k05_whole_strays_holds : PySem.Challenge.rw_pactkeep_k05_whole_strays.Holds := by
  w_on; o_law; k_head; (case hw => w_witness2)
  k_fill
  refine L2.walk_law (l := PySem.Challenge.rw_pactkeep_k05_whole_strays) rfl rfl (fun w h Y => PySem.W.kIn_of Y) ?F
  case F =>
    intro w mg fa h KX G hmg
    have T : L2.Txt (L2.KOf KX) mg := by
      dsimp only [L2.KOf]
      refine' L2.txt_of KX G ?z_abs ?z_bool ?z_enumerate ?z_isinstance ?z_len ?z_range ?z_reversed ?z_sorted ?z_tuple ?z_zip
      (case z_abs => k_is); (case z_bool => k_is); (case z_enumerate => k_is); (case z_isinstance => k_is); (case z_len => k_is); (case z_range => k_is); (case z_reversed => k_is); (case z_sorted => k_is); (case z_tuple => k_is); (case z_zip => k_is)
    have H_common_divisor : L2.FunAt (L2.KOf KX) mg "common_divisor" L2.s_common_divisor ["one", "other"] := by
      dsimp only [L2.KOf]
      refine' L2.funAt_of KX G ?a ?l ?c ?k (fun _ _ _ _ _ _ => L2.us2 fun _ _ => rfl)
      (case a => k_is); (case l => k_is); (case c => k_is); (case k => k_is)
    have H_is_less : L2.FunAt (L2.KOf KX) mg "is_less" L2.s_is_less ["one", "other"] := by
      dsimp only [L2.KOf]
      refine' L2.funAt_of KX G ?a ?l ?c ?k (fun _ _ _ _ _ _ => L2.us2 fun _ _ => rfl)
      (case a => k_is); (case l => k_is); (case c => k_is); (case k => k_is)
    have H_place_of : L2.FunAt (L2.KOf KX) mg "place_of" L2.s_place_of ["row", "deeds"] := by
      dsimp only [L2.KOf]
      refine' L2.funAt_of KX G ?a ?l ?c ?k (fun _ _ _ _ _ _ => L2.us2 fun _ _ => rfl)
      (case a => k_is); (case l => k_is); (case c => k_is); (case k => k_is)
    have H_with_deed : L2.FunAt (L2.KOf KX) mg "with_deed" L2.s_with_deed ["row", "hand", "deed"] := by
      dsimp only [L2.KOf]
      refine' L2.funAt_of KX G ?a ?l ?c ?k (fun _ _ _ _ _ _ => L2.us3 fun _ _ _ => rfl)
      (case a => k_is); (case l => k_is); (case c => k_is); (case k => k_is)
    have H_now_and_later : L2.FunAt (L2.KOf KX) mg "now_and_later" L2.s_now_and_later ["pay", "later", "patience"] := by
      dsimp only [L2.KOf]
      refine' L2.funAt_of KX G ?a ?l ?c ?k (fun _ _ _ _ _ _ => L2.us3 fun _ _ _ => rfl)
      (case a => k_is); (case l => k_is); (case c => k_is); (case k => k_is)
    have H_weighed : L2.FunAt (L2.KOf KX) mg "weighed" L2.s_weighed ["pays", "patience"] := by
      dsimp only [L2.KOf]
      refine' L2.funAt_of KX G ?a ?l ?c ?k (fun _ _ _ _ _ _ => L2.us2 fun _ _ => rfl)
      (case a => k_is); (case l => k_is); (case c => k_is); (case k => k_is)
    have H_worths_of_hand : L2.FunAt (L2.KOf KX) mg "worths_of_hand" L2.s_worths_of_hand ["told", "hand"] := by
      dsimp only [L2.KOf]
      refine' L2.funAt_of KX G ?a ?l ?c ?k (fun _ _ _ _ _ _ => L2.us2 fun _ _ => rfl)
      (case a => k_is); (case l => k_is); (case c => k_is); (case k => k_is)
    have H_deeds_of_hand : L2.FunAt (L2.KOf KX) mg "deeds_of_hand" L2.s_deeds_of_hand ["plan", "hand"] := by
      dsimp only [L2.KOf]
      refine' L2.funAt_of KX G ?a ?l ?c ?k (fun _ _ _ _ _ _ => L2.us2 fun _ _ => rfl)
      (case a => k_is); (case l => k_is); (case c => k_is); (case k => k_is)
    have H__law_cell : L2.FunAt (L2.KOf KX) mg "_law_cell" L2.s__law_cell ["_law_script", "_law_k"] := by
      dsimp only [L2.KOf]
      refine' L2.funAt_of KX G ?a ?l ?c ?k (fun _ _ _ _ _ _ => L2.us2 fun _ _ => rfl)
      (case a => k_is); (case l => k_is); (case c => k_is); (case k => k_is)
    have H__law_mix : L2.FunAt (L2.KOf KX) mg "_law_mix" L2.s__law_mix ["_law_cell_here", "_law_prime", "_law_many"] := by
      dsimp only [L2.KOf]
      refine' L2.funAt_of KX G ?a ?l ?c ?k (fun _ _ _ _ _ _ => L2.us3 fun _ _ _ => rfl)
      (case a => k_is); (case l => k_is); (case c => k_is); (case k => k_is)
    have H__law_rows : L2.FunAt (L2.KOf KX) mg "_law_rows" L2.s__law_rows ["_law_deeds"] := by
      dsimp only [L2.KOf]
      refine' L2.funAt_of KX G ?a ?l ?c ?k (fun _ _ _ _ _ _ => L2.us1 fun _ => rfl)
      (case a => k_is); (case l => k_is); (case c => k_is); (case k => k_is)
    have H__law_fraction : L2.FunAt (L2.KOf KX) mg "_law_fraction" L2.s__law_fraction ["_law_upper", "_law_lower"] := by
      dsimp only [L2.KOf]
      refine' L2.funAt_of KX G ?a ?l ?c ?k (fun _ _ _ _ _ _ => L2.us2 fun _ _ => rfl)
      (case a => k_is); (case l => k_is); (case c => k_is); (case k => k_is)
    have H__law_more : L2.FunAt (L2.KOf KX) mg "_law_more" L2.s__law_more ["_law_one", "_law_other"] := by
      dsimp only [L2.KOf]
      refine' L2.funAt_of KX G ?a ?l ?c ?k (fun _ _ _ _ _ _ => L2.us2 fun _ _ => rfl)
      (case a => k_is); (case l => k_is); (case c => k_is); (case k => k_is)
    have H__law_stray : L2.FunAt (L2.KOf KX) mg "_law_stray" L2.s__law_stray ["_law_row_here", "_law_hand", "_law_deed"] := by
      dsimp only [L2.KOf]
      refine' L2.funAt_of KX G ?a ?l ?c ?k (fun _ _ _ _ _ _ => L2.us3 fun _ _ _ => rfl)
      (case a => k_is); (case l => k_is); (case c => k_is); (case k => k_is)
    have H_lowest : L2.FunAt (L2.KOf KX) mg "lowest" L2.s_lowest ["upper", "lower"] := by
      dsimp only [L2.KOf]
      refine' L2.funAt_of KX G ?a ?l ?c ?k (fun _ _ _ _ _ _ => L2.us2 fun _ _ => rfl)
      (case a => k_is); (case l => k_is); (case c => k_is); (case k => k_is)
    have H_paid : L2.FunAt (L2.KOf KX) mg "paid" L2.s_paid ["meeting", "row"] := by
      dsimp only [L2.KOf]
      refine' L2.funAt_of KX G ?a ?l ?c ?k (fun _ _ _ _ _ _ => L2.us2 fun _ _ => rfl)
      (case a => k_is); (case l => k_is); (case c => k_is); (case k => k_is)
    have H_state_behind : L2.FunAt (L2.KOf KX) mg "state_behind" L2.s_state_behind ["meeting", "plan", "state", "row"] := by
      dsimp only [L2.KOf]
      refine' L2.funAt_of KX G ?a ?l ?c ?k (fun _ _ _ _ _ _ => L2.us4 fun _ _ _ _ => rfl)
      (case a => k_is); (case l => k_is); (case c => k_is); (case k => k_is)
    have H__law_meeting : L2.FunAt (L2.KOf KX) mg "_law_meeting" L2.s__law_meeting ["_law_cell_here"] := by
      dsimp only [L2.KOf]
      refine' L2.funAt_of KX G ?a ?l ?c ?k (fun _ _ _ _ _ _ => L2.us1 fun _ => rfl)
      (case a => k_is); (case l => k_is); (case c => k_is); (case k => k_is)
    have H__law_patience : L2.FunAt (L2.KOf KX) mg "_law_patience" L2.s__law_patience ["_law_cell_here"] := by
      dsimp only [L2.KOf]
      refine' L2.funAt_of KX G ?a ?l ?c ?k (fun _ _ _ _ _ _ => L2.us1 fun _ => rfl)
      (case a => k_is); (case l => k_is); (case c => k_is); (case k => k_is)
    have H__law_row : L2.FunAt (L2.KOf KX) mg "_law_row" L2.s__law_row ["_law_meeting_here", "_law_cell_here"] := by
      dsimp only [L2.KOf]
      refine' L2.funAt_of KX G ?a ?l ?c ?k (fun _ _ _ _ _ _ => L2.us2 fun _ _ => rfl)
      (case a => k_is); (case l => k_is); (case c => k_is); (case k => k_is)
    have H__law_cells : L2.FunAt (L2.KOf KX) mg "_law_cells" L2.s__law_cells ["_law_script", "_law_k"] := by
      dsimp only [L2.KOf]
      refine' L2.funAt_of KX G ?a ?l ?c ?k (fun _ _ _ _ _ _ => L2.us2 fun _ _ => rfl)
      (case a => k_is); (case l => k_is); (case c => k_is); (case k => k_is)
    have H__law_later : L2.FunAt (L2.KOf KX) mg "_law_later" L2.s__law_later ["_law_pay", "_law_worth", "_law_patience_here"] := by
      dsimp only [L2.KOf]
      refine' L2.funAt_of KX G ?a ?l ?c ?k (fun _ _ _ _ _ _ => L2.us3 fun _ _ _ => rfl)
      (case a => k_is); (case l => k_is); (case c => k_is); (case k => k_is)
    have H__law_paid : L2.FunAt (L2.KOf KX) mg "_law_paid" L2.s__law_paid ["_law_meeting_here", "_law_row_here"] := by
      dsimp only [L2.KOf]
      refine' L2.funAt_of KX G ?a ?l ?c ?k (fun _ _ _ _ _ _ => L2.us2 fun _ _ => rfl)
      (case a => k_is); (case l => k_is); (case c => k_is); (case k => k_is)
    have H_pays_of : L2.FunAt (L2.KOf KX) mg "pays_of" L2.s_pays_of ["meeting", "rows", "hand"] := by
      dsimp only [L2.KOf]
      refine' L2.funAt_of KX G ?a ?l ?c ?k (fun _ _ _ _ _ _ => L2.us3 fun _ _ _ => rfl)
      (case a => k_is); (case l => k_is); (case c => k_is); (case k => k_is)
    have H_worth_of_pays : L2.FunAt (L2.KOf KX) mg "worth_of_pays" L2.s_worth_of_pays ["before", "again", "patience"] := by
      dsimp only [L2.KOf]
      refine' L2.funAt_of KX G ?a ?l ?c ?k (fun _ _ _ _ _ _ => L2.us3 fun _ _ _ => rfl)
      (case a => k_is); (case l => k_is); (case c => k_is); (case k => k_is)
    have H_better_deed : L2.FunAt (L2.KOf KX) mg "better_deed" L2.s_better_deed ["meeting", "plan", "state", "hand", "own", "patience"] := by
      dsimp only [L2.KOf]
      refine' L2.funAt_of KX G ?a ?l ?c ?k (fun _ _ _ _ _ _ => L2.us6 fun _ _ _ _ _ _ => rfl)
      (case a => k_is); (case l => k_is); (case c => k_is); (case k => k_is)
    have H__law_plan : L2.FunAt (L2.KOf KX) mg "_law_plan" L2.s__law_plan ["_law_meeting_here", "_law_cells_here", "_law_most"] := by
      dsimp only [L2.KOf]
      refine' L2.funAt_of KX G ?a ?l ?c ?k (fun _ _ _ _ _ _ => L2.us3 fun _ _ _ => rfl)
      (case a => k_is); (case l => k_is); (case c => k_is); (case k => k_is)
    have H__law_move : L2.FunAt (L2.KOf KX) mg "_law_move" L2.s__law_move ["_law_meeting_here", "_law_plan_here", "_law_state", "_law_hand", "_law_deed"] := by
      dsimp only [L2.KOf]
      refine' L2.funAt_of KX G ?a ?l ?c ?k (fun _ _ _ _ _ _ => L2.us5 fun _ _ _ _ _ => rfl)
      (case a => k_is); (case l => k_is); (case c => k_is); (case k => k_is)
    have H_worth_of : L2.FunAt (L2.KOf KX) mg "worth_of" L2.s_worth_of ["meeting", "rows", "over", "patience"] := by
      dsimp only [L2.KOf]
      refine' L2.funAt_of KX G ?a ?l ?c ?k (fun _ _ _ _ _ _ => L2.us4 fun _ _ _ _ => rfl)
      (case a => k_is); (case l => k_is); (case c => k_is); (case k => k_is)
    have H_better_deeds : L2.FunAt (L2.KOf KX) mg "better_deeds" L2.s_better_deeds ["meeting", "plan", "hand", "own", "patience"] := by
      dsimp only [L2.KOf]
      refine' L2.funAt_of KX G ?a ?l ?c ?k (fun _ _ _ _ _ _ => L2.us5 fun _ _ _ _ _ => rfl)
      (case a => k_is); (case l => k_is); (case c => k_is); (case k => k_is)
    have H__law_gains : L2.FunAt (L2.KOf KX) mg "_law_gains" L2.s__law_gains ["_law_meeting_here", "_law_plan_here", "_law_patience_here", "_law_known"] := by
      dsimp only [L2.KOf]
      refine' L2.funAt_of KX G ?a ?l ?c ?k (fun _ _ _ _ _ _ => L2.us4 fun _ _ _ _ => rfl)
      (case a => k_is); (case l => k_is); (case c => k_is); (case k => k_is)
    have H__law_best_right : L2.FunAt (L2.KOf KX) mg "_law_best_right" L2.s__law_best_right ["_law_meeting_here", "_law_plan_here", "_law_hand", "_law_patience_here", "_law_told", "_law_deeds"] := by
      dsimp only [L2.KOf]
      refine' L2.funAt_of KX G ?a ?l ?c ?k (fun _ _ _ _ _ _ => L2.us6 fun _ _ _ _ _ _ => rfl)
      (case a => k_is); (case l => k_is); (case c => k_is); (case k => k_is)
    have H_worths_from : L2.FunAt (L2.KOf KX) mg "worths_from" L2.s_worths_from ["meeting", "plan", "start", "patience"] := by
      dsimp only [L2.KOf]
      refine' L2.funAt_of KX G ?a ?l ?c ?k (fun _ _ _ _ _ _ => L2.us4 fun _ _ _ _ => rfl)
      (case a => k_is); (case l => k_is); (case c => k_is); (case k => k_is)
    have H_worths : L2.FunAt (L2.KOf KX) mg "worths" L2.s_worths ["meeting", "plan", "patience"] := by
      dsimp only [L2.KOf]
      refine' L2.funAt_of KX G ?a ?l ?c ?k (fun _ _ _ _ _ _ => L2.us3 fun _ _ _ => rfl)
      (case a => k_is); (case l => k_is); (case c => k_is); (case k => k_is)
    have H_gain : L2.FunAt (L2.KOf KX) mg "gain" L2.s_gain ["meeting", "plan", "patience"] := by
      dsimp only [L2.KOf]
      refine' L2.funAt_of KX G ?a ?l ?c ?k (fun _ _ _ _ _ _ => L2.us3 fun _ _ _ => rfl)
      (case a => k_is); (case l => k_is); (case c => k_is); (case k => k_is)
    have H_bent_for : L2.FunAt (L2.KOf KX) mg "bent_for" L2.s_bent_for ["meeting", "plan", "hand", "patience"] := by
      dsimp only [L2.KOf]
      refine' L2.funAt_of KX G ?a ?l ?c ?k (fun _ _ _ _ _ _ => L2.us4 fun _ _ _ _ => rfl)
      (case a => k_is); (case l => k_is); (case c => k_is); (case k => k_is)
    have H_holds : L2.FunAt (L2.KOf KX) mg "holds" L2.s_holds ["meeting", "plan", "patience"] := by
      dsimp only [L2.KOf]
      refine' L2.funAt_of KX G ?a ?l ?c ?k (fun _ _ _ _ _ _ => L2.us3 fun _ _ _ => rfl)
      (case a => k_is); (case l => k_is); (case c => k_is); (case k => k_is)
    have H_best_worths : L2.FunAt (L2.KOf KX) mg "best_worths" L2.s_best_worths ["meeting", "plan", "hand", "patience"] := by
      dsimp only [L2.KOf]
      refine' L2.funAt_of KX G ?a ?l ?c ?k (fun _ _ _ _ _ _ => L2.us4 fun _ _ _ _ => rfl)
      (case a => k_is); (case l => k_is); (case c => k_is); (case k => k_is)
    have H_best_strays : L2.FunAt (L2.KOf KX) mg "best_strays" L2.s_best_strays ["meeting", "plan", "hand", "patience"] := by
      dsimp only [L2.KOf]
      refine' L2.funAt_of KX G ?a ?l ?c ?k (fun _ _ _ _ _ _ => L2.us4 fun _ _ _ _ => rfl)
      (case a => k_is); (case l => k_is); (case c => k_is); (case k => k_is)
    refine' L2.law_mk KX G hmg T H_common_divisor H_is_less H_place_of H_with_deed H_now_and_later H_weighed H_worths_of_hand H_deeds_of_hand H__law_cell H__law_mix H__law_rows H__law_fraction H__law_more H__law_stray H_lowest H_paid H_state_behind H__law_meeting H__law_patience H__law_row H__law_cells H__law_later H__law_paid H_pays_of H_worth_of_pays H_better_deed H__law_plan H__law_move H_worth_of H_better_deeds H__law_gains H__law_best_right H_worths_from H_worths H_gain H_bent_for H_holds H_best_worths H_best_strays ?al ?ll ?cl ?kl
    (case al => k_is); (case ll => k_is); (case cl => k_is); (case kl => k_is)
