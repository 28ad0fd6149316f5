import PyProof.Rows.All
import Wide.All
import OpenK.AllK
import Wide.FinOn
import Lean
import PyProof.EqAt
import PyProof.EqKinds
import PyProof.TupleCall
import PyProof.NeKinds
import PyProof.ZipIter
import PyProof.Rows.SortShell
import PyProof.Rows.SortWalk
import PyProof.EnumMake
import PyProof.Rows.SumAny
import PyProof.Rows.SumGenD
import KE.KTryMore
import OpenK.KOwn
import PyProof.ExcArgsOwn
import PyProof.IsiTuple
import PyProof.ExcAttrAll.ValueError
import PyProof.FitsBits
import KE.KNestM
import KE.KLam
import KE.KMinKey
import PySem.Challenge.RW_pactkeep_k07_whole_more_patience
set_option Elab.async false
set_option linter.all false
set_option maxRecDepth 100000
namespace L2
open PySem PySem.Spec PyProof.Rows
abbrev lX := Sum Int Str
def v8 : lX → Value → Bool
 | .inl k, v => Value.isInt k v
 | .inr x, v => Value.isStrOf x v
def aNv (w : World) : lX → Int
 | .inl k => hashInt k
 | .inr x => hashStr w x
theorem fF : ∀ {k : lX} {v : Value}, v8 k v = true → (∃ i t, k = Sum.inl i ∧ v = Value.int i t) ∨ (∃ x t, k = Sum.inr x ∧ v = Value.str x t)
 | .inl i, v, h => by
  obtain ⟨t, e⟩ := Value.isInt_shape (k := i) (v := v) h
  exact .inl ⟨i, t, rfl, e⟩
 | .inr x, v, h => by
  obtain ⟨t, e⟩ := Value.isStrOf_shape (x := x) (v := v) h
  exact .inr ⟨x, t, rfl, e⟩
theorem aGn (i : Int) (t : Tok) : v8 (.inl i) (.int i t) = true := by simp [v8, Value.isInt]
theorem aGQ (x : Str) (t : Tok) : v8 (.inr x) (.str x t) = true := by simp [v8, Value.isStrOf]
theorem aLi (a b : Int) : decide ((Sum.inl a : lX) = Sum.inl b) = (a == b) := by
 by_cases e : a = b
 ·subst e; simp
 ·have h : ¬ (Sum.inl a : lX) = Sum.inl b := fun q => e (Sum.inl.inj q)
  rw [decide_eq_false h]
  exact (beq_eq_false_iff_ne.mpr e).symm
theorem aLP (a b : Str) : decide ((Sum.inr a : lX) = Sum.inr b) = decide (a = b) := by
 by_cases e : a = b
 ·subst e; simp
 ·have h : ¬ (Sum.inr a : lX) = Sum.inr b := fun q => e (Sum.inr.inj q)
  rw [decide_eq_false h, decide_eq_false e]
theorem aKF (a : Int) (b : Str) : decide ((Sum.inl a : lX) = Sum.inr b) = false := decide_eq_false (fun q => nomatch q)
theorem aLb (a : Str) (b : Int) : decide ((Sum.inr a : lX) = Sum.inl b) = false := decide_eq_false (fun q => nomatch q)
def gO (prog : Program) (w : World) : PySem.KeyKind prog w lX where
 is := v8
 hash := aNv w
 inj := fun v a b ha hb => by
  rcases fF ha with ⟨i, t, rfl, rfl⟩ | ⟨x, t, rfl, rfl⟩
  ·rcases fF hb with ⟨j, u, rfl, e⟩ | ⟨y, u, rfl, e⟩
   ·injection e with e1 _; rw [e1]
   ·exact nomatch e
  ·rcases fF hb with ⟨j, u, rfl, e⟩ | ⟨y, u, rfl, e⟩
   ·exact nomatch e
   ·injection e with e1 _; rw [e1]
 byValue := fun k v h => by
  rcases fF h with ⟨i, t, rfl, rfl⟩ | ⟨x, t, rfl, rfl⟩ <;> rfl
 pyHash := fun hv h => by
  rcases fF hv with ⟨i, t, rfl, rfl⟩ | ⟨x, t, rfl, rfl⟩
  ·exact wpAny_pyHash_int h
  ·exact wpAny_pyHash_str h
 eqBool := fun hu hv h => by
  rcases fF hu with ⟨i, t, rfl, rfl⟩ | ⟨x, t, rfl, rfl⟩
  ·rcases fF hv with ⟨j, u, rfl, rfl⟩ | ⟨y, u, rfl, rfl⟩
   ·rw [aLi] at h; exact wpAny_eqBool_int h
   ·rw [aKF] at h; exact SeqAt.EqAt.int_str i t y u _ _ _ _ h
  ·rcases fF hv with ⟨j, u, rfl, rfl⟩ | ⟨y, u, rfl, rfl⟩
   ·rw [aLb] at h; exact SeqAt.EqAt.str_int x t j u _ _ _ _ h
   ·rw [aLP] at h; exact wpAny_eqBool_str h
 «strs» := fun k x t v h => by
  rcases fF h with ⟨i, u, rfl, e⟩ | ⟨y, u, rfl, e⟩
  ·exact nomatch e
  ·injection e with e1 _
   subst e1
   cases v <;> rfl
theorem aKN (prog : Program) (w : World) (k : lX) (v : Value) : (gO prog w).is k v = v8 k v := rfl
theorem aDm (prog : Program) (w : World) (i : Int) (t : Tok) : (gO prog w).is (.inl i) (.int i t) = true := aGn i t
theorem aCR (prog : Program) (w : World) (x : Str) (t : Tok) : (gO prog w).is (.inr x) (.str x t) = true := aGQ x t
inductive V where
 | non | bl (b : Bool) | int (i : Int) | str (x : Str) | byt (b : Array UInt8) | flt (b : UInt64) | ref (a : Addr) | ty (n : String)
 deriving DecidableEq
def dS : V → Value → Prop
 | .non, u => u = Value.none
 | .bl b, u => u = Value.bool b
 | .int i, u => ∃ t, u = Value.int i t
 | .str x, u => ∃ t, u = Value.str x t
 | .byt b, u => ∃ t, u = Value.bytes b t
 | .flt b, u => ∃ t, u = Value.float b t
 | .ref a, u => u = Value.ref a
 | .ty n, u => u = Value.type n
abbrev dE : List V → List Value → Prop := Paired dS
theorem dE.length {xs : List V} {us : List Value} (r : dE xs us) : xs.length = us.length := Paired.length r
theorem dE.get : ∀ {xs : List V} {us : List Value} {i : Nat} {x : V}, dE xs us → xs[i]? = some x → ∃ u, us[i]? = some u ∧ dS x u
 | _, _, _, _, .nil, e => by simp at e
 | _, _, 0, _, .cons r _, e => by simp at e; subst e; exact ⟨_, rfl, r⟩
 | _, _, i + 1, x, .cons _ t, e => by
  obtain ⟨u, h1, h2⟩ := dE.get (i := i) (x := x) t (by simpa using e)
  exact ⟨u, by simpa using h1, h2⟩
theorem dE.append : ∀ {xs ys : List V} {us ws : List Value}, dE xs us → dE ys ws → dE (xs ++ ys) (us ++ ws)
 | _, _, _, _, .nil, s => s
 | _, _, _, _, .cons r t, s => .cons r (dE.append t s)
theorem dE.take : ∀ {xs : List V} {us : List Value} (n : Nat), dE xs us → dE (xs.take n) (us.take n)
 | _, _, 0, _ => .nil
 | _, _, _ + 1, .nil => .nil
 | _, _, n + 1, .cons r t => .cons r (dE.take n t)
theorem dE.drop : ∀ {xs : List V} {us : List Value} (n : Nat), dE xs us → dE (xs.drop n) (us.drop n)
 | _, _, 0, r => r
 | _, _, _ + 1, .nil => .nil
 | _, _, n + 1, .cons _ t => dE.drop n t
def aAx : Option V → Option Value → Prop
 | some v, some u => dS v u
 | none, none => True
 | _, _ => False
def KV {κ : Type} : List (κ × V) → List (κ × Value) → Prop := Paired fun (p : κ × V) (q : κ × Value) => p.1 = q.1 ∧ dS p.2 q.2
def kV : lX → V
 | .inl i => .int i
 | .inr x => .str x
inductive HO where
 | lst (xs : List V)
 | tup (xs : List V)
 | dK (kvs : List (lX × V)) | dT (kvs : List (List lX × V))
 | set (S : Int → Bool) (n : Nat)
 | ins (C dx : Addr) (fs : List (Str × V))
 | own (x : Addr)
 | xd (fs : List (Str × V))
 | met (f x : Addr)
 | rng (lo hi : Int)
 | frz (o : Obj) (u : HO)
 | tbl (ps : Array Value)
 | tab (l c : Value) (q : Str)
 | ext (φ : Heap → Prop)
abbrev Hp := Addr → Option HO
def upd (H : Hp) (a : Addr) (o : HO) : Hp := fun b => if b = a then some o else H b
theorem bQ {H : Hp} {a : Addr} {o : HO} : upd H a o a = some o := by unfold upd; rw [if_pos rfl]
theorem aV {H : Hp} {a b : Addr} {o : HO} (h : b ≠ a) : upd H a o b = H b := by unfold upd; rw [if_neg h]
theorem aCP {H : Hp} {a b : Addr} {o u : HO} (h : H a = some o) (h' : H b = some u) (d : o ≠ u) : a ≠ b := by
 intro e; subst e; rw [h] at h'; exact d (Option.some.inj h')
theorem bM {H : Hp} {a b : Addr} {o : HO} (h : H a = some o) (h' : H b = none) : a ≠ b := by
 intro e; subst e; rw [h] at h'; cases h'
section
variable (P : Program) (w : World)
def iE (H : Hp) (h : Heap) (a : Addr) : HO → Prop
 | .lst xs => xs.length ≤ sizeLine ∧ ∃ (its : List Value) (n : Nat), dE xs its ∧ h.get? a = some { cls := .type "list", data := .seq its.toArray n }
 | .tup xs => xs.length ≤ sizeLine ∧ ∃ its : List Value, dE xs its ∧ IsTup h a its.toArray
 | .dK kvs => kvs.length ≤ sizeLine ∧ (a == sysModules) = false ∧ ∃ vs, KV kvs vs ∧ h.DictOf (gO P w) a vs
 | .dT kvs => kvs.length ≤ sizeLine ∧ (a == sysModules) = false ∧ ∃ xs : List (List lX × Addr × Value),
   Paired (fun (p : List lX × V) (q : List lX × Addr × Value) => p.1 = q.1 ∧ H q.2.1 = some (.tup (p.1.map kV)) ∧ dS p.2 q.2.2) kvs xs ∧
   ∃ o es ep, h.get? a = some o ∧ o.ExactDict ∧ o.data = .dict es ep ∧ es.toList = xs.map (entryOfKey (tupleKind (gO P w))) ∧ (xs.map (·.1)).Nodup
 | .set S n => h.SetOf (intKind P w) a S n
 | .ins C dx fs => H dx = some (.own a) ∧ fs.length ≤ 1000 ∧ dx ≠ a ∧ h.get? a = some (PySem.W.instObj C dx) ∧
   ∃ mA, h.Ns1 dx mA ∧ (∀ f, aAx (fs.lookup f) (mA f)) ∧ PySem.Within mA (fs.map (·.1))
 | .own _ => ∃ o, h.get? a = some o
 | .xd fs => ∃ mA, h.Ns1 a mA ∧ ∀ f, aAx (fs.lookup f) (mA f)
 | .rng lo hi => ∃ t u v, h.get? a = some { cls := .type "range", data := .fields #[.int lo t, .int hi u, .int 1 v] }
 | .frz o u => h.get? a = some o ∧ iE H h a u
 | .tbl ps => h.get? a = some { cls := .none, data := .fields ps }
 | .tab l c q => ∃ ps : Array Value, h.get? a = some { cls := .none, data := .fields ps } ∧ (ps = #[] ∨ ∃ (d : Addr) (oc : Obj) (u : HO) (vs : Array Value) (t : Tok), ps = #[l, c, .ref d] ∧ H d = some (.frz oc u) ∧ oc.data = .fields vs ∧ vs[1]? = some (.str q t))
 | .met f x => h.get? a = some (PySem.W.methodObj (.ref f) (.ref x))
 | .ext φ => φ h ∧ (∃ o, h.get? a = some o) ∧ ∀ h1 h2 : Heap, φ h1 → (∀ o, h1.get? a = some o → h2.get? a = some o) → φ h2
def qV (H : Hp) (h : Heap) : Prop := ∀ a o, H a = some o → iE P w H h a o
end
section
variable {P : Program} {w : World} {H H' : Hp} {h h' : Heap} {a : Addr} {o : HO}
theorem iE.lt (x : iE P w H h a o) : a < h.objs.size := by
 cases o with
 | lst xs => obtain ⟨_, _, _, _, e⟩ := x; exact Heap.lt_size e
 | tup xs => obtain ⟨_, _, _, p⟩ := x; exact p.lt
 | dK kvs => obtain ⟨_, _, _, _, o, _, _, e, _⟩ := x; exact Heap.lt_size e
 | dT kvs => obtain ⟨_, _, _, _, o, _, _, e, _⟩ := x; exact Heap.lt_size e
 | set S n => obtain ⟨o, _, _, _, e, _⟩ := x; exact Heap.lt_size e
 | ins C dx fs => obtain ⟨_, _, _, e, _⟩ := x; exact Heap.lt_size e
 | own y => obtain ⟨_, e⟩ := x; exact Heap.lt_size e
 | xd fs => obtain ⟨_, ⟨_, _, _, e, _⟩, _⟩ := x; exact Heap.lt_size e
 | rng lo hi => obtain ⟨_, _, _, e⟩ := x; exact Heap.lt_size e
 | frz ob u => obtain ⟨e, _⟩ := x; exact Heap.lt_size e
 | tbl ps => exact Heap.lt_size (show h.get? a = some _ from x)
 | tab l c q => obtain ⟨_, e, _⟩ := x; exact Heap.lt_size e
 | met f y => exact Heap.lt_size (show h.get? a = some _ from x)
 | ext φ => obtain ⟨_, ⟨_, e⟩, _⟩ := x; exact Heap.lt_size e
theorem Paired.mapP {α β : Type} {F G : α → β → Prop} : ∀ {l₁ : List α} {l₂ : List β}, Paired F l₁ l₂ → (∀ a b, F a b → G a b) → Paired G l₁ l₂
 | _, _, .nil, _ => .nil
 | _, _, .cons r t, f => .cons (f _ _ r) (Paired.mapP t f)
theorem iE.stay (x : iE P w H h a o) (k : ∀ b u, (b = a ∨ H b = some (.own a)) → h.get? b = some u → h'.get? b = some u)
  (ho : ∀ b, H b = some (.own a) → H' b = some (.own a)) (ht : ∀ b xs, H b = some (.tup xs) → H' b = some (.tup xs)) (hz : ∀ b o u, H b = some (.frz o u) → H' b = some (.frz o u)) : iE P w H' h' a o := by
 induction o with
 | lst xs => obtain ⟨z, its, n, r, e⟩ := x; exact ⟨z, its, n, r, k _ _ (.inl rfl) e⟩
 | tup xs => obtain ⟨z, its, r, ob, e, c⟩ := x; exact ⟨z, its, r, ob, k _ _ (.inl rfl) e, c⟩
 | dK kvs => obtain ⟨z, y, vs, r, ob, es, ep, e, c⟩ := x; exact ⟨z, y, vs, r, ob, es, ep, k _ _ (.inl rfl) e, c⟩
 | dT kvs =>
  obtain ⟨z, y, xs, r, ob, es, ep, e, c⟩ := x
  exact ⟨z, y, xs, Paired.mapP r fun p q z => ⟨z.1, ht _ _ z.2.1, z.2.2⟩, ob, es, ep, k _ _ (.inl rfl) e, c⟩
 | set S n => obtain ⟨ob, es, ep, t, e, c⟩ := x; exact ⟨ob, es, ep, t, k _ _ (.inl rfl) e, c⟩
 | ins C dx fs =>
  obtain ⟨d, z, ne, e, mA, ⟨od, es, ep, e2, c⟩, r⟩ := x
  exact ⟨ho _ d, z, ne, k _ _ (.inl rfl) e, mA, ⟨od, es, ep, k _ _ (.inr d) e2, c⟩, r⟩
 | own y => obtain ⟨ob, e⟩ := x; exact ⟨ob, k _ _ (.inl rfl) e⟩
 | xd fs => obtain ⟨mA, ⟨od, es, ep, e, c⟩, r⟩ := x; exact ⟨mA, ⟨od, es, ep, k _ _ (.inl rfl) e, c⟩, r⟩
 | rng lo hi => obtain ⟨t, u, v, e⟩ := x; exact ⟨t, u, v, k _ _ (.inl rfl) e⟩
 | frz ob u ih => obtain ⟨e, q⟩ := x; exact ⟨k _ _ (.inl rfl) e, ih q⟩
 | tbl ps =>
  have e : h.get? a = some { cls := .none, data := .fields ps } := x
  show h'.get? a = some { cls := .none, data := .fields ps }
  exact k a _ (.inl rfl) e
 | tab l c q =>
  obtain ⟨ps, e, z⟩ := x
  refine ⟨ps, k _ _ (.inl rfl) e, ?_⟩
  rcases z with z | ⟨d, oc, u, vs, t, z1, z2, z3⟩
  ·exact .inl z
  ·exact .inr ⟨d, oc, u, vs, t, z1, hz _ _ _ z2, z3⟩
 | met f y =>
  have e : h.get? a = some (PySem.W.methodObj (.ref f) (.ref y)) := x
  show h'.get? a = some (PySem.W.methodObj (.ref f) (.ref y))
  exact k a _ (.inl rfl) e
 | ext φ => obtain ⟨p, ⟨o, e⟩, st⟩ := x; exact ⟨st _ _ p fun o q => k _ _ (.inl rfl) q, ⟨o, k _ _ (.inl rfl) e⟩, st⟩
theorem qV.lt (x : qV P w H h) (e : H a = some o) : a < h.objs.size := (x a o e).lt
theorem qV.fresh (x : qV P w H h) (e : h.objs.size ≤ a) : H a = none := by
 cases q : H a with
 | none => rfl
 | some u => exact absurd (Nat.lt_of_lt_of_le (x.lt q) e) (Nat.lt_irrefl _)
theorem qV.kept (x : qV P w H h) (k : ∀ b u, h.get? b = some u → h'.get? b = some u) : qV P w H h' := fun a o e =>
 (x a o e).stay (fun b u _ q => k b u q) (fun _ q => q) (fun _ _ q => q) fun _ _ _ q => q
theorem qV.laid (x : qV P w H h) (k : ∀ b u, h.get? b = some u → h'.get? b = some u) (hp : h.objs.size ≤ a) (new : iE P w (upd H a o) h' a o) : qV P w (upd H a o) h' := fun b u e => by
 have hn := x.fresh hp
 by_cases hb : b = a
 ·subst hb; rw [bQ] at e; cases e; exact new
 ·rw [aV hb] at e
  exact (x b u e).stay (fun c v _ q => k c v q) (fun c q => by rw [aV (bM q hn)]; exact q) (fun c xs q => by rw [aV (bM q hn)]; exact q) fun c ob u q => by rw [aV (bM q hn)]; exact q
end
def Rd (H : Hp) (a : Addr) (u : HO) : Prop := H a = some u ∨ ∃ o, H a = some (.frz o u)
theorem Rd.ok {P : Program} {w : World} {H : Hp} {h : Heap} {a : Addr} {u : HO} (r : Rd H a u) (x : qV P w H h) : iE P w H h a u := by
 rcases r with r | ⟨o, r⟩
 ·exact x a u r
 ·obtain ⟨_, q⟩ := x a _ r
  exact q
def Mut : Option HO → Prop
 | some (.lst _) => True
 | some (.dK _) => True
 | some (.dT _) => True
 | some (.set _ _) => True
 | some (.ins _ _ _) => True
 | some (.tab _ _ _) => True
 | some (.ext _) => True
 | _ => False
section
variable {P : Program} {w : World} {H : Hp} {h h' : Heap} {x e : Addr} {o' : HO}
theorem qV.write (ok : qV P w H h) (mu : Mut (H x)) (he : e = x ∨ H e = some (.own x)) (k : ∀ b u, b ≠ e → h.get? b = some u → h'.get? b = some u) (heo : ∃ u, h'.get? e = some u)
  (new : iE P w (upd H x o') h' x o') : qV P w (upd H x o') h' := fun b u q => by
 have nown : ∀ c y, H c = some (.own y) → c ≠ x := fun c y r z => by subst z; rw [r] at mu; exact mu
 have ntup : ∀ c xs, H c = some (.tup xs) → c ≠ x := fun c xs r z => by subst z; rw [r] at mu; exact mu
 by_cases hb : b = x
 ·subst hb; rw [bQ] at q; cases q; exact new
 ·rw [aV hb] at q
  by_cases hbe : b = e
  ·have q' : H b = some (.own x) := by
    rcases he with z | z
    ·exact absurd (hbe.trans z) hb
    ·rw [hbe]; exact z
   rw [q] at q'; cases q'
   obtain ⟨v, hv⟩ := heo
   exact ⟨v, by rw [hbe]; exact hv⟩
  ·refine (ok b u q).stay (fun c v hc r => k c v ?_ r) (fun c r => by rw [aV (nown c b r)]; exact r) (fun c xs r => by rw [aV (ntup c xs r)]; exact r) fun c ob u r => by rw [aV (fun z => by subst z; rw [r] at mu; exact mu)]; exact r
   rcases hc with rfl | hc
   ·exact hbe
   ·rintro rfl
    rcases he with z | z
    ·exact nown c b hc z
    ·rw [hc] at z; cases z; exact hb rfl
end
structure Un (fs ex : List Addr) (H H' : Hp) (h h' : Heap) : Prop where
 keep : ∀ b o, h.get? b = some o → H b = none → b ∉ fs → b ∉ ex → h'.get? b = some o
 slot : ∀ b o, h.get? b = some o → H b = none → b ∈ fs → b ∉ ex → ∃ sl, h'.get? b = some { o with slots := sl }
 free : ∀ b o, h.get? b = some o → H b = none → b ∉ ex → H' b = none
 there : ∀ b o, h.get? b = some o → b ∉ ex → ∃ o', h'.get? b = some o'
 tups : ∀ b xs, H b = some (.tup xs) → H' b = some (.tup xs)
 frzs : ∀ b o u, H b = some (.frz o u) → H' b = some (.frz o u)
 tbls : ∀ b ps, H b = some (.tbl ps) → ∃ more, H' b = some (.tbl (ps ++ more))
section
variable {fs fs' ex ex' : List Addr} {H H1 H2 : Hp} {h h1 h2 h' : Heap} {a x e : Addr} {o : HO}
theorem Un.any (u : Un fs ex H H1 h h1) {b : Addr} {ob : Obj} (q : h.get? b = some ob) (n : H b = none) (hx : b ∉ ex) : ∃ sl, h1.get? b = some { ob with slots := sl } := by
 by_cases hb : b ∈ fs
 ·exact u.slot b ob q n hb hx
 ·exact ⟨ob.slots, u.keep b ob q n hb hx⟩
theorem Un.kept (k : ∀ b u, h.get? b = some u → h'.get? b = some u) : Un fs ex H H h h' :=
 ⟨fun b ob q _ _ _ => k b ob q, fun b ob q _ _ _ => ⟨ob.slots, k b ob q⟩, fun _ _ _ n _ => n, fun b ob q _ => ⟨ob, k b ob q⟩, fun _ _ q => q, fun _ _ _ q => q, fun _ ps q => ⟨#[], by rw [q]; simp⟩⟩
theorem Un.refl : Un fs ex H H h h := Un.kept fun _ _ q => q
theorem Un.laid (k : ∀ b u, h.get? b = some u → h'.get? b = some u) (hp : h.objs.size ≤ a) (hn : H a = none) : Un fs ex H (upd H a o) h h' where
 keep := fun b u q _ _ _ => k b u q
 slot := fun b u q _ _ _ => ⟨u.slots, k b u q⟩
 free := fun b u q n _ => by rw [aV (Nat.ne_of_lt (Nat.lt_of_lt_of_le (Heap.lt_size q) hp))]; exact n
 there := fun b u q _ => ⟨u, k b u q⟩
 tups := fun b xs q => by rw [aV (bM q hn)]; exact q
 frzs := fun b u xs q => by rw [aV (bM q hn)]; exact q
 tbls := fun b ps q => ⟨#[], by rw [aV (bM q hn), q]; simp⟩
theorem Un.write (mu : Mut (H x)) (he : e = x ∨ H e = some (.own x)) (k : ∀ b u, b ≠ e → h.get? b = some u → h'.get? b = some u) (heo : ∃ u, h'.get? e = some u) : Un fs ex H (upd H x o) h h' := by
 have hx : ∀ b, H b = none → b ≠ x := fun b n z => by subst z; rw [n] at mu; exact mu
 have hb : ∀ b, H b = none → b ≠ e := fun b n z => by
  subst z
  rcases he with r | r
  ·exact hx b n r
  ·rw [n] at r; cases r
 have hm : ∀ b u, H b = some u → ¬ Mut (some u) → b ≠ x := fun b u q nm z => by subst z; rw [q] at mu; exact nm mu
 refine ⟨fun b u q n _ _ => k b u (hb b n) q, fun b u q n _ _ => ⟨u.slots, k b u (hb b n) q⟩, fun b u q n _ => by rw [aV (hx b n)]; exact n, fun b u q _ => ?_,
  fun b xs q => by rw [aV (hm b _ q fun z => z)]; exact q, fun b u xs q => by rw [aV (hm b _ q fun z => z)]; exact q, fun b ps q => ⟨#[], by rw [aV (hm b _ q fun z => z), q]; simp⟩⟩
 by_cases hbe : b = e
 ·subst hbe; exact heo
 ·exact ⟨u, k b u hbe q⟩
end
def trk (h : Heap) (H : Hp) : List Addr := (List.range h.objs.size).filter fun a => (H a).isSome
def aAq (h : Heap) (H : Hp) : Heap := PySem.W.hideAll h (trk h H)
theorem aGa (h : Heap) (H : Hp) : (aAq h H).objs.size = h.objs.size := PySem.W.hideAll_size _ _
theorem aIL {h : Heap} {H : Hp} {b : Addr} {o : Obj} (e : h.get? b = some o) (n : H b = none) : (aAq h H).get? b = some o :=
 PySem.W.hideAll_get _ e fun hm => by
  have q : (H b).isSome = true := (List.mem_filter.mp hm).2
  rw [n] at q; simp at q
theorem aJV {h : Heap} {H : Hp} {b : Addr} {o : Obj} (e : (aAq h H).get? b = some o) : h.get? b = some o ∧ H b = none := by
 have e' : h.get? b = some o := PySem.W.of_hideAll (trk h H) e
 refine ⟨e', ?_⟩
 cases q : H b with
 | none => rfl
 | some x =>
  have hm : b ∈ trk h H := List.mem_filter.mpr ⟨List.mem_range.mpr (Heap.lt_size e'), by simp [q]⟩
  have z : (aAq h H).get? b = none := PySem.W.hideAll_none (trk h H) hm
  rw [z] at e; cases e
structure Mod (K : PySem.W.Frag) (mg : Str → Option Value) (base : Heap) : Prop where
 kin : K.In base
 glob : base.Ns mainGlobals mg
 blt : ∃ mb, base.Ns builtinsNs mb ∧ ∀ x : Str, x ≠ "__name__" → mb x = bootBuiltins x
 nolimit : base.NoLimit
structure Cx where
 prog : Program
 w : World
 K : PySem.W.Frag
 mg : Str → Option Value
 base : Heap
 A : Around
 N : List Str
 s₀ : Shared
 H₀ : Hp
 env : Env
 outer : List Env
 stack : List Env
 ex : List Addr
 fn : Str → Bool
 calm : Bool
 pn : List (Addr × Obj)
 xe : Value → Shared → Prop
def frs (l : List Env) : List Addr := l.filterMap (·.frame)
abbrev Cx.fs (X : Cx) : List Addr := frs X.outer
def Vis (sc : Scope) (x : Str) : Prop := sc.names.lookup x = some .local ∨ sc.names.lookup x = some .cell ∨ sc.names.lookup x = some .free
def Loc (sc : Scope) (x : Str) : Prop := sc.names.lookup x = some .local ∨ sc.names.lookup x = some .cell
def aNt (env : Env) (h : Heap) (m : Str → Option Value) (x : Str) (u : Value) : Prop :=
 (env.kindOf x = some .local ∧ m x = some u) ∨ ((env.kindOf x = some .cell ∨ env.kindOf x = some .free) ∧ ∃ c, env.cells.lookup x = some c ∧ h.IsCell c (some u))
structure Cx.Ok (X : Cx) : Prop where
 mod : Mod X.K X.mg X.base
 kind : X.env.scope.kind = .function
 glob : X.env.globals = mainGlobals
 blt : X.env.builtins = builtinsNs
 above : X.s₀.heap.objs.size ≤ X.env.locals
 inj : ∀ x y c, X.env.cells.lookup x = some c → X.env.cells.lookup y = some c → x = y
 has : ∀ x, (X.env.kindOf x = some .cell ∨ X.env.kindOf x = some .free) → ∃ c, X.env.cells.lookup x = some c
 cab : ∀ x c, X.fn x = true → X.env.cells.lookup x = some c → X.s₀.heap.objs.size ≤ c
 hd : X.calm = true → X.A.handled = none
 frames : X.A.frames = some X.stack
 stk : X.stack = X.outer ∨ (X.stack = X.env :: X.outer ∧ X.env.frame = some X.env.locals)
 exf : ∀ b ∈ X.ex, b ≠ X.env.locals ∧ ∀ x c, X.env.cells.lookup x = some c → c ≠ b
 bs : ∀ b o, X.base.get? b = some o → X.s₀.heap.get? b = some o ∧ X.H₀ b = none
 bsz : X.base.objs.size ≤ X.s₀.heap.objs.size
 noex : ∀ b o, X.base.get? b = some o → b ∉ X.ex
 exfs : ∀ b ∈ X.ex, b ∉ X.fs
 funs : X.s₀.heap.FunFrames X.base X.outer
 frf : ∀ b ∈ X.fs, X.H₀ b = none
structure bE (X : Cx) (pins : List (Addr × Obj)) (σ : List (Option V)) (H : Hp) (s : Shared) : Prop where
 ok : X.Ok
 os : s.os = X.s₀.os
 bare : AllBare s.gens
 base : Un X.fs X.ex X.H₀ H X.s₀.heap s.heap
 loc : ∃ m, s.heap.Ns X.env.locals m ∧ ∀ (i : Nat) (x : Str) (v : V), X.N[i]? = some x → σ[i]? = some (some v) → Vis X.env.scope x → ∃ u, dS v u ∧ aNt X.env s.heap m x u
 cell : ∀ x c, X.env.cells.lookup x = some c → ∃ v, s.heap.IsCell c v
 free : H X.env.locals = none
 freeC : ∀ x c, X.env.cells.lookup x = some c → H c = none
 pin : ∀ p ∈ X.pn ++ pins, s.heap.get? p.1 = some p.2 ∧ H p.1 = none ∧ p.1 ≠ X.env.locals ∧ p.1 ∉ X.fs ∧ ∀ v, p.2.data ≠ .cell v
 hok : qV X.prog X.w H s.heap
 len : σ.length = X.N.length
section
variable {X : Cx} {pins : List (Addr × Obj)} {σ : List (Option V)} {H H' : Hp} {s : Shared} {h' : Heap}
theorem Cx.Ok.nofr (ok : X.Ok) {b : Addr} {o : Obj} (e : X.base.get? b = some o) : b ∉ X.fs := fun hb => by
 have := (ok.funs.mem hb).1
 rw [e] at this; cases this
theorem bE.bs (I : bE X pins σ H s) : ∀ b o, X.base.get? b = some o → s.heap.get? b = some o ∧ H b = none := fun b o e =>
 ⟨I.base.keep b o (I.ok.bs b o e).1 (I.ok.bs b o e).2 (I.ok.nofr e) (I.ok.noex b o e), I.base.free b o (I.ok.bs b o e).1 (I.ok.bs b o e).2 (I.ok.noex b o e)⟩
theorem bE.bk (I : bE X pins σ H s) : ∀ b o, X.base.get? b = some o → s.heap.get? b = some o := fun b o e => (I.bs b o e).1
theorem bE.mod (I : bE X pins σ H s) : Mod X.K X.mg X.base := I.ok.mod
theorem bE.kIn (I : bE X pins σ H s) : X.K.In s.heap := I.ok.mod.kin.keeps I.bk
theorem bE.nolimit (I : bE X pins σ H s) : s.heap.NoLimit := I.ok.mod.nolimit.keeps I.bk
theorem bE.lt (I : bE X pins σ H s) : X.env.locals < s.heap.objs.size := let ⟨_, hn, _⟩ := I.loc; hn.lt
theorem bE.sz (I : bE X pins σ H s) : X.s₀.heap.objs.size ≤ s.heap.objs.size := Nat.le_trans I.ok.above (Nat.le_of_lt I.lt)
theorem bE.nofs (I : bE X pins σ H s) {a : Addr} (h : s.heap.objs.size ≤ a) : a ∉ X.fs := fun hb => by
 obtain ⟨_, o, ho, _⟩ := I.ok.funs.mem hb
 exact absurd (Nat.lt_of_lt_of_le (Heap.lt_size ho) (Nat.le_trans I.sz h)) (Nat.lt_irrefl _)
theorem bE.cne (I : bE X pins σ H s) : ∀ x c, X.env.cells.lookup x = some c → c ≠ X.env.locals := fun x c e z => by
 obtain ⟨v, o, ho, hd⟩ := I.cell x c e
 obtain ⟨m, ⟨o', es, ep, ho', hd', _⟩, _⟩ := I.loc
 rw [z, ho'] at ho; cases ho; rw [hd'] at hd; cases hd
theorem bE.funs (I : bE X pins σ H s) : s.heap.FunFrames X.base X.outer := by
 have all : ∀ (l : List Env), (∀ b ∈ frs l, b ∈ X.fs) → X.s₀.heap.FunFrames X.base l → s.heap.FunFrames X.base l := by
  intro l
  induction l with
  | nil => intro _ _; trivial
  | cons env r ih =>
   intro hs hl
   obtain ⟨hk, ⟨L, o, hf, hn, ho, hd⟩, hr⟩ := hl
   have hL : L ∈ X.fs := hs L (by unfold frs; rw [List.filterMap_cons, hf]; exact List.mem_cons_self)
   obtain ⟨sl, e⟩ := I.base.slot L o ho (I.ok.frf L hL) hL fun z => I.ok.exfs L z hL
   exact ⟨hk, ⟨L, _, hf, hn, e, hd⟩, ih (fun b hb => hs b (by unfold frs; rw [List.filterMap_cons, hf]; exact List.mem_cons_of_mem _ hb)) hr⟩
 exact all X.outer (fun _ hb => hb) I.ok.funs
theorem bE.stack (I : bE X pins σ H s) : s.heap.FunFrames X.base X.stack := by
 rcases I.ok.stk with e | ⟨e, hf⟩
 ·rw [e]; exact I.funs
 ·rw [e]
  obtain ⟨m, hn, _⟩ := I.loc
  refine .cons (by rw [I.ok.kind]; decide) hf hn ?_ I.funs
  exact Heap.get?_none_of_le (Nat.le_trans I.ok.bsz I.ok.above)
theorem bE.stkSub (I : bE X pins σ H s) : ∀ b ∈ frs X.stack, b ∈ X.env.locals :: X.fs := fun b hb => by
 rcases I.ok.stk with e | ⟨e, hf⟩
 ·rw [e] at hb; exact List.mem_cons_of_mem _ hb
 ·rw [e] at hb
  unfold frs at hb
  rw [List.filterMap_cons, hf] at hb
  exact hb
theorem bE.stkFree (I : bE X pins σ H s) : ∀ b ∈ frs X.stack, H b = none := fun b hb => by
 rcases List.mem_cons.mp (I.stkSub b hb) with e | hb
 ·rw [e]; exact I.free
 ·obtain ⟨_, o, ho, _⟩ := I.ok.funs.mem hb
  exact I.base.free b o ho (I.ok.frf b hb) fun z => I.ok.exfs b z hb
theorem bE.step {g' : Array GenState} {t' : Nat} {d' : Drawn} {ch : List Addr} (I : bE X pins σ H s)
  (hch : ∀ b ∈ ch, (b ∈ X.ex ∨ X.s₀.heap.objs.size ≤ b) ∧ b ≠ X.env.locals ∧ (∀ x c, X.env.cells.lookup x = some c → c ≠ b) ∧ ∀ p ∈ X.pn ++ pins, p.1 ≠ b)
  (keep : ∀ b o, b ≠ X.env.locals → b ∉ X.fs → b ∉ ch → s.heap.get? b = some o → H b = none → h'.get? b = some o)
  (slot : ∀ b o, b ≠ X.env.locals → b ∈ X.fs → b ∉ ch → s.heap.get? b = some o → H b = none → ∃ sl, h'.get? b = some { o with slots := sl }) (free : ∀ b o, b ∉ ch → s.heap.get? b = some o → H b = none → H' b = none)
  (there : ∀ b o, b ∉ ch → s.heap.get? b = some o → ∃ o', h'.get? b = some o')
  (tups : ∀ b xs, H b = some (.tup xs) → H' b = some (.tup xs)) (frzs : ∀ b o u, H b = some (.frz o u) → H' b = some (.frz o u)) (tbls : ∀ b ps, H b = some (.tbl ps) → ∃ more, H' b = some (.tbl (ps ++ more)))
  (ns : ∀ m, s.heap.Ns X.env.locals m → h'.Ns X.env.locals m) (hok : qV X.prog X.w H' h') (hg : AllBare g') :
  bE X pins σ H' { s with heap := h', gens := g', drawn := d', toks := t' } := by
 have neL : ∀ b o, X.s₀.heap.get? b = some o → b ≠ X.env.locals := fun b o e => Nat.ne_of_lt (Nat.lt_of_lt_of_le (Heap.lt_size e) I.ok.above)
 have neC : ∀ b o, X.s₀.heap.get? b = some o → b ∉ X.ex → b ∉ ch := fun b o e hx hb => by
  rcases (hch b hb).1 with z | z
  ·exact hx z
  ·exact absurd (Nat.lt_of_lt_of_le (Heap.lt_size e) z) (Nat.lt_irrefl _)
 have cellK : ∀ x c, X.env.cells.lookup x = some c → ∀ v, s.heap.IsCell c v → h'.IsCell c v := fun x c e v ⟨o, ho, hd⟩ => by
  have nch : c ∉ ch := fun z => (hch c z).2.2.1 x c e rfl
  by_cases hc : c ∈ X.fs
  ·obtain ⟨sl, q⟩ := slot c o (I.cne x c e) hc nch ho (I.freeC x c e)
   exact ⟨_, q, hd⟩
  ·exact ⟨o, keep c o (I.cne x c e) hc nch ho (I.freeC x c e), hd⟩
 refine ⟨I.ok, I.os, hg, ⟨fun b o e n hb hx => ?_, fun b o e n hb hx => ?_, fun b o e n hx => ?_, fun b o e hx => ?_, fun b xs e => tups b xs (I.base.tups b xs e), fun b o xs e => frzs b o xs (I.base.frzs b o xs e), fun b ps e => ?_⟩, ?_, fun x c e => ?_, ?_, fun x c e => ?_, fun p hp => ?_, hok, I.len⟩
 ·exact keep b o (neL b o e) hb (neC b o e hx) (I.base.keep b o e n hb hx) (I.base.free b o e n hx)
 ·obtain ⟨sl, e1⟩ := I.base.slot b o e n hb hx
  obtain ⟨sl', e2⟩ := slot b _ (neL b o e) hb (neC b o e hx) e1 (I.base.free b o e n hx)
  exact ⟨sl', e2⟩
 ·obtain ⟨o', e1⟩ := I.base.there b o e hx
  exact free b o' (neC b o e hx) e1 (I.base.free b o e n hx)
 ·obtain ⟨o', e1⟩ := I.base.there b o e hx
  exact there b o' (neC b o e hx) e1
 ·obtain ⟨m1, e1⟩ := I.base.tbls b ps e
  obtain ⟨m2, e2⟩ := tbls b _ e1
  exact ⟨m1 ++ m2, by rw [e2, Array.append_assoc]⟩
 ·obtain ⟨m, hn, hl⟩ := I.loc
  refine ⟨m, ns m hn, fun i x v e1 e2 e3 => ?_⟩
  obtain ⟨u, r, l⟩ := hl i x v e1 e2 e3
  refine ⟨u, r, ?_⟩
  rcases l with l | ⟨k, c, e, z⟩
  ·exact .inl l
  ·exact .inr ⟨k, c, e, cellK x c e _ z⟩
 ·obtain ⟨v, z⟩ := I.cell x c e
  exact ⟨v, cellK x c e v z⟩
 ·obtain ⟨m, ⟨o, _, _, ho, _⟩, _⟩ := I.loc
  exact free _ o (fun z => (hch _ z).2.1 rfl) ho I.free
 ·obtain ⟨v, o, ho, hd⟩ := I.cell x c e
  exact free c o (fun z => (hch c z).2.2.1 x c e rfl) ho (I.freeC x c e)
 ·obtain ⟨e, n, ne, nf, d⟩ := I.pin p hp
  have nch : p.1 ∉ ch := fun z => (hch p.1 z).2.2.2 p hp rfl
  exact ⟨keep p.1 p.2 ne nf nch e n, free p.1 p.2 nch e n, ne, nf, d⟩
theorem bE.un {t' : Nat} (I : bE X pins σ H s) (u : Un X.fs [] H H' s.heap h') (hok : qV X.prog X.w H' h') : bE X pins σ H' { s with heap := h', toks := t' } := by
 obtain ⟨m, ⟨o, es, ep, ho, r⟩, _⟩ := id I.loc
 obtain ⟨sl, hL⟩ := u.any ho I.free (by simp)
 exact I.step (g' := s.gens) (d' := s.drawn) (ch := []) (fun _ z => nomatch z) (fun b o _ hb _ e n => u.keep b o e n hb (by simp)) (fun b o _ hb _ e n => u.slot b o e n hb (by simp)) (fun b o _ e n => u.free b o e n (by simp)) (fun b o _ e => u.there b o e (by simp)) u.tups u.frzs u.tbls (fun m' hm => by
  obtain ⟨o', es', ep', ho', r'⟩ := hm
  rw [ho] at ho'; cases ho'
  exact ⟨_, es', ep', hL, r'⟩) hok I.bare
theorem bE.call {g' : Array GenState} {t' : Nat} {d' : Drawn} {ch : List Addr} (I : bE X pins σ H s) (u : Un (frs X.stack) ch H H' s.heap h') (hok : qV X.prog X.w H' h') (hg : AllBare g')
  (hch : ∀ b ∈ ch, (b ∈ X.ex ∨ X.s₀.heap.objs.size ≤ b) ∧ b ≠ X.env.locals ∧ (∀ x c, X.env.cells.lookup x = some c → c ≠ b) ∧ ∀ p ∈ X.pn ++ pins, p.1 ≠ b) :
  bE X pins σ H' { s with heap := h', gens := g', drawn := d', toks := t' } := by
 obtain ⟨m, ⟨o, es, ep, ho, r⟩, _⟩ := id I.loc
 obtain ⟨sl, hL⟩ := u.any ho I.free fun z => (hch _ z).2.1 rfl
 exact I.step (ch := ch) hch (fun b o hL hb hc e n => u.keep b o e n (fun z => (List.mem_cons.mp (I.stkSub b z)).elim hL hb) hc) (fun b o _ _ hc e n => u.any e n hc) (fun b o hc e n => u.free b o e n hc) (fun b o hc e => u.there b o e hc) u.tups u.frzs u.tbls (fun m' hm => by
  obtain ⟨o', es', ep', ho', r'⟩ := hm
  rw [ho] at ho'; cases ho'
  exact ⟨_, es', ep', hL, r'⟩) hok hg
theorem bE.turned {t' : Nat} {it : Addr} (I : bE X pins σ H s) (k : ∀ b o, b ≠ it → s.heap.get? b = some o → h'.get? b = some o) (hn : H it = none) (hL : it ≠ X.env.locals)
  (h1 : it ∈ X.ex ∨ X.s₀.heap.objs.size ≤ it) (h2 : ∀ x c, X.env.cells.lookup x = some c → c ≠ it) (h3 : ∀ p ∈ X.pn ++ pins, p.1 ≠ it) : bE X pins σ H { s with heap := h', toks := t' } := by
 have nit : ∀ b u, H b = some u → b ≠ it := fun b u e z => by rw [z, hn] at e; cases e
 refine I.step (g' := s.gens) (d' := s.drawn) (ch := [it]) (fun b hb => ?_) (fun b o _ _ hc e _ => k b o (fun z => hc (by simp [z])) e) (fun b o _ _ hc e _ => ⟨o.slots, k b o (fun z => hc (by simp [z])) e⟩) (fun _ _ _ _ n => n)
  (fun b o hc e => ⟨o, k b o (fun z => hc (by simp [z])) e⟩) (fun _ _ e => e) (fun _ _ _ e => e) (fun b ps e => ⟨#[], by rw [e]; simp⟩) (fun m hm => ?_) (fun b u e => ?_) I.bare
 ·have e : b = it := by simpa using hb
  subst e
  exact ⟨h1, hL, h2, h3⟩
 ·obtain ⟨o, es, ep, ho, r⟩ := hm
  exact ⟨o, es, ep, k _ o (Ne.symm hL) ho, r⟩
 ·refine (I.hok b u e).stay (fun c v hc q => k c v ?_ q) (fun _ q => q) (fun _ _ q => q) fun _ _ _ q => q
  rcases hc with z | z
  ·rw [z]; exact nit b u e
  ·exact nit c _ z
theorem bE.tok (I : bE X pins σ H s) (t : Nat) : bE X pins σ H { s with toks := t } := I.un (h' := s.heap) (t' := t) Un.refl I.hok
theorem bE.kept {t' : Nat} (I : bE X pins σ H s) (k : ∀ b u, s.heap.get? b = some u → h'.get? b = some u) : bE X pins σ H { s with heap := h', toks := t' } := I.un (Un.kept k) (I.hok.kept k)
theorem bE.laid {a : Addr} {o : HO} {t' : Nat} (I : bE X pins σ H s) (k : ∀ b u, s.heap.get? b = some u → h'.get? b = some u) (hp : s.heap.objs.size ≤ a) (new : iE X.prog X.w (upd H a o) h' a o) :
  bE X pins σ (upd H a o) { s with heap := h', toks := t' } := I.un (Un.laid k hp (I.hok.fresh hp)) (I.hok.laid k hp new)
theorem bE.write {x e : Addr} {o : HO} {t' : Nat} (I : bE X pins σ H s) (mu : Mut (H x)) (he : e = x ∨ H e = some (.own x)) (k : ∀ b u, b ≠ e → s.heap.get? b = some u → h'.get? b = some u) (heo : ∃ u, h'.get? e = some u)
  (new : iE X.prog X.w (upd H x o) h' x o) : bE X pins σ (upd H x o) { s with heap := h', toks := t' } := I.un (Un.write mu he k heo) (I.hok.write mu he k heo new)
theorem bE.weak {σ' : List (Option V)} (I : bE X pins σ H s) (hl : σ'.length = σ.length) (w : ∀ (i : Nat) v, σ'[i]? = some (some v) → σ[i]? = some (some v)) : bE X pins σ' H s :=
 ⟨I.ok, I.os, I.bare, I.base, let ⟨m, hn, hl'⟩ := I.loc; ⟨m, hn, fun i x v e1 e2 e3 => hl' i x v e1 (w i v e2) e3⟩, I.cell, I.free, I.freeC, I.pin, I.hok, hl.trans I.len⟩
theorem bE.pins_of {pins' : List (Addr × Obj)} (I : bE X pins σ H s) (h : ∀ p ∈ pins', s.heap.get? p.1 = some p.2 ∧ H p.1 = none ∧ p.1 ≠ X.env.locals ∧ p.1 ∉ X.fs ∧ ∀ v, p.2.data ≠ .cell v) : bE X pins' σ H s :=
 ⟨I.ok, I.os, I.bare, I.base, I.loc, I.cell, I.free, I.freeC, fun p hp => (List.mem_append.mp hp).elim (fun z => I.pin p (List.mem_append_left _ z)) (h p), I.hok, I.len⟩
theorem aDE {N : List Str} (hN : N.Nodup) {i j : Nat} {x : Str} (a : N[i]? = some x) (b : N[j]? = some x) : i = j := by
 obtain ⟨h1, e1⟩ := List.getElem?_eq_some_iff.mp a
 obtain ⟨h2, e2⟩ := List.getElem?_eq_some_iff.mp b
 exact (List.getElem_inj hN).mp (e1.trans e2.symm)
theorem aA6 {M : Model} {A : Around} {E : Value → Shared → Prop} {i : Nat} {x : Str} {v : V} {u : Value} {Q : Unit → Shared → Prop} (I : bE X pins σ H s) (hN : X.N.Nodup) (hi : X.N[i]? = some x) (hx : Loc X.env.scope x) (r : dS v u)
  (h : ∀ s', bE X pins (σ.set i (some v)) H s' → (∃ a, Heap.SameBut a s.heap s'.heap ∧ (a = X.env.locals ∨ X.env.cells.lookup x = some a)) → Q () s') (hf : X.fn x = true ∨ X.env.scope.names.lookup x = some .local := by first | exact .inl rfl | exact .inr rfl | assumption) : wpAny M A (storeName X.env x u) Q E s := by
 obtain ⟨m, hn, hl⟩ := id I.loc
 have hcls : (X.env.scope.kind == .class || (X.env.scope.kind == .module && X.env.locals != X.env.globals)) = false := by rw [I.ok.kind]; rfl
 have hiσ : i < σ.length := by rw [I.len]; exact (List.getElem?_eq_some_iff.mp hi).1
 have cne := I.cne
 have tracked : ∀ {a : Addr} {h' : Heap}, (∃ o, s.heap.get? a = some o ∧ H a = none) → Heap.SameBut a s.heap h' → qV X.prog X.w H h' := fun {a h'} ha hs b ob e => by
  obtain ⟨_, _, hfree⟩ := ha
  refine (I.hok b ob e).stay (fun c w' hc q => (hs.2 c ?_).trans q) (fun _ q => q) (fun _ _ q => q) fun _ _ _ q => q
  rintro rfl
  rcases hc with rfl | hc
  ·rw [hfree] at e; cases e
  ·rw [hfree] at hc; cases hc
 rcases hx with hk | hk
 ·refine wpAny_storeName_local hk hn (fun h' hn' hs => ?_) hcls
  obtain ⟨oL, _, _, hoL, _⟩ := id hn
  refine h _ ⟨I.ok, I.os, I.bare, ⟨fun b o e n hb hx => ?_, fun b o e n hb hx => ?_, I.base.free, fun b o e hx => ?_, I.base.tups, I.base.frzs, I.base.tbls⟩, ⟨_, hn', fun j y v' e1 e2 e3 => ?_⟩, fun y c e => ?_, I.free, I.freeC, fun p hp => ?_, tracked ⟨oL, hoL, I.free⟩ hs, by simpa using I.len⟩ ⟨_, hs, .inl rfl⟩
  ·exact (hs.2 b (Nat.ne_of_lt (Nat.lt_of_lt_of_le (Heap.lt_size e) I.ok.above))).trans (I.base.keep b o e n hb hx)
  ·obtain ⟨sl, e1⟩ := I.base.slot b o e n hb hx
   exact ⟨sl, (hs.2 b (Nat.ne_of_lt (Nat.lt_of_lt_of_le (Heap.lt_size e) I.ok.above))).trans e1⟩
  ·obtain ⟨o', e1⟩ := I.base.there b o e hx
   exact ⟨o', (hs.2 b (Nat.ne_of_lt (Nat.lt_of_lt_of_le (Heap.lt_size e) I.ok.above))).trans e1⟩
  ·by_cases hj : j = i
   ·subst hj
    rw [hi] at e1; cases e1
    rw [List.getElem?_set_self hiσ] at e2
    cases e2
    exact ⟨u, r, .inl ⟨hk, by simp⟩⟩
   ·rw [List.getElem?_set_ne (Ne.symm hj)] at e2
    obtain ⟨u', r', q⟩ := hl j y v' e1 e2 e3
    refine ⟨u', r', ?_⟩
    rcases q with ⟨k, e⟩ | ⟨k, c, e, z⟩
    ·refine .inl ⟨k, ?_⟩
     have : y ≠ x := fun e => hj (aDE hN e1 (e ▸ hi))
     simp [this, e]
    ·exact .inr ⟨k, c, e, z.sameBut hs (cne y c e)⟩
  ·obtain ⟨w', z⟩ := I.cell y c e
   exact ⟨w', z.sameBut hs (cne y c e)⟩
  ·obtain ⟨e, n, ne, nf, d⟩ := I.pin p hp
   exact ⟨(hs.2 p.1 ne).trans e, n, ne, nf, d⟩
 ·have hfn : X.fn x = true := by
   rcases hf with z | z
   ·exact z
   ·rw [z] at hk; cases hk
  obtain ⟨c, hc⟩ := I.ok.has x (.inl hk)
  obtain ⟨w', z⟩ := I.cell x c hc
  refine wpAny_storeName_cell I.ok.kind hk hc z (fun h' hc' hs => ?_)
  obtain ⟨oc, hoc, hocd⟩ := id z
  refine h { s with heap := h' } ⟨I.ok, I.os, I.bare, ⟨fun b o e n hb hx => ?_, fun b o e n hb hx => ?_, I.base.free, fun b o e hx => ?_, I.base.tups, I.base.frzs, I.base.tbls⟩, ⟨m, hn.sameBut hs (Ne.symm (cne x c hc)), fun j y v' e1 e2 e3 => ?_⟩, fun y c' e => ?_, I.free, I.freeC, fun p hp => ?_, tracked ⟨oc, hoc, I.freeC x c hc⟩ hs, by simpa using I.len⟩ ⟨c, hs, .inr hc⟩
  ·exact (hs.2 b (Nat.ne_of_lt (Nat.lt_of_lt_of_le (Heap.lt_size e) (I.ok.cab x c hfn hc)))).trans (I.base.keep b o e n hb hx)
  ·obtain ⟨sl, e1⟩ := I.base.slot b o e n hb hx
   exact ⟨sl, (hs.2 b (Nat.ne_of_lt (Nat.lt_of_lt_of_le (Heap.lt_size e) (I.ok.cab x c hfn hc)))).trans e1⟩
  ·obtain ⟨o', e1⟩ := I.base.there b o e hx
   exact ⟨o', (hs.2 b (Nat.ne_of_lt (Nat.lt_of_lt_of_le (Heap.lt_size e) (I.ok.cab x c hfn hc)))).trans e1⟩
  ·by_cases hj : j = i
   ·subst hj
    rw [hi] at e1; cases e1
    rw [List.getElem?_set_self hiσ] at e2
    cases e2
    exact ⟨u, r, .inr ⟨.inl hk, c, hc, hc'⟩⟩
   ·rw [List.getElem?_set_ne (Ne.symm hj)] at e2
    obtain ⟨u', r', q⟩ := hl j y v' e1 e2 e3
    refine ⟨u', r', ?_⟩
    rcases q with q | ⟨k, c', e, z'⟩
    ·exact .inl q
    ·refine .inr ⟨k, c', e, z'.sameBut hs ?_⟩
     rintro rfl
     exact hj (aDE hN e1 (I.ok.inj _ _ _ e hc ▸ hi))
  ·by_cases hcc : c' = c
   ·subst hcc; exact ⟨_, hc'⟩
   ·obtain ⟨w2, z2⟩ := I.cell y c' e
    exact ⟨w2, z2.sameBut hs hcc⟩
  ·obtain ⟨e, n, ne, nf, d⟩ := I.pin p hp
   refine ⟨(hs.2 p.1 ?_).trans e, n, ne, nf, d⟩
   intro q
   rw [q, hoc] at e
   have q' : oc = p.2 := Option.some.inj e
   exact d w' (by rw [← q']; exact hocd)
theorem tL {M : Model} {A : Around} {E : Value → Shared → Prop} {i : Nat} {x : Str} {v : V} {u : Value} {Q : Unit → Shared → Prop} (I : bE X pins σ H s) (hN : X.N.Nodup) (hi : X.N[i]? = some x) (hx : Loc X.env.scope x) (r : dS v u)
  (h : ∀ s', bE X pins (σ.set i (some v)) H s' → Q () s') (hf : X.fn x = true ∨ X.env.scope.names.lookup x = some .local := by first | exact .inl rfl | exact .inr rfl | assumption) : wpAny M A (storeName X.env x u) Q E s :=
 aA6 I hN hi hx r (fun s' I' _ => h s' I') hf
theorem bE.call' {s' : Shared} {ch : List Addr} (I : bE X pins σ H s) (ho : s'.os = s.os) (u : Un (frs X.stack) ch H H' s.heap s'.heap) (hok : qV X.prog X.w H' s'.heap) (hg : AllBare s'.gens)
  (hch : ∀ b ∈ ch, (b ∈ X.ex ∨ X.s₀.heap.objs.size ≤ b) ∧ b ≠ X.env.locals ∧ (∀ x c, X.env.cells.lookup x = some c → c ≠ b) ∧ ∀ p ∈ X.pn ++ pins, p.1 ≠ b) : bE X pins σ H' s' := by
 obtain ⟨h', g', d', t', o'⟩ := s'
 have e : o' = s.os := ho
 subst e
 exact I.call (g' := g') (t' := t') (d' := d') u hok hg hch
end
abbrev XK := Value → Option Addr → Hp → Prop
abbrev St := List (Option V)
abbrev VK := V → Hp → Prop
abbrev TE := St → Hp → VK → Prop
abbrev TT := St → Hp → (Bool → Hp → Prop) → Prop
abbrev TA := St → Hp → (List V → Hp → Prop) → Prop
structure aDd where
 nx : St → Hp → Prop
 rt : VK
 bk : St → Hp → Prop := fun _ _ => False
 ct : St → Hp → Prop := fun _ _ => False
abbrev TS := aDd → St → Hp → Prop
def EP (X : Cx) (pins : List (Addr × Obj)) (σ : St) (Q : VK) (u : Value) (s' : Shared) : Prop := ∃ v H', bE X pins σ H' s' ∧ dS v u ∧ Q v H'
def TP (X : Cx) (pins : List (Addr × Obj)) (σ : St) (Q : Bool → Hp → Prop) (b : Bool) (s' : Shared) : Prop := ∃ H', bE X pins σ H' s' ∧ Q b H'
def AP (X : Cx) (pins : List (Addr × Obj)) (σ : St) (Q : List V → Hp → Prop) (us : List Value) (s' : Shared) : Prop := ∃ vs H', bE X pins σ H' s' ∧ dE vs us ∧ Q vs H'
def SP (X : Cx) (pins : List (Addr × Obj)) (D : aDd) (f : Flow) (s' : Shared) : Prop :=
 match f with
 | .next => ∃ σ' H', bE X pins σ' H' s' ∧ D.nx σ' H'
 | .brk => ∃ σ' H', bE X pins σ' H' s' ∧ D.bk σ' H'
 | .cont => ∃ σ' H', bE X pins σ' H' s' ∧ D.ct σ' H'
 | .ret u => ∃ v σ' H', bE X pins σ' H' s' ∧ dS v u ∧ D.rt v H'
def PE (X : Cx) (e : Expr) (t : TE) : Prop :=
 ∀ (pins : List (Addr × Obj)) (s : Shared) (σ : St) (H : Hp) (Q : VK), bE X pins σ H s → t σ H Q → wpAny (model X.prog X.w) X.A (eval e X.env) (EP X pins σ Q) X.xe s
def PT (X : Cx) (e : Expr) (t : TT) : Prop :=
 ∀ (pins : List (Addr × Obj)) (s : Shared) (σ : St) (H : Hp) (Q : Bool → Hp → Prop), bE X pins σ H s → t σ H Q → wpAny (model X.prog X.w) X.A (isTrue e X.env (eval e X.env)) (TP X pins σ Q) X.xe s
def PW (X : Cx) (e : Expr) (t : TT) : Prop :=
 ∀ (whole : Sem Value) (pins : List (Addr × Obj)) (s : Shared) (σ : St) (H : Hp) (Q : Bool → Hp → Prop), bE X pins σ H s → t σ H Q → wpAny (model X.prog X.w) X.A (isTrue e X.env whole) (TP X pins σ Q) X.xe s
theorem PW.pt {X : Cx} {e : Expr} {t : TT} (h : PW X e t) : PT X e t := h _
def PA (X : Cx) (es : List Expr) (t : TA) : Prop :=
 ∀ (pos : Pos) (pins : List (Addr × Obj)) (s : Shared) (σ : St) (H : Hp) (Q : List V → Hp → Prop), bE X pins σ H s → t σ H Q → wpAny (model X.prog X.w) X.A (spliced (backTo pos (starEach es X.env))) (AP X pins σ Q) X.xe s
def PS (X : Cx) (st : Stmt) (t : TS) : Prop :=
 ∀ (pins : List (Addr × Obj)) (s : Shared) (σ : St) (H : Hp) (D : aDd), bE X pins σ H s → t D σ H → wpAny (model X.prog X.w) X.A (exec st X.env) (SP X pins D) X.xe s
def PSs (X : Cx) (st : List Stmt) (t : TS) : Prop :=
 ∀ (pins : List (Addr × Obj)) (s : Shared) (σ : St) (H : Hp) (D : aDd), bE X pins σ H s → t D σ H → wpAny (model X.prog X.w) X.A (execs st X.env) (SP X pins D) X.xe s
theorem gW {α : Type} {t : Sem α} {Q Q' : α → Shared → Prop} {M : Model} {A : Around} {E : Value → Shared → Prop} {s : Shared} (h : wpAny M A t Q E s) (hQ : ∀ a s, Q a s → Q' a s) : wpAny M A t Q' E s := wpAny_mono h hQ fun _ _ x => x
section
variable {X : Cx}
def aBQ (i : Nat) : TE := fun σ H Q => ∃ v, σ[i]? = some (some v) ∧ Q v H
def tC (v : V) : TE := fun _ H Q => Q v H
theorem aKS {i : Nat} {x : Str} {pos : Pos} (hN : X.N[i]? = some x) (hv : Vis X.env.scope x) (hd : (x == ("__debug__" : Str)) = false := by decide) (hcd : (x == ("__classdict__" : Str)) = false := by decide) : PE X (.Name x pos) (aBQ i) := by
 intro pins s σ H Q I h
 obtain ⟨v, e, h⟩ := h
 obtain ⟨m, hn, hl⟩ := I.loc
 obtain ⟨u, r, l⟩ := hl i x v hN e hv
 have fin : EP X pins σ Q u s := ⟨v, H, I, r, h⟩
 rcases l with ⟨hk, hm⟩ | ⟨hk, c, hc, hcell⟩
 ·exact wpAny_Name (wpAny_loadName_local I.ok.kind hk hn hm fin) hd
 ·rcases hk with hk | hk
  ·exact wpAny_Name (wpAny_loadName_cell I.ok.kind hk hc hcell fin) hd
  ·exact wpAny_Name (wpAny_loadName_free I.ok.kind hk hc hcell fin hcd) hd
theorem aLA {i j pos} : PE X (.Constant (.int i) j pos) (tC (.int i)) := fun _ _ _ H _ I h => wpAny_Constant_int ⟨.int i, H, I.tok _, ⟨_, rfl⟩, h⟩
theorem aMR {b j pos} : PE X (.Constant (.bool b) j pos) (tC (.bl b)) := fun _ _ _ H _ I h => Constant_bool ⟨.bl b, H, I, rfl, h⟩
theorem aLa {j pos} : PE X (.Constant .none j pos) (tC .non) := fun _ _ _ H _ I h => Constant_none ⟨.non, H, I, rfl, h⟩
theorem aLW {x j pos} : PE X (.Constant (.str x) j pos) (tC (.str x)) := fun _ _ _ H _ I h => Calls.Constant_str ⟨.str x, H, I.tok _, ⟨_, rfl⟩, h⟩
def Gl (X : Cx) (x : Str) : Prop := X.env.kindOf x = some .globalImplicit
theorem aBC {E : Value → Shared → Prop} {pins : List (Addr × Obj)} {s : Shared} {σ : St} {H : Hp} {x : Str} {u : Value} {pos : Pos} {Q : Value → Shared → Prop} (I : bE X pins σ H s) (hg : Gl X x) (hm : X.mg x = some u) (h : Q u s)
  (hd : (x == ("__debug__" : Str)) = false := by decide) : wpAny (model X.prog X.w) X.A (eval (.Name x pos) X.env) Q E s :=
 Calls.Name_function_global I.ok.kind hg (Calls.loadGlobal_global (by rw [I.ok.glob]; exact I.mod.glob.keeps I.bk) hm h) hd
theorem qK {E : Value → Shared → Prop} {pins : List (Addr × Obj)} {s : Shared} {σ : St} {H : Hp} {x : Str} {u : Value} {pos : Pos} {Q : Value → Shared → Prop} (I : bE X pins σ H s) (hg : Gl X x) (hm : X.mg x = none) (hv : bootBuiltins x = some u) (h : Q u s)
  (hn : x ≠ "__name__" := by decide) (hd : (x == ("__debug__" : Str)) = false := by decide) : wpAny (model X.prog X.w) X.A (eval (.Name x pos) X.env) Q E s := by
 obtain ⟨mb, h1, h2⟩ := I.mod.blt
 exact Calls.Name_function_global I.ok.kind hg (Calls.loadGlobal_builtin (by rw [I.ok.glob]; exact I.mod.glob.keeps I.bk) hm (by rw [I.ok.blt]; exact h1.keeps I.bk) ((h2 x hn).trans hv) h) hd
variable {a b : Expr} {ta tb : TE} {pos : Pos}
def PC (X : Cx) (op : CmpOp) (a b : Expr) (t : TE) : Prop :=
 ∀ (pins : List (Addr × Obj)) (s : Shared) (σ : St) (H : Hp) (Q : VK), bE X pins σ H s → t σ H Q →
  wpAny (model X.prog X.w) X.A (eval a X.env) (fun v s₁ => wpAny (model X.prog X.w) X.A (eval b X.env) (fun u s₂ => wpAny (model X.prog X.w) X.A (compareOp op v u) (EP X pins σ Q) X.xe s₂) X.xe s₁) X.xe s
def tB (t : TE) : TT := fun σ H Q => t σ H fun x H1 => ∃ c, x = .bl c ∧ Q c H1
theorem aLg {op : CmpOp} {t : TE} (h : PC X op a b t) (h1 : behindInMarks op b = false := by first | exact nobehind _ (by decide) (by decide) | rfl) : PT X (.Compare a [op] [b] pos) (tB t) := by
 intro pins s σ H Q I hw
 refine wpAny_isTrue_Compare1 (gW (h pins s σ H _ I hw) fun v s1 h1 => gW h1 fun u s2 h2 => gW h2 fun c s3 ⟨x, H1, I1, r1, q1⟩ => ?_) h1
 obtain ⟨d, rfl, q⟩ := q1
 cases r1
 exact wpAny_truthy_bool ⟨H1, I1, q⟩
variable {tA tB' : TT} {rest : List Expr}
def aNG (t u : TT) : TT := fun σ H Q => t σ H fun c H1 => if c = true then u σ H1 Q else Q false H1
def tOr (t u : TT) : TT := fun σ H Q => t σ H fun c H1 => if c = true then Q true H1 else u σ H1 Q
def aNq (t : TT) : TT := fun σ H Q => t σ H fun c H1 => Q (!c) H1
theorem aJa (ha : PT X a tA) : PW X (.BoolOp .And [a] pos) tA := by
 intro wh pins s σ H Q I h
 refine isTrue_and (gW (ha pins s σ H Q I h) fun c s1 e => ?_)
 cases c with
 | true => exact isTrue_and_nil e
 | false => exact e
theorem aLN (ha : PT X a tA) : PW X (.BoolOp .Or [a] pos) tA := by
 intro wh pins s σ H Q I h
 refine isTrue_or (gW (ha pins s σ H Q I h) fun c s1 e => ?_)
 cases c with
 | false => exact isTrue_or_nil e
 | true => exact e
theorem aLQ (ha : PT X a tA) (hb : PW X (.BoolOp .And (b :: rest) pos) tB') : PW X (.BoolOp .And (a :: b :: rest) pos) (aNG tA tB') := by
 intro wh pins s σ H Q I h
 refine isTrue_and (gW (ha pins s σ H _ I h) fun c s1 ⟨H1, I1, q1⟩ => ?_)
 cases c with
 | true => exact hb wh pins s1 σ H1 Q I1 q1
 | false => exact ⟨H1, I1, q1⟩
theorem aMI (ha : PT X a tA) (hb : PW X (.BoolOp .Or (b :: rest) pos) tB') : PW X (.BoolOp .Or (a :: b :: rest) pos) (tOr tA tB') := by
 intro wh pins s σ H Q I h
 refine isTrue_or (gW (ha pins s σ H _ I h) fun c s1 ⟨H1, I1, q1⟩ => ?_)
 cases c with
 | true => exact ⟨H1, I1, q1⟩
 | false => exact hb wh pins s1 σ H1 Q I1 q1
theorem aKO (ha : PT X a tA) : PT X (.UnaryOp .Not a pos) (aNq tA) := by
 intro pins s σ H Q I h
 exact isTrue_not (ha pins s σ H (fun c H1 => Q (!c) H1) I h)
def tIf (t : TT) (ta tb : TE) : TE := fun σ H Q => t σ H fun c H1 => if c = true then ta σ H1 Q else tb σ H1 Q
theorem aIF {c : Expr} (hc : PT X c tA) (ha : PE X a ta) (hb : PE X b tb) : PE X (.IfExp c a b pos) (tIf tA ta tb) := by
 intro pins s σ H Q I h
 refine wpAny_IfExp (gW (hc pins s σ H _ I h) fun d s1 ⟨H1, I1, q1⟩ => ?_)
 cases d with
 | true => exact ha pins s1 σ H1 Q I1 q1
 | false => exact hb pins s1 σ H1 Q I1 q1
end
def kK (K : PySem.W.Frag) (H : Hp) (a : Addr) (xs : List V) : Prop :=
 Rd H a (.lst xs) ∨
  ∃ (o : Obj) (its : Array Value) (n : Nat), K.lookup a = some o ∧ o.cls = .type "list" ∧ o.dict = none ∧ o.data = .seq its n ∧ its.size ≤ sizeLine ∧ dE xs its.toList
def jN (K : PySem.W.Frag) (H : Hp) (a : Addr) (xs : List V) : Prop :=
 Rd H a (.tup xs) ∨
  ∃ (o : Obj) (its : Array Value) (n : Nat), K.lookup a = some o ∧ o.cls = .type "tuple" ∧ o.data = .seq its n ∧ its.size ≤ sizeLine ∧ dE xs its.toList
def aNN : Value → Option V
 | .none => some .non
 | .bool b => some (.bl b)
 | .int i _ => some (.int i)
 | .str x _ => some (.str x)
 | .bytes b _ => some (.byt b)
 | .float b _ => some (.flt b)
 | .ref a => some (.ref a)
 | .type n => some (.ty n)
 | _ => none
theorem dS.abs {x : V} {u : Value} (r : dS x u) : aNN u = some x := by
 cases x with
 | non => cases r; rfl
 | bl _ => cases r; rfl
 | int _ => obtain ⟨t, rfl⟩ := r; rfl
 | str _ => obtain ⟨t, rfl⟩ := r; rfl
 | byt _ => obtain ⟨t, rfl⟩ := r; rfl
 | flt _ => obtain ⟨t, rfl⟩ := r; rfl
 | ref _ => cases r; rfl
 | ty _ => cases r; rfl
theorem dS.inj {x y : V} {u : Value} (r : dS x u) (q : dS y u) : x = y := Option.some.inj (r.abs.symm.trans q.abs)
theorem dE.inj : ∀ {xs ys : List V} {us : List Value}, dE xs us → dE ys us → xs = ys
 | _, _, _, .nil, .nil => rfl
 | _, _, _, .cons r t, .cons r' t' => by rw [r.inj r', dE.inj t t']
section
variable {X : Cx} {pins : List (Addr × Obj)} {σ : St} {H : Hp} {s : Shared} {a : Addr} {xs ys : List V}
theorem kK.of {K : PySem.W.Frag} (h : H a = some (.lst xs)) : kK K H a xs := .inl (.inl h)
theorem jN.of {K : PySem.W.Frag} (h : H a = some (.tup xs)) : jN K H a xs := .inl (.inl h)
theorem bE.list (I : bE X pins σ H s) (h : kK X.K H a xs) : ∃ its : List Value, dE xs its ∧ PlainL s.heap a its.toArray ∧ xs.length ≤ sizeLine := by
 rcases h with h | ⟨o, its, n, hk, hc, hd, hs, hz, r⟩
 ·obtain ⟨z, its, n, r, e⟩ := h.ok I.hok
  exact ⟨its, r, ⟨_, n, e, rfl, rfl, rfl⟩, z⟩
 ·refine ⟨its.toList, r, ⟨o, n, I.kIn a o hk, hc, hd, by simpa using hs⟩, ?_⟩
  have e := r.length
  simp only [Array.length_toList] at e
  omega
theorem bE.tuple (I : bE X pins σ H s) (h : jN X.K H a xs) : ∃ its : List Value, dE xs its ∧ IsTup s.heap a its.toArray ∧ xs.length ≤ sizeLine := by
 rcases h with h | ⟨o, its, n, hk, hc, hs, hz, r⟩
 ·obtain ⟨z, its, r, p⟩ := h.ok I.hok
  exact ⟨its, r, p, z⟩
 ·refine ⟨its.toList, r, ⟨o, I.kIn a o hk, hc, n, by simpa using hs⟩, ?_⟩
  have e := r.length
  simp only [Array.length_toList] at e
  omega
theorem bE.list_inj (I : bE X pins σ H s) (h : kK X.K H a xs) (h' : kK X.K H a ys) : xs = ys := by
 obtain ⟨its, r, ⟨o, n, e, _, _, d⟩, _⟩ := I.list h
 obtain ⟨its', r', ⟨o', n', e', _, _, d'⟩, _⟩ := I.list h'
 rw [e] at e'; cases e'
 rw [d] at d'
 injection d' with d1 _
 have : its = its' := by simpa using congrArg Array.toList d1
 subst this
 exact r.inj r'
theorem bE.tuple_inj (I : bE X pins σ H s) (h : jN X.K H a xs) (h' : jN X.K H a ys) : xs = ys := by
 obtain ⟨its, r, ⟨o, e, _, n, d⟩, _⟩ := I.tuple h
 obtain ⟨its', r', ⟨o', e', _, n', d'⟩, _⟩ := I.tuple h'
 rw [e] at e'; cases e'
 rw [d] at d'
 injection d' with d1 _
 have : its = its' := by simpa using congrArg Array.toList d1
 subst this
 exact r.inj r'
end
abbrev Cx.wish (X : Cx) (E : Value → Shared → Prop) : Cx := { X with xe := E }
abbrev Cx.nox (X : Cx) : Cx := X.wish fun _ _ => False
theorem Cx.Ok.wish {X : Cx} (ok : X.Ok) (E : Value → Shared → Prop) : (X.wish E).Ok :=
 ⟨ok.mod, ok.kind, ok.glob, ok.blt, ok.above, ok.inj, ok.has, ok.cab, ok.hd, ok.frames, ok.stk, ok.exf, ok.bs, ok.bsz, ok.noex, ok.exfs, ok.funs, ok.frf⟩
theorem Cx.Ok.unwish {X : Cx} {E : Value → Shared → Prop} (ok : (X.wish E).Ok) : X.Ok :=
 ⟨ok.mod, ok.kind, ok.glob, ok.blt, ok.above, ok.inj, ok.has, ok.cab, ok.hd, ok.frames, ok.stk, ok.exf, ok.bs, ok.bsz, ok.noex, ok.exfs, ok.funs, ok.frf⟩
section
variable {X : Cx} {pins : List (Addr × Obj)} {σ : St} {H : Hp} {s : Shared} {E : Value → Shared → Prop}
theorem bE.wish (I : bE X pins σ H s) (E : Value → Shared → Prop) : bE (X.wish E) pins σ H s := ⟨I.ok.wish E, I.os, I.bare, I.base, I.loc, I.cell, I.free, I.freeC, I.pin, I.hok, I.len⟩
theorem bE.unwish (I : bE (X.wish E) pins σ H s) : bE X pins σ H s := ⟨I.ok.unwish, I.os, I.bare, I.base, I.loc, I.cell, I.free, I.freeC, I.pin, I.hok, I.len⟩
theorem SP.unwish {D : aDd} {f : Flow} {s' : Shared} (h : SP (X.wish E) pins D f s') : SP X pins D f s' := by
 cases f with
 | next => obtain ⟨σ', H', I, q⟩ := h; exact ⟨σ', H', I.unwish, q⟩
 | brk => obtain ⟨σ', H', I, q⟩ := h; exact ⟨σ', H', I.unwish, q⟩
 | cont => obtain ⟨σ', H', I, q⟩ := h; exact ⟨σ', H', I.unwish, q⟩
 | ret u => obtain ⟨v, σ', H', I, r, q⟩ := h; exact ⟨v, σ', H', I.unwish, r, q⟩
theorem PSs.nox {st : List Stmt} {t : TS} (h : PSs X.nox st t) : PSs X st t := fun pins s σ H D I hw =>
 wpAny_mono (h pins s σ H D (I.wish _) hw) (fun _ _ q => q.unwish) fun _ _ z => False.elim z
end
section
variable {X : Cx} {st : Stmt} {rest : List Stmt} {t u : TS} {e : Expr} {te : TE} {pos : Pos}
def aMY : TS := fun D σ H => D.nx σ H
def aNo (t u : TS) : TS := fun D σ H => t { D with nx := u D } σ H
theorem aJs : PSs X [] aMY := fun _ _ σ H _ I h => wpAny_execs_nil ⟨σ, H, I, h⟩
theorem aDQ (h1 : PS X st t) (h2 : PSs X rest u) : PSs X (st :: rest) (aNo t u) := by
 intro pins s σ H D I h
 refine wpAny_execs_cons (gW (h1 pins s σ H { D with nx := u D } I h) fun f s1 q => ?_)
 cases f with
 | next =>
  obtain ⟨σ', H', I', q⟩ := q
  exact h2 pins s1 σ' H' D I' q
 | ret v => exact q
 | brk => exact q
 | cont => exact q
theorem aE7 (h1 : PS X st t) : PSs X [st] t := by
 intro pins s σ H D I h
 refine wpAny_execs_cons (gW (h1 pins s σ H D I h) fun f s1 q => ?_)
 cases f with
 | next => exact wpAny_execs_nil q
 | ret v => exact q
 | brk => exact q
 | cont => exact q
theorem bE.quiet {pins : List (Addr × Obj)} {σ : St} {H : Hp} {s : Shared} (I : bE X pins σ H s) : interactive X.env = false := by simp [interactive, I.ok.kind]
def aG9 (te : TE) : TS := fun D σ H => te σ H fun _ H1 => D.nx σ H1
theorem uA (he : PE X e te) (hs : swapsWith e none pos.line X.env = pure false := by rfl) : PS X (.Expr e pos) (aG9 te) := by
 intro pins s σ H D I h
 exact wpAny_Expr_any (gW (he pins s σ H _ I h) fun v s1 ⟨x, H1, I1, r1, q1⟩ => ⟨σ, H1, I1, q1⟩) I.quiet hs
def aNp (te : TE) : TS := fun D σ H => te σ H D.rt
theorem aHM (he : PE X e te) : PS X (.Return (some e) pos) (aNp te) := by
 intro pins s σ H D I h
 exact wpAny_Return_some (gW (he pins s σ H _ I h) fun v s1 ⟨x, H1, I1, r1, q1⟩ => ⟨x, σ, H1, I1, r1, q1⟩)
def aNO (c : TT) (t u : TS) : TS := fun D σ H => c σ H fun b H1 => if b = true then t D σ H1 else u D σ H1
theorem aKr {c : Expr} {a b : List Stmt} {tc : TT} (hc : PT X c tc) (ha : PSs X a t) (hb : PSs X b u) : PS X (.If c a b pos) (aNO tc t u) := by
 intro pins s σ H D I h
 refine wpAny_If (gW (hc pins s σ H _ I h) fun d s1 ⟨H1, I1, q1⟩ => ?_)
 cases d with
 | true => exact ha pins s1 σ H1 D I1 q1
 | false => exact hb pins s1 σ H1 D I1 q1
end
abbrev TG := V → St → Hp → (St → Hp → Prop) → Prop
abbrev TGs := List V → St → Hp → (St → Hp → Prop) → Prop
def PG (X : Cx) (target : Expr) (t : TG) : Prop :=
 ∀ (pins : List (Addr × Obj)) (s : Shared) (σ : St) (H : Hp) (v : V) (u : Value) (Q : St → Hp → Prop), bE X pins σ H s → dS v u → t v σ H Q →
  wpAny (model X.prog X.w) X.A (assign target X.env u) (fun _ s' => ∃ σ' H', bE X pins σ' H' s' ∧ Q σ' H') X.xe s
def PGs (X : Cx) (ts : List Expr) (t : TGs) : Prop :=
 ∀ (pins : List (Addr × Obj)) (s : Shared) (σ : St) (H : Hp) (vs : List V) (us : List Value) (Q : St → Hp → Prop), bE X pins σ H s → dE vs us → t vs σ H Q →
  wpAny (model X.prog X.w) X.A (assignInOrder ((assignEach ts X.env).map (·.2)) us) (fun _ s' => ∃ σ' H', bE X pins σ' H' s' ∧ Q σ' H') X.xe s
section
variable {X : Cx} {pos : Pos}
def wH (i : Nat) : TG := fun v σ H Q => Q (σ.set i (some v)) H
theorem aH {i : Nat} {x : Str} (hN : X.N.Nodup) (hi : X.N[i]? = some x) (hx : Loc X.env.scope x) (hf : X.fn x = true ∨ X.env.scope.names.lookup x = some .local := by first | exact .inl rfl | exact .inr rfl | assumption) : PG X (.Name x pos) (wH i) := by
 intro pins s σ H v u Q I r h
 exact wpAny_assign_Name (tL I hN hi hx r (fun s' I' => ⟨_, H, I', h⟩) hf)
def aM6 : TGs := fun vs σ H Q => vs = [] ∧ Q σ H
def aHs (t : TG) (u : TGs) : TGs := fun vs σ H Q => ∃ v r, vs = v :: r ∧ t v σ H fun σ' H' => u r σ' H' Q
theorem k8 : PGs X [] aM6 := by
 intro pins s σ H vs us Q I r h
 obtain ⟨e, h⟩ := h
 subst e
 cases r
 exact assignInOrder_nil ⟨σ, H, I, h⟩
theorem dI {e : Expr} {es : List Expr} {t : TG} {u : TGs} (h1 : PG X e t) (h2 : PGs X es u)
  (hs : (assignEach (e :: es) X.env).map (·.2) = assign e X.env :: (assignEach es X.env).map (·.2) := by rfl) : PGs X (e :: es) (aHs t u) := by
 intro pins s σ H vs us Q I r h
 obtain ⟨v, vr, e1, h⟩ := h
 subst e1
 cases r with
 | cons r rr =>
  rw [hs]
  refine assignInOrder_cons (gW (h1 pins s σ H _ _ _ I r h) fun _ s1 ⟨σ1, H1, I1, q1⟩ => ?_)
  exact h2 pins s1 σ1 H1 _ _ Q I1 rr q1
def aMg (K : PySem.W.Frag) (n : Nat) (t : TGs) : TG := fun v σ H Q => ∃ a xs, v = .ref a ∧ jN K H a xs ∧ xs.length = n ∧ t xs σ H Q
theorem n6 {es : List Expr} {k : Nat} {t : TGs} {n : Nat} (hc : X.calm = true) (h : PGs X es t)
  (hn : (assignEach es X.env).length = n := by rfl) (hst : (assignEach es X.env).findIdx? (·.1) = none := by rfl) : PG X (.Tuple es k pos) (aMg X.K n t) := by
 intro pins s σ H v u Q I r hw
 obtain ⟨a, xs, e1, hq, hl, hw⟩ := hw
 subst e1
 cases r
 obtain ⟨its, rv, ht, hz⟩ := I.tuple hq
 refine assign_Tuple_tuple (I.ok.hd hc) ht (by simp [hn, ← hl, rv.length]) hst fun h' hx => ?_
 have I1 : bE X pins σ H { s with heap := h' } := I.kept (t' := s.toks) fun b o e => hx b o (Nat.ne_of_lt (Heap.lt_size e)) e
 exact h pins _ σ H xs _ Q I1 (by simpa using rv) hw
def aEH (te : TE) (g : TG) : TS := fun D σ H => te σ H fun x H1 => g x σ H1 D.nx
theorem aZ {tg e : Expr} {te : TE} {g : TG} (he : PE X e te) (hg : PG X tg g) (hs : swapsWithSole [tg] e pos.line X.env = pure false := by rfl) (hw : swappedStores [tg] e X.env = pure none := by rfl)
  (h1 : (assignEach [tg] X.env).map (·.2) = [assign tg X.env] := by rfl) : PS X (.Assign [tg] e pos) (aEH te g) := by
 intro pins s σ H D I h
 refine wpAny_Assign_stores (gW (he pins s σ H _ I h) fun v s1 ⟨x, H1, I1, r1, q1⟩ => ?_) hs hw
 rw [h1]
 exact gW (hg pins s1 σ H1 x v _ I1 r1 q1) fun _ s2 q => q
theorem sF {i : Nat} {x : Str} {e : Expr} {te : TE} {pos' : Pos} (hN : X.N.Nodup) (hi : X.N[i]? = some x) (hx : Loc X.env.scope x) (he : PE X e te) (hs : swapsWith e (some (.Name x pos')) pos.line X.env = pure false := by rfl) (hf : X.fn x = true ∨ X.env.scope.names.lookup x = some .local := by first | exact .inl rfl | exact .inr rfl | assumption) :
  PS X (.Assign [.Name x pos'] e pos) (aEH te (wH i)) := by
 intro pins s σ H D I h
 refine wpAny_Assign_Name (gW (he pins s σ H _ I h) fun v s1 ⟨y, H1, I1, r1, q1⟩ => ?_) hs
 exact tL I1 hN hi hx r1 (fun s2 I2 => ⟨_, H1, I2, q1⟩) hf
def aMW (i j : Nat) (ta : TA) : TS := fun D σ H => ta σ H fun vs H1 => ∃ v w, vs = [v, w] ∧ D.nx ((σ.set i (some v)).set j (some w)) H1
theorem aLy {i j : Nat} {x y : Str} {a b : Expr} {ta : TA} {px py pt : Pos} {kt k2 pt2} (hc : X.calm = true) (hN : X.N.Nodup) (hi : X.N[i]? = some x) (hj : X.N[j]? = some y) (hij : i ≠ j)
  (hx : X.env.scope.names.lookup x = some .local) (hy : X.env.scope.names.lookup y = some .local) (ha : PA X [a, b] ta)
  (hw : swappedStores [.Tuple [.Name x px, .Name y py] kt pt] (.Tuple [a, b] k2 pt2) X.env = pure (some [x, y]))
  (hs : swapsWithSole [.Tuple [.Name x px, .Name y py] kt pt] (.Tuple [a, b] k2 pt2) pos.line X.env = pure false := by rfl) :
  PS X (.Assign [.Tuple [.Name x px, .Name y py] kt pt] (.Tuple [a, b] k2 pt2) pos) (aMW i j ta) := by
 intro pins s σ H D I h
 rw [exec_Assign_arm]
 refine wpAny_bind (wpAny_standAt ?_)
 rw [hs]
 refine wpAny_bind (wpAny_pure ?_)
 rw [if_neg (by decide)]
 refine wpAny_bind (Tuple_ (gW (ha _ pins s σ H _ I h) fun us s1 ⟨vs, H1, I1, r1, q1⟩ => ?_))
 obtain ⟨v, w, e1, q1⟩ := q1
 subst e1
 obtain ⟨u1, u2, rfl, rv, rw'⟩ : ∃ u1 u2, us = [u1, u2] ∧ dS v u1 ∧ dS w u2 := by
  cases r1 with
  | cons p q =>
   cases q with
   | cons p' q' =>
    cases q'
    exact ⟨_, _, rfl, p, p'⟩
 refine wpAny_newObj_type ?_ (by show 2 ≤ sizeLine; decide)
 have I2 : bE X pins σ H1 { s1 with heap := s1.heap.push { cls := .type "tuple", data := .seq [u1, u2].toArray } } := I1.kept (t' := s1.toks) fun b o e => Heap.get?_push_of_some _ e
 rw [hw]
 refine wpAny_bind (wpAny_pure ?_)
 show wpAny (model X.prog X.w) X.A (do rule "assign.swapped-stores"; let items ← unpackItems (.ref s1.heap.objs.size) 2 none; assignInOrder [fun v => bindName X.env y v, fun v => bindName X.env x v] items.reverse; pure Flow.next) _ _ _
 refine wpAny_bind (wpAny_rule (wpAny_bind (unpackItems_tuple (items := #[u1, u2]) (I.ok.hd hc) (IsTup.new s1.heap _) fun h' hx' => ?_)))
 have I3 := I2.kept (h' := h') (t' := s1.toks) fun b o e => hx' b o (Nat.ne_of_lt (Heap.lt_size e)) e
 show wpAny _ _ (assignInOrder [fun v => bindName X.env y v, fun v => bindName X.env x v] [u2, u1] >>= fun _ => pure Flow.next) _ _ _
 refine wpAny_bind (assignInOrder_cons (wpAny_bindName (tL I3 hN hj (.inl hy) rw' (fun s2 I4 => ?_) (.inr hy))))
 refine assignInOrder_cons (wpAny_bindName (tL I4 hN hi (.inl hx) rv (fun s3 I5 => assignInOrder_nil (wpAny_pure ?_)) (.inr hx)))
 rw [List.set_comm _ _ (Ne.symm hij)] at I5
 exact ⟨_, H1, I5, q1⟩
end
section
variable {X : Cx} {pos : Pos}
def aLL (c : TT) (tb : TS) : TS := fun D σ H => ∃ W : Nat → St → Hp → Prop, (∃ m, W m σ H) ∧ ∀ m σ H, W m σ H →
 c σ H fun b H1 => if b = true then ∃ N : St → Hp → Prop, (∀ σ' H', N σ' H' → ∃ m', m' < m ∧ W m' σ' H') ∧ tb { D with nx := N, ct := N, bk := D.nx } σ H1 else D.nx σ H1
theorem aIv {c : Expr} {body : List Stmt} {tc : TT} {tb : TS} (hp : PassesOwn (model X.prog X.w) X.A X.env X.xe) (hc : PT X c tc) (hb : PSs X body tb) : PS X (.While c body [] pos) (aLL tc tb) := by
 intro pins s σ H D I h
 obtain ⟨W, ⟨m0, w0⟩, turn⟩ := h
 refine wpAny_While (codeAny_whileLoop (fun n s' => ∃ σ' H', bE X pins σ' H' s' ∧ W n σ' H') ?_ m0 ⟨σ, H, I, w0⟩)
 rintro n s1 ⟨σ1, H1, I1, w1⟩
 refine wpAny_passesOwn hp (gW (hc pins s1 σ1 H1 _ I1 (turn n σ1 H1 w1)) fun b s2 ⟨H2, I2, q2⟩ => ?_)
 cases b with
 | true =>
  obtain ⟨N, hN, q2⟩ := q2
  rw [if_pos rfl]
  refine wpAny_passesOwn hp (gW (hb pins s2 σ1 H2 _ I2 q2) fun f s3 q3 => ?_)
  cases f with
  | next =>
   obtain ⟨σ3, H3, I3, n3⟩ := q3
   obtain ⟨m', hm, w3⟩ := hN σ3 H3 n3
   exact ⟨m', hm, σ3, H3, I3, w3⟩
  | cont =>
   obtain ⟨σ3, H3, I3, n3⟩ := q3
   obtain ⟨m', hm, w3⟩ := hN σ3 H3 n3
   exact ⟨m', hm, σ3, H3, I3, w3⟩
  | brk => exact q3
  | ret v => exact q3
 | false =>
  rw [if_neg Bool.false_ne_true]
  exact wpAny_execs_nil ⟨σ1, H2, I2, q2⟩
end
structure It where
 go : Nat → Hp → Prop
 yld : Nat → Hp → V → Hp → Prop
 stop : Nat → Hp → Prop
def nB (X : Cx) (pins : List (Addr × Obj)) (H : Hp) (b : Addr) : Prop :=
 H b = none ∧ b ≠ X.env.locals ∧ b ∉ X.fs ∧ (b ∈ X.ex ∨ X.s₀.heap.objs.size ≤ b) ∧ (∀ x c, X.env.cells.lookup x = some c → c ≠ b) ∧ ∀ p ∈ X.pn ++ pins, p.1 ≠ b
theorem bE.fpOk {X : Cx} {pins : List (Addr × Obj)} {σ : St} {H H' : Hp} {s : Shared} {b : Addr} (I : bE X pins σ H s) (hb : s.heap.objs.size ≤ b) (hn : H' b = none) : nB X pins H' b := by
 refine ⟨hn, Nat.ne_of_gt (Nat.lt_of_lt_of_le I.lt hb), I.nofs hb, .inr (Nat.le_trans I.sz hb), fun x c e z => ?_, fun p hp z => ?_⟩
 ·obtain ⟨v, q⟩ := I.cell x c e
  exact absurd (Nat.lt_of_lt_of_le q.lt (by rw [z]; exact hb)) (Nat.lt_irrefl _)
 ·exact absurd (Nat.lt_of_lt_of_le (Heap.lt_size (I.pin p hp).1) (by rw [z]; exact hb)) (Nat.lt_irrefl _)
structure aB0 (P : Program) (w : World) (K : PySem.W.Frag) (tg : Expr) (J : It) (fp : List Addr) (it : Addr) (tn : Nat → Heap → Prop) : Prop where
 mem : it ∈ fp
 obj : ∀ i h, tn i h → ∀ b ∈ fp, ∃ o, h.get? b = some o ∧ ∀ v, o.data ≠ .cell v
 keep : ∀ i h h', tn i h → (∀ b ∈ fp, ∀ o, h.get? b = some o → h'.get? b = some o) → tn i h'
 item : ∀ (X : Cx), X.prog = P → X.w = w → X.K = K → X.calm = true → ∀ (i : Nat) (pins : List (Addr × Obj)) (s : Shared) (σ : St) (H : Hp) (E : Value → Shared → Prop), bE X pins σ H s → (∀ b ∈ fp, nB X pins H b) → tn i s.heap → J.go i H →
  wpAny (model P w) X.A (pyNext (.ref it)) (fun r s1 => ∃ u, r = some u ∧
   wpAny (model P w) X.A (letOwnedTupleGo tg (.ref it) u) (fun _ s2 => ∃ x H', bE X pins σ H' s2 ∧ dS x u ∧ J.yld i H x H' ∧ tn (i + 1) s2.heap ∧ ∀ b ∈ fp, H' b = none) E s1) E s
 done : ∀ (X : Cx), X.prog = P → X.w = w → X.K = K → X.calm = true → ∀ (i : Nat) (pins : List (Addr × Obj)) (s : Shared) (σ : St) (H : Hp) (E : Value → Shared → Prop), bE X pins σ H s → (∀ b ∈ fp, nB X pins H b) → tn i s.heap → J.stop i H →
  wpAny (model P w) X.A (pyNext (.ref it)) (fun r s1 => r = none ∧ bE X pins σ H s1) E s
 self : ∀ (A : Around) (i : Nat) (s : Shared) (Q : Value → Shared → Prop) (E : Value → Shared → Prop), tn i s.heap → Q (.ref it) s → wpAny (model P w) A (pyIter (.ref it)) Q E s
abbrev TI := St → Hp → (It → Hp → Prop) → Prop
def PIE (X : Cx) (pins : List (Addr × Obj)) (σ : St) (tg : Expr) (R : It → Hp → Prop) (itv : Value) (s2 : Shared) : Prop :=
 ∃ (it : Addr) (fp : List Addr) (tn : Nat → Heap → Prop) (J : It) (H' : Hp), itv = .ref it ∧ bE X pins σ H' s2 ∧ aB0 X.prog X.w X.K tg J fp it tn ∧ tn 0 s2.heap ∧ (∀ b ∈ fp, nB X pins H' b) ∧ R J H'
def PI (X : Cx) (tg iter : Expr) (wi : TI) : Prop :=
 ∀ (pins : List (Addr × Obj)) (s : Shared) (σ : St) (H : Hp) (R : It → Hp → Prop), bE X pins σ H s → wi σ H R →
  wpAny (model X.prog X.w) X.A (eval iter X.env) (fun v s1 => wpAny (model X.prog X.w) X.A (pyIter v) (PIE X pins σ tg R) X.xe s1) X.xe s
theorem aDk {M : Model} {A : Around} {E : Value → Shared → Prop} {s : Shared} {tg : Expr} {it : Addr} {u : Value} {o : Obj} {n : String} {vs : Array Value} {Q : Unit → Shared → Prop} (ho : s.heap.get? it = some o) (hc : o.cls = .type n) (hd : o.data = .fields vs)
  (hn : ["enumerate", "zip", "dict_itemiterator", "dict_reverseitemiterator", "odict_iterator", "itertools.zip_longest", "itertools.pairwise"].contains n = false) (hQ : Q () s) : wpAny M A (letOwnedTupleGo tg (.ref it) u) Q E s := by
 unfold letOwnedTupleGo
 cases tg <;> first
  | exact wpAny_pure hQ
  | (cases u <;> first
    | exact wpAny_pure hQ
    | (refine wpAny_bind (wpAny_load ho ?_); rw [hc, hd]; show wpAny M A (if (["enumerate", "zip", "dict_itemiterator", "dict_reverseitemiterator", "odict_iterator", "itertools.zip_longest", "itertools.pairwise"].contains n && vs[0]? == some (rawInt _)) = true then _ else _) Q E s; rw [if_neg (by intro h; rw [hn, Bool.false_and] at h; cases h)]; exact wpAny_pure hQ))
def Itl (K : PySem.W.Frag) (a : Addr) : It :=
 ⟨fun i H => ∃ xs x, kK K H a xs ∧ xs[i]? = some x, fun i H x H' => H' = H ∧ ∀ xs, kK K H a xs → xs[i]? = some x, fun i H => ∃ xs, kK K H a xs ∧ xs.length ≤ i⟩
def Itt (K : PySem.W.Frag) (a : Addr) : It :=
 ⟨fun i H => ∃ xs x, jN K H a xs ∧ xs[i]? = some x, fun i H x H' => H' = H ∧ ∀ xs, jN K H a xs → xs[i]? = some x, fun i H => ∃ xs, jN K H a xs ∧ xs.length ≤ i⟩
def Itr (lo : Int) (n : Nat) : It := ⟨fun i _ => i < n, fun i H x H' => H' = H ∧ x = .int (lo + i), fun i _ => n ≤ i⟩
theorem aAV {P : Program} {w : World} {K : PySem.W.Frag} {tg : Expr} (a it : Addr) : aB0 P w K tg (Itl K a) [it] it (fun i h => h.IsListIter it a i) where
 mem := by simp
 obj := fun i h st b hb => by
  have e : b = it := by simpa using hb
  subst e
  obtain ⟨o, e, c, d⟩ := st
  exact ⟨o, e, fun v z => by rw [d] at z; cases z⟩
 keep := fun i h h' st k => st.at fun o e => k it (by simp) o e
 item := by
  intro X hP hw hK hc i pins s σ H E I hf st hg
  subst hP hw hK
  obtain ⟨xs, x, hq, hx⟩ := hg
  obtain ⟨its, rv, p, hz⟩ := I.list hq
  obtain ⟨u, hu, ru⟩ := rv.get hx
  obtain ⟨f0, f1, f2, f3, f4, f5⟩ := hf it (by simp)
  refine wpAny_pyNext_list_item st p.isList (x := u) (by simpa using hu) fun h' st' sb => ?_
  have I1 : bE X pins σ H { s with heap := h' } := I.turned (t' := s.toks) (fun b o hb e => (sb.2 b hb).trans e) f0 f1 f3 f4 f5
  obtain ⟨o, e, c, d⟩ := id st'
  exact ⟨u, rfl, aDk (s := { s with heap := h' }) e c d (by decide) ⟨x, H, I1, ru, ⟨rfl, fun ys hy => by rw [I.list_inj hy hq]; exact hx⟩, st', fun b hb => (hf b hb).1⟩⟩
 done := by
  intro X hP hw hK hc i pins s σ H E I hf st hg
  subst hP hw hK
  obtain ⟨xs, hq, hx⟩ := hg
  obtain ⟨its, rv, p, hz⟩ := I.list hq
  obtain ⟨f0, f1, f2, f3, f4, f5⟩ := hf it (by simp)
  have hl := rv.length
  exact wpAny_pyNext_list_end (I.ok.hd hc) st p.isList (by simp; omega) fun h' eb => ⟨rfl, I.turned (t' := s.toks) (fun b o hb e => eb b o hb e) f0 f1 f3 f4 f5⟩
 self := fun _ _ _ _ _ st h => wpAny_pyIter_listiter st h
theorem zV {P : Program} {w : World} {K : PySem.W.Frag} {tg : Expr} (a it : Addr) : aB0 P w K tg (Itt K a) [it] it (fun i h => h.IsTupleIter it a i) where
 mem := by simp
 obj := fun i h st b hb => by
  have e : b = it := by simpa using hb
  subst e
  obtain ⟨o, e, c, d⟩ := st
  exact ⟨o, e, fun v z => by rw [d] at z; cases z⟩
 keep := fun i h h' st k => st.at fun o e => k it (by simp) o e
 item := by
  intro X hP hw hK hc i pins s σ H E I hf st hg
  subst hP hw hK
  obtain ⟨xs, x, hq, hx⟩ := hg
  obtain ⟨its, rv, p, hz⟩ := I.tuple hq
  obtain ⟨u, hu, ru⟩ := rv.get hx
  obtain ⟨f0, f1, f2, f3, f4, f5⟩ := hf it (by simp)
  refine wpAny_pyNext_tuple_item st (show s.heap.IsTuple a its.toArray from p) (x := u) (by simpa using hu) fun h' st' sb => ?_
  have I1 : bE X pins σ H { s with heap := h' } := I.turned (t' := s.toks) (fun b o hb e => (sb.2 b hb).trans e) f0 f1 f3 f4 f5
  obtain ⟨o, e, c, d⟩ := id st'
  exact ⟨u, rfl, aDk (s := { s with heap := h' }) e c d (by decide) ⟨x, H, I1, ru, ⟨rfl, fun ys hy => by rw [I.tuple_inj hy hq]; exact hx⟩, st', fun b hb => (hf b hb).1⟩⟩
 done := by
  intro X hP hw hK hc i pins s σ H E I hf st hg
  subst hP hw hK
  obtain ⟨xs, hq, hx⟩ := hg
  obtain ⟨its, rv, p, hz⟩ := I.tuple hq
  obtain ⟨f0, f1, f2, f3, f4, f5⟩ := hf it (by simp)
  have hl := rv.length
  exact wpAny_pyNext_tuple_end (I.ok.hd hc) st (show s.heap.IsTuple a its.toArray from p) (by simp; omega) fun h' eb => ⟨rfl, I.turned (t' := s.toks) (fun b o hb e => eb b o hb e) f0 f1 f3 f4 f5⟩
 self := fun _ _ _ _ _ st h => wpAny_pyIter_tupleiter st h
theorem aEf {P : Program} {w : World} {K : PySem.W.Frag} {tg : Expr} (it : Addr) (lo : Int) (n : Nat) : aB0 P w K tg (Itr lo n) [it] it (fun i h => IsRangeIter h it (lo + (i : Nat) * 1) ((n : Int) - (i : Nat)) 1) where
 mem := by simp
 obj := fun i h st b hb => by
  have e : b = it := by simpa using hb
  subst e
  exact ⟨_, st, fun v z => by
   have z' : Data.fields _ = Data.cell v := z
   cases z'⟩
 keep := fun i h h' st k => k it (by simp) _ st
 item := by
  intro X hP hw hK hc i pins s σ H E I hf st hg
  subst hP hw hK
  obtain ⟨f0, f1, f2, f3, f4, f5⟩ := hf it (by simp)
  have W := Walks.range (prog := X.prog) (w := X.w) (I.ok.hd hc) it lo 1 n
  refine W.item i s _ _ hg st fun v h' tk hv st' kk => ?_
  obtain ⟨t, rfl⟩ := hv
  have I1 : bE X pins σ H { s with heap := h', toks := tk } := I.turned (fun b o hb e => kk b o (by simpa using hb) e) f0 f1 f3 f4 f5
  refine ⟨_, rfl, aDk (s := { s with heap := h', toks := tk }) (n := "range_iterator") st' rfl rfl (by decide) ⟨.int (lo + i), H, I1, ⟨t, ?_⟩, ⟨rfl, rfl⟩, st', fun b hb => (hf b hb).1⟩⟩
  rw [Int.mul_one]
 done := by
  intro X hP hw hK hc i pins s σ H E I hf st hg
  subst hP hw hK
  obtain ⟨f0, f1, f2, f3, f4, f5⟩ := hf it (by simp)
  exact wpAny_pyNext_range_end (I.ok.hd hc) st (by have : n ≤ i := hg; omega) fun h' eb => ⟨rfl, I.turned (t' := s.toks) (fun b o hb e => eb b o hb e) f0 f1 f3 f4 f5⟩
 self := fun _ _ _ _ _ st h => wpAny_pyIter_rangeiter st h
section
variable {X : Cx} {tg : Expr}
def aMH (K : PySem.W.Frag) (tl : TE) : TI := fun σ H R => tl σ H fun x H1 => ∃ a, x = .ref a ∧ (∃ xs, kK K H1 a xs) ∧ R (Itl K a) H1
def aNM (K : PySem.W.Frag) (tl : TE) : TI := fun σ H R => tl σ H fun x H1 => ∃ a, x = .ref a ∧ (∃ xs, jN K H1 a xs) ∧ R (Itt K a) H1
theorem aKa {l : Expr} {tl : TE} (hl : PE X l tl) : PI X tg l (aMH X.K tl) := by
 intro pins s σ H R I h
 refine gW (hl pins s σ H _ I h) fun v s1 ⟨x, H1, I1, r1, q1⟩ => ?_
 obtain ⟨a, e, ⟨xs, hq⟩, q⟩ := q1
 subst e
 cases r1
 obtain ⟨its, rv, p, hz⟩ := I1.list hq
 refine wpAny_pyIter_list p.isList ?_
 refine ⟨s1.heap.objs.size, [s1.heap.objs.size], _, _, H1, rfl, I1.kept (t' := s1.toks) fun b o e => Heap.get?_push_of_some _ e, aAV a _, ⟨_, Heap.get?_push_size _ rfl, rfl, rfl⟩, fun b hb => ?_, q⟩
 have e : b = s1.heap.objs.size := by simpa using hb
 subst e
 exact I1.fpOk (Nat.le_refl _) (I1.hok.fresh (Nat.le_refl _))
theorem aLl {l : Expr} {tl : TE} (hl : PE X l tl) : PI X tg l (aNM X.K tl) := by
 intro pins s σ H R I h
 refine gW (hl pins s σ H _ I h) fun v s1 ⟨x, H1, I1, r1, q1⟩ => ?_
 obtain ⟨a, e, ⟨xs, hq⟩, q⟩ := q1
 subst e
 cases r1
 obtain ⟨its, rv, p, hz⟩ := I1.tuple hq
 refine wpAny_pyIter_tuple (show s1.heap.IsTuple a its.toArray from p) ?_
 refine ⟨s1.heap.objs.size, [s1.heap.objs.size], _, _, H1, rfl, I1.kept (t' := s1.toks) fun b o e => Heap.get?_push_of_some _ e, zV a _, ⟨_, Heap.get?_push_size _ rfl, rfl, rfl⟩, fun b hb => ?_, q⟩
 have e : b = s1.heap.objs.size := by simpa using hb
 subst e
 exact I1.fpOk (Nat.le_refl _) (I1.hok.fresh (Nat.le_refl _))
theorem aDG {pins : List (Addr × Obj)} {σ : St} {H : Hp} {s : Shared} {R : It → Hp → Prop} {E : Value → Shared → Prop} {lo hi : Int} {t u v : Tok} {tk : Nat} (I : bE X pins σ H s) (h1 : -(2 ^ 62) ≤ lo) (h2 : lo < 2 ^ 62) (h3 : -(2 ^ 62) ≤ hi) (h4 : hi < 2 ^ 62)
  (q : R (Itr lo (hi - lo).toNat) H) : wpAny (model X.prog X.w) X.A (pyIter (.ref s.heap.objs.size)) (PIE X pins σ tg R) E { s with heap := s.heap.push { cls := .type "range", data := .fields #[.int lo t, .int hi u, .int 1 v] }, toks := tk } := by
 refine wpAny_pyIter_range (IsRange.new ..) (small_one h1 h2 h3 h4) ?_
 have I1 : bE X pins σ H { s with heap := s.heap.push { cls := .type "range", data := .fields #[.int lo t, .int hi u, .int 1 v] }, toks := tk } := I.kept fun b o e => Heap.get?_push_of_some _ e
 refine ⟨(s.heap.push { cls := .type "range", data := .fields #[.int lo t, .int hi u, .int 1 v] }).objs.size, [(s.heap.push { cls := .type "range", data := .fields #[.int lo t, .int hi u, .int 1 v] }).objs.size], _, _, H, rfl,
  I1.kept (t' := tk) fun b o e => Heap.get?_push_of_some _ e, aEf _ lo (hi - lo).toNat, ?_, fun b hb => ?_, q⟩
 ·have e1 : lo + ((0 : Nat) : Int) * 1 = lo := by simp
  have e2 : (((hi - lo).toNat : Nat) : Int) - ((0 : Nat) : Int) = Builtin.Range.rangeSize lo hi 1 := by rw [rangeSize_one]; split <;> omega
  show IsRangeIter _ _ (lo + ((0 : Nat) : Int) * 1) ((((hi - lo).toNat : Nat) : Int) - ((0 : Nat) : Int)) 1
  rw [e1, e2]
  exact Heap.get?_push_size _ rfl
 ·have e : b = (s.heap.push { cls := .type "range", data := .fields #[.int lo t, .int hi u, .int 1 v] }).objs.size := by simpa using hb
  subst e
  exact I1.fpOk (Nat.le_refl _) (I1.hok.fresh (Nat.le_refl _))
def aM5 (ta : TA) : TI := fun σ H R => ta σ H fun vs H1 => ∃ j : Int, vs = [.int j] ∧ -(2 ^ 62) ≤ j ∧ j < 2 ^ 62 ∧ R (Itr 0 j.toNat) H1
def aKi (ta : TA) : TI := fun σ H R => ta σ H fun vs H1 => ∃ i j : Int, vs = [.int i, .int j] ∧ (-(2 ^ 62) ≤ i ∧ i < 2 ^ 62 ∧ -(2 ^ 62) ≤ j ∧ j < 2 ^ 62) ∧ R (Itr i (j - i).toNat) H1
theorem aGL {a : Expr} {ta : TA} {p pos : Pos} (hg : Gl X "range") (hm : X.mg "range" = none) (ha : PA X [a] ta) (hs : starEach [a] X.env = [(false, eval a X.env)] := by rfl) : PI X tg (.Call (.Name "range" p) [a] [] pos) (aM5 ta) := by
 intro pins s σ H R I h
 refine Call_ (qK I hg hm boot_range (PyProof.Rows.callWith_type1 (gW (ha pos pins s σ H _ I h) fun us s1 ⟨vs, H1, I1, r1, q1⟩ => ?_) hs rfl))
 obtain ⟨j, e, q1, q2, q⟩ := q1
 subst e
 cases r1 with
 | cons r rr =>
  cases rr
  obtain ⟨t, rfl⟩ := r
  exact call_range_1 (aDG I1 (by omega) (by omega) q1 q2 (by simpa using q))
theorem aFX {a b : Expr} {ta : TA} {p pos : Pos} (hg : Gl X "range") (hm : X.mg "range" = none) (ha : PA X [a, b] ta) (hs : starEach [a, b] X.env = [(false, eval a X.env), (false, eval b X.env)] := by rfl) (hs2 : starEach [b] X.env = [(false, eval b X.env)] := by rfl) :
  PI X tg (.Call (.Name "range" p) [a, b] [] pos) (aKi ta) := by
 intro pins s σ H R I h
 refine Call_ (qK I hg hm boot_range (PyProof.Rows.callWith_type1 (gW (ha pos pins s σ H _ I h) fun us s1 ⟨vs, H1, I1, r1, q1⟩ => ?_) (by rw [hs, hs2]) (by rw [hs2]; rfl)))
 obtain ⟨i, j, e, ⟨q1, q2, q3, q4⟩, q⟩ := q1
 subst e
 cases r1 with
 | cons r rr =>
  cases rr with
  | cons r' rr =>
   cases rr
   obtain ⟨t, rfl⟩ := r
   obtain ⟨t', rfl⟩ := r'
   exact call_range_2 (aDG I1 q1 q2 q3 q4 q)
def aNE (wi : TI) (g : TG) (tb : TS) : TS := fun D σ H => wi σ H fun J H1 => ∃ W : Nat → Nat → St → Hp → Prop, (∃ m, W 0 m σ H1) ∧ ∀ i m σ H, W i m σ H →
 (J.stop i H ∧ D.nx σ H) ∨ (J.go i H ∧ ∃ N : St → Hp → Prop, (∀ σ' H', N σ' H' → ∃ m', m' < m ∧ W (i + 1) m' σ' H') ∧ ∀ x H', J.yld i H x H' → g x σ H' fun σ2 H2 => tb { D with nx := N, ct := N, bk := D.nx } σ2 H2)
def aAc (fp : List Addr) (h : Heap) : List (Addr × Obj) := fp.filterMap fun b => (h.get? b).map fun o => (b, o)
theorem oY {fp : List Addr} {h : Heap} {b : Addr} {o : Obj} (hb : b ∈ fp) (e : h.get? b = some o) : (b, o) ∈ aAc fp h := List.mem_filterMap.mpr ⟨b, hb, by rw [e]; rfl⟩
theorem aGB {fp : List Addr} {h : Heap} {p : Addr × Obj} (hp : p ∈ aAc fp h) : p.1 ∈ fp ∧ h.get? p.1 = some p.2 := by
 obtain ⟨b, hb, e⟩ := List.mem_filterMap.mp hp
 cases q : h.get? b with
 | none => rw [q] at e; cases e
 | some o =>
  rw [q] at e
  have e' : (b, o) = p := Option.some.inj e
  subst e'
  exact ⟨hb, q⟩
theorem bE.pinned {pins : List (Addr × Obj)} {σ : St} {H : Hp} {s : Shared} {fp : List Addr} (I : bE X pins σ H s) (hf : ∀ b ∈ fp, nB X pins H b) (ho : ∀ b ∈ fp, ∃ o, s.heap.get? b = some o ∧ ∀ v, o.data ≠ .cell v) : bE X (pins ++ aAc fp s.heap) σ H s :=
 I.pins_of fun p hp => (List.mem_append.mp hp).elim (fun z => I.pin p (List.mem_append_right _ z)) fun z => by
  obtain ⟨hb, e⟩ := aGB z
  obtain ⟨f0, f1, f2, _⟩ := hf p.1 hb
  obtain ⟨o, e', d⟩ := ho p.1 hb
  rw [e] at e'; cases e'
  exact ⟨e, f0, f1, f2, d⟩
theorem bE.unpinned {pins pl : List (Addr × Obj)} {σ : St} {H : Hp} {s : Shared} (I : bE X (pins ++ pl) σ H s) : bE X pins σ H s := I.pins_of fun p hp => I.pin p (List.mem_append_right _ (List.mem_append_left _ hp))
theorem aLT {iter : Expr} {body : List Stmt} {wi : TI} {g : TG} {tb : TS} {pos : Pos} (hp : PassesOwn (model X.prog X.w) X.A X.env X.xe) (hc : X.calm = true) (hi : PI X tg iter wi) (hg : PG X tg g) (hb : PSs X body tb)
  (hs : ∀ x, foldedSetIterable iter X.env x = pure x := by intro _; rfl) : PS X (.For tg iter body [] pos) (aNE wi g tb) := by
 intro pins s σ H D I h
 refine wpAny_For (gW (hi pins s σ H _ I h) fun v s1 h1 => gW h1 fun itv s2 h2 => ?_) hs
 obtain ⟨it, fp, tn, J, H2, e, I2, T, st2, f2, W, ⟨m0, w0⟩, turn⟩ := h2
 subst e
 have stat : ∀ {H' : Hp}, (∀ b ∈ fp, H' b = none) → ∀ b ∈ fp, nB X pins H' b := fun hn b hb => ⟨hn b hb, (f2 b hb).2⟩
 refine codeAny_forLoop_any (fun n s' => ∃ i σ' H', bE X pins σ' H' s' ∧ tn i s'.heap ∧ (∀ b ∈ fp, H' b = none) ∧ W i n σ' H') ?_ m0 ⟨0, σ, H2, I2, st2, fun b hb => (f2 b hb).1, w0⟩
 rintro n s3 ⟨i, σ3, H3, I3, st3, fr3, w3⟩
 rcases turn i n σ3 H3 w3 with ⟨stop, qn⟩ | ⟨go, N, hN, step⟩
 ·refine wpAny_passesOwn hp (gW (T.done X rfl rfl rfl hc i pins s3 σ3 H3 X.xe I3 (stat fr3) st3 stop) fun r s4 ⟨hr, I4⟩ => ?_)
  subst hr
  exact wpAny_execs_nil ⟨σ3, H3, I4, qn⟩
 ·refine wpAny_passesOwn hp (gW (T.item X rfl rfl rfl hc i pins s3 σ3 H3 X.xe I3 (stat fr3) st3 go) fun r s4 ⟨u, hr, h4⟩ => ?_)
  subst hr
  refine wpAny_passesOwn hp (gW h4 fun _ s5 ⟨x, H5, I5, r5, y5, st5, fr5⟩ => ?_)
  have I5' := I5.pinned (stat fr5) (T.obj _ _ st5)
  refine wpAny_passesOwn hp (gW (hg _ s5 σ3 H5 x u _ I5' r5 (step x H5 y5)) fun _ s6 ⟨σ6, H6, I6, q6⟩ => ?_)
  refine wpAny_passesOwn hp (gW (hb _ s6 σ6 H6 _ I6 q6) fun f s7 q7 => ?_)
  have again : ∀ {σ7 : St} {H7 : Hp}, bE X (pins ++ aAc fp s5.heap) σ7 H7 s7 → N σ7 H7 → ∃ m, m < n ∧ ∃ i σ' H', bE X pins σ' H' s7 ∧ tn i s7.heap ∧ (∀ b ∈ fp, H' b = none) ∧ W i m σ' H' := fun {σ7 H7} I7 n7 => by
   obtain ⟨m', hm, w7⟩ := hN σ7 H7 n7
   refine ⟨m', hm, i + 1, σ7, H7, I7.unpinned, T.keep _ _ _ st5 fun b hb o e => (I7.pin (b, o) (List.mem_append_right _ (List.mem_append_right _ (oY hb e)))).1, fun b hb => ?_, w7⟩
   obtain ⟨o, e, d⟩ := T.obj _ _ st5 b hb
   exact (I7.pin (b, o) (List.mem_append_right _ (List.mem_append_right _ (oY hb e)))).2.1
  cases f with
  | next => obtain ⟨σ7, H7, I7, n7⟩ := q7; exact again I7 n7
  | cont => obtain ⟨σ7, H7, I7, n7⟩ := q7; exact again I7 n7
  | brk => obtain ⟨σ7, H7, I7, q7⟩ := q7; exact ⟨σ7, H7, I7.unpinned, q7⟩
  | ret v => obtain ⟨x7, σ7, H7, I7, r7, q7⟩ := q7; exact ⟨x7, σ7, H7, I7.unpinned, r7, q7⟩
end
abbrev R2 := V → V → Hp → VK → Prop
def rW (X : Cx) (f : Value → Value → Sem Value) (r : R2) : Prop :=
 ∀ (pins : List (Addr × Obj)) (s : Shared) (σ : St) (H : Hp) (x y : V) (v u : Value) (Q : VK), bE X pins σ H s → dS x v → dS y u → r x y H Q →
  wpAny (model X.prog X.w) X.A (f v u) (EP X pins σ Q) X.xe s
def mT (X : Cx) (f : Value) (r : List V → Hp → VK → Prop) : Prop :=
 ∀ (pins : List (Addr × Obj)) (s : Shared) (σ : St) (H : Hp) (xs : List V) (us : List Value) (Q : VK), bE X pins σ H s → dE xs us → r xs H Q →
  wpAny (model X.prog X.w) X.A (call f us) (EP X pins σ Q) X.xe s
def aNz (X : Cx) (r : V → Hp → (Bool → Hp → Prop) → Prop) : Prop :=
 ∀ (pins : List (Addr × Obj)) (s : Shared) (σ : St) (H : Hp) (x : V) (v : Value) (Q : Bool → Hp → Prop), bE X pins σ H s → dS x v → r x H Q →
  wpAny (model X.prog X.w) X.A (truthy v) (TP X pins σ Q) X.xe s
def tOp (r : R2) (ta tb : TE) : TE := fun σ H Q => ta σ H fun x H1 => tb σ H1 fun y H2 => r x y H2 Q
def rI (C : Int → Int → Prop) (g : Int → Int → V) : R2 := fun x y H Q => ∃ i j, x = .int i ∧ y = .int j ∧ C i j ∧ Q (g i j) H
def rI0 (g : Int → Int → V) : R2 := fun x y H Q => ∃ i j, x = .int i ∧ y = .int j ∧ Q (g i j) H
section
variable {X : Cx} {a b c : Expr} {ta tb tc : TE} {pos : Pos}
theorem aKT (ha : PE X a ta) (hb : PE X b tb) {pins : List (Addr × Obj)} {s : Shared} {σ : St} {H : Hp} {R : V → V → Hp → Prop} (I : bE X pins σ H s)
  (h : ta σ H fun x H1 => tb σ H1 fun y H2 => R x y H2) {Q : Value → Shared → Prop} {f : Value → Value → Sem Value}
  (hf : ∀ v u s2 x y H2, bE X pins σ H2 s2 → dS x v → dS y u → R x y H2 → wpAny (model X.prog X.w) X.A (f v u) Q X.xe s2) :
  wpAny (model X.prog X.w) X.A (eval a X.env) (fun v s₁ => wpAny (model X.prog X.w) X.A (eval b X.env) (fun u s₂ => wpAny (model X.prog X.w) X.A (f v u) Q X.xe s₂) X.xe s₁) X.xe s := by
 refine gW (ha pins s σ H _ I h) fun v s1 ⟨x, H1, I1, r1, q1⟩ => ?_
 refine gW (hb pins s1 σ H1 _ I1 q1) fun u s2 ⟨y, H2, I2, r2, q2⟩ => ?_
 exact hf v u s2 x y H2 I2 r1 r2 q2
theorem aH5 {op : Operator} {r : R2} (ho : rW X (binaryOp op) r) (ha : PE X a ta) (hb : PE X b tb) : PE X (.BinOp a op b pos) (tOp r ta tb) := by
 intro pins s σ H Q I h
 exact wpAny_BinOp (aKT ha hb I h fun v u s2 x y H2 I2 rx ry q => ho pins s2 σ H2 x y v u Q I2 rx ry q)
theorem opI {f : Value → Value → Sem Value} {C : Int → Int → Prop} {g : Int → Int → Int}
  (rule : ∀ (i j : Int) (t u : Tok) (s : Shared) (Q : Value → Shared → Prop) (E : Value → Shared → Prop), C i j → Q (.int (g i j) s.toks) { s with toks := s.toks + 1 } → wpAny (model X.prog X.w) X.A (f (.int i t) (.int j u)) Q E s) :
  rW X f (rI C fun i j => .int (g i j)) := by
 intro pins s σ H x y v u Q I rx ry h
 obtain ⟨i, j, rfl, rfl, hc, q⟩ := h
 obtain ⟨t, rfl⟩ := rx
 obtain ⟨t', rfl⟩ := ry
 exact rule i j t t' s _ _ hc ⟨.int (g i j), H, I.tok _, ⟨_, rfl⟩, q⟩
theorem aM3 {f : Value → Value → Sem Value} {g : Int → Int → Int}
  (rule : ∀ (i j : Int) (t u : Tok) (s : Shared) (Q : Value → Shared → Prop) (E : Value → Shared → Prop), Q (.int (g i j) s.toks) { s with toks := s.toks + 1 } → wpAny (model X.prog X.w) X.A (f (.int i t) (.int j u)) Q E s) :
  rW X f (rI0 fun i j => .int (g i j)) := by
 intro pins s σ H x y v u Q I rx ry h
 obtain ⟨i, j, rfl, rfl, q⟩ := h
 obtain ⟨t, rfl⟩ := rx
 obtain ⟨t', rfl⟩ := ry
 exact rule i j t t' s _ _ ⟨.int (g i j), H, I.tok _, ⟨_, rfl⟩, q⟩
theorem aMa {f : Value → Value → Sem Value} {g : Int → Int → Bool}
  (rule : ∀ (i j : Int) (t u : Tok) (s : Shared) (Q : Value → Shared → Prop) (E : Value → Shared → Prop), Q (.bool (g i j)) s → wpAny (model X.prog X.w) X.A (f (.int i t) (.int j u)) Q E s) :
  rW X f (rI0 fun i j => .bl (g i j)) := by
 intro pins s σ H x y v u Q I rx ry h
 obtain ⟨i, j, rfl, rfl, q⟩ := h
 obtain ⟨t, rfl⟩ := rx
 obtain ⟨t', rfl⟩ := ry
 exact rule i j t t' s _ _ ⟨.bl (g i j), H, I, rfl, q⟩
def aMu (i j : Int) : Prop := 0 < j ∧ j < 1073741824
def aGO (i j : Int) : Prop := (-(2 ^ 64) < i ∧ i < 2 ^ 64) ∨ (-(2 ^ 64) < j ∧ j < 2 ^ 64)
theorem aGO.ok {i j : Int} (h : aGO i j) : IntMulOk i j := by
 rcases h with ⟨h1, h2⟩ | ⟨h1, h2⟩
 ·exact .of_left (intBits_le_64 h1 h2)
 ·exact .of_right (intBits_le_64 h1 h2)
theorem aK0 : rW X (binaryOp .Add) (rI0 fun i j => .int (i + j)) := aM3 fun _ _ _ _ _ _ _ q => add_int q
theorem aK8 : rW X (binaryOp .Sub) (rI0 fun i j => .int (i - j)) := aM3 fun _ _ _ _ _ _ _ q => sub_int q
theorem aLU : rW X (binaryOp .Mult) (rI aGO fun i j => .int (i * j)) := opI fun _ _ _ _ _ _ _ hc q => mul_int q hc.ok
theorem aJm : rW X (binaryOp .FloorDiv) (rI aMu fun i j => .int (i / j)) := opI fun i j _ _ _ _ _ hc q => by
 have h1 : (0 : Int) < j := hc.1
 have h2 : j < 1073741824 := hc.2
 exact floordiv_int (by omega) (by rw [Int.fdiv_eq_ediv_of_nonneg i (by omega)]; exact q) (.inl (PyProof.noPylong_small (by omega)))
theorem aK9 : rW X (binaryOp .Mod) (rI (fun _ j => 0 < j) fun i j => .int (i % j)) := opI fun i j _ _ _ _ _ hc q => by
 have h1 : (0 : Int) < j := hc
 exact mod_int' (by omega) (by rw [Int.fmod_eq_emod_of_nonneg i (by omega)]; exact q)
end
section
variable {X : Cx} {a b c : Expr} {ta tb tc : TE} {pos : Pos}
theorem aCi {pins : List (Addr × Obj)} {σ : St} {H : Hp} {s : Shared} {Q : VK} {k k' : Bool} (I : bE X pins σ H s) (q : Q (.bl k) H) (e : k = k') : EP X pins σ Q (.bool k') s := by
 subst e
 exact ⟨.bl k, H, I, rfl, q⟩
theorem aMP : rW X (compareOp .Lt) (rI0 fun i j => .bl (decide (i < j))) := aMa fun _ _ _ _ _ _ _ q => lt_int q
theorem aMs : rW X (compareOp .Gt) (rI0 fun i j => .bl (decide (j < i))) := aMa fun _ _ _ _ _ _ _ q => gt_int q
theorem aK2 : rW X (compareOp .Is) (fun x y H Q => y = .non ∧ Q (.bl (decide (x = .non))) H) := by
 intro pins s σ H x y v u Q I rx ry h
 obtain ⟨rfl, q⟩ := h
 cases ry
 refine is_none_gen (aCi I q ?_)
 cases x <;> first
  | (cases rx; rfl)
  | (obtain ⟨t, rfl⟩ := rx; rfl)
theorem aIO : rW X (compareOp .IsNot) (fun x y H Q => y = .non ∧ Q (.bl (!decide (x = .non))) H) := by
 intro pins s σ H x y v u Q I rx ry h
 obtain ⟨rfl, q⟩ := h
 cases ry
 refine isnot_none_gen (aCi I q ?_)
 cases x <;> first
  | (cases rx; rfl)
  | (obtain ⟨t, rfl⟩ := rx; rfl)
theorem rW.or {f : Value → Value → Sem Value} {r r' : R2} (h : rW X f r) (h' : rW X f r') : rW X f (fun x y H Q => r x y H Q ∨ r' x y H Q) := by
 intro pins s σ H x y v u Q I rx ry q
 rcases q with q | q
 ·exact h pins s σ H x y v u Q I rx ry q
 ·exact h' pins s σ H x y v u Q I rx ry q
theorem aHe (b : Expr) {op : CmpOp} (h : op ≠ .In := by decide) (h2 : op ≠ .NotIn := by decide) : behindInMarks op b = false := by
 have e1 : (op == CmpOp.In) = false := by cases op <;> first | rfl | exact absurd rfl h
 have e2 : (op == CmpOp.NotIn) = false := by cases op <;> first | rfl | exact absurd rfl h2
 cases b <;> simp [behindInMarks, e1, e2]
theorem aJ1 {op : CmpOp} {r : R2} (ho : rW X (compareOp op) r) (ha : PE X a ta) (hb : PE X b tb) (hm : behindInMarks op b = false) : PE X (.Compare a [op] [b] pos) (tOp r ta tb) := by
 intro pins s σ H Q I h
 exact wpAny_Compare1 (aKT ha hb I h fun v u s2 x y H2 I2 rx ry q => ho pins s2 σ H2 x y v u Q I2 rx ry q) hm
def aMy (t : TE) : TT := fun σ H Q => t σ H fun x H' => ∃ k, x = .bl k ∧ Q k H'
theorem aKf {op : CmpOp} {r : R2} (ho : rW X (compareOp op) r) (ha : PE X a ta) (hb : PE X b tb) (hm : behindInMarks op b = false) : PT X (.Compare a [op] [b] pos) (aMy (tOp r ta tb)) := by
 intro pins s σ H Q I h
 refine wpAny_isTrue_Compare1 (gW (ha pins s σ H _ I h) fun v s1 ⟨x, H1, I1, r1, q1⟩ => gW (hb pins s1 σ H1 _ I1 q1) fun u s2 ⟨y, H2, I2, r2, q2⟩ =>
  gW (ho pins s2 σ H2 x y v u _ I2 r1 r2 q2) fun c s3 ⟨z, H3, I3, r3, k, e, q3⟩ => ?_) hm
 subst e
 cases r3
 exact wpAny_truthy_bool ⟨H3, I3, q3⟩
def aLn (K : PySem.W.Frag) (x : V) (H : Hp) (k : Bool) : Prop :=
 match x with
 | .non => k = false
 | .bl b => k = b
 | .int i => k = (i != 0)
 | .str y => y.length ≤ sizeLine ∧ k = ((y.length : Int) != 0)
 | .byt y => y.size ≤ sizeLine ∧ k = ((y.size : Int) != 0)
 | .ref p => (∃ xs, kK K H p xs ∧ k = !xs.isEmpty) ∨ (∃ xs, jN K H p xs ∧ k = !xs.isEmpty) ∨ ∃ kvs, H p = some (.dK kvs) ∧ k = !kvs.isEmpty
 | _ => False
theorem aES {κ : Type} {kvs : List (κ × V)} {vs : List (κ × Value)} (r : KV kvs vs) : (!vs.isEmpty) = !kvs.isEmpty := by
 cases r <;> rfl
theorem yU {xs : List V} {its : List Value} (r : dE xs its) : (!its.toArray.isEmpty) = !xs.isEmpty := by
 cases r <;> simp
theorem y4 : (sizeLine : Nat) < 2 ^ 63 := by rw [sizeLine_eq]; decide
theorem aHp : aNz X (fun x H Q => ∃ k, aLn X.K x H k ∧ Q k H) := by
 intro pins s σ H x v Q I rx h
 obtain ⟨k, e, q⟩ := h
 have hl := y4
 have hs : sizeLine = 16777216 := sizeLine_eq
 cases x with
 | non =>
  cases rx
  have e' : k = false := e
  subst e'
  exact truthy_none ⟨H, I, q⟩
 | bl b =>
  cases rx
  have e' : k = b := e
  subst e'
  exact wpAny_truthy_bool ⟨H, I, q⟩
 | int i =>
  obtain ⟨t, rfl⟩ := rx
  have e' : k = (i != 0) := e
  subst e'
  exact PySem.P.truthy_int ⟨H, I, q⟩
 | str y =>
  obtain ⟨t, rfl⟩ := rx
  obtain ⟨hy, e'⟩ : y.length ≤ sizeLine ∧ k = ((y.length : Int) != 0) := e
  subst e'
  exact PySem.P.truthy_str (by omega) ⟨H, I.tok _, q⟩
 | byt y =>
  obtain ⟨t, rfl⟩ := rx
  obtain ⟨hy, e'⟩ : y.size ≤ sizeLine ∧ k = ((y.size : Int) != 0) := e
  subst e'
  exact PySem.W.truthy_bytes (by omega) ⟨H, I.tok _, q⟩
 | ref p =>
  cases rx
  have e' : (∃ xs, kK X.K H p xs ∧ k = !xs.isEmpty) ∨ (∃ xs, jN X.K H p xs ∧ k = !xs.isEmpty) ∨ ∃ kvs, H p = some (.dK kvs) ∧ k = !kvs.isEmpty := e
  rcases e' with ⟨xs, hx, e'⟩ | ⟨xs, hx, e'⟩ | ⟨kvs, hx, e'⟩
  ·subst e'
   obtain ⟨its, r, pl, hz⟩ := I.list hx
   have hlen := r.length
   exact wpAny_truthy_list pl.isList (by simp only [List.size_toArray]; omega) ⟨H, I.tok _, by rw [yU r]; exact q⟩
  ·subst e'
   obtain ⟨its, r, pl, hz⟩ := I.tuple hx
   have hlen := r.length
   exact truthy_tuple pl (by simp only [List.size_toArray]; omega) ⟨H, I.tok _, by rw [yU r]; exact q⟩
  ·subst e'
   obtain ⟨hz, hS, vs, r, m⟩ : kvs.length ≤ sizeLine ∧ (p == sysModules) = false ∧ ∃ vs, KV kvs vs ∧ s.heap.DictOf (gO X.prog X.w) p vs := I.hok p _ hx
   have hlen : kvs.length = vs.length := Paired.length r
   exact wpAny_truthy_dict hS m (by omega) ⟨H, I.tok _, by rw [aES r]; exact q⟩
 | _ => exact (show False from e).elim
theorem aHT (ha : PE X a ta) (he : ∀ whole, isTrue a X.env whole = (do let v ← whole; standAt a.pos; holding [v] (truthy v))) :
  PT X a (fun σ H Q => ta σ H fun x H' => ∃ k, aLn X.K x H' k ∧ Q k H') := by
 intro pins s σ H Q I h
 exact isTrue_plain (gW (ha pins s σ H _ I h) fun v s1 ⟨x, H1, I1, r1, q1⟩ => aHp pins s1 σ H1 x v Q I1 r1 q1) (he _)
theorem r8 {x : V} {us : List Value} (r : dE [x] us) : ∃ u, us = [u] ∧ dS x u := by
 cases r with
 | cons r1 r2 => cases r2; exact ⟨_, rfl, r1⟩
theorem aH9 : mT X (.builtin "abs") (fun xs H Q => ∃ i, xs = [.int i] ∧ Q (.int (if i < 0 then -i else i)) H) := by
 intro pins s σ H xs us Q I r h
 obtain ⟨i, rfl, q⟩ := h
 obtain ⟨u, rfl, t, rfl⟩ := r8 r
 exact call_abs_int fun u tk => ⟨.int (if i < 0 then -i else i), H, I.tok _, ⟨_, rfl⟩, q⟩
end
section
variable {prog : Program} {w : World} {A : Around} {E : Value → Shared → Prop} {s : Shared} {K : PySem.W.Frag} {x dx C f : Addr} {mA : Str → Option Value} {name : Str} {v : Value}
end
theorem aAx.some_of {v : V} {o : Option Value} (r : aAx (some v) o) : ∃ u, o = some u ∧ dS v u := by
 cases o with
 | none => exact (show False from r).elim
 | some u => exact ⟨u, rfl, r⟩
section
variable {P : Program} {w : World} {H H' : Hp} {h h' : Heap} {a C dx : Addr} {fs fs' : List (Str × V)}
end
section
variable {X : Cx} {pins : List (Addr × Obj)} {σ : St} {H : Hp} {s : Shared} {a C dx : Addr} {fs : List (Str × V)} {f : Str} {v : V} {A : Around} {E : Value → Shared → Prop}
end
section
variable {X : Cx} {o e value : Expr} {f : Str} {pos pos' tpos : Pos} {ta tv : TE}
end
section
variable {X : Cx} {pins : List (Addr × Obj)} {σ : St} {H : Hp} {s : Shared} {A : Around} {E : Value → Shared → Prop} {Q : Value → Shared → Prop} {c : Value} {b : Bool}
end
structure cB (k : Nat) (A : Around) : Prop where
 hd : A.handled = none
 dp : A.depth + 3 * k + 5 < recursionLimit
 un : A.units + 16 * k + 200 < cLine
theorem cB.mono {j k : Nat} {A : Around} (r : cB k A) (h : j ≤ k) : cB j A := ⟨r.hd, by have := r.dp; omega, by have := r.un; omega⟩
theorem cB.deeper {k : Nat} {A : Around} (r : cB (k + 1) A) (env : Env) : cB k (A.deeper env) :=
 ⟨r.hd, by have := r.dp; show A.depth + 1 + 3 * k + 5 < _; omega, by have := r.un; show A.units + 3 + 16 * k + 200 < _; omega⟩
theorem cB.in1 {k : Nat} {A : Around} (r : cB (k + 1) A) : cB k A.in1 :=
 ⟨r.hd, by have := r.dp; show A.depth + 3 * k + 5 < _; omega, by have := r.un; show A.units + 1 + 16 * k + 200 < _; omega⟩
theorem cB.depth {k : Nat} {A : Around} (r : cB k A) : A.depth < recursionLimit := by have := r.dp; omega
theorem cB.units {k : Nat} {A : Around} (r : cB k A) : A.units + 64 < cLine := by have := r.un; omega
def aJ2 : TA := fun _ H Q => Q [] H
def aFF (ta : TE) (tr : TA) : TA := fun σ H Q => ta σ H fun x H1 => tr σ H1 fun xs H2 => Q (x :: xs) H2
section
variable {X : Cx} {e : Expr} {es : List Expr} {te : TE} {t : TA} {pos : Pos}
theorem i6 : PA X [] aJ2 := fun _ _ _ _ H Q I h => Calls.spliced_nil ⟨[], H, I, .nil, h⟩
theorem e6 (ha : PE X e te) (hr : PA X es t) (hs : starEach (e :: es) X.env = (false, eval e X.env) :: starEach es X.env := by rfl) : PA X (e :: es) (aFF te t) := by
 intro pos pins s σ H Q I h
 rw [hs]
 show wpAny _ _ (spliced ((false, eval e X.env) :: backTo pos (starEach es X.env))) _ _ s
 refine Calls.spliced_cons (gW (ha pins s σ H _ I h) fun u s1 ⟨x, H1, I1, r1, q1⟩ => ?_)
 exact gW (hr pos pins s1 σ H1 _ I1 q1) fun us s2 ⟨xs, H2, I2, r2, q2⟩ => ⟨x :: xs, H2, I2, .cons r1 r2, q2⟩
def aNs (t : TA) : TE := fun σ H Q => t σ H fun xs H1 => xs.length ≤ sizeLine ∧ ∀ p, H1 p = none → Q (.ref p) (upd H1 p (.tup xs))
def aNy (t : TA) : TE := fun σ H Q => t σ H fun xs H1 => xs.length ≤ sizeLine ∧ ∀ p, H1 p = none → Q (.ref p) (upd H1 p (.lst xs))
theorem aLt {x1} (h : PA X es t) : PE X (.Tuple es x1 pos) (aNs t) := by
 intro pins s σ H Q I hq
 refine wpAny_Tuple_spliced (gW (h pos pins s σ H _ I hq) fun us s1 ⟨xs, H1, I1, r, z, q⟩ => ⟨by rw [← r.length]; exact z, ?_⟩)
 have hf : H1 s1.heap.objs.size = none := I1.hok.fresh (Nat.le_refl _)
 refine ⟨.ref s1.heap.objs.size, upd H1 s1.heap.objs.size (.tup xs), I1.laid (t' := s1.toks) (fun b u e => Heap.get?_push_of_some _ e) (Nat.le_refl _) ?_, rfl, q _ hf⟩
 exact ⟨z, us, r, ⟨_, Heap.get?_push_size _ rfl, rfl, _, rfl⟩⟩
theorem aLH (h : PA X es t) : PE X (.List es pos) (aNy t) := by
 intro pins s σ H Q I hq
 refine wpAny_List_spliced (gW (h pos pins s σ H _ I hq) fun us s1 ⟨xs, H1, I1, r, z, q⟩ => ⟨by rw [← r.length]; exact z, ?_⟩)
 have hf : H1 s1.heap.objs.size = none := I1.hok.fresh (Nat.le_refl _)
 refine ⟨.ref s1.heap.objs.size, upd H1 s1.heap.objs.size (.lst xs), I1.laid (t' := s1.toks) (fun b u e => Heap.get?_push_of_some _ e) (Nat.le_refl _) ?_, rfl, q _ hf⟩
 exact ⟨z, us, 0, r, Heap.get?_push_size _ rfl⟩
end
abbrev Sp := List V → Hp → VK → XK → Prop
abbrev CXT := List Env → Hp → Shared → XK → Value → Shared → Prop
structure aJQ (P : Program) (w : World) (K : PySem.W.Frag) (mg : Str → Option Value) (base : Heap) (A : Around) (outer : List Env) (s : Shared) (H : Hp) : Prop where
 frames : A.frames = some outer
 mod : Mod K mg base
 bs : ∀ b o, base.get? b = some o → s.heap.get? b = some o ∧ H b = none
 bsz : base.objs.size ≤ s.heap.objs.size
 funs : s.heap.FunFrames base outer
 frf : ∀ b ∈ frs outer, H b = none
 hok : qV P w H s.heap
 bare : AllBare s.gens
def CE (outer : List Env) (P : Program) (w : World) (H : Hp) (s : Shared) (Q : VK) (u : Value) (s' : Shared) : Prop :=
 ∃ v H', s'.os = s.os ∧ AllBare s'.gens ∧ Un (frs outer) [] H H' s.heap s'.heap ∧ qV P w H' s'.heap ∧ dS v u ∧ Q v H'
def CR (CX : CXT) (outer : List Env) (P : Program) (w : World) (H : Hp) (s : Shared) (Q : VK) (E : XK) (r : Result) (s' : Shared) : Prop :=
 match r with
 | .ok (.ret u) => CE outer P w H s Q u s'
 | .ok _ => False
 | .error e => CX outer H s E e s'
structure qA (P : Program) (w : World) (K : PySem.W.Frag) (mg : Str → Option Value) (base : Heap) (CX : CXT) (k : Nat) (f : Addr) (fd : FuncData) (ps : List Str) (sp : Sp) : Prop where
 len : ∀ vs H Q E, sp vs H Q E → vs.length = ps.length
 run : ∀ (A : Around) (outer : List Env) (s : Shared) (H : Hp) (args : Args) (us : List Value) (vs : List V) (Q : VK) (E : XK), cB k A → aJQ P w K mg base A outer s H → BindsTo s fd args (ps.zip us) → dE vs us → sp vs H Q E →
  codeAny (model P w) A (.call (.ref f) args) (CR CX outer P w H s Q E) s
section
variable {X : Cx} {pins : List (Addr × Obj)} {σ : St} {H : Hp} {s s' : Shared}
theorem bE.env0 (I : bE X pins σ H s) : aJQ X.prog X.w X.K X.mg X.base X.A X.stack s H :=
 ⟨I.ok.frames, I.ok.mod, I.bs, Nat.le_trans I.ok.bsz I.sz, I.stack, I.stkFree, I.hok, I.bare⟩
theorem bE.after {Q : VK} {u : Value} (I : bE X pins σ H s) (h : CE X.stack X.prog X.w H s Q u s') : EP X pins σ Q u s' := by
 obtain ⟨v, H', os, bare, un, hok, r, q⟩ := h
 obtain ⟨hh, g, d, t, os'⟩ := s'
 obtain rfl : os' = s.os := os
 exact ⟨v, H', I.call (h' := hh) (g' := g) (d' := d) (t' := t) (ch := []) un hok bare (fun b z => absurd z (by simp)), r, q⟩
end
def aMD (sp : Sp) (dvs : List V) (E : XK) (t : TA) : TE := fun σ H Q => t σ H fun vs H1 => sp (vs ++ dvs) H1 Q E
def oH (K : PySem.W.Frag) (fd : FuncData) (ps : List Str) (ds : List Value) : Prop :=
 ∀ (s : Shared) (us : List Value), K.In s.heap → (us ++ ds).length = ps.length → BindsTo s fd ⟨us, []⟩ (ps.zip (us ++ ds))
theorem oH.all {K : PySem.W.Frag} {fd : FuncData} {ps : List Str} (h : ∀ us : List Value, us.length = ps.length → bindArgs fd ⟨us, []⟩ = pure (ps.zip us)) : oH K fd ps [] := fun s us _ hl => by
 rw [List.append_nil] at hl ⊢
 exact .of_eq (h us hl)
def o0 (CX : CXT) (X : Cx) (E : XK) : Prop := ∀ (pins : List (Addr × Obj)) (σ : St) (H : Hp) (s : Shared) (e : Value) (s' : Shared), bE X pins σ H s → CX X.stack H s E e s' → X.xe e s'
section
variable {X : Cx} {CX : CXT} {k : Nat} {f C : Addr} {fd : FuncData} {ps : List Str} {sp : Sp} {dvs : List V} {ds : List Value} {E : XK} {x m : Str} {p pos apos : Pos} {e o : Expr} {es : List Expr} {ta : TE} {t : TA}
theorem aLv {pins : List (Addr × Obj)} {σ : St} {H : Hp} {s : Shared} {Q : VK} {us : List Value} {vs : List V} (F : qA X.prog X.w X.K X.mg X.base CX k f fd ps sp) (hr : cB k X.A) (hb : oH X.K fd ps ds) (hd : dE dvs ds) (hx : o0 CX X E)
  (I : bE X pins σ H s) (r : dE vs us) (h : sp (vs ++ dvs) H Q E) : wpAny (model X.prog X.w) X.A (call (.ref f) us) (EP X pins σ Q) X.xe s := by
 have r2 : dE (vs ++ dvs) (us ++ ds) := r.append hd
 have hl : (us ++ ds).length = ps.length := by rw [← r2.length]; exact F.len _ _ _ _ h
 refine wpAny_call (codeAny_mono (F.run X.A X.stack s H ⟨us, []⟩ (us ++ ds) (vs ++ dvs) Q E hr I.env0 (hb s us I.kIn hl) r2 h) fun r s' hq => ?_)
 cases r with
 | error e => exact hx pins σ H s e s' I hq
 | ok fl =>
  cases fl with
  | ret u => exact I.after hq
  | next => exact False.elim hq
  | brk => exact False.elim hq
  | cont => exact False.elim hq
theorem xU (F : qA X.prog X.w X.K X.mg X.base CX k f fd ps sp) (hr : cB k X.A) (hg : Gl X x) (hm : X.mg x = some (.ref f)) (hk : PySem.W.keepIn X.K (.ref f) = true) (hb : oH X.K fd ps ds) (hd : dE dvs ds) (hx : o0 CX X E)
  (ha : PA X (e :: es) t) (hdb : (x == ("__debug__" : Str)) = false := by decide) (he : starEach (e :: es) X.env = (false, eval e X.env) :: starEach es X.env := by rfl) (hpl : (backTo pos (starEach es X.env)).any (·.1) = false := by rfl) :
  PE X (.Call (.Name x p) (e :: es) [] pos) (aMD sp dvs E t) := by
 intro pins s σ H Q I h
 refine wpAny_Call_Name_kw (aBC I hg hm ?_ hdb)
 refine PySem.W.callWith_K (h₀ := X.base) I.ok.mod.kin hk (gW (ha pos pins s σ H _ I h) fun us s1 ⟨vs, H1, I1, r, q⟩ => ⟨I1.kIn, ?_⟩) he hpl
 exact aLv F hr hb hd hx I1 r q
end
section
variable {X : Cx} {CX : CXT} {k : Nat} {f C : Addr} {fd : FuncData} {ps ks : List Str} {sp : Sp} {E : XK} {x m : Str} {p pos apos kpos : Pos} {e o : Expr} {es : List Expr} {kws : List Keyword} {te ta : TE} {t tk : TA} {nm : Option Str}
variable {g : List Value → List Value → List Value} {gV : List V → List V → List V}
end
structure aW (N P : List Str) (sc : Scope) : Prop where
 kind : sc.kind = .function
 co : sc.isCoroutine = false
 gen : sc.isGenerator = false
 nd : N.Nodup
 pre : N.take P.length = P
 par : ∀ x ∈ P, sc.names.lookup x = some .local ∨ sc.names.lookup x = some .cell
 nofree : ∀ y ∈ sc.names, y.2 ≠ .free
theorem aAQ {kindOf : Str → Option NameKind} {x : Str} : ∀ {binds : List (Str × Value)} {m : Str → Option Value}, (∀ v, (x, v) ∉ binds) → bindL kindOf binds m x = m x
 | [], _, _ => rfl
 | (n, v) :: r, m, h => by
  unfold bindL
  rw [aAQ fun w hw => h w (List.mem_cons_of_mem _ hw)]
  split
  ·have : x ≠ n := by rintro rfl; exact h v List.mem_cons_self
   simp [this]
  ·rfl
theorem aAU {kindOf : Str → Option NameKind} {x : Str} : ∀ {binds : List (Str × Value)} {m : Str → Option Value}, (∀ v, (x, v) ∉ binds) → bindC kindOf binds m x = m x
 | [], _, _ => rfl
 | (n, v) :: r, m, h => by
  unfold bindC
  rw [aAU fun w hw => h w (List.mem_cons_of_mem _ hw)]
  split
  ·rfl
  ·have : x ≠ n := by rintro rfl; exact h v List.mem_cons_self
   simp [this]
theorem aA8 {kindOf : Str → Option NameKind} {x : Str} {v : Value} : ∀ {P : List Str} {vs : List Value} {i : Nat} {m : Str → Option Value}, P.Nodup → P[i]? = some x → vs[i]? = some v → kindOf x = some .local →
  bindL kindOf (P.zip vs) m x = some v
 | [], _, _, _, _, h, _, _ => by simp at h
 | _ :: _, [], _, _, _, _, h, _ => by simp at h
 | p :: P, w :: vs, 0, m, nd, h1, h2, hk => by
  simp at h1 h2; subst h1; subst h2
  show bindL kindOf ((p, w) :: P.zip vs) m p = _
  unfold bindL
  rw [aAQ fun v hv => (List.nodup_cons.mp nd).1 (List.of_mem_zip hv).1, if_pos hk]
  simp
 | p :: P, w :: vs, i + 1, m, nd, h1, h2, hk => by
  show bindL kindOf ((p, w) :: P.zip vs) m x = _
  unfold bindL
  exact aA8 (i := i) (List.nodup_cons.mp nd).2 (by simpa using h1) (by simpa using h2) hk
theorem aAR {kindOf : Str → Option NameKind} {x : Str} {v : Value} : ∀ {P : List Str} {vs : List Value} {i : Nat} {m : Str → Option Value}, P.Nodup → P[i]? = some x → vs[i]? = some v → kindOf x ≠ some .local →
  bindC kindOf (P.zip vs) m x = some v
 | [], _, _, _, _, h, _, _ => by simp at h
 | _ :: _, [], _, _, _, _, h, _ => by simp at h
 | p :: P, w :: vs, 0, m, nd, h1, h2, hk => by
  simp at h1 h2; subst h1; subst h2
  show bindC kindOf ((p, w) :: P.zip vs) m p = _
  unfold bindC
  rw [aAU fun v hv => (List.nodup_cons.mp nd).1 (List.of_mem_zip hv).1, if_neg hk]
  simp
 | p :: P, w :: vs, i + 1, m, nd, h1, h2, hk => by
  show bindC kindOf ((p, w) :: P.zip vs) m x = _
  unfold bindC
  exact aAR (i := i) (List.nodup_cons.mp nd).2 (by simpa using h1) (by simpa using h2) hk
def lL (N : List Str) (vs : List V) : St := vs.map some ++ List.replicate (N.length - vs.length) none
def dL (CX : CXT) (P : Program) (w : World) (K : PySem.W.Frag) (mg : Str → Option Value) (base : Heap) (N : List Str) (qual : Str) (scope : Scope) (f : Addr) (cd : Value) (A : Around) (outer : List Env) (s : Shared) (H : Hp) (E : XK) : Cx where
 prog := P
 w := w
 K := K
 mg := mg
 base := base
 A := A.deeper (envOfC qual scope s.heap.objs.size f cd)
 N := N
 s₀ := s
 H₀ := H
 env := envOfC qual scope s.heap.objs.size f cd
 outer := outer
 stack := envOfC qual scope s.heap.objs.size f cd :: outer
 ex := []
 calm := true
 fn := fun _ => true
 pn := []
 xe := fun e s' => wpAny (model P w) (A.deeper (envOfC qual scope s.heap.objs.size f cd)) (leaving (envOfC qual scope s.heap.objs.size f cd) e) (fun _ s'' => CX outer H s E e s'') (fun e' s'' => CX outer H s E e' s'') s'
theorem aCU {sc : Scope} {n : Nat} {x : Str} (h : sc.names.lookup x = some .cell) : ∃ c, (cellsFrom n sc.names []).lookup x = some c := by
 have q := PySem.W.cellsFrom_some sc.names n [] (.inl h)
 exact Option.isSome_iff_exists.mp q
theorem aGZ {CX : CXT} {P : Program} {w : World} {K : PySem.W.Frag} {mg : Str → Option Value} {base : Heap} {N ps : List Str} {qual : Str} {scope : Scope} {f : Addr} {cd : Value} {A : Around} {outer : List Env} {s s1 : Shared} {H : Hp} {E : XK} {us : List Value} {vs : List V}
  (S : aW N ps scope) (hd : A.handled = none) (e0 : aJQ P w K mg base A outer s H) (hl : vs.length = ps.length) (r : dE vs us)
  (x : InCallC s s.heap.objs.size (bindL (envOfC qual scope s.heap.objs.size f cd).kindOf (ps.zip us) fun _ => none) (cellsFrom (s.heap.objs.size + 1) scope.names []) (bindC (envOfC qual scope s.heap.objs.size f cd).kindOf (ps.zip us) fun _ => none) s1) :
  bE (dL CX P w K mg base N qual scope f cd A outer s H E) [] (lL N vs) H s1 := by
 have hpl : ps.length ≤ N.length := by have := congrArg List.length S.pre; rw [List.length_take] at this; omega
 obtain ⟨h1, tk, rfl, hk⟩ := x.done
 have noA : ∀ b : Addr, b ∉ (dL CX P w K mg base N qual scope f cd A outer s H E).ex := fun b z => absurd (show b ∈ ([] : List Addr) from z) (by simp)
 refine ⟨⟨e0.mod, S.kind, rfl, rfl, Nat.le_refl _, fun y z c h1 h2 => ?_, fun y hy => ?_, fun y c _ h => ?_, fun _ => hd, Around.frames_deeper e0.frames, .inr ⟨rfl, rfl⟩, fun b z => absurd z (noA b), e0.bs, e0.bsz, fun b _ _ => noA b, fun b z => absurd z (noA b), e0.funs, e0.frf⟩,
  rfl, e0.bare, Un.kept hk, ⟨_, x.toInCall.ns, fun i y v h1 h2 h3 => ?_⟩, fun y c h => ⟨_, x.cell y c h⟩, e0.hok.fresh (Nat.le_refl _), fun y c h => ?_, fun p hp => absurd (show p ∈ ([] : List (Addr × Obj)) from hp) (by simp), e0.hok.kept hk, ?_⟩
 ·exact name_of_addr x.apart (PySem.mem_of_lookup h1) (PySem.mem_of_lookup h2)
 ·have hy : scope.names.lookup y = some .cell ∨ scope.names.lookup y = some .free := hy
  rcases hy with hy | hy
  ·exact aCU hy
  ·exact absurd rfl (S.nofree _ (PySem.mem_of_lookup hy))
 ·exact Nat.le_of_lt (x.above y c (PySem.mem_of_lookup h))
 ·have hi : i < vs.length := by
   unfold lL at h2
   by_cases hi : i < vs.length
   ·exact hi
   ·rw [List.getElem?_append_right (by simpa using hi)] at h2
    rw [List.getElem?_replicate] at h2
    split at h2 <;> cases h2
  have ha : vs[i]? = some v := by
   unfold lL at h2
   rw [List.getElem?_append_left (by simpa using hi), List.getElem?_map] at h2
   cases e : vs[i]? with
   | none => rw [e] at h2; cases h2
   | some a => rw [e] at h2; cases h2; rfl
  obtain ⟨u, hu, rv⟩ := r.get ha
  have hp : ps[i]? = some y := by
   rw [← S.pre, List.getElem?_take_of_lt (by omega)]; exact h1
  have ndP : ps.Nodup := by rw [← S.pre]; exact S.nd.sublist (List.take_sublist _ _)
  refine ⟨u, rv, ?_⟩
  rcases S.par y (List.mem_of_getElem? hp) with k | k
  ·exact .inl ⟨k, aA8 ndP hp hu k⟩
  ·obtain ⟨c, e⟩ := aCU (n := s.heap.objs.size + 1) k
   refine .inr ⟨.inl k, c, e, ?_⟩
   have q := x.cell y c e
   rw [aAR ndP hp hu (by show scope.names.lookup y ≠ _; rw [k]; decide)] at q
   exact q
 ·exact e0.hok.fresh (Nat.le_of_lt (x.above y c (PySem.mem_of_lookup h)))
 ·unfold lL
  show _ = N.length
  rw [List.length_append, List.length_map, List.length_replicate]
  omega
theorem aIC {CX : CXT} {P : Program} {w : World} {K : PySem.W.Frag} {mg : Str → Option Value} {base : Heap} {k : Nat} {f : Addr} {name qual : Str} {params : Arguments} {body : List Stmt} {scope : Scope} {dV kV doc pm cdv ct oc : Value} {an od : Option Addr}
  {osl : Array (Option Value)} {N ps : List Str} {sp : Sp} (lk : K.lookup f = some ⟨oc, od, .func (PySem.W.fnOf name qual params body scope dV kV doc pm an cdv ct), osl⟩) (hcd : PySem.W.codeIn K cdv qual = true) (S : aW N ps scope)
  (len : ∀ vs H Q E, sp vs H Q E → vs.length = ps.length)
  (hbody : ∀ (A : Around) (outer : List Env) (s : Shared) (H : Hp) (vs : List V) (Q : VK) (E : XK), cB k (A.deeper (envOfC qual scope s.heap.objs.size f cdv)) → sp vs H Q E →
   ∃ t, PSs (dL CX P w K mg base N qual scope f cdv A outer s H E) body t ∧ t { nx := fun _ H' => Q .non H', rt := Q } (lL N vs) H) :
  qA P w K mg base CX (k + 1) f (PySem.W.fnOf name qual params body scope dV kV doc pm an cdv ct) ps sp := by
 refine ⟨len, fun A outer s H args us vs Q E hr e0 hb r hsp => ?_⟩
 have hl := len _ _ _ _ hsp
 have KX : K.In s.heap := e0.mod.kin.keeps fun b o e => (e0.bs b o e).1
 have lim : s.heap.NoLimit := e0.mod.nolimit.keeps fun b o e => (e0.bs b o e).1
 have hkind : ∀ y ∈ ps.zip us, scope.names.lookup y.1 = some .local ∨ (scope.names.lookup y.1 = some .cell ∧ ((cellsFrom (s.heap.objs.size + 1) scope.names []).lookup y.1).isSome = true) := fun ⟨n, v⟩ hy => by
  rcases S.par n (List.of_mem_zip hy).1 with q | q
  ·exact .inl q
  ·exact .inr ⟨q, PySem.W.cellsFrom_some _ _ _ (.inl q)⟩
 refine codeAny_call_function hr.depth (KX _ _ lk) rfl S.co S.gen rfl (PySem.W.codeRec_of KX hcd) (hb _ _ _ _ ?_)
 refine wpAny_newFunctionEnv_cells S.kind hkind fun env he s1 x => ?_
 subst he
 refine ⟨lim.keeps x.toInCall.keep, codeAny_func ?_⟩
 obtain ⟨t, ht, hq⟩ := hbody A outer s H vs Q E (hr.deeper _) hsp
 have I : bE (dL CX P w K mg base N qual scope f cdv A outer s H E) [] (lL N vs) H s1 := aGZ S hr.hd e0 hl r x
 refine wpAny_mono (ht [] s1 (lL N vs) H _ I hq) (fun fl s' hs => ?_) fun e s' hs => hs
 have fin : ∀ {σ' : St} {H' : Hp} {v : V} {u : Value}, bE (dL CX P w K mg base N qual scope f cdv A outer s H E) [] σ' H' s' → dS v u → Q v H' → CE outer P w H s Q u s' :=
  fun {σ' H' v u} J rv q => ⟨v, H', J.os, J.bare, J.base, J.hok, rv, q⟩
 cases fl with
 | ret u =>
  obtain ⟨v, σ', H', J, rv, q⟩ := hs
  exact fin J rv q
 | next =>
  obtain ⟨σ', H', J, q⟩ := hs
  exact fin (v := V.non) (u := Value.none) J rfl q
 | brk =>
  obtain ⟨_, _, _, q⟩ := hs
  exact False.elim q
 | cont =>
  obtain ⟨_, _, _, q⟩ := hs
  exact False.elim q
section
variable {X : Cx} {x : Str} {p pos : Pos} {e : Expr} {es : List Expr} {t : TA} {id T : String} {r : List V → Hp → VK → Prop}
def tCB (r : List V → Hp → VK → Prop) (t : TA) : TE := fun σ H Q => t σ H fun vs H1 => r vs H1 Q
theorem cH (hc : mT X (.builtin id) r) (hg : Gl X x) (hm : X.mg x = none) (hv : bootBuiltins x = some (.builtin id)) (ha : PA X (e :: es) t) (hn : x ≠ "__name__" := by decide) (hdb : (x == ("__debug__" : Str)) = false := by decide)
  (he : starEach (e :: es) X.env = (false, eval e X.env) :: starEach es X.env := by rfl) (hpl : (backTo pos (starEach es X.env)).any (·.1) = false := by rfl) : PE X (.Call (.Name x p) (e :: es) [] pos) (tCB r t) := by
 intro pins s σ H Q I h
 refine wpAny_Call_Name_kw (qK I hg hm hv ?_ hn hdb)
 exact PyProof.Rows.callWith_builtin1 (gW (ha pos pins s σ H _ I h) fun us s1 ⟨vs, H1, I1, r1, q1⟩ => hc pins s1 σ H1 vs us Q I1 r1 q1) he hpl
theorem d9 (hc : mT X (.type T) r) (hg : Gl X x) (hm : X.mg x = none) (hv : bootBuiltins x = some (.type T)) (ha : PA X (e :: es) t) (hn : x ≠ "__name__" := by decide) (hdb : (x == ("__debug__" : Str)) = false := by decide)
  (he : starEach (e :: es) X.env = (false, eval e X.env) :: starEach es X.env := by rfl) (hpl : (backTo pos (starEach es X.env)).any (·.1) = false := by rfl) : PE X (.Call (.Name x p) (e :: es) [] pos) (tCB r t) := by
 intro pins s σ H Q I h
 refine wpAny_Call_Name_kw (qK I hg hm hv ?_ hn hdb)
 exact PyProof.Rows.callWith_type1 (gW (ha pos pins s σ H _ I h) fun us s1 ⟨vs, H1, I1, r1, q1⟩ => hc pins s1 σ H1 vs us Q I1 r1 q1) he hpl
end
end L2
namespace HT
open PySem PyProof.Rows
section
open PySem.SeqAt
open PySem.AutoSeq1 (wpAny_loadPart')
open PySem.MeetsSeq PySem.MeetsSeq2 PySem.MeetsSeq3
end
section
variable {prog : Program} {w : World} {A : Around} {E : Value → Shared → Prop} {s : Shared}
theorem cat_tup {t b : Addr} {vs ws : List Value} {Q : Value → Shared → Prop} (ht : IsTup s.heap t vs.toArray) (hb : IsTup s.heap b ws.toArray) (hv : vs ≠ [])
  (h1 : ws = [] → Q (.ref t) s) (h2 : ws ≠ [] → Q (.ref s.heap.objs.size) { s with heap := s.heap.push { cls := .type "tuple", data := .seq (vs ++ ws).toArray } })
  (hsz : vs.length + ws.length ≤ sizeLine) : wpAny (model prog w) A (binaryOp .Add (.ref t) (.ref b)) Q E s := by
 obtain ⟨⟨cls, dd, data, sl⟩, ho, hc, n, hd⟩ := id ht
 obtain ⟨⟨cls2, dd2, data2, sl2⟩, ho2, hc2, n2, hd2⟩ := id hb
 simp only at hc hd hc2 hd2
 subst hc hd hc2 hd2
 have e : vs.toArray ++ ws.toArray = (vs ++ ws).toArray := by simp
 by_cases hw : ws = []
 ·exact concat_meets ⟨_, ho, rfl⟩ ⟨_, ho2, rfl⟩ noFill_tuple_add seq_tuple_add PySem.F.slot_tuple_add PySem.F.entry_tuple_add (PySem.F.args_tuple_add_2 _ _)
   (tuple_addW1 t b vs.toArray ws.toArray n n2 dd dd2 sl sl2 (by simpa using hv) (by simp [hw])) ⟨ho, ho2, h1 hw⟩
 ·refine concat_meets ⟨_, ho, rfl⟩ ⟨_, ho2, rfl⟩ noFill_tuple_add seq_tuple_add PySem.F.slot_tuple_add PySem.F.entry_tuple_add (PySem.F.args_tuple_add_2 _ _)
   (tuple_addW2 t b vs.toArray ws.toArray n n2 dd dd2 sl sl2 (by simpa using hv) (by simpa using hw) (by rw [List.size_toArray, List.size_toArray]; exact hsz)) ⟨ho, ho2, ?_⟩
  rw [e]
  exact h2 hw
def sIx (n d : Nat) : Option Int → Nat
 | none => d
 | some v => if v < 0 then (v + (n : Int)).toNat else min v.toNat n
theorem sIx_none (n d : Nat) : sIx n d none = d := rfl
theorem sIx_nat (n d k : Nat) : sIx n d (some (k : Int)) = min k n := by
 show (if (k : Int) < 0 then ((k : Int) + (n : Int)).toNat else min (k : Int).toNat n) = min k n
 rw [if_neg (by omega), Int.toNat_natCast]
theorem aLo (n d : Nat) (hd : d ≤ n) (o : Option Int) : sIx n d o ≤ n := by
 cases o with
 | none => exact hd
 | some v =>
  show (if v < 0 then (v + (n : Int)).toNat else min v.toNat n) ≤ n
  by_cases hv : v < 0
  ·rw [if_pos hv]; omega
  ·rw [if_neg hv]; exact Nat.min_le_right _ _
theorem aFD (v : Int) (n d : Nat) : (if v < 0 then max (v + (n : Int)) 0 else min v (n : Int)) = ((sIx n d (some v) : Nat) : Int) := by
 show (if v < 0 then max (v + (n : Int)) 0 else min v (n : Int)) = (((if v < 0 then (v + (n : Int)).toNat else min v.toNat n) : Nat) : Int)
 by_cases hv : v < 0
 ·simp only [if_pos hv]; omega
 ·simp only [if_neg hv]; omega
theorem aE0 (lo hi : Option Int) (n : Nat) : Builtin.Slice.sliceAdjust lo hi 1 (n : Int) = (((sIx n 0 lo : Nat) : Int), ((sIx n n hi : Nat) : Int)) := by
 have h1 : ¬ ((1 : Int) < 0) := by omega
 unfold Builtin.Slice.sliceAdjust
 simp only [h1, if_false]
 refine Prod.ext ?_ ?_
 ·cases lo with
  | none => rfl
  | some v => exact aFD v n 0
 ·cases hi with
  | none => rfl
  | some v => exact aFD v n n
theorem aEx (i j : Nat) : Builtin.Slice.slicePlaces (i : Int) (j : Int) 1 = j - i := by
 unfold Builtin.Slice.slicePlaces
 have h1 : (1 : Int) > 0 := by omega
 simp only [h1, if_true, Int.ediv_one]
 split <;> omega
theorem aAk {v : Value} {o : Option Int} {Q : Option Int → Shared → Prop} (p : IsPart v o) (h : Q o s) : wpAny (model prog w) A (Builtin.Slice.slicePartIndex v) Q E s := by
 cases p with
 | none => exact slicePart_none h
 | int i t => exact slicePart_int h
theorem sliceApplied_gen {sl : Addr} {vl vu : Value} {lo hi : Option Int} {n : Nat} {Q : Int × Int × Nat → Shared → Prop} (hs : s.heap.IsSliceOf sl vl vu .none) (pl : IsPart vl lo) (pu : IsPart vu hi)
  (h : Q (((sIx n 0 lo : Nat) : Int), 1, sIx n n hi - sIx n 0 lo) s) : wpAny (model prog w) A (Builtin.Slice.sliceApplied (.ref sl) (pure (n : Int))) Q E s := by
 obtain ⟨os, hos, hcs, hds⟩ := id hs
 unfold Builtin.Slice.sliceApplied Builtin.Slice.sliceFields
 refine wpAny_bind (wpAny_bind (wpAny_field hos hds (x := vl) rfl (wpAny_bind (wpAny_field hos hds (x := vu) rfl (wpAny_bind (wpAny_field hos hds (x := .none) rfl (wpAny_pure ?_)))))))
 refine wpAny_bind (slicePart_none ?_)
 show wpAny _ _ (if ((1 : Int) == 0) = true then _ else _) _ _ s
 rw [if_neg (by decide)]
 refine wpAny_bind (aAk pl (wpAny_bind (aAk pu (wpAny_bind (wpAny_pure ?_)))))
 show wpAny _ _ (match Builtin.Slice.sliceAdjust lo hi 1 (n : Int) with | (lo, hi) => pure (lo, (1 : Int), Builtin.Slice.slicePlaces lo hi 1)) _ _ s
 rw [aE0 lo hi n]
 show wpAny _ _ (pure (((sIx n 0 lo : Nat) : Int), (1 : Int), Builtin.Slice.slicePlaces ((sIx n 0 lo : Nat) : Int) ((sIx n n hi : Nat) : Int) 1)) _ _ s
 rw [aEx]
 exact wpAny_pure h
theorem aHJ (xs : Array Value) (i k : Nat) : ((List.range k).filterMap fun (m : Nat) => xs[((i : Int) + (m : Int) * 1).toNat]?).toArray = ((xs.toList.drop i).take k).toArray := by
 have e : (fun (m : Nat) => xs[((i : Int) + (m : Int) * 1).toNat]?) = fun m => xs[i + m]? := by
  funext m
  have : ((i : Int) + (m : Int) * 1).toNat = i + m := by omega
  rw [this]
 rw [e]
 have := pick_run xs i k
 rw [List.filterMap_map] at this
 have e2 : ((fun x => xs[x]?) ∘ fun x => i + x) = fun m => xs[i + m]? := rfl
 rw [e2] at this
 rw [this]
theorem getItem_tuple_cut {t sl : Addr} {items : Array Value} {vl vu : Value} {lo hi : Option Int} {Q : Value → Shared → Prop} (ht : IsTup s.heap t items) (hs : s.heap.IsSliceOf sl vl vu .none) (pl : IsPart vl lo) (pu : IsPart vu hi)
  (hw : ¬ (sIx items.size 0 lo = 0 ∧ sIx items.size items.size hi = items.size))
  (h : Q (.ref s.heap.objs.size) { s with heap := s.heap.push { cls := .type "tuple", data := .seq ((items.toList.drop (sIx items.size 0 lo)).take (sIx items.size items.size hi - sIx items.size 0 lo)).toArray } })
  (hsz : items.size ≤ sizeLine) : wpAny (model prog w) A (getItem (.ref t) (.ref sl)) Q E s := by
 have htake : sizeOk (.seq ((items.toList.drop (sIx items.size 0 lo)).take (sIx items.size items.size hi - sIx items.size 0 lo)).toArray) := by
  show ((items.toList.drop (sIx items.size 0 lo)).take (sIx items.size items.size hi - sIx items.size 0 lo)).toArray.size ≤ sizeLine
  rw [List.size_toArray, List.length_take, List.length_drop, Array.length_toList]
  omega
 have hj : sIx items.size items.size hi ≤ items.size := aLo _ _ (Nat.le_refl _) hi
 obtain ⟨os, hos, hcs, hds⟩ := id hs
 have hTs : s.TypeIs (.ref sl) "slice" := ⟨os, hos, hcs⟩
 unfold getItem
 try with_reducible refine wpAny_holding ?_
 first | refine wpAny_bind (wpAny_pure ?_) | skip
 refine wpAny_bind (wpAny_sequenceKey ht.typeIs (by decide) ?_)
 refine wpAny_bind (wpAny_callSpecial?_slot (name := Str.ofString "__getitem__") ht.typeIs PyProof.Rows.slot_tuple_getitem
  (wpAny_call_entry PyProof.Rows.slot_tuple_getitem ht.typeIs entry_tuple_getitem ?_ (args_tuple_getitem _ _)))
 show wpAny _ _ (Builtin.Tuple.tupleItemsOf (.ref t) >>= _) _ _ s
 refine wpAny_bind (tupleItemsOf_ ht ?_)
 refine wpAny_bind (wpAny_typeOf hTs ?_)
 rw [if_pos (by decide)]
 refine wpAny_bind (sliceApplied_gen hs pl pu ?_)
 have hno : ¬ ((((sIx items.size 0 lo : Nat) : Int) == 0 && (1 : Int) == 1 && (sIx items.size items.size hi - sIx items.size 0 lo) == items.size) = true) := by
  intro q
  rw [Bool.and_eq_true, Bool.and_eq_true] at q
  have q1 : ((sIx items.size 0 lo : Nat) : Int) = 0 := eq_of_beq q.1.1
  have q2 : sIx items.size items.size hi - sIx items.size 0 lo = items.size := eq_of_beq q.2
  exact hw ⟨by omega, by omega⟩
 show wpAny _ _ (if (((sIx items.size 0 lo : Nat) : Int) == 0 && (1 : Int) == 1 && (sIx items.size items.size hi - sIx items.size 0 lo) == items.size) = true then _ else _) _ _ s
 rw [if_neg hno, aHJ]
 first
  | exact wpAny_bind (m := Builtin.Tuple.tupleExact _) (wpAny_newObj_type (wpAny_pure ⟨_, rfl, wpAny_pure h⟩) htake)
  | exact wpAny_bind (m := Builtin.Tuple.tupleExact _) (wpAny_newObj_type (wpAny_bind (wpAny_pure (wpAny_pure ⟨_, rfl, wpAny_pure h⟩))) htake)
  | exact wpAny_bind (wpAny_bind (m := Builtin.Tuple.tupleExact _) (wpAny_newObj_type (wpAny_pure (wpAny_pure ⟨_, rfl, wpAny_pure h⟩)) htake))
  | exact wpAny_bind (wpAny_bind (m := Builtin.Tuple.tupleExact _) (wpAny_newObj_type (wpAny_pure ⟨_, rfl, wpAny_pure h⟩) htake))
end
end HT
namespace L2
open PySem PySem.Spec PyProof.Rows
abbrev TO := St → Hp → (Option Int → Hp → Prop) → Prop
def PO (X : Cx) (e : Option Expr) (t : TO) : Prop :=
 ∀ (pins : List (Addr × Obj)) (s : Shared) (σ : St) (H : Hp) (Q : Option Int → Hp → Prop), bE X pins σ H s → t σ H Q →
  wpAny (model X.prog X.w) X.A (evalPart e X.env) (fun u s' => ∃ o H', bE X pins σ H' s' ∧ IsPart u o ∧ Q o H') X.xe s
def aJU : TO := fun _ H Q => Q none H
def aMK (t : TE) : TO := fun σ H Q => t σ H fun x H1 => ∃ i, x = .int i ∧ Q (some i) H1
theorem aEq {ns : List Int} : ∀ {us : List Value}, dE (ns.map V.int) us → IntsAre us ns := by
 induction ns with
 | nil => intro us r; rw [List.map_nil] at r; cases r; exact .nil
 | cons n ns ih =>
  intro us r
  rw [List.map_cons] at r
  cases r with
  | cons r1 r2 =>
   obtain ⟨t, e⟩ := r1
   subst e
   exact .cons n t (ih r2)
section
variable {X : Cx} {e : Expr} {te : TE} {lo hi : Option Expr} {tl th : TO} {pos p2 : Pos}
theorem aJH : PO X none aJU := by
 intro pins s σ H Q I h
 rw [evalPart_none]
 exact wpAny_pure ⟨none, H, I, .none, h⟩
theorem aIW (h : PE X e te) : PO X (some e) (aMK te) := by
 intro pins s σ H Q I hw
 rw [evalPart_some]
 refine gW (h pins s σ H _ I hw) fun u s1 ⟨x, H1, I1, r1, q1⟩ => ?_
 obtain ⟨i, rfl, q⟩ := q1
 obtain ⟨t, rfl⟩ := r1
 exact ⟨some i, H1, I1, .int i t, q⟩
def SlR (X : Cx) (r : V → Option Int → Option Int → Hp → VK → Prop) : Prop :=
 ∀ (pins : List (Addr × Obj)) (s : Shared) (σ : St) (H : Hp) (x : V) (v vl vu : Value) (lo hi : Option Int) (sl : Addr) (Q : VK), bE X pins σ H s → dS x v → s.heap.IsSliceOf sl vl vu .none → IsPart vl lo → IsPart vu hi → r x lo hi H Q →
  ∃ T id, typeLookup (.type T) "__getitem__" = pure (some (.builtin id)) ∧ s.TypeIs v T ∧ wpAny (model X.prog X.w) X.A (getItem v (.ref sl)) (EP X pins σ Q) X.xe s
theorem SlR.or {r r' : V → Option Int → Option Int → Hp → VK → Prop} (h : SlR X r) (h' : SlR X r') : SlR X (fun x lo hi H Q => r x lo hi H Q ∨ r' x lo hi H Q) := by
 intro pins s σ H x v vl vu lo hi sl Q I rx hs pl pu q
 rcases q with q | q
 ·exact h pins s σ H x v vl vu lo hi sl Q I rx hs pl pu q
 ·exact h' pins s σ H x v vl vu lo hi sl Q I rx hs pl pu q
def tSl (r : V → Option Int → Option Int → Hp → VK → Prop) (te : TE) (tl th : TO) : TE := fun σ H Q => te σ H fun x H1 => tl σ H1 fun l H2 => th σ H2 fun u H3 => r x l u H3 Q
theorem aDX {r : V → Option Int → Option Int → Hp → VK → Prop} (hr : SlR X r) (he : PE X e te) (hl : PO X lo tl) (hu : PO X hi th) : PE X (.Subscript e (.Slice lo hi none p2) pos) (tSl r te tl th) := by
 intro pins s σ H Q I h
 refine Subscript_ (gW (he pins s σ H _ I h) fun v s1 ⟨x, H1, I1, r1, q1⟩ => ?_)
 refine wpAny_Slice (gW (hl pins s1 σ H1 _ I1 q1) fun vl s2 ⟨l, H2, I2, pl, q2⟩ => gW (hu pins s2 σ H2 _ I2 q2) fun vu s3 ⟨u, H3, I3, pu, q3⟩ => ?_)
 rw [evalPart_none]
 refine wpAny_pure ?_
 have I4 : bE X pins σ H3 { s3 with heap := s3.heap.push { cls := .type "slice", data := .fields #[vl, vu, .none] } } := I3.kept (t' := s3.toks) fun b ob q => Heap.get?_push_of_some _ q
 obtain ⟨T, id, hT, ht, hg⟩ := hr pins { s3 with heap := s3.heap.push { cls := .type "slice", data := .fields #[vl, vu, .none] } } σ H3 x v vl vu l u s3.heap.objs.size Q I4 r1 (Heap.IsSliceOf.new ..) pl pu q3
 show wpAny (model X.prog X.w) X.A (subscriptTail e (.Slice lo hi none p2) v (.ref s3.heap.objs.size)) (EP X pins σ Q) X.xe { s3 with heap := s3.heap.push { cls := .type "slice", data := .fields #[vl, vu, .none] } }
 exact tail_any (ops := [.ref s3.heap.objs.size, v]) ht hT hg (by with_unfolding_all rfl)
def aBS (xs : List V) (lo hi : Option Int) : List V := (xs.drop (HT.sIx xs.length 0 lo)).take (HT.sIx xs.length xs.length hi - HT.sIx xs.length 0 lo)
theorem wB (xs : List V) (lo hi : Option Int) : (aBS xs lo hi).length ≤ xs.length := by
 unfold aBS
 rw [List.length_take, List.length_drop]
 omega
def aNI (K : PySem.W.Frag) : V → Option Int → Option Int → Hp → VK → Prop := fun x lo hi H Q => ∃ a xs, x = .ref a ∧ jN K H a xs ∧
 ¬ (HT.sIx xs.length 0 lo = 0 ∧ HT.sIx xs.length xs.length hi = xs.length) ∧ ∀ p, H p = none → Q (.ref p) (upd H p (.tup (aBS xs lo hi)))
theorem aLB : SlR X (aNI X.K) := by
 intro pins s σ H x v vl vu lo hi sl Q I rx hs pl pu h
 obtain ⟨a, xs, rfl, hx, hw, q⟩ := h
 cases rx
 obtain ⟨its, r, ht, hz⟩ := I.tuple hx
 have hlen : its.toArray.size = xs.length := by rw [List.size_toArray]; exact r.length.symm
 refine ⟨"tuple", _, PyProof.Rows.slot_tuple_getitem.lookup, ht.typeIs, ?_⟩
 refine HT.getItem_tuple_cut ht hs pl pu (by rw [hlen]; exact hw) ?_ (by rw [hlen]; exact hz)
 rw [hlen]
 refine ⟨.ref s.heap.objs.size, _, I.laid (t' := s.toks) (o := .tup (aBS xs lo hi)) (fun b ob q => Heap.get?_push_of_some _ q) (Nat.le_refl _) ?_, rfl, q _ (I.hok.fresh (Nat.le_refl _))⟩
 exact ⟨Nat.le_trans (wB xs lo hi) hz, _, (r.drop (HT.sIx xs.length 0 lo)).take (HT.sIx xs.length xs.length hi - HT.sIx xs.length 0 lo), IsTup.new _ _⟩
def aML (K : PySem.W.Frag) : R2 := fun x y H Q => ∃ a b xs ys, x = .ref a ∧ y = .ref b ∧ jN K H a xs ∧ jN K H b ys ∧ xs ≠ [] ∧ xs.length + ys.length ≤ sizeLine ∧
 (ys = [] → Q (.ref a) H) ∧ (ys ≠ [] → ∀ p, H p = none → Q (.ref p) (upd H p (.tup (xs ++ ys))))
theorem dE.nil_iff {xs : List V} {us : List Value} (r : dE xs us) : us = [] ↔ xs = [] := by
 cases r with
 | nil => simp
 | cons _ _ => simp
theorem aIQ : rW X (binaryOp .Add) (aML X.K) := by
 intro pins s σ H x y v u Q I rx ry h
 obtain ⟨a, b, xs, ys, rfl, rfl, ha, hb, hx, hz, q1, q2⟩ := h
 cases rx
 cases ry
 obtain ⟨its, r1, p1, _⟩ := I.tuple ha
 obtain ⟨its2, r2, p2, _⟩ := I.tuple hb
 refine HT.cat_tup p1 p2 (fun z => hx (r1.nil_iff.mp z)) (fun z => ⟨.ref a, H, I, rfl, q1 (r2.nil_iff.mp z)⟩) (fun z => ?_) (by rw [← r1.length, ← r2.length]; exact hz)
 refine ⟨.ref s.heap.objs.size, _, I.laid (t' := s.toks) (o := .tup (xs ++ ys)) (fun b ob q => Heap.get?_push_of_some _ q) (Nat.le_refl _) ?_, rfl, q2 (fun w => z (r2.nil_iff.mpr w)) _ (I.hok.fresh (Nat.le_refl _))⟩
 exact ⟨by rw [List.length_append]; exact hz, _, r1.append r2, IsTup.new _ _⟩
end
def ixN (n : Nat) (i : Int) : Option Nat := if 0 ≤ i then (if i < n then some i.toNat else none) else if -(n : Int) ≤ i then some (i + n).toNat else none
def iC {α : Type} (xs : List α) (i : Int) : Option α := (ixN xs.length i).bind fun j => xs[j]?
theorem aJP {n : Nat} {i : Int} {j : Nat} (h : ixN n i = some j) : seqIndex? i n = some j ∧ j < n ∧ -(n : Int) ≤ i ∧ i < n := by
 unfold ixN at h
 by_cases h0 : 0 ≤ i
 ·rw [if_pos h0] at h
  by_cases h1 : i < n
  ·rw [if_pos h1] at h
   have e : i.toNat = j := Option.some.inj h
   exact ⟨by rw [seqIndex_of h0 h1, e], by omega, by omega, h1⟩
  ·rw [if_neg h1] at h; cases h
 ·rw [if_neg h0] at h
  by_cases h1 : -(n : Int) ≤ i
  ·rw [if_pos h1] at h
   have e : (i + n).toNat = j := Option.some.inj h
   exact ⟨by rw [seqIndex_neg (by omega) h1, e], by omega, h1, by omega⟩
  ·rw [if_neg h1] at h; cases h
theorem aBY {α : Type} {xs : List α} {i : Int} {v : α} (h : iC xs i = some v) : ∃ j, seqIndex? i xs.length = some j ∧ xs[j]? = some v ∧ j < xs.length ∧ -(xs.length : Int) ≤ i ∧ i < xs.length := by
 unfold iC at h
 cases e : ixN xs.length i with
 | none => rw [e] at h; cases h
 | some j =>
  rw [e] at h
  obtain ⟨h1, h2, h3, h4⟩ := aJP e
  exact ⟨j, h1, h, h2, h3, h4⟩
def aFm (b : Expr) : Prop := ∀ o i, subscripted b false o i = operate [o, i] (getItem o i)
def IxR (X : Cx) (r : R2) : Prop :=
 ∀ (value slice : Expr) (pins : List (Addr × Obj)) (s : Shared) (σ : St) (H : Hp) (x y : V) (v u : Value) (Q : VK), bE X pins σ H s → dS x v → dS y u → r x y H Q →
  subscripted slice false v u = operate [v, u] (getItem v u) → wpAny (model X.prog X.w) X.A (subscriptTail value slice v u) (EP X pins σ Q) X.xe s
def MtR (X : Cx) (id : String) (r : V → List V → Hp → VK → Prop) : Prop :=
 ∀ (pins : List (Addr × Obj)) (s : Shared) (σ : St) (H : Hp) (x : V) (xs : List V) (v : Value) (us : List Value) (Q : VK), bE X pins σ H s → dS x v → dE xs us → r x xs H Q →
  wpAny (model X.prog X.w) X.A (call (.builtin id) (v :: us)) (EP X pins σ Q) X.xe s
section
variable {X : Cx} {a b : Expr} {ta tb : TE} {pos : Pos}
theorem IxR.or {r r' : R2} (h : IxR X r) (h' : IxR X r') : IxR X (fun x y H Q => r x y H Q ∨ r' x y H Q) := by
 intro value slice pins s σ H x y v u Q I rx ry q hs
 rcases q with q | q
 ·exact h value slice pins s σ H x y v u Q I rx ry q hs
 ·exact h' value slice pins s σ H x y v u Q I rx ry q hs
theorem aMk {r : R2} (hr : IxR X r) (ha : PE X a ta) (hb : PE X b tb) (hs : aFm b) : PE X (.Subscript a b pos) (tOp r ta tb) := by
 intro pins s σ H Q I h
 exact Subscript_ (aKT ha hb I h fun v u s2 x y H2 I2 rx ry q => hr a b pins s2 σ H2 x y v u Q I2 rx ry q (hs _ _))
def aMn (K : PySem.W.Frag) : R2 := fun x y H Q => ∃ p xs i v, x = .ref p ∧ y = .int i ∧ kK K H p xs ∧ iC xs i = some v ∧ Q v H
def aMx (K : PySem.W.Frag) : R2 := fun x y H Q => ∃ p xs i v, x = .ref p ∧ y = .int i ∧ jN K H p xs ∧ iC xs i = some v ∧ Q v H
def aMb : R2 := fun x y H Q => ∃ z i c, x = .str z ∧ y = .int i ∧ z.length ≤ sizeLine ∧ iC z.cps.toList i = some c ∧ Q (.str ⟨#[c]⟩) H
theorem aKe : IxR X (aMn X.K) := by
 intro value slice pins s σ H x y v u Q I rx ry h hs
 obtain ⟨p, xs, i, z, rfl, rfl, hq, he, q⟩ := h
 cases rx
 obtain ⟨t, rfl⟩ := ry
 obtain ⟨its, r, pl, hz⟩ := I.list hq
 obtain ⟨j, h1, h2, h3, h4, h5⟩ := aBY he
 obtain ⟨w, ew, rw'⟩ := r.get h2
 have hl := r.length
 have hn := y4
 have fin : EP X pins σ Q w s := ⟨z, H, I, rw', q⟩
 by_cases h0 : 0 ≤ i
 ·have hj : i.toNat = j := by
   rw [seqIndex_of h0 h5] at h1
   exact Option.some.inj h1
  exact item_listR pl.isList h0 (by omega) (by rw [hj]; simpa using ew) fin hs
 ·have hj : (i + (its.toArray.size : Int)).toNat = j := by
   rw [seqIndex_neg (by omega) h4] at h1
   rw [List.size_toArray, ← hl]
   exact Option.some.inj h1
  exact subscriptTail_builtinR (x := w) pl.isList.typeIs slot_list_getitem.lookup
   (wpAny_getItem_list_neg (Q := fun r s' => r = w ∧ EP X pins σ Q r s') pl.isList (by omega) (by rw [List.size_toArray] <;> omega) (by omega) (by rw [hj]; simpa using ew) ⟨rfl, fin⟩) hs
theorem aKR : IxR X (aMx X.K) := by
 intro value slice pins s σ H x y v u Q I rx ry h hs
 obtain ⟨p, xs, i, z, rfl, rfl, hq, he, q⟩ := h
 cases rx
 obtain ⟨t, rfl⟩ := ry
 obtain ⟨its, r, pl, hz⟩ := I.tuple hq
 obtain ⟨j, h1, h2, h3, h4, h5⟩ := aBY he
 obtain ⟨w, ew, rw'⟩ := r.get h2
 have hl := r.length
 have hn := y4
 have fin : EP X pins σ Q w s := ⟨z, H, I, rw', q⟩
 exact subscriptTail_builtinR (x := w) pl.typeIs slot_tuple_getitem.lookup
  (getItem_tuple (j := j) (Q := fun r s' => r = w ∧ EP X pins σ Q r s') pl (by omega) (by omega) (by rw [List.size_toArray, ← hl]; exact h1) (by simpa using ew) ⟨rfl, fin⟩) hs
theorem aKA : IxR X aMb := by
 intro value slice pins s σ H x y v u Q I rx ry h hs
 obtain ⟨z, i, c, rfl, rfl, hz, he, q⟩ := h
 obtain ⟨t, rfl⟩ := rx
 obtain ⟨t', rfl⟩ := ry
 obtain ⟨j, h1, h2, h3, h4, h5⟩ := aBY he
 have hl : z.cps.toList.length = z.length := by simp [Str.length]
 rw [hl] at h1 h4 h5
 have hn := y4
 exact tail_any (typeIs_str s z t) slot_str_getitem.lookup (getItem_str (c := c) (by
  have e1 : decide (i < -(2 ^ 63 : Int)) = false := decide_eq_false (by omega)
  have e2 : decide (i ≥ 2 ^ 63) = false := decide_eq_false (by omega)
  rw [e1, e2, Bool.or_false]) (by rw [h1]; simpa using h2) ⟨.str ⟨#[c]⟩, H, I.tok _, ⟨_, rfl⟩, q⟩) hs
def rIx (K : PySem.W.Frag) : R2 := fun x y H Q => aMn K x y H Q ∨ aMx K x y H Q ∨ aMb x y H Q
theorem aLf : IxR X (rIx X.K) := aKe.or (aKR.or aKA)
theorem aBm (lo hi : Option Int) (n : Nat) : (sliceBounds lo hi none n).1 = ((HT.sIx n 0 lo : Nat) : Int) ∧ (sliceBounds lo hi none n).2.1 = ((HT.sIx n n hi : Nat) : Int) ∧ (sliceBounds lo hi none n).2.2 = 1 := by
 refine ⟨?_, ?_, rfl⟩
 ·cases lo with
  | none => simp [sliceBounds, HT.sIx]
  | some i =>
   simp only [sliceBounds, HT.sIx, Option.getD_none, show (1 : Int) > 0 by decide, if_true]
   by_cases h : i < 0
   ·simp only [h, if_true] <;> omega
   ·simp only [h, if_false] <;> omega
 ·cases hi with
  | none => simp [sliceBounds, HT.sIx]
  | some i =>
   simp only [sliceBounds, HT.sIx, Option.getD_none, show (1 : Int) > 0 by decide, if_true]
   by_cases h : i < 0
   ·simp only [h, if_true] <;> omega
   ·simp only [h, if_false] <;> omega
theorem aAC (its : List Value) (lo hi : Option Int) : slicePick its.toArray lo hi none = ((its.drop (HT.sIx its.length 0 lo)).take (HT.sIx its.length its.length hi - HT.sIx its.length 0 lo)).toArray := by
 obtain ⟨h1, h2, h3⟩ := aBm lo hi its.toArray.size
 unfold slicePick
 rw [h1, h2, h3]
 simp only [sliceRange_one, pick_run, List.size_toArray] <;> rfl
def aNk (K : PySem.W.Frag) : V → Option Int → Option Int → Hp → VK → Prop := fun x lo hi H Q => ∃ a xs, x = .ref a ∧ kK K H a xs ∧ ∀ p, H p = none → Q (.ref p) (upd H p (.lst (aBS xs lo hi)))
theorem aJd : SlR X (aNk X.K) := by
 intro pins s σ H x v vl vu lo hi sl Q I rx hs pl pu h
 obtain ⟨a, xs, rfl, hx, q⟩ := h
 cases rx
 obtain ⟨its, r, ht, hz⟩ := I.list hx
 have hlen := r.length
 refine ⟨"list", _, slot_list_getitem.lookup, ht.isList.typeIs, ?_⟩
 refine wpAny_getItem_list_slice ht.isList hs pl pu .none (by simp) ?_ (by rw [List.size_toArray] <;> omega)
 rw [aAC, ← hlen]
 refine ⟨.ref s.heap.objs.size, _, I.laid (t' := s.toks) (o := .lst (aBS xs lo hi)) (fun b ob q => Heap.get?_push_of_some _ q) (Nat.le_refl _) ?_, rfl, q _ (I.hok.fresh (Nat.le_refl _))⟩
 exact ⟨Nat.le_trans (wB xs lo hi) hz, _, 0, (r.drop (HT.sIx xs.length 0 lo)).take (HT.sIx xs.length xs.length hi - HT.sIx xs.length 0 lo), Heap.get?_push_size _ rfl⟩
theorem aBW : mT X (.builtin "len") (fun xs H Q => ∃ p ys, xs = [.ref p] ∧ (kK X.K H p ys ∨ jN X.K H p ys) ∧ Q (.int ys.length) H) := by
 intro pins s σ H xs us Q I r h
 obtain ⟨p, ys, rfl, hq, q⟩ := h
 obtain ⟨u, rfl, rx⟩ := r8 r
 cases rx
 have hn := y4
 rcases hq with hq | hq
 ·obtain ⟨its, r', pl, hz⟩ := I.list hq
  have hlen := r'.length
  exact Calls.call_len_list pl.isList (by simp only [List.size_toArray] <;> omega) ⟨.int ys.length, H, I.tok _, ⟨s.toks + 1, by rw [List.size_toArray, hlen]⟩, q⟩
 ·obtain ⟨its, r', pl, hz⟩ := I.tuple hq
  have hlen := r'.length
  exact len_tuple pl (by simp only [List.size_toArray] <;> omega) ⟨.int ys.length, H, I.tok _, ⟨s.toks + 1, by rw [List.size_toArray, hlen]⟩, q⟩
theorem aAB : mT X (.type "tuple") (fun xs H Q => ∃ p ys, xs = [.ref p] ∧ ((kK X.K H p ys ∧ ∀ l, H l = none → Q (.ref l) (upd H l (.tup ys))) ∨ (jN X.K H p ys ∧ Q (.ref p) H))) := by
 intro pins s σ H xs us Q I r h
 obtain ⟨p, ys, rfl, h⟩ := h
 obtain ⟨u, rfl, rx⟩ := r8 r
 cases rx
 rcases h with ⟨hq, q⟩ | ⟨hq, q⟩
 ·obtain ⟨its, r', pl, hz⟩ := I.list hq
  have hlen := r'.length
  refine call_tuple_list pl.isList (fun h' kp => ?_) (by simp only [List.size_toArray] <;> omega)
  have I1 : bE X pins σ H { s with heap := h' } := I.kept (t' := s.toks) kp
  have I2 : bE X pins σ (upd H h'.objs.size (.tup ys)) { s with heap := h'.push { cls := .type "tuple", data := .seq its.toArray } } :=
   I1.laid (t' := s.toks) (fun b o e => Heap.get?_push_of_some _ e) (Nat.le_refl _) (show iE X.prog X.w _ _ _ (.tup ys) from ⟨hz, its, r', IsTup.new _ _⟩)
  exact ⟨.ref h'.objs.size, _, I2, rfl, q _ (I1.hok.fresh (Nat.le_refl _))⟩
 ·obtain ⟨its, r', pl, hz⟩ := I.tuple hq
  exact call_tuple_same pl ⟨.ref p, H, I, rfl, q⟩
def tyV (K : PySem.W.Frag) (T : String) (x : V) (H : Hp) : Prop := match x with
 | .str _ => T = "str"
 | .int _ => T = "int"
 | .ref p => (T = "list" ∧ ∃ xs, kK K H p xs) ∨ (T = "tuple" ∧ ∃ o, K.lookup p = some o ∧ o.cls = .type "tuple" ∧ o.dict = none) ∨
   (T = "dict" ∧ ((∃ kvs, H p = some (.dK kvs)) ∨ ∃ kvs, H p = some (.dT kvs))) ∨ (T = "set" ∧ ∃ S n, H p = some (.set S n))
 | _ => False
theorem aLk {pins : List (Addr × Obj)} {σ : St} {H : Hp} {s : Shared} {T : String} {x : V} {v : Value} (I : bE X pins σ H s) (r : dS x v) (ty : tyV X.K T x H) :
  s.TypeIs v T ∧ ∀ a, v = .ref a → ∃ ob, s.heap.get? a = some ob ∧ ob.dict = none := by
 cases x with
 | str z =>
  obtain ⟨t, rfl⟩ := r
  cases (show T = "str" from ty)
  exact ⟨typeIs_str s z t, fun _ e => nomatch e⟩
 | int i =>
  obtain ⟨t, rfl⟩ := r
  cases (show T = "int" from ty)
  exact ⟨typeIs_int s i t, fun _ e => nomatch e⟩
 | ref p =>
  cases r
  rcases ty with ⟨rfl, xs, hq⟩ | ⟨rfl, o, hk, hc, hd⟩ | ⟨rfl, hk⟩ | ⟨rfl, S, n, hk⟩
  ·obtain ⟨its, _, pl, _⟩ := I.list hq
   refine ⟨pl.isList.typeIs, fun a e => ?_⟩
   cases e
   obtain ⟨o, n, e, c, hd, _⟩ := pl
   exact ⟨o, e, hd⟩
  ·refine ⟨⟨o, I.kIn p o hk, hc⟩, fun a e => ?_⟩
   cases e
   exact ⟨o, I.kIn _ o hk, hd⟩
  ·have z : ∃ o, s.heap.get? p = some o ∧ o.ExactDict := by
    rcases hk with ⟨kvs, hk⟩ | ⟨kvs, hk⟩
    ·obtain ⟨_, _, _, _, o, _, _, e, ex, _⟩ := I.hok p _ hk
     exact ⟨o, e, ex⟩
    ·obtain ⟨_, _, _, _, o, _, _, e, ex, _⟩ := I.hok p _ hk
     exact ⟨o, e, ex⟩
   obtain ⟨o, e, ex⟩ := z
   refine ⟨⟨o, e, ex.1⟩, fun a e2 => ?_⟩
   cases e2
   exact ⟨o, e, ex.2.1⟩
  ·obtain ⟨o, _, _, _, e, ex, _⟩ := I.hok p _ hk
   refine ⟨⟨o, e, ex.1⟩, fun a e2 => ?_⟩
   cases e2
   exact ⟨o, e, ex.2.1⟩
 | _ => exact False.elim ty
def tBM (K : PySem.W.Frag) (T : String) (r : V → List V → Hp → VK → Prop) (to : TE) (t : TA) : TE := fun σ H Q => to σ H fun x H1 => tyV K T x H1 ∧ t σ H1 fun xs H2 => r x xs H2 Q
variable {o e : Expr} {es : List Expr} {to : TE} {t : TA} {name : Str} {apos cpos : Pos} {T id : String} {r : V → List V → Hp → VK → Prop}
theorem aC9 (pa : PlainAttrs T) (slot : Slot T name id) (hty : typeOf (.builtin id) = pure (.type "method_descriptor")) (hm : MtR X id r) (ho : PE X o to) (ha : PA X (e :: es) t)
  (hbase : attributeBase o name X.env (eval o X.env) = eval o X.env := by rfl)
  (hfew : ((backTo cpos (starEach (e :: es) X.env)).all (fun x => !x.1) && (backToKw cpos (keywordEach [] X.env)).all (fun x => x.1.isSome)
   && decide ((e :: es).length + ([] : List Keyword).length + (if ([] : List Keyword).isEmpty then 0 else 1) < 30)) = true := by rfl)
  (hline : (apos.endLine == cpos.line) = true := by rfl) (hs : starEach (e :: es) X.env = (false, eval e X.env) :: starEach es X.env := by rfl) (hplain : (backTo cpos (starEach es X.env)).any (·.1) = false := by rfl) :
  PE X (.Call (.Attribute o name apos) (e :: es) [] cpos) (tBM X.K T r to t) := by
 intro pins s σ H Q I h
 refine wpAny_Call_method_late hbase hfew hline rfl (gW (ho pins s σ H _ I h) fun v s1 ⟨x, H1, I1, r1, ty, q1⟩ => ?_)
 obtain ⟨h1, h2⟩ := aLk I1 r1 ty
 refine ⟨T, id, pa, slot, hty, h1, h2, ?_⟩
 have hA := ha cpos pins s1 σ H1 _ I1 q1
 rw [hs] at hA ⊢
 refine Calls.callWith_builtin (by show (false || (backTo cpos (starEach es X.env)).any (·.1)) = false; rw [hplain] <;> rfl) (Calls.evalArgs_plain ?_)
 exact gW hA fun us s2 ⟨vs, H2, I2, r2, q2⟩ => hm pins s2 σ H2 x vs v us Q I2 r1 r2 q2
end
def MtM (X : Cx) (id : String) (r : V → List V → Hp → VK → Prop) : Prop :=
 ∀ (pins : List (Addr × Obj)) (s : Shared) (σ : St) (H : Hp) (x : V) (xs : List V) (v : Value) (us : List Value) (Q : VK), bE X pins σ H s → dS x v → dE xs us → r x xs H Q →
  wpAny (model X.prog X.w) X.A (call (.builtin id) (v :: us)) (EP X pins σ Q) X.xe s
theorem dE.one : ∀ {x : V} {us : List Value}, dE [x] us → ∃ u, us = [u] ∧ dS x u
 | _, _, .cons r .nil => ⟨_, rfl, r⟩
theorem dE.rep {xs : List V} {us : List Value} (h : dE xs us) : ∀ k : Nat, dE (List.replicate k xs).flatten (List.replicate k us).flatten
 | 0 => .nil
 | k + 1 => by
  rw [List.replicate_succ, List.replicate_succ, List.flatten_cons, List.flatten_cons]
  exact dE.append h (dE.rep h k)
theorem rF (its : List Value) : ∀ (k : Nat) (acc : List Value),
  List.foldl (fun x1 x2 => x1 ++ x2) acc.toArray (List.replicate k its.toArray) = (acc ++ (List.replicate k its).flatten).toArray
 | 0, acc => by simp
 | k + 1, acc => by
  have e : acc.toArray ++ its.toArray = (acc ++ its).toArray := by simp
  have e2 : (acc ++ its) ++ (List.replicate k its).flatten = acc ++ (List.replicate (k + 1) its).flatten := by
   rw [List.replicate_succ, List.flatten_cons, List.append_assoc]
  rw [← e2, ← rF its k (acc ++ its), ← e, List.replicate_succ, List.foldl_cons]
section
variable {X : Cx} {pins : List (Addr × Obj)} {σ : St} {H : Hp} {s : Shared} {l b : Addr} {xs ys zs : List V}
theorem bE.lset {its its' : List Value} {n : Nat} {f : Array Value → Array Value} {t' : Nat} (I : bE X pins σ H s) (hH : H l = some (.lst xs))
  (e : s.heap.get? l = some { cls := .type "list", data := .seq its.toArray n }) (hf : f its.toArray = its'.toArray) (hv : dE ys its') (hz : ys.length ≤ sizeLine) :
  bE X pins σ (upd H l (.lst ys)) { s with heap := s.heap.update l (Obj.mapSeq f), toks := t' } := by
 have q := PySem.IsL.update e f
 rw [hf] at q
 refine I.write (x := l) (e := l) (by rw [hH]; exact trivial) (.inl rfl) (fun b' u hb hu => (Heap.get?_update_other s.heap (Obj.mapSeq f) (Ne.symm hb)).trans hu) ⟨_, q⟩ ?_
 exact ⟨hz, its', _, hv, q⟩
theorem bE.lnew {its : List Value} {t' : Nat} (I : bE X pins σ H s) (hv : dE ys its) (hz : ys.length ≤ sizeLine) :
  bE X pins σ (upd H s.heap.objs.size (.lst ys)) { s with heap := s.heap.push { cls := .type "list", data := .seq its.toArray }, toks := t' } :=
 I.laid (fun _ _ q => Heap.get?_push_of_some _ q) (Nat.le_refl _) ⟨hz, its, 0, hv, Heap.get?_push_size _ rfl⟩
theorem bE.fresh (I : bE X pins σ H s) : H s.heap.objs.size = none := I.hok.fresh (Nat.le_refl _)
theorem bE.lstM (I : bE X pins σ H s) (hH : H l = some (.lst xs)) : xs.length ≤ sizeLine ∧ ∃ (its : List Value) (n : Nat), dE xs its ∧ xs.length = its.length ∧ s.heap.get? l = some { cls := .type "list", data := .seq its.toArray n } := by
 obtain ⟨z, its, n, r, e⟩ := I.hok l _ hH
 exact ⟨z, its, n, r, r.length, e⟩
theorem aCI {n : Nat} (h : n ≤ sizeLine) : Builtin.List.listTooLong n = false := by
 unfold Builtin.List.listTooLong
 exact decide_eq_false (by omega)
end
section
variable {X : Cx}
def aFi : V → List V → Hp → VK → Prop := fun x vs H Q => ∃ l xs y, x = .ref l ∧ vs = [y] ∧ H l = some (.lst xs) ∧ xs.length < sizeLine ∧ Q .non (upd H l (.lst (xs ++ [y])))
theorem oS : MtM X "list.append" aFi := by
 intro pins s σ H x vs v us Q I rx rv h
 obtain ⟨l, xs, y, rfl, rfl, hH, hz, q⟩ := h
 cases rx
 obtain ⟨u, rfl, ru⟩ := rv.one
 obtain ⟨z, its, n, r, hl, e⟩ := I.lstM hH
 refine call_meets F.slot_list_append ⟨_, e, rfl⟩ F.entry_list_append (F.args_list_append_2 _ _) (PySem.list_append l its.toArray n u (by rw [List.size_toArray]; omega)) ⟨e, ?_⟩
 refine ⟨.non, _, I.lset (its' := its ++ [u]) hH e (by simp) (r.append (.cons ru .nil)) ?_, rfl, q⟩
 rw [List.length_append, List.length_singleton]
 omega
def aFv : V → List V → Hp → VK → Prop := fun x vs H Q => ∃ l b xs zs, x = .ref l ∧ vs = [.ref b] ∧ H l = some (.lst xs) ∧ H b = some (.lst zs) ∧ xs.length + zs.length ≤ sizeLine ∧ Q .non (upd H l (.lst (xs ++ zs)))
theorem aGG : MtM X "list.extend" aFv := by
 intro pins s σ H x vs v us Q I rx rv h
 obtain ⟨l, b, xs, zs, rfl, rfl, hH, hB, hz, q⟩ := h
 cases rx
 obtain ⟨u, rfl, ru⟩ := rv.one
 cases ru
 obtain ⟨z, its, n, r, hl, e⟩ := I.lstM hH
 obtain ⟨z2, its2, n2, r2, hl2, e2⟩ := I.lstM hB
 have hsz : its.toArray.size + its2.toArray.size ≤ sizeLine := by rw [List.size_toArray, List.size_toArray]; omega
 have hlong : ¬ (!its.toArray.isEmpty && Builtin.List.listTooLong (its.toArray.size + its2.toArray.size)) = true := by
  rw [aCI hsz, Bool.and_false]
  exact Bool.false_ne_true
 refine call_meets F.slot_list_extend ⟨_, e, rfl⟩ F.entry_list_extend (F.args_list_extend_2 _ _)
  (AutoSeq1.list_extend_list_list_0 l its.toArray n b its2.toArray n2 hlong (by rw [List.size_toArray]; omega) (by omega)) ⟨e, e2, ?_⟩
 refine ⟨.non, _, I.lset (its' := its ++ its2) hH e (by simp) (r.append r2) ?_, rfl, q⟩
 rw [List.length_append]
 omega
def aNn : R2 := fun x y H Q => ∃ l k xs, x = .ref l ∧ y = .int k ∧ H l = some (.lst xs) ∧ -(2 ^ 63) ≤ k ∧ k < 2 ^ 63 ∧ xs.length * k.toNat ≤ sizeLine ∧
 ∀ p, H p = none → Q (.ref p) (upd H p (.lst (List.replicate k.toNat xs).flatten))
theorem aBt {α : Type} (xs : List α) (k : Nat) : (List.replicate k xs).flatten.length = k * xs.length := by
 induction k with
 | zero => simp
 | succ k ih => rw [List.replicate_succ, List.flatten_cons, List.length_append, ih, Nat.succ_mul, Nat.add_comm]
theorem aLq : rW X (binaryOp .Mult) aNn := by
 intro pins s σ H x y v u Q I rx ry h
 obtain ⟨l, k, xs, rfl, rfl, hH, h1, h2, hz, q⟩ := h
 cases rx
 obtain ⟨t, rfl⟩ := ry
 obtain ⟨z, its, n, r, hl, e⟩ := I.lstM hH
 have hlen : its.toArray.size * k.toNat ≤ sizeLine := by rw [List.size_toArray, ← hl]; exact hz
 have hcap : ¬ its.toArray.size * k.toNat > (2 ^ 63 - 1) / 8 := by
  have : (sizeLine : Nat) ≤ (2 ^ 63 - 1) / 8 := by decide
  omega
 have hfit : ¬ (!Builtin.List.listFitsIndex k) = true := by
  rw [fitsIndex_both h1 h2]
  exact Bool.false_ne_true
 have hlong : ¬ Builtin.List.listTooLong (its.toArray.size * k.toNat) = true := by
  rw [aCI hlen]
  exact Bool.false_ne_true
 have hnew : List.foldl (fun x1 x2 => x1 ++ x2) #[] (List.replicate (if its.toArray.isEmpty = true then 0 else k.toNat) its.toArray) = (List.replicate k.toNat its).flatten.toArray := by
  have f0 : ∀ m : Nat, List.foldl (fun x1 x2 => x1 ++ x2) #[] (List.replicate m its.toArray) = (List.replicate m its).flatten.toArray := fun m => by
   have := rF its m []
   rw [List.nil_append] at this
   exact this
  rw [f0]
  cases its with
  | nil => simp
  | cons a r' => rw [if_neg (by simp)]
 refine wpAny_binaryOp_repeat_ref (T := "list") (U := "int") (by decide) ⟨_, e, rfl⟩ (fun s' => typeIs_int s' k t) noFill_list_mul F.fills_int_mul F.slot_int_rmul repeat_list F.slot_int_index.lookup
  (call_meets F.slot_int_rmul (typeIs_int s k t) F.entry_int_rmul (F.args_int_rmul_2 _ _) (int___rmul___int_list k t l its.toArray n)
   ⟨e, rfl, ⟨_, e, rfl⟩, call_meets F.slot_list_mul ⟨_, e, rfl⟩ F.entry_list_mul (F.args_list_mul_2 _ _) (AutoListH.list___mul___list_int_3 l its.toArray n k t hfit hcap hlong) ⟨e, ?_⟩⟩)
 rw [hnew]
 exact ⟨.ref _, _, I.lnew (t' := s.toks) (r.rep k.toNat) (by rw [aBt, Nat.mul_comm]; exact hz), rfl, q _ I.fresh⟩
end
section
variable {prog : Program} {w : World} {A : Around} {E : Value → Shared → Prop} {s : Shared}
end
section
variable {X : Cx}
end
end L2
namespace Att
open PySem PySem.W PySem.Calls PyProof.Rows
theorem xJ {P : Params} {h : Heap} : ∀ (ns : List Int) (vs : List Value), WellAll P h vs (ns.map WData.int) → IntsAre vs ns := by
 intro ns
 induction ns with
 | nil =>
  intro vs w
  rw [List.map_nil] at w
  cases w
  exact .nil
 | cons n ns ih =>
  intro vs w
  rw [List.map_cons] at w
  cases w with
  | cons a b =>
   cases a
   exact .cons _ _ (ih _ b)
theorem aGv {l : OpenLaw} {n : Nat} (hn : l.most = some n) {P : Params} {h : Heap} {args : List WData} {vals : List Value}
  (hpre : l.row.toRowW.claim.pre args = true) (hwl : WellAll P h vals args) :
  ∃ a vs ns, vals = [Value.ref a] ∧ args = [WData.list (ns.map WData.int)] ∧ h.get? a = some { cls := .type "list", data := .seq vs.toArray } ∧ IntsAre vs ns ∧ ns.length ≤ n := by
 have hsh : WShape.hasAll [] args [.list .int] = true := (pre_splitW hpre).1
 have hc : l.pre.holds [] { args := args } = true := (pre_splitW hpre).2
 obtain ⟨d, r, rfl, h1, h2⟩ := hasAllW_cons hsh
 obtain rfl := hasAllW_nil h2
 obtain ⟨xs, rfl, h3⟩ := hasW_list h1
 obtain ⟨ns, rfl⟩ := items_int h3
 have hlen : ns.length ≤ n := by
  unfold OpenLaw.pre at hc
  have h4 : (WTm.not (.lt (.lit (.int (n : Int))) (.len (.arg 0)))).holds [] { args := [.list (ns.map .int)] } = true := by
   have h4 := (holds_andW hc).1
   rw [hn] at h4
   exact h4
  have h5 := condW_of h4 (w_not (w_lt w_lit (w_len_list (w_arg rfl))))
  rw [List.length_map] at h5
  refine Nat.le_of_not_lt fun q => ?_
  have q' : (n : Int) < ((ns.length : Nat) : Int) := by omega
  first
   | (rw [decide_eq_true q'] at h5; exact absurd h5 (by decide))
   | (simp at h5; omega)
 cases hwl with
 | cons w1 w2 =>
  cases w2
  cases w1 with
  | list ho hall => exact ⟨_, _, ns, rfl, rfl, ho, xJ ns _ hall, hlen⟩
theorem aGh (l : OpenLaw) (args : List WData) : l.row.toRowW.claim.post args (.bool true) args = true :=
 postW_of (r := l.row.toRowW) (X := (true == true))
  (show WShape.has [] (.bool true) .bool = true by first | rfl | decide | simp [WShape.has, WShape.arms, WShape.armsAll])
  (show (WTm.eq .res (.lit (.bool true))).value [] { args := args, res := some (.bool true), after := args } = some (.bool (true == true)) from w_eq_bool (w_res rfl) w_lit) rfl
theorem attach_call {l : OpenLaw} {n : Nat} {q : Program} {loose : List Str} {XP : (Str → Option Value) → Heap → Prop} {YP : World → Heap → Prop} {d : DefRec}
  (hn : l.most = some n) (hdf : d.params.defaults = [])
  (call : ∀ (w : World) (s₀ s₁ : Shared) (mg mb : Str → Option Value) (fa : Addr) (o : Obj) (pm cd doc : Value) (a : Addr) (vs : List Value) (ns : List Int),
   Ground q loose [] XP w s₀ mg mb s₁.heap → YP w s₁.heap →
   s₁.heap.get? fa = some o → o.data = .func (docDef d.name d.params d.body d.scope pm cd doc) → s₁.heap.CodeRec cd d.name → mg d.name = some (.ref fa) →
   s₁.heap.get? a = some { cls := .type "list", data := .seq vs.toArray } → IntsAre vs ns → ns.length ≤ n → s₁.gens = #[] →
   codeAny (model l.prog w) callerA (.call (.ref fa) ⟨[.ref a], []⟩) (fun r s' => r = .ok (.ret (.bool true)) ∧ OldK s₁.heap s'.heap ∧ s'.os = s₁.os ∧ AllBare s'.gens) s₁) :
  WalkO q loose XP YP l.row.toRowW d [] (fun f vs => PySem.call f vs) := by
 intro w s₀ s₁ mg mb G Y fa o pm cd doc dV kV ho hd hcd hD hmg hg args vals as hpre hlay hrd hwl hlo
 obtain rfl : dV = .none := Dflts.none hD hdf
 obtain rfl : kV = .none := Dflts.noKw hD
 obtain ⟨a, vs, ns, rfl, rfl, hobj, hints, hlen⟩ := aGv hn hpre hwl
 refine enter_call (codeAny_mono (call w s₀ s₁ mg mb fa o pm cd doc a vs ns G Y ho (fd_plain hd) hcd hmg hobj hints hlen hg) fun r s' hq => ?_)
 obtain ⟨rfl, h2, h3, h4⟩ := hq
 exact ⟨.inl ⟨.bool true, .bool true, [], rfl, fun _ => rfl, .bool true, aGh l _, fun _ => ⟨List.Pairwise.nil, fun _ hm => (nomatch hm)⟩⟩, h2, h3, h4⟩
section
variable {prog : Program} {w : World} {A : Around} {E : Value → Shared → Prop} {s : Shared} {K : Frag}
end
end Att
namespace L2
open PySem PySem.Spec PyProof.Rows
theorem aBe : ∀ {vs : List Value} {ns : List Int}, IntsAre vs ns → dE (ns.map V.int) vs
 | _, _, .nil => .nil
 | _, _, .cons n t h => .cons ⟨t, rfl⟩ (aBe h)
abbrev l7 {K : PySem.W.Frag} {h : Heap} (_ : K.In h) : PySem.W.Frag := K
def kB (s : Stmt) : Arguments := match s with
 | .FunctionDef _ a _ _ _ _ _ _ _ _ => a
 | _ => { posonlyargs := [], args := [], vararg := none, kwonlyargs := [], kw_defaults := [], kwarg := none, defaults := [] }
def aR (s : Stmt) : List Stmt := match s with
 | .FunctionDef _ _ b _ _ _ _ _ _ _ => b
 | _ => []
def aD (s : Stmt) : Scope := match s with
 | .FunctionDef _ _ _ _ _ _ sc _ _ _ => sc
 | _ => { kind := .function, names := [], isGenerator := false, isCoroutine := false }
abbrev jE : CXT := fun _ _ _ _ _ _ => False
abbrev E0 : XK := fun _ _ _ => False
theorem aHW {X : Cx} : o0 jE X E0 := fun _ _ _ _ _ _ _ h => h.elim
structure Fun (K : PySem.W.Frag) (x qual : Str) (st : Stmt) (f : Addr) (fd : FuncData) : Prop where
 ex : ∃ (oc : Value) (od : Option Addr) (kV doc pm : Value) (an : Option Addr) (cdv ct : Value) (osl : Array (Option Value)),
  fd = PySem.W.fnOf x qual (kB st) (aR st) (aD st) .none kV doc pm an cdv ct ∧ K.lookup f = some ⟨oc, od, .func fd, osl⟩ ∧ PySem.W.codeIn K cdv qual = true
 kp : PySem.W.keepIn K (.ref f) = true
section
variable {P : Program} {w : World} {K : PySem.W.Frag} {mg : Str → Option Value} {base : Heap}
theorem Fun.ok {x qual : Str} {st : Stmt} {f : Addr} {fd : FuncData} {N ps : List Str} {k : Nat} {sp : Sp} (F : Fun K x qual st f fd) (S : aW N ps (aD st)) (len : ∀ vs H Q E, sp vs H Q E → vs.length = ps.length)
  (hbody : ∀ (cdv : Value) (A : Around) (outer : List Env) (s : Shared) (H : Hp) (vs : List V) (Q : VK) (E : XK), cB k (A.deeper (envOfC qual (aD st) s.heap.objs.size f cdv)) → sp vs H Q E →
   ∃ t, PSs (dL jE P w K mg base N qual (aD st) f cdv A outer s H E).nox (aR st) t ∧ t { nx := fun _ H' => Q .non H', rt := Q } (lL N vs) H) : qA P w K mg base jE (k + 1) f fd ps sp := by
 obtain ⟨oc, od, kV, doc, pm, an, cdv, ct, osl, rfl, lk, hcd⟩ := F.ex
 refine aIC lk hcd S len fun A outer s H vs Q E hr hsp => ?_
 obtain ⟨t, h, q⟩ := hbody cdv A outer s H vs Q E hr hsp
 exact ⟨t, h.nox, q⟩
theorem Fun.binds {x qual : Str} {st : Stmt} {f : Addr} {fd : FuncData} {ps : List Str} (F : Fun K x qual st f fd)
  (h : ∀ (kV doc pm : Value) (an : Option Addr) (cdv ct : Value) (us : List Value), us.length = ps.length → bindArgs (PySem.W.fnOf x qual (kB st) (aR st) (aD st) .none kV doc pm an cdv ct) ⟨us, []⟩ = pure (ps.zip us)) : oH K fd ps [] := by
 obtain ⟨oc, od, kV, doc, pm, an, cdv, ct, osl, rfl, lk, hcd⟩ := F.ex
 exact .all (h kV doc pm an cdv ct)
theorem aEh {x qual : Str} {st : Stmt} {f : Addr} {oc : Value} {od an : Option Addr} {osl : Array (Option Value)} {kV doc pm cdv ct : Value} (l : K.lookup f = some ⟨oc, od, .func (PySem.W.fnOf x qual (kB st) (aR st) (aD st) .none kV doc pm an cdv ct), osl⟩)
  (c : PySem.W.codeIn K cdv qual = true) (k : PySem.W.keepIn K (.ref f) = true) : Fun K x qual st f (PySem.W.fnOf x qual (kB st) (aR st) (aD st) .none kV doc pm an cdv ct) := ⟨⟨oc, od, kV, doc, pm, an, cdv, ct, osl, rfl, l, c⟩, k⟩
end
theorem mG {n : Nat} (h : n ≤ 1000) : n < sizeLine := Nat.lt_of_le_of_lt h (by decide)
section
variable {X : Cx}
theorem pv (i : Nat) {x : Str} {pos : Pos} (hN : X.N[i]? = some x := by rfl) (hv : Vis X.env.scope x := by first | exact Or.inl rfl | exact Or.inr (Or.inl rfl) | exact Or.inr (Or.inr rfl)) (hd : (x == ("__debug__" : Str)) = false := by decide)
  (hcd : (x == ("__classdict__" : Str)) = false := by decide) : PE X (.Name x pos) (aBQ i) := aKS hN hv hd hcd
end
theorem aHw {A B : Prop} (h : B) : if false = true then A else B := by
 rw [if_neg Bool.false_ne_true]
 exact h
theorem aIt {A B : Prop} (h : A) : if true = true then A else B := by
 rw [if_pos rfl]
 exact h
def cM (H H' : Hp) : Prop := ∀ b o, H b = some o → H' b = some o
theorem cM.refl (H : Hp) : cM H H := fun _ _ h => h
theorem cM.trans {H H1 H2 : Hp} (a : cM H H1) (b : cM H1 H2) : cM H H2 := fun c o h => b c o (a c o h)
theorem cM.free {H H' : Hp} (e : cM H H') {l : Addr} (h : H' l = Option.none) : H l = Option.none := by
 cases q : H l with
 | none => rfl
 | some o =>
  rw [e l o q] at h
  cases h
theorem cM.seq {K : PySem.W.Frag} {H H' : Hp} {a : Addr} {xs : List V} (e : cM H H') (h : kK K H a xs) : kK K H' a xs := by
 rcases h with (h | ⟨o, h⟩) | h
 ·exact .inl (.inl (e _ _ h))
 ·exact .inl (.inr ⟨o, e _ _ h⟩)
 ·exact .inr h
def n9 (env : Env) (names : List (Str × NameKind)) (acc : List (Str × Addr)) : List (Str × Addr) :=
 match names with
 | [] => acc
 | x :: r => n9 env r (if x.2 == .free then (x.1, (env.cells.lookup x.1).getD 0) :: acc else acc)
theorem aIH (env : Env) : ∀ (names : List (Str × NameKind)) (acc : List (Str × Addr)), (∀ x ∈ names, x.2 = .free → ∃ c, env.cells.lookup x.1 = some c) →
  (forIn names acc (fun (x : Str × NameKind) (cs : List (Str × Addr)) => (if x.2 == .free then (do
   let c ← cellOf env x.1
   pure (ForInStep.yield ((x.1, c) :: cs))) else pure (ForInStep.yield cs) : Sem (ForInStep (List (Str × Addr)))))) = (pure (n9 env names acc) : Sem _) := by
 intro names
 induction names with
 | nil => intro acc _; rw [List.forIn_nil]; rfl
 | cons x r ih =>
  intro acc h
  rw [List.forIn_cons]
  have hr := fun y hy => h y (List.mem_cons_of_mem _ hy)
  show _ = (pure (n9 env r (if x.2 == .free then (x.1, (env.cells.lookup x.1).getD 0) :: acc else acc)) : Sem _)
  by_cases hf : x.2 = .free
  ·obtain ⟨c, e⟩ := h x List.mem_cons_self hf
   have e1 : cellOf env x.1 = pure c := by unfold cellOf; rw [e]
   have e2 : (x.2 == NameKind.free) = true := by rw [hf]; rfl
   simp only [e2, if_true, e1, pure_bind]
   rw [ih _ hr]
   simp only [e, Option.getD_some]
  ·have e2 : (x.2 == NameKind.free) = false := by simpa using hf
   simp only [e2, Bool.false_eq_true, if_false, pure_bind]
   exact ih _ hr
theorem jK {scope : Scope} {env : Env} (h : ∀ x ∈ scope.names, x.2 = .free → ∃ c, env.cells.lookup x.1 = some c) : closureFor scope env = pure (n9 env scope.names []) := by
 have q := aIH env scope.names [] h
 unfold closureFor
 simp only [bind_pure]
 exact q
theorem wP (env : Env) (x : Str) : ∀ (names : List (Str × NameKind)) (acc : List (Str × Addr)),
  (n9 env names acc).lookup x = if (x, NameKind.free) ∈ names then some ((env.cells.lookup x).getD 0) else acc.lookup x := by
 intro names
 induction names with
 | nil => intro acc; rfl
 | cons y r ih =>
  intro acc
  obtain ⟨n, k⟩ := y
  show (n9 env r (if k == .free then (n, (env.cells.lookup n).getD 0) :: acc else acc)).lookup x = _
  rw [ih]
  by_cases h1 : (x, NameKind.free) ∈ r
  ·rw [if_pos h1, if_pos (List.mem_cons_of_mem _ h1)]
  ·rw [if_neg h1]
   by_cases hk : k = .free
   ·subst hk
    rw [if_pos (by rfl), List.lookup_cons]
    by_cases hx : x = n
    ·subst hx
     simp
    ·have : (x == n) = false := by simpa using hx
     rw [this, if_neg]
     intro z
     rcases List.mem_cons.mp z with z | z
     ·exact hx (Prod.mk.inj z).1
     ·exact h1 z
   ·have : (k == NameKind.free) = false := by simpa using hk
    rw [this, if_neg (by simp), if_neg]
    intro z
    rcases List.mem_cons.mp z with z | z
    ·exact hk (Prod.mk.inj z).2.symm
    ·exact h1 z
theorem wO (f : Str → NameKind → NameKind) (x : Str) : ∀ names : List (Str × NameKind), (names.map fun y => (y.1, f y.1 y.2)).lookup x = (names.lookup x).map (f x)
 | [] => rfl
 | (n, k) :: r => by
  rw [List.map_cons, List.lookup_cons, List.lookup_cons, wO f x r]
  by_cases hx : x = n
  ·subst hx; simp
  ·have : (x == n) = false := by simpa using hx
   simp [this]
theorem pZ (scope : Scope) (env : Env) (x : Str) : (relabel scope env).names.lookup x =
  (scope.names.lookup x).map fun k => if (k == .free && env.scope.kind == .function && env.kindOf x == some .cell) then .cell else k := by
 have q := wO (fun n k => if (k == .free && env.scope.kind == .function && env.kindOf n == some .cell) then .cell else k) x scope.names
 rw [← q]
 unfold relabel
 dsimp only
 congr 1
 refine List.map_congr_left fun y _ => ?_
 obtain ⟨n, k⟩ := y
 dsimp only
 split <;> rfl
def lZ (sc cs : Scope) (N Nc : List Str) (fr : List (Option Nat)) : Bool :=
 cs.kind == .function && cs.names.all (fun x => (x.2 != .cell || cs.names.lookup x.1 == some .cell) && (x.2 != .local || cs.names.lookup x.1 == some .local) && (x.2 != .free || sc.names.lookup x.1 == some .cell || sc.names.lookup x.1 == some .free))
  && fr.length == Nc.length && (fr.zip Nc).all (fun y => match y.1 with
   | none => true
   | some j => N[j]? == some y.2 && cs.names.lookup y.2 == some .free)
structure mP (sc cs : Scope) (N Nc : List Str) (fr : List (Option Nat)) : Prop where
 kind : cs.kind = .function
 cel : ∀ x ∈ cs.names, x.2 = .cell → cs.names.lookup x.1 = some .cell
 nms : ∀ x ∈ cs.names, x.2 = .local → cs.names.lookup x.1 = some .local
 fre : ∀ x ∈ cs.names, x.2 = .free → sc.names.lookup x.1 = some .cell ∨ sc.names.lookup x.1 = some .free
 len : fr.length = Nc.length
 frs : ∀ (i j : Nat), fr[i]? = some (some j) → ∃ x, Nc[i]? = some x ∧ N[j]? = some x ∧ cs.names.lookup x = some .free
theorem mP.of {sc cs : Scope} {N Nc : List Str} {fr : List (Option Nat)} (h : lZ sc cs N Nc fr = true) : mP sc cs N Nc fr := by
 unfold lZ at h
 rw [Bool.and_eq_true, Bool.and_eq_true, Bool.and_eq_true] at h
 obtain ⟨⟨⟨h1, h2⟩, h3⟩, h4⟩ := h
 rw [List.all_eq_true] at h2 h4
 refine ⟨by simpa using h1, fun x hx hk => ?_, fun x hx hk => ?_, fun x hx hk => ?_, by simpa using h3, fun i j e => ?_⟩
 ·have q := h2 x hx
  simp only [Bool.and_eq_true] at q
  have q2 := q.1.1
  rw [hk] at q2
  simpa using q2
 ·have q := h2 x hx
  simp only [Bool.and_eq_true] at q
  have q2 := q.1.2
  rw [hk] at q2
  simpa using q2
 ·have q := h2 x hx
  simp only [Bool.and_eq_true] at q
  have q2 := q.2
  rw [hk] at q2
  simp at q2
  rcases q2 with a | a
  ·exact .inl a
  ·exact .inr a
 ·have hl : fr.length = Nc.length := by simpa using h3
  obtain ⟨hi, ei⟩ := List.getElem?_eq_some_iff.mp e
  have hi' : i < Nc.length := by omega
  have hm : (fr[i], Nc[i]) ∈ fr.zip Nc := by
   have : (fr.zip Nc)[i]'(by simp; omega) = (fr[i], Nc[i]) := by simp
   rw [← this]
   exact List.getElem_mem _
  have q := h4 _ hm
  rw [ei] at q
  simp only [Bool.and_eq_true] at q
  exact ⟨Nc[i], by simp [hi'], by simpa using q.1, by simpa using q.2⟩
theorem lA : ∀ (names : List (Str × NameKind)) (n : Nat) (acc : List (Str × Addr)), cellsFrom n names acc = cellsFrom n names [] ++ acc
 | [], _, _ => rfl
 | (name, kind) :: r, n, acc => by
  unfold cellsFrom
  split
  ·rw [lA r (n + 1) ((name, n) :: acc), lA r (n + 1) [(name, n)], List.append_assoc]
   rfl
  ·exact lA r n acc
theorem lF : ∀ (names : List (Str × NameKind)) (n : Nat) (acc : List (Str × Addr)) (x : Str) (c : Addr), (x, c) ∈ cellsFrom n names acc → (x, c) ∈ acc ∨ (x, NameKind.cell) ∈ names
 | [], _, _, _, _, h => .inl h
 | (name, kind) :: r, n, acc, x, c, h => by
  unfold cellsFrom at h
  split at h
  ·rename_i hk
   rcases lF r _ _ x c h with z | z
   ·rcases List.mem_cons.mp z with z | z
    ·refine .inr ?_
     have e := (Prod.mk.inj z).1
     have k' : kind = NameKind.cell := by simpa using hk
     rw [e, k']
     exact List.mem_cons_self
    ·exact .inl z
   ·exact .inr (List.mem_cons_of_mem _ z)
  ·rcases lF r _ _ x c h with z | z
   ·exact .inl z
   ·exact .inr (List.mem_cons_of_mem _ z)
theorem nW : ∀ (names : List (Str × NameKind)) (n : Nat) (acc : List (Str × Addr)) (x : Str), ((x, NameKind.cell) ∈ names ∨ ∃ c, acc.lookup x = some c) → ∃ c, (cellsFrom n names acc).lookup x = some c
 | [], _, _, _, h => by
  rcases h with h | h
  ·cases h
  ·exact h
 | (name, kind) :: r, n, acc, x, h => by
  unfold cellsFrom
  split
  ·rename_i hk
   refine nW r _ _ x ?_
   rcases h with h | ⟨c, h⟩
   ·rcases List.mem_cons.mp h with z | z
    ·refine .inr ⟨n, ?_⟩
     rw [(Prod.mk.inj z).1, List.lookup_cons]
     simp
    ·exact .inl z
   ·by_cases hx : x = name
    ·exact .inr ⟨n, by rw [hx, List.lookup_cons]; simp⟩
    ·refine .inr ⟨c, ?_⟩
     have : (x == name) = false := by simpa using hx
     rw [List.lookup_cons, this]
     exact h
  ·rename_i hk
   refine nW r _ _ x ?_
   rcases h with h | h
   ·rcases List.mem_cons.mp h with z | z
    ·exact absurd (by rw [← (Prod.mk.inj z).2]; rfl) hk
    ·exact .inl z
   ·exact .inr h
theorem aEs {M : Model} {A : Around} {E : Value → Shared → Prop} {s : Shared} {scope : Scope} {globals : Addr} {closure : List (Str × Addr)} {qual : Str} {func : Option Addr} {code : Value} {env : Env} {builtins : Addr} {Q : Env → Shared → Prop}
  (h : Q (newEnv scope s.heap.objs.size globals (cellsFrom (s.heap.objs.size + 1) scope.names closure) qual func code (some env) builtins) { s with heap := pushCells (s.heap.push { cls := .type "dict", data := .dict #[] }) scope.names }) :
  wpAny M A (newFunctionEnv scope globals closure [] qual func code (some env) builtins) Q E s := by
 simp only [newFunctionEnv, Option.isSome_some, if_true]
 refine wpAny_bind (wpAny_alloc ?_)
 refine wpAny_bind (wpAny_layCells _ (fun name kind cells => by cases hkc : kind == NameKind.cell <;> simp [hkc]) _ _ _ _ ?_)
 rw [show ({ s with heap := s.heap.push { cls := .type "dict", data := .dict #[] } } : Shared).heap.objs.size = s.heap.objs.size + 1 from Heap.size_push ..]
 rw [List.forIn_nil]
 exact wpAny_bind (wpAny_pure (wpAny_pure h))
def xA (X : Cx) (scope : Scope) (Nc : List Str) (Cc : Addr) (pins : List (Addr × Obj)) (fp : List Addr) (s3 : Shared) (H3 : Hp) : Cx :=
 { X with N := Nc, s₀ := s3, H₀ := H3, env := compEnvC scope (cellsFrom (Cc + 1) scope.names (n9 X.env scope.names [])) Cc X.env, outer := X.stack, stack := X.stack, ex := fp, fn := fun x => scope.names.lookup x == some .cell, pn := X.pn ++ pins, xe := fun _ _ => False }
def σc (fr : List (Option Nat)) (σ : St) : St := fr.map fun o => o.bind fun j => (σ[j]?).bind id
def Fwd (σ' σ : St) : Prop := σ'.length = σ.length ∧ ∀ (i : Nat) v, σ[i]? = some (some v) → σ'[i]? = some (some v)
def aCz (X : Cx) (ifs : List Expr) (t : TT) : Prop :=
 ∀ (pins : List (Addr × Obj)) (s : Shared) (σ : St) (H : Hp) (Q : Bool → Hp → Prop), bE X pins σ H s → t σ H Q →
  wpAny (model X.prog X.w) X.A (forIn ifs true fun c r => if r = true then do
   let ok ← isTrue c X.env (eval c X.env)
   pure (ForInStep.yield ok) else pure (ForInStep.yield r)) (TP X pins σ Q) X.xe s
def aMB : TT := fun _ H Q => Q true H
theorem aIn {X : Cx} : aCz X [] aMB := fun _ _ _ H _ I h => wpAny_tests_nil ⟨H, I, h⟩
theorem aIh {X : Cx} {c : Expr} {t : TT} (h : PT X c t) : aCz X [c] t := fun pins s σ H Q I q => wpAny_tests_one (h pins s σ H Q I q)
section
variable {prog : Program} {w : World} {A : Around} {R : Result → Shared → Prop} {s : Shared}
theorem aGr {elt target iter : Expr} {ifs : List Expr} {scope : Scope} {pos : Pos} {it acc : Value} {env : Env} (I : Nat → Shared → Prop)
  (turn : ∀ n s, I n s → wpAny (model prog w) A (pyNext it) (fun r s₁ => match r with
   | none => R (.ok .next) s₁
   | some v => wpAny (model prog w) A (letOwnedTupleGo target it v) (fun _ s₂ => wpAny (model prog w) A (assign target env v) (fun _ s₃ =>
     wpAny (model prog w) A (forIn ifs true fun c r => if r = true then do
      let ok ← isTrue c env (eval c env)
      pure (ForInStep.yield ok) else pure (ForInStep.yield r)) (fun ok s₄ =>
      if ok = true then wpAny (model prog w) A (eval elt env) (fun x s₅ =>
       wpAny (model prog w) A (call (.builtin "list.append") [acc, x]) (fun _ s₆ => ∃ m, m < n ∧ I m s₆) (fun _ _ => False) s₅) (fun _ _ => False) s₄
      else ∃ m, m < n ∧ I m s₄) (fun _ _ => False) s₃) (fun _ _ => False) s₂) (fun _ _ => False) s₁) (fun _ _ => False) s)
  (n : Nat) (h : I n s) :
  codeAny (model prog w) A (.compLoop (.ListComp elt [⟨target, iter, ifs, 0⟩] scope pos) 0 it acc env) R s := by
 refine codeAny_loop rfl I (fun n s hI => ?_) n h
 refine wpAny_noted (m := compTurn (.ListComp elt [⟨target, iter, ifs, 0⟩] scope pos) 0 it acc env) (env := env) ?_
 rw [compTurn_list]
 have no : ∀ {E : Value → Shared → Prop} (e : Value) (s : Shared), False → E e s := fun _ _ f => f.elim
 refine wpAny_bind (wpAny_standAt (wpAny_bind (wpAny_mono (turn n s hI) (fun r s₁ h₁ => ?_) no)))
 cases r with
 | none => exact wpAny_pure h₁
 | some v =>
  refine wpAny_bind (wpAny_mono h₁ (fun _ s₂ h₂ => ?_) no)
  refine wpAny_bind (wpAny_mono h₂ (fun _ s₃ h₃ => ?_) no)
  refine wpAny_bind (wpAny_mono h₃ (fun ok s₄ h₄ => ?_) no)
  cases ok with
  | false => exact wpAny_pure ⟨rfl, h₄⟩
  | true =>
   refine wpAny_bind (wpAny_bind (wpAny_mono h₄ (fun x s₅ h₅ => ?_) no))
   exact wpAny_bind (wpAny_mono h₅ (fun _ s₆ h₆ => wpAny_pure (wpAny_pure ⟨rfl, h₆⟩)) no)
end
theorem kC {env : Env} {names : List (Str × NameKind)} {x : Str} {c : Addr} (hf : ∀ y ∈ names, y.2 = .free → ∃ c, env.cells.lookup y.1 = some c) (h : (n9 env names []).lookup x = some c) : (x, NameKind.free) ∈ names ∧ env.cells.lookup x = some c := by
 rw [wP] at h
 by_cases hm : (x, NameKind.free) ∈ names
 ·rw [if_pos hm] at h
  obtain ⟨c', e⟩ := hf _ hm rfl
  rw [e] at h
  exact ⟨hm, by rw [e]; exact h⟩
 ·rw [if_neg hm] at h
  cases h
theorem xY {env : Env} {names : List (Str × NameKind)} {x : Str} {c : Addr} (hm : (x, NameKind.free) ∈ names) (h : env.cells.lookup x = some c) : (n9 env names []).lookup x = some c := by
 rw [wP, if_pos hm, h]
 rfl
structure aEl (scope : Scope) (cl : List (Str × Addr)) (n : Nat) (h : Heap) : Prop where
 has : ∀ x, (x, NameKind.cell) ∈ scope.names → ∃ c, (cellsFrom (n + 1) scope.names cl).lookup x = some c ∧ n < c
 off : ∀ x c, (x, NameKind.cell) ∉ scope.names → cl.lookup x = some c → (cellsFrom (n + 1) scope.names cl).lookup x = some c
 two : ∀ x c, (cellsFrom (n + 1) scope.names cl).lookup x = some c → ((x, NameKind.cell) ∈ scope.names ∧ n < c ∧ h.IsCell c none) ∨ cl.lookup x = some c
 inj : ∀ x y c, (cellsFrom (n + 1) scope.names cl).lookup x = some c → (cellsFrom (n + 1) scope.names cl).lookup y = some c → n < c → (∀ z d, cl.lookup z = some d → d ≤ n) → x = y
theorem aKQ (scope : Scope) (cl : List (Str × Addr)) (h0 : Heap) (o : Obj) : aEl scope cl h0.objs.size (pushCells (h0.push o) scope.names) := by
 have ok := cellsFrom_ok scope.names (h0.push o) (h0.objs.size + 1) [] ⟨fun _ _ hm => (nomatch hm), List.Pairwise.nil⟩ (by rw [Heap.size_push]; exact Nat.le_refl _)
 rw [Heap.size_push] at ok
 have lk : ∀ x, (cellsFrom (h0.objs.size + 1) scope.names cl).lookup x = ((cellsFrom (h0.objs.size + 1) scope.names []).lookup x).or (cl.lookup x) := fun x => by
  rw [lA, List.lookup_append]
 have two : ∀ x c, (cellsFrom (h0.objs.size + 1) scope.names cl).lookup x = some c → ((x, c) ∈ cellsFrom (h0.objs.size + 1) scope.names []) ∨ cl.lookup x = some c := fun x c e => by
  rw [lk] at e
  cases e1 : (cellsFrom (h0.objs.size + 1) scope.names []).lookup x with
  | none => rw [e1] at e; exact .inr e
  | some d => rw [e1] at e; cases e; exact .inl (PySem.mem_of_lookup e1)
 refine ⟨fun x hx => ?_, fun x c hx e => ?_, fun x c e => ?_, fun x y c e1 e2 hc hcl => ?_⟩
 ·obtain ⟨c, e⟩ := nW scope.names (h0.objs.size + 1) [] x (.inl hx)
  exact ⟨c, by rw [lk, e]; rfl, (ok.empty x c (PySem.mem_of_lookup e)).2⟩
 ·rw [lk]
  cases e1 : (cellsFrom (h0.objs.size + 1) scope.names []).lookup x with
  | none => exact e
  | some d =>
   rcases lF _ _ _ _ _ (PySem.mem_of_lookup e1) with z | z
   ·cases z
   ·exact absurd z hx
 ·rcases two x c e with z | z
  ·refine .inl ⟨?_, (ok.empty x c z).2, (ok.empty x c z).1⟩
   rcases lF _ _ _ _ _ z with q | q
   ·cases q
   ·exact q
  ·exact .inr z
 ·rcases two x c e1 with z1 | z1
  ·rcases two y c e2 with z2 | z2
   ·exact name_of_addr ok.apart z1 z2
   ·exact absurd (hcl _ _ z2) (Nat.not_le.mpr hc)
  ·exact absurd (hcl _ _ z1) (Nat.not_le.mpr hc)
section
variable {X : Cx} {scope : Scope} {Nc : List Str} {fr : List (Option Nat)} {pins : List (Addr × Obj)} {σ : St} {H : Hp} {s : Shared} {fp : List Addr}
theorem kX (ok : mP X.env.scope scope X.N Nc fr) (I : bE X pins σ H s) : ∀ y ∈ scope.names, y.2 = .free → ∃ c, X.env.cells.lookup y.1 = some c := fun y hy hk => by
 rcases ok.fre y hy hk with z | z
 ·exact I.ok.has y.1 (.inl z)
 ·exact I.ok.has y.1 (.inr z)
theorem aD1 (ok : mP X.env.scope scope X.N Nc fr) (I : bE X pins σ H s) (hf : ∀ b ∈ fp, nB X pins H b) (hlt : ∀ b ∈ fp, b < s.heap.objs.size) {h1 : Heap} {m1 : Str → Option Value}
  (hn : h1.Ns s.heap.objs.size m1) (up : ∀ b o, s.heap.get? b = some o → h1.get? b = some o) (cs : aEl scope (n9 X.env scope.names []) s.heap.objs.size h1) :
  bE (xA X scope Nc s.heap.objs.size pins fp s H) [] (σc fr σ) H { s with heap := h1 } := by
 have hcell := kX ok I
 have stk : ∀ b, b ∈ frs X.stack → b ∈ X.env.locals :: X.fs := I.stkSub
 have clt : ∀ x c, X.env.cells.lookup x = some c → c < s.heap.objs.size := fun x c e => by
  obtain ⟨v, q⟩ := I.cell x c e
  exact q.lt
 have cll : ∀ x c, (n9 X.env scope.names []).lookup x = some c → c ≤ s.heap.objs.size := fun x c e => Nat.le_of_lt (clt x c (kC hcell e).2)
 have kw : ∀ x, (relabel scope X.env).names.lookup x = some .cell ∨ (relabel scope X.env).names.lookup x = some .free → scope.names.lookup x = some .free ∨ scope.names.lookup x = some .cell := fun x h => by
  rw [pZ] at h
  cases e : scope.names.lookup x with
  | none => rw [e] at h; rcases h with h | h <;> cases h
  | some k =>
   rw [e] at h
   by_cases hk : k = .free
   ·rw [hk]; exact .inl rfl
   ·have : (k == NameKind.free) = false := by simpa using hk
    simp only [Option.map_some, this, Bool.false_and, Bool.false_eq_true, if_false] at h
    rcases h with h | h
    ·exact .inr h
    ·exact absurd (Option.some.inj h) hk
 refine ⟨⟨I.ok.mod, ok.kind, I.ok.glob, I.ok.blt, Nat.le_refl _, fun x y c h1 h2 => ?_, fun x hx => ?_, fun x c h e => ?_, I.ok.hd, I.ok.frames, .inl rfl, fun b hb => ⟨?_, fun x c e => ?_⟩, I.bs, Nat.le_trans I.ok.bsz I.sz, fun b o e hb => ?_, fun b hb hb' => ?_, I.stack, I.stkFree⟩,
  rfl, I.bare, Un.kept up, ⟨m1, hn, fun i x v e1 e2 e3 => ?_⟩, fun x c e => ?_, I.hok.fresh (Nat.le_refl _), fun x c e => ?_, fun p hp => ?_, I.hok.kept up, ?_⟩
 ·rcases cs.two x c h1 with ⟨_, z, _⟩ | z1
  ·exact cs.inj x y c h1 h2 z cll
  ·rcases cs.two y c h2 with ⟨_, z, _⟩ | z2
   ·exact cs.inj x y c h1 h2 z cll
   ·exact I.ok.inj x y c (kC hcell z1).2 (kC hcell z2).2
 ·rcases kw x hx with q | q
  ·have hm : (x, NameKind.free) ∈ scope.names := PySem.mem_of_lookup q
   obtain ⟨c, e⟩ := hcell _ hm rfl
   have nc : (x, NameKind.cell) ∉ scope.names := fun z => by
    have := ok.cel _ z rfl
    rw [q] at this
    cases this
   exact ⟨c, cs.off x c nc (xY hm e)⟩
  ·obtain ⟨c, e, _⟩ := cs.has x (PySem.mem_of_lookup q)
   exact ⟨c, e⟩
 ·have q : scope.names.lookup x = some .cell := by
   have h' : (scope.names.lookup x == some NameKind.cell) = true := h
   simpa using h'
  obtain ⟨c', e', l⟩ := cs.has x (PySem.mem_of_lookup q)
  have e2 : (cellsFrom (s.heap.objs.size + 1) scope.names (n9 X.env scope.names [])).lookup x = some c := e
  rw [e'] at e2
  cases e2
  exact Nat.le_of_lt l
 ·exact Nat.ne_of_lt (hlt b hb)
 ·rcases cs.two x c e with ⟨_, z, _⟩ | z
  ·exact Nat.ne_of_gt (Nat.lt_trans (hlt b hb) z)
  ·exact (hf b hb).2.2.2.2.1 x c (kC hcell z).2
 ·rcases (hf b hb).2.2.2.1 with z | z
  ·exact I.ok.noex b o e z
  ·exact absurd (Nat.lt_of_lt_of_le (Heap.lt_size e) (Nat.le_trans I.ok.bsz z)) (Nat.lt_irrefl _)
 ·have q := hf b hb
  rcases List.mem_cons.mp (stk b hb') with z | z
  ·exact q.2.1 z
  ·exact q.2.2.1 z
 ·have e2' : (σc fr σ)[i]? = some (some v) := e2
  unfold σc at e2'
  rw [List.getElem?_map] at e2'
  cases ef : fr[i]? with
  | none => rw [ef] at e2'; cases e2'
  | some o =>
   rw [ef] at e2'
   cases o with
   | none => cases e2'
   | some j =>
    obtain ⟨y, a1, a2, a3⟩ := ok.frs i j ef
    have a1' : (xA X scope Nc s.heap.objs.size pins fp s H).N[i]? = some y := a1
    rw [a1'] at e1
    obtain rfl : y = x := Option.some.inj e1
    have ej : σ[j]? = some (some v) := by
     have e2'' : (σ[j]?).bind id = some v := Option.some.inj e2'
     cases es : σ[j]? with
     | none => rw [es] at e2''; cases e2''
     | some z => rw [es] at e2''; cases z with
      | none => cases e2''
      | some z' => exact congrArg some e2''
    have hm : (y, NameKind.free) ∈ scope.names := PySem.mem_of_lookup a3
    have kc := ok.fre _ hm rfl
    obtain ⟨m, hn', hl⟩ := I.loc
    obtain ⟨u, r, l⟩ := hl j y v a2 ej (.inr kc)
    refine ⟨u, r, .inr ?_⟩
    rcases l with ⟨k, _⟩ | ⟨k, c, e, z⟩
    ·exfalso
     have k' : X.env.scope.names.lookup y = some .local := k
     rcases kc with q | q <;> (rw [q] at k'; cases k')
    ·have nc : (y, NameKind.cell) ∉ scope.names := fun z => by
      have := ok.cel _ z rfl
      rw [a3] at this
      cases this
     refine ⟨?_, c, cs.off y c nc (xY hm e), ?_⟩
     ·show (relabel scope X.env).names.lookup y = some .cell ∨ (relabel scope X.env).names.lookup y = some .free
      rw [pZ, a3]
      show some (if _ then _ else _) = _ ∨ some (if _ then _ else _) = _
      split
      ·exact .inl rfl
      ·exact .inr rfl
     ·obtain ⟨oc, ho, hd⟩ := z
      exact ⟨oc, up _ _ ho, hd⟩
 ·rcases cs.two x c e with ⟨_, _, z⟩ | z
  ·exact ⟨none, z⟩
  ·obtain ⟨v, oc, ho, hd⟩ := I.cell x c (kC hcell z).2
   exact ⟨v, oc, up _ _ ho, hd⟩
 ·rcases cs.two x c e with ⟨_, z, _⟩ | z
  ·exact I.hok.fresh (Nat.le_of_lt z)
  ·exact I.freeC x c (kC hcell z).2
 ·have hp' : p ∈ X.pn ++ pins := by
   rcases List.mem_append.mp hp with z | z
   ·exact z
   ·exact absurd z (by simp)
  obtain ⟨e, n, ne, nf, d⟩ := I.pin p hp'
  refine ⟨up _ _ e, n, Nat.ne_of_lt (Heap.lt_size e), fun z => ?_, d⟩
  rcases List.mem_cons.mp (stk _ z) with z | z
  ·exact ne z
  ·exact nf z
 ·unfold σc
  rw [List.length_map]
  exact ok.len
end
def aEX (J : It) (σ₀ : St) (g : TG) (tt : TT) (te : TE) (D : Addr) (H1 : Hp) (Q : VK) : Prop :=
 ∃ W : Nat → Nat → List V → Hp → Prop, (∃ m, W 0 m [] (upd H1 D (.lst []))) ∧ ∀ i m ys H, W i m ys H →
  (J.stop i H ∧ Q (.ref D) H) ∨ (J.go i H ∧ ∀ x H', J.yld i H x H' → g x σ₀ H' fun σ2 H2 => Fwd σ2 σ₀ ∧ tt σ2 H2 fun b H3 =>
   if b = true then te σ2 H3 fun y H4 => H4 D = some (.lst ys) ∧ ys.length < sizeLine ∧ ∃ m', m' < m ∧ W (i + 1) m' (ys ++ [y]) (upd H4 D (.lst (ys ++ [y])))
   else ∃ m', m' < m ∧ W (i + 1) m' ys H3)
def aCM (X : Cx) (pins : List (Addr × Obj)) (σ : St) (Q : VK) (acc : Value) (C : Addr) (r : Result) (s' : Shared) : Prop :=
 ∃ D H', acc = .ref D ∧ r = .ok .next ∧ bE X pins σ H' s' ∧ nB X pins H' C ∧ (∃ m, s'.heap.Ns C m) ∧ Q (.ref D) H'
section
variable {X : Cx} {scope : Scope} {Nc : List Str} {fr : List (Option Nat)} {pins : List (Addr × Obj)} {σ : St} {H : Hp} {s : Shared} {fp : List Addr}
theorem aAX {tg elt iter : Expr} {ifs : List Expr} {pos : Pos} {g : TG} {tt : TT} {te : TE} {J : It} {it : Addr} {tn : Nat → Heap → Prop} {Q : VK} {E : Value → Shared → Prop} (ok : mP X.env.scope scope X.N Nc fr) (hc : X.calm = true)
  (hg : ∀ Cc pins fp s3 H3, PG (xA X scope Nc Cc pins fp s3 H3) tg g) (ht : ∀ Cc pins fp s3 H3, aCz (xA X scope Nc Cc pins fp s3 H3) ifs tt) (he : ∀ Cc pins fp s3 H3, PE (xA X scope Nc Cc pins fp s3 H3) elt te)
  (I : bE X pins σ H s) (T : aB0 X.prog X.w X.K tg J fp it tn) (st : tn 0 s.heap) (hf : ∀ b ∈ fp, nB X pins H b) (w : ∀ D, H D = none → aEX J (σc fr σ) g tt te D H Q) :
  wpAny (model X.prog X.w) X.A (newList []) (fun acc s₃ => wpAny (model X.prog X.w) X.A (newFunctionEnv scope X.env.globals (n9 X.env scope.names []) [] X.env.qual none .none (some X.env)) (fun cenv s₄ =>
   codeAny (model X.prog X.w) X.A (.compStart (.ListComp elt [⟨tg, iter, ifs, 0⟩] scope pos) 0 (.ref it) acc { cenv with scope := relabel scope X.env }) (aCM X pins σ Q acc cenv.locals) s₄) E s₃) E s := by
 have flt : ∀ b ∈ fp, b < s.heap.objs.size := fun b hb => by
  obtain ⟨o, e, _⟩ := T.obj 0 _ st b hb
  exact Heap.lt_size e
 refine wpAny_newList ?_ (by show 0 ≤ sizeLine; exact Nat.zero_le _)
 have I3 := I.lnew (ys := []) (its := []) (t' := s.toks) .nil (Nat.zero_le _)
 have st3 : tn 0 (s.heap.push { cls := .type "list", data := .seq ([] : List Value).toArray }) := T.keep 0 _ _ st fun b _ o e => Heap.get?_push_of_some _ e
 obtain ⟨W, ⟨m0, w0⟩, turn⟩ := w s.heap.objs.size I.fresh
 have hf3 : ∀ b ∈ fp, nB X pins (upd H s.heap.objs.size (.lst [])) b := fun b hb => ⟨by rw [aV (Nat.ne_of_lt (flt b hb))]; exact (hf b hb).1, (hf b hb).2⟩
 generalize hD : s.heap.objs.size = D at *
 generalize hs3 : ({ s with heap := s.heap.push { cls := .type "list", data := .seq ([] : List Value).toArray } } : Shared) = s3
 have I3' : bE X pins σ (upd H D (.lst [])) s3 := hs3 ▸ I3
 have st3' : tn 0 s3.heap := by rw [← hs3]; exact st3
 have flt3 : ∀ b ∈ fp, b < s3.heap.objs.size := fun b hb => by
  obtain ⟨o, e, _⟩ := T.obj 0 _ st3' b hb
  exact Heap.lt_size e
 refine aEs ?_
 generalize hh1 : pushCells (s3.heap.push { cls := .type "dict", data := .dict #[] }) scope.names = h1
 have hn1 : h1.Ns s3.heap.objs.size (fun _ => none) := hh1 ▸ (Heap.Ns.new s3.heap (.type "dict")).keeps (pushCells_keeps _ _)
 have up : ∀ b o, s3.heap.get? b = some o → h1.get? b = some o := fun b o e => hh1 ▸ pushCells_keeps _ _ b o (Heap.get?_push_of_some _ e)
 have cs1 : aEl scope (n9 X.env scope.names []) s3.heap.objs.size h1 := hh1 ▸ aKQ scope (n9 X.env scope.names []) s3.heap _
 have I4 : bE (xA X scope Nc s3.heap.objs.size pins fp s3 (upd H D (.lst []))) [] (σc fr σ) (upd H D (.lst [])) { s3 with heap := h1 } := aD1 ok I3' hf3 flt3 hn1 up cs1
 have st4 : tn 0 h1 := T.keep 0 _ _ st3' fun b _ o e => up b o e
 generalize hXc : xA X scope Nc s3.heap.objs.size pins fp s3 (upd H D (.lst [])) = Xc at I4
 have hg' : PG Xc tg g := hXc ▸ hg _ _ _ _ _
 have ht' : aCz Xc ifs tt := hXc ▸ ht _ _ _ _ _
 have he' : PE Xc elt te := hXc ▸ he _ _ _ _ _
 have eP : Xc.prog = X.prog := by rw [← hXc]; rfl
 have ew : Xc.w = X.w := by rw [← hXc]; rfl
 have eK : Xc.K = X.K := by rw [← hXc]; rfl
 have eA : Xc.A = X.A := by rw [← hXc]; rfl
 have ec : Xc.calm = true := by rw [← hXc]; exact hc
 have ex : Xc.xe = fun _ _ => False := by rw [← hXc]; rfl
 have ee : Xc.env = compEnvC scope (cellsFrom (s3.heap.objs.size + 1) scope.names (n9 X.env scope.names [])) s3.heap.objs.size X.env := by rw [← hXc]; rfl
 have elo : Xc.env.locals = s3.heap.objs.size := by rw [ee]; rfl
 have stat : ∀ {H' : Hp}, (∀ b ∈ fp, H' b = none) → ∀ b ∈ fp, nB Xc [] H' b := fun {H'} hn b hb => by
  have q := hf b hb
  refine ⟨hn b hb, by rw [elo]; exact Nat.ne_of_lt (flt3 b hb), fun z => ?_, .inl (by rw [← hXc]; exact hb), fun x c e => ?_, fun p hp => ?_⟩
  ·have z' : b ∈ frs X.stack := by rw [← hXc] at z; exact z
   rcases List.mem_cons.mp (I.stkSub b z') with z | z
   ·exact q.2.1 z
   ·exact q.2.2.1 z
  ·have e' : (cellsFrom (s3.heap.objs.size + 1) scope.names (n9 X.env scope.names [])).lookup x = some c := by rw [ee] at e; exact e
   rcases cs1.two x c e' with ⟨_, z, _⟩ | z
   ·exact Nat.ne_of_gt (Nat.lt_trans (flt3 b hb) z)
   ·exact q.2.2.2.2.1 x c (kC (kX ok I) z).2
  ·have hp' : p ∈ (X.pn ++ pins) ++ [] := by rw [← hXc] at hp; exact hp
   rw [List.append_nil] at hp'
   exact q.2.2.2.2.2 p hp'
 have loop : codeAny (model X.prog X.w) X.A (.compLoop (.ListComp elt [⟨tg, iter, ifs, 0⟩] scope pos) 0 (.ref it) (.ref D) Xc.env) (aCM X pins σ Q (.ref D) s3.heap.objs.size) { s3 with heap := h1 } := by
  refine aGr (fun n s' => ∃ i ys H', bE Xc [] (σc fr σ) H' s' ∧ tn i s'.heap ∧ (∀ b ∈ fp, H' b = none) ∧ W i n ys H') ?_ m0 ⟨0, [], _, I4, st4, fun b hb => (hf3 b hb).1, w0⟩
  rintro n s5 ⟨i, ys, H5, I5, st5, fr5, w5⟩
  rcases turn i n ys H5 w5 with ⟨stop, qn⟩ | ⟨go, step⟩
  ·have q := T.done Xc eP ew eK ec i [] s5 (σc fr σ) H5 (fun _ _ => False) I5 (stat fr5) st5 stop
   rw [eA] at q
   refine gW q fun r s6 ⟨hr, I6⟩ => ?_
   subst hr
   obtain ⟨m6, hn6, _⟩ := I6.loc
   have fC : H5 s3.heap.objs.size = none := by have := I6.free; rwa [elo] at this
   have bs := I6.base
   have os := I6.os
   have hk := I6.hok
   rw [← hXc] at bs os hk
   refine ⟨D, H5, rfl, rfl, I3'.call' os bs hk I6.bare fun b hb => ?_, I3'.fpOk (Nat.le_refl _) fC, ⟨m6, by rw [elo] at hn6; exact hn6⟩, qn⟩
   have q := hf b hb
   exact ⟨q.2.2.2.1, q.2.1, q.2.2.2.2.1, q.2.2.2.2.2⟩
  ·have q := T.item Xc eP ew eK ec i [] s5 (σc fr σ) H5 (fun _ _ => False) I5 (stat fr5) st5 go
   rw [eA] at q
   refine gW q fun r s6 ⟨u, hr, h6⟩ => ?_
   subst hr
   refine gW h6 fun _ s7 ⟨x, H7, I7, r7, y7, st7, fr7⟩ => ?_
   have I7' := I7.pinned (stat fr7) (T.obj _ _ st7)
   have q8 := hg' _ s7 _ H7 x u _ I7' r7 (step x H7 y7)
   rw [eP, ew, eA, ex] at q8
   refine gW q8 fun _ s8 ⟨σ8, H8, I8, fw8, q8⟩ => ?_
   have q9 := ht' _ s8 σ8 H8 _ I8 q8
   rw [eP, ew, eA, ex] at q9
   refine gW q9 fun b s9 ⟨H9, I9, q9⟩ => ?_
   have again : ∀ {H' : Hp} {ys' : List V} {s' : Shared}, bE Xc ([] ++ aAc fp s7.heap) σ8 H' s' → (∃ m', m' < n ∧ W (i + 1) m' ys' H') → ∃ m, m < n ∧ ∃ i ys H', bE Xc [] (σc fr σ) H' s' ∧ tn i s'.heap ∧ (∀ b ∈ fp, H' b = none) ∧ W i m ys H' := fun {H' ys' s'} J' ⟨m', hm, w'⟩ => by
    refine ⟨m', hm, i + 1, ys', H', (J'.unpinned).weak fw8.1.symm fw8.2, T.keep _ _ _ st7 fun b hb o e => (J'.pin (b, o) (List.mem_append_right _ (List.mem_append_right _ (oY hb e)))).1, fun b hb => ?_, w'⟩
    obtain ⟨o, e, d⟩ := T.obj _ _ st7 b hb
    exact (J'.pin (b, o) (List.mem_append_right _ (List.mem_append_right _ (oY hb e)))).2.1
   cases b with
   | false =>
    rw [if_neg (by simp)]
    exact again I9 q9
   | true =>
    rw [if_pos rfl]
    have q9' : te σ8 H9 fun y H4 => H4 D = some (.lst ys) ∧ ys.length < sizeLine ∧ ∃ m', m' < n ∧ W (i + 1) m' (ys ++ [y]) (upd H4 D (.lst (ys ++ [y]))) := q9
    have q10 := he' _ s9 σ8 H9 _ I9 q9'
    rw [eP, ew, eA, ex] at q10
    refine gW q10 fun y s10 ⟨z, H10, I10, r10, e10, l10, w10⟩ => ?_
    have q11 := oS (X := Xc) _ s10 σ8 H10 (.ref D) [z] (.ref D) [y] (fun v H' => ∃ m', m' < n ∧ W (i + 1) m' (ys ++ [z]) H') I10 rfl (.cons r10 .nil) ⟨D, ys, z, rfl, rfl, e10, l10, w10⟩
    rw [eP, ew, eA, ex] at q11
    exact gW q11 fun _ s11 ⟨_, H11, I11, _, w11⟩ => again I11 w11
 have loop' := loop
 rw [ee] at loop'
 exact codeAny_compStart_list loop' (T.self X.A 0 _ _ _ st4 loop')
def aH0 (fr : List (Option Nat)) (wi : TI) (g : TG) (tt : TT) (te : TE) : TE := fun σ H Q => wi σ H fun J H1 => ∀ D, H1 D = none → aEX J (σc fr σ) g tt te D H1 Q
theorem yO {C : Addr} {H' : Hp} {s' : Shared} {h' : Heap} (I : bE X pins σ H' s') (f : nB X pins H' C) (hs : Heap.SameBut C s'.heap h') : bE X pins σ H' { s' with heap := h' } :=
 I.turned (t' := s'.toks) (fun b o hb e => (hs.2 b hb).trans e) f.1 f.2.1 f.2.2.2.1 f.2.2.2.2.1 f.2.2.2.2.2
theorem aE5 {tg elt iter : Expr} {ifs : List Expr} {pos : Pos} {g : TG} {tt : TT} {te : TE} {wi : TI} (ok : lZ X.env.scope scope X.N Nc fr = true) (hc : X.calm = true) (hi : PI X tg iter wi)
  (hg : ∀ Cc pins fp s3 H3, PG (xA X scope Nc Cc pins fp s3 H3) tg g) (ht : ∀ Cc pins fp s3 H3, aCz (xA X scope Nc Cc pins fp s3 H3) ifs tt) (he : ∀ Cc pins fp s3 H3, PE (xA X scope Nc Cc pins fp s3 H3) elt te)
  (hs : ∀ x, foldedSetIterable iter X.env x = pure x := by intro _; rfl) :
  PE X (.ListComp elt [⟨tg, iter, ifs, 0⟩] scope pos) (aH0 fr wi g tt te) := by
 have ok := mP.of ok
 intro pins s σ H Q I h
 rw [eval_ListComp]
 refine wpAny_comprehension_free (use := none) rfl hs (jK (kX ok I)) ok.kind ok.nms (gW (hi pins s σ H _ I h) fun v s1 h1 => gW h1 fun itv s2 h2 => ?_)
 obtain ⟨it, fp, tn, J, H2, e, I2, T, st2, f2, w⟩ := h2
 subst e
 refine gW (aAX ok hc hg ht he I2 T st2 f2 w) fun acc s3 h3 => gW h3 fun cenv s4 h4 => codeAny_mono h4 fun r s5 h5 => ?_
 obtain ⟨D, H5, rfl, rfl, I5, f5, ⟨m5, n5⟩, q5⟩ := h5
 exact ⟨m5, n5, fun h' sb => ⟨.ref D, H5, yO I5 f5 sb, rfl, q5⟩⟩
theorem aFK {tg elt iter : Expr} {ifs : List Expr} {pos pos' pos'' : Pos} {g : TG} {tt : TT} {te : TE} {wi : TI} {i : Nat} {x : Str} (ok : lZ X.env.scope scope X.N Nc fr = true) (hc : X.calm = true) (hN : X.N.Nodup) (hi : X.N[i]? = some x) (hx : Loc X.env.scope x) (hit : PI X tg iter wi)
  (hg : ∀ Cc pins fp s3 H3, PG (xA X scope Nc Cc pins fp s3 H3) tg g) (ht : ∀ Cc pins fp s3 H3, aCz (xA X scope Nc Cc pins fp s3 H3) ifs tt) (he : ∀ Cc pins fp s3 H3, PE (xA X scope Nc Cc pins fp s3 H3) elt te)
  (hsw : swapsWith (.ListComp elt [⟨tg, iter, ifs, 0⟩] scope pos) (some (.Name x pos')) pos''.line X.env = pure true)
  (hs : ∀ x, foldedSetIterable iter X.env x = pure x := by intro _; rfl) (hf : X.fn x = true ∨ X.env.scope.names.lookup x = some .local := by first | exact .inl rfl | exact .inr rfl | assumption) :
  PS X (.Assign [.Name x pos'] (.ListComp elt [⟨tg, iter, ifs, 0⟩] scope pos) pos'') (aEH (aH0 fr wi g tt te) (wH i)) := by
 have ok := mP.of ok
 intro pins s σ H Dn I h
 rw [exec_Assign_Name_used _ _ _ _ hsw]
 refine wpAny_bind (wpAny_standAt (wpAny_bind ?_))
 refine wpAny_bind (m := comprehension (.ListComp elt [⟨tg, iter, ifs, 0⟩] scope pos) scope X.env (firstIterPos [⟨tg, iter, ifs, 0⟩] pos) (newList []) false (eval iter X.env) (some (assign (.Name x pos') X.env))) ?_
 refine gW (wpAny_comprehension_free (use := some (assign (.Name x pos') X.env)) (Q := fun _ s' => SP X pins Dn .next s') rfl hs (jK (kX ok I)) ok.kind ok.nms (gW (hit pins s σ H _ I h) fun v s1 h1 => gW h1 fun itv s2 h2 => ?_)) fun _ s' q => wpAny_pure (wpAny_pure q)
 obtain ⟨it, fp, tn, J, H2, e, I2, T, st2, f2, w⟩ := h2
 subst e
 refine gW (aAX ok hc hg ht he I2 T st2 f2 w) fun acc s3 h3 => gW h3 fun cenv s4 h4 => codeAny_mono h4 fun r s5 h5 => ?_
 obtain ⟨D, H5, rfl, rfl, I5, f5, ⟨m5, n5⟩, q5⟩ := h5
 refine wpAny_assign_Name (aA6 (v := .ref D) I5 hN hi hx rfl (fun s6 I6 ⟨a, sb, ha⟩ => ?_) hf)
 have nC : cenv.locals ≠ a := by
  rcases ha with ha | ha
  ·rw [ha]; exact f5.2.1
  ·exact Ne.symm (f5.2.2.2.2.1 x a ha)
 refine ⟨m5, n5.sameBut sb nC, fun h' sb' => ⟨_, H5, yO I6 f5 sb', q5⟩⟩
end
section
variable {X : Cx}
theorem aKB : rW X (compareOp .Is) (fun x y H Q => ∃ c d, x = .bl c ∧ y = .bl d ∧ Q (.bl (c == d)) H) := by
 intro pins s σ H x y v u Q I rx ry h
 obtain ⟨c, d, rfl, rfl, q⟩ := h
 cases rx
 cases ry
 exact is_bool (aCi I q rfl)
theorem aGy : rW X (compareOp .IsNot) (fun x y H Q => ∃ c d, x = .bl c ∧ y = .bl d ∧ Q (.bl (c != d)) H) := by
 intro pins s σ H x y v u Q I rx ry h
 obtain ⟨c, d, rfl, rfl, q⟩ := h
 cases rx
 cases ry
 exact isnot_bool (aCi I q rfl)
def aMF (K : PySem.W.Frag) : R2 := fun x y H Q => ∃ a b ys, x = .ref a ∧ y = .ref b ∧ jN K H a [] ∧ jN K H b ys ∧ Q (.ref b) H
theorem aJk : rW X (binaryOp .Add) (aMF X.K) := by
 intro pins s σ H x y v u Q I rx ry h
 obtain ⟨a, b, ys, rfl, rfl, ha, hb, q⟩ := h
 cases rx
 cases ry
 obtain ⟨its, r1, p1, _⟩ := I.tuple ha
 obtain ⟨its2, r2, p2, _⟩ := I.tuple hb
 have e : its = [] := r1.nil_iff.mpr rfl
 subst e
 obtain ⟨⟨cls, dd, data, sl⟩, ho, hc, n, hd⟩ := id p1
 obtain ⟨⟨cls2, dd2, data2, sl2⟩, ho2, hc2, n2, hd2⟩ := id p2
 simp only at hc hd hc2 hd2
 subst hc hd hc2 hd2
 exact concat_meets ⟨_, ho, rfl⟩ ⟨_, ho2, rfl⟩ noFill_tuple_add seq_tuple_add PySem.F.slot_tuple_add PySem.F.entry_tuple_add (PySem.F.args_tuple_add_2 _ _)
  (tuple_addW0 a b [].toArray its2.toArray n n2 dd dd2 sl sl2 (by simp)) ⟨ho, ho2, ⟨.ref b, H, I, rfl, q⟩⟩
theorem uR {prog : Program} {w : World} {A : Around} {E : Value → Shared → Prop} {s : Shared} {t sl : Addr} {items : Array Value} {vl vu : Value} {lo hi : Option Int} {Q : Value → Shared → Prop} (ht : IsTup s.heap t items) (hs : s.heap.IsSliceOf sl vl vu .none) (pl : IsPart vl lo) (pu : IsPart vu hi)
  (hw : HT.sIx items.size 0 lo = 0 ∧ HT.sIx items.size items.size hi = items.size) (h : Q (.ref t) s) : wpAny (model prog w) A (getItem (.ref t) (.ref sl)) Q E s := by
 obtain ⟨os, hos, hcs, hds⟩ := id hs
 have hTs : s.TypeIs (.ref sl) "slice" := ⟨os, hos, hcs⟩
 unfold getItem
 try with_reducible refine wpAny_holding ?_
 first | refine wpAny_bind (wpAny_pure ?_) | skip
 refine wpAny_bind (wpAny_sequenceKey ht.typeIs (by decide) ?_)
 refine wpAny_bind (wpAny_callSpecial?_slot (name := Str.ofString "__getitem__") ht.typeIs PyProof.Rows.slot_tuple_getitem
  (wpAny_call_entry PyProof.Rows.slot_tuple_getitem ht.typeIs entry_tuple_getitem ?_ (args_tuple_getitem _ _)))
 show wpAny _ _ (Builtin.Tuple.tupleItemsOf (.ref t) >>= _) _ _ s
 refine wpAny_bind (tupleItemsOf_ ht ?_)
 refine wpAny_bind (wpAny_typeOf hTs ?_)
 rw [if_pos (by decide)]
 refine wpAny_bind (HT.sliceApplied_gen hs pl pu ?_)
 have hyes : ((((HT.sIx items.size 0 lo : Nat) : Int) == 0 && (1 : Int) == 1 && (HT.sIx items.size items.size hi - HT.sIx items.size 0 lo) == items.size) = true) := by
  rw [hw.1, hw.2]
  simp
 show wpAny _ _ (if (((HT.sIx items.size 0 lo : Nat) : Int) == 0 && (1 : Int) == 1 && (HT.sIx items.size items.size hi - HT.sIx items.size 0 lo) == items.size) = true then _ else _) _ _ s
 rw [if_pos hyes]
 have ex : wpAny (model prog w) A.in1 (Builtin.Tuple.tupleIsExact (.ref t)) (fun b s' => b = true ∧ s' = s) E s := by
  unfold Builtin.Tuple.tupleIsExact
  exact wpAny_bind (wpAny_typeOf ht.typeIs (wpAny_pure ⟨by decide, rfl⟩))
 refine wpAny_bind (gW ex fun b s' q => ?_)
 obtain ⟨rfl, rfl⟩ := q
 rw [if_pos rfl]
 exact wpAny_bind (wpAny_rule (wpAny_pure ⟨_, rfl, wpAny_pure h⟩))
def aNL (K : PySem.W.Frag) : V → Option Int → Option Int → Hp → VK → Prop := fun x lo hi H Q => ∃ a xs, x = .ref a ∧ jN K H a xs ∧
 (HT.sIx xs.length 0 lo = 0 ∧ HT.sIx xs.length xs.length hi = xs.length) ∧ Q (.ref a) H
theorem aKb : SlR X (aNL X.K) := by
 intro pins s σ H x v vl vu lo hi sl Q I rx hs pl pu h
 obtain ⟨a, xs, rfl, hx, hw, q⟩ := h
 cases rx
 obtain ⟨its, r, ht, hz⟩ := I.tuple hx
 have hlen : its.toArray.size = xs.length := by rw [List.size_toArray]; exact r.length.symm
 refine ⟨"tuple", _, PyProof.Rows.slot_tuple_getitem.lookup, ht.typeIs, ?_⟩
 exact uR ht hs pl pu (by rw [hlen]; exact hw) ⟨.ref a, H, I, rfl, q⟩
theorem vB : fillsNumberSlot (.type "tuple") "mul" = pure false :=
 PySem.fillsNumberSlot_seq (id := "tuple.__mul__") (r := some (.builtin "tuple.__rmul__")) F.slot_tuple_mul.lookup (by decide +kernel) F.slot_tuple_rmul.lookup (by decide +kernel)
theorem aCa : seqRepeat? (.type "tuple") = pure (some (.builtin "tuple.__mul__")) := by
 unfold seqRepeat?
 have e1   := PySem.seqSlot_of (T := "tuple") (name := "__mul__") (id := "tuple.__mul__") F.slot_tuple_mul.lookup (by decide +kernel)
 have e2   := PySem.seqSlot_of (T := "tuple") (name := "__rmul__") (id := "tuple.__rmul__") F.slot_tuple_rmul.lookup (by decide +kernel)
 rw [e1, e2]
 rfl
theorem yK (a : Int) (t : Tok) (l : Addr) (items : Array Value) (n : Nat) (dd : Option Addr) (sl : Array (Option Value)) :
  Meets (Builtin.«int.__rmul__» ⟨[.int a t, .ref l], []⟩) (fun _ R s => s.heap.get? l = some { cls := .type "tuple", dict := dd, data := .seq items n, slots := sl } ∧ R (.ok (.ret Value.notImplemented)) s) :=
 .of_wp fun prog w A R s h => by
  obtain ⟨hp, g, d, tk, os⟩ := s
  obtain ⟨hl, h⟩ := h
  wp_walk
  exact ⟨_, rfl, h⟩
theorem aEb (l : Addr) (items : Array Value) (n : Nat) (dd : Option Addr) (sl : Array (Option Value)) (x : Int) (u : Tok) (h1 : 1 < x) (h2 : x < 2 ^ 63) (h3 : items.isEmpty = false) (h4 : items.size * x ≤ sizeLine) :
  Meets (Builtin.«tuple.__mul__» ⟨[.ref l, .int x u], []⟩) (fun _ R s => s.heap.get? l = some { cls := .type "tuple", dict := dd, data := .seq items n, slots := sl } ∧
   R (.ok (.ret (Value.ref s.heap.objs.size))) { s with heap := s.heap.push { cls := Value.type "tuple", data := Data.seq (List.foldl (fun x1 x2 => x1 ++ x2) #[] (List.replicate x.toNat items)) } }) :=
 .of_wp fun prog w A R s h => by
  obtain ⟨hl, h⟩ := h
  have hT : s.TypeIs (.ref l) "tuple" := ⟨_, hl, rfl⟩
  have hI : IsTup s.heap l items := ⟨_, hl, rfl, n, rfl⟩
  have f1 := AutoSeq1.idx_int
  unfold Builtin.«tuple.__mul__»
  obtain ⟨hp, g, d, tk, os⟩ := s
  wp_walk using wpAny_loadPart' hl
  rw [if_neg (by simp; omega)]
  refine wpAny_bind (tupleItemsOf_ hI ?_)
  dsimp only
  have hx1 : (x == 1) = false := by
   have : x ≠ 1 := by omega
   simpa using this
  have e0 : ¬ (items.isEmpty || x == 1) = true := by
   rw [h3, hx1]
   simp
  have e1 : ¬ (decide (x ≤ 0) || items.isEmpty) = true := by
   have : ¬ x ≤ 0 := by omega
   rw [h3]
   simpa using this
  have hl9 : (sizeLine : Int) ≤ (2 ^ 63 - 1) / 8 := by decide
  have e2 : ¬ ((items.size : Int) * x > (2 ^ 63 - 1) / 8) := by omega
  have e3 : ¬ Builtin.Tuple.tupleTooMany ((items.size : Int) * x) = true := by
   unfold Builtin.Tuple.tupleTooMany
   simpa using h4
  rw [if_neg e0, if_neg e1, if_neg e2, if_neg e3]
  have hsz : (List.foldl (fun x1 x2 => x1 ++ x2) #[] (List.replicate x.toNat items)).size ≤ sizeLine := by
   have q := rF items.toList x.toNat []
   have q2 : List.foldl (fun x1 x2 => x1 ++ x2) #[] (List.replicate x.toNat items) = (List.replicate x.toNat items.toList).flatten.toArray := by
    simpa using q
   rw [q2, List.size_toArray, aBt, Array.length_toList]
   have e : ((x.toNat : Nat) : Int) = x := by omega
   have : ((x.toNat * items.size : Nat) : Int) ≤ (sizeLine : Int) := by
    rw [Int.natCast_mul, e, Int.mul_comm]
    exact h4
   omega
  exact wpAny_bind (m := Builtin.Tuple.tupleExact _) (wpAny_newObj_type (wpAny_pure ⟨_, rfl, h⟩) hsz)
def aMl (K : PySem.W.Frag) : R2 := fun x y H Q => ∃ l k xs, x = .ref l ∧ y = .int k ∧ jN K H l xs ∧ 1 < k ∧ k < 2 ^ 63 ∧ xs ≠ [] ∧ (xs.length : Int) * k ≤ sizeLine ∧
 ∀ p, H p = none → Q (.ref p) (upd H p (.tup (List.replicate k.toNat xs).flatten))
theorem aJ9 : rW X (binaryOp .Mult) (aMl X.K) := by
 intro pins s σ H x y v u Q I rx ry h
 obtain ⟨l, k, xs, rfl, rfl, hH, h1, h2, hne, hz, q⟩ := h
 cases rx
 obtain ⟨t, rfl⟩ := ry
 obtain ⟨its, r, ht, hzz⟩ := I.tuple hH
 have hl := r.length
 obtain ⟨⟨cls, dd, data, sl⟩, ho, hc, n, hd⟩ := id ht
 simp only at hc hd
 subst hc hd
 have hnew : List.foldl (fun x1 x2 => x1 ++ x2) #[] (List.replicate k.toNat its.toArray) = (List.replicate k.toNat its).flatten.toArray := by
  have := rF its k.toNat []
  rw [List.nil_append] at this
  exact this
 have h3 : its.toArray.isEmpty = false := by
  cases its with
  | nil => exact absurd (r.nil_iff.mp rfl) hne
  | cons a b => rfl
 have h4 : (its.toArray.size : Int) * k ≤ sizeLine := by rw [List.size_toArray, ← hl]; exact hz
 refine wpAny_binaryOp_repeat_ref (T := "tuple") (U := "int") (by decide) ⟨_, ho, rfl⟩ (fun s' => typeIs_int s' k t) vB F.fills_int_mul F.slot_int_rmul aCa F.slot_int_index.lookup
  (call_meets F.slot_int_rmul (typeIs_int s k t) F.entry_int_rmul (F.args_int_rmul_2 _ _) (yK k t l its.toArray n dd sl)
   ⟨ho, rfl, ⟨_, ho, rfl⟩, call_meets F.slot_tuple_mul ⟨_, ho, rfl⟩ F.entry_tuple_mul (F.args_tuple_mul_2 _ _) (aEb l its.toArray n dd sl k t h1 h2 h3 h4) ⟨ho, ?_⟩⟩)
 rw [hnew]
 have hln : (List.replicate k.toNat xs).flatten.length ≤ sizeLine := by
  rw [aBt]
  have e : ((k.toNat : Nat) : Int) = k := by omega
  have : ((k.toNat * xs.length : Nat) : Int) ≤ (sizeLine : Int) := by
   rw [Int.natCast_mul, e, Int.mul_comm]
   exact hz
  omega
 refine ⟨.ref s.heap.objs.size, _, I.laid (t' := s.toks) (o := .tup (List.replicate k.toNat xs).flatten) (fun b ob q => Heap.get?_push_of_some _ q) (Nat.le_refl _) ⟨hln, _, r.rep k.toNat, IsTup.new _ _⟩, rfl, q _ I.fresh⟩
theorem aDJ {bs : List Bool} : ∀ {us : List Value}, dE (bs.map V.bl) us → PyProof.Rows.LSm.BoolsAre us bs := by
 induction bs with
 | nil => intro us r; cases r; exact .nil
 | cons b bs ih =>
  intro us r
  cases r with
  | cons a t => cases a; exact .cons _ (ih t)
end
section
variable {X : Cx}
theorem aBN {s : Shared} {h' : Heap} {o : Obj} (hk : ∀ b x, b ∉ [s.heap.objs.size] → (s.heap.push o).get? b = some x → h'.get? b = some x) : ∀ b x, s.heap.get? b = some x → h'.get? b = some x :=
 fun b x e => hk b x (fun hm => by
  rw [List.mem_singleton.mp hm] at e
  exact Nat.lt_irrefl _ (Heap.lt_size e)) (Heap.get?_push_of_some _ e)
theorem aLM (bs : List Bool) : ((List.range bs.length).all fun i => (bs[i]?).getD true) = bs.all id := by
 rw [Bool.eq_iff_iff]
 simp only [List.all_eq_true, List.mem_range, id]
 constructor
 ·intro h b hb
  obtain ⟨i, hi, rfl⟩ := List.mem_iff_getElem.mp hb
  have := h i hi
  simpa [hi] using this
 ·intro h i hi
  simp only [List.getElem?_eq_getElem hi, Option.getD_some]
  exact h _ (List.getElem_mem hi)
theorem aHA (hc : X.calm = true) : mT X (.builtin "all") (fun xs H Q => ∃ (p : Addr) (bs : List Bool), xs = [.ref p] ∧ kK X.K H p (bs.map V.bl) ∧ Q (.bl (bs.all id)) H) := by
 intro pins s σ H xs us Q I r h
 obtain ⟨p, bs, rfl, hq, q⟩ := h
 obtain ⟨u, rfl, rx⟩ := r8 r
 cases rx
 obtain ⟨its, r', pl, hz⟩ := I.list hq
 have hb := aDJ r'
 have hl := pl.isList
 have hlt : p < s.heap.objs.size := by obtain ⟨_, e, _⟩ := hl; exact Heap.lt_size e
 refine call_all_walk (wpAny_pyIter_list hl ?_)
 refine ⟨s.heap.objs.size, [s.heap.objs.size, p], [s.heap.objs.size], its.toArray.size, _, _, fun i => (bs[i]?).getD true, rfl, Walks.list (A := X.A.in1) (I.ok.hd hc) _ p (Nat.ne_of_lt hlt) its.toArray,
  ⟨⟨_, Heap.get?_push_size _ rfl, rfl, rfl⟩, hl.push _⟩, fun i v s' Q' E' hP hQ => ?_, fun h' tk hk => ?_⟩
 ·obtain ⟨b, e, rfl⟩ := hb.get i v (by simpa using hP)
  simp only [e, Option.getD_some] at hQ
  exact wpAny_truthy_bool hQ
 ·have e : its.toArray.size = bs.length := by
   have := r'.length
   rw [List.length_map] at this
   rw [List.size_toArray, ← this]
  rw [e, aLM]
  exact ⟨.bl (bs.all id), H, I.kept (aBN hk), rfl, q⟩
def aFj (n c : String) : Bool := n == c || (n == "bool" && c == "int")
end
inductive D where
 | int (i : Int) | bl (b : Bool) | non | str (x : Str) | tup (ds : List D) | lst (ds : List D)
 deriving Inhabited
mutual
def jX (K : PySem.W.Frag) (C : Hp) (v : V) : D → Prop
 | .int i => v = .int i
 | .bl b => v = .bl b
 | .non => v = .non
 | .str x => v = .str x
 | .tup ds => ∃ a xs, v = .ref a ∧ jN K C a xs ∧ bZ K C xs ds
 | .lst ds => ∃ a xs, v = .ref a ∧ kK K C a xs ∧ bZ K C xs ds
def bZ (K : PySem.W.Frag) (C : Hp) (vs : List V) : List D → Prop
 | [] => vs = []
 | d :: ds => ∃ x xs, vs = x :: xs ∧ jX K C x d ∧ bZ K C xs ds
end
theorem cM.seqT {K : PySem.W.Frag} {H H' : Hp} {a : Addr} {xs : List V} (e : cM H H') (h : jN K H a xs) : jN K H' a xs := by
 rcases h with h | h
 ·rcases h with h | ⟨o, h⟩
  ·exact .inl (.inl (e _ _ h))
  ·exact .inl (.inr ⟨o, e _ _ h⟩)
 ·exact .inr h
mutual
theorem jX.mono {K : PySem.W.Frag} {C C' : Hp} (e : cM C C') : ∀ {v : V} (d : D), jX K C v d → jX K C' v d
 | v, .int i, h => by unfold jX at h ⊢; exact h
 | v, .bl i, h => by unfold jX at h ⊢; exact h
 | v, .non, h => by unfold jX at h ⊢; exact h
 | v, .str i, h => by unfold jX at h ⊢; exact h
 | v, .tup ds, h => by
  unfold jX at h ⊢
  obtain ⟨a, xs, r, q, t⟩ := h
  exact ⟨a, xs, r, e.seqT q, bZ.mono e ds t⟩
 | v, .lst ds, h => by
  unfold jX at h ⊢
  obtain ⟨a, xs, r, q, t⟩ := h
  exact ⟨a, xs, r, e.seq q, bZ.mono e ds t⟩
theorem bZ.mono {K : PySem.W.Frag} {C C' : Hp} (e : cM C C') : ∀ {vs : List V} (ds : List D), bZ K C vs ds → bZ K C' vs ds
 | vs, [], h => by unfold bZ at h ⊢; exact h
 | vs, d :: ds, h => by
  unfold bZ at h ⊢
  obtain ⟨x, xs, r, q, t⟩ := h
  exact ⟨x, xs, r, jX.mono e d q, bZ.mono e ds t⟩
end
section
variable {K : PySem.W.Frag} {C : Hp}
theorem bB {v : V} {i : Int} : jX K C v (.int i) ↔ v = .int i := by unfold jX; exact Iff.rfl
theorem cP {v : V} {i : Bool} : jX K C v (.bl i) ↔ v = .bl i := by unfold jX; exact Iff.rfl
theorem eD {v : V} : jX K C v .non ↔ v = .non := by unfold jX; exact Iff.rfl
theorem g9 {v : V} {i : Str} : jX K C v (.str i) ↔ v = .str i := by unfold jX; exact Iff.rfl
theorem bS {v : V} {ds : List D} : jX K C v (.tup ds) ↔ ∃ a xs, v = .ref a ∧ jN K C a xs ∧ bZ K C xs ds := by rw [jX]
theorem cF {v : V} {ds : List D} : jX K C v (.lst ds) ↔ ∃ a xs, v = .ref a ∧ kK K C a xs ∧ bZ K C xs ds := by rw [jX]
theorem iL {vs : List V} : bZ K C vs [] ↔ vs = [] := by rw [bZ]
theorem eO {vs : List V} {d : D} {ds : List D} : bZ K C vs (d :: ds) ↔ ∃ x xs, vs = x :: xs ∧ jX K C x d ∧ bZ K C xs ds := by rw [bZ]
theorem bZ.cons {v : V} {vs : List V} {d : D} {ds : List D} (h : jX K C v d) (t : bZ K C vs ds) : bZ K C (v :: vs) (d :: ds) := eO.mpr ⟨v, vs, rfl, h, t⟩
theorem bZ.nil : bZ K C [] [] := iL.mpr rfl
theorem bZ.length : ∀ {vs : List V} {ds : List D}, bZ K C vs ds → vs.length = ds.length
 | vs, [], h => by
  rw [iL.mp h]
  rfl
 | vs, d :: ds, h => by
  obtain ⟨x, xs, rfl, _, t⟩ := eO.mp h
  simp [bZ.length t]
theorem bZ.append : ∀ {vs us : List V} {ds es : List D}, bZ K C vs ds → bZ K C us es → bZ K C (vs ++ us) (ds ++ es)
 | vs, us, [], es, h, q => by rw [iL.mp h]; exact q
 | vs, us, d :: ds, es, h, q => by
  obtain ⟨x, xs, rfl, a, t⟩ := eO.mp h
  exact bZ.cons a (bZ.append t q)
theorem bZ.drop : ∀ {vs : List V} {ds : List D} (n : Nat), bZ K C vs ds → bZ K C (vs.drop n) (ds.drop n)
 | vs, ds, 0, h => h
 | vs, [], n + 1, h => by rw [iL.mp h]; exact .nil
 | vs, d :: ds, n + 1, h => by
  obtain ⟨x, xs, rfl, a, t⟩ := eO.mp h
  exact bZ.drop n t
theorem bZ.take : ∀ {vs : List V} {ds : List D} (n : Nat), bZ K C vs ds → bZ K C (vs.take n) (ds.take n)
 | vs, ds, 0, h => by simp; exact .nil
 | vs, [], n + 1, h => by rw [iL.mp h]; exact .nil
 | vs, d :: ds, n + 1, h => by
  obtain ⟨x, xs, rfl, a, t⟩ := eO.mp h
  exact bZ.cons a (bZ.take n t)
theorem bZ.get : ∀ {vs : List V} {ds : List D} {i : Nat} {d : D}, bZ K C vs ds → ds[i]? = some d → ∃ v, vs[i]? = some v ∧ jX K C v d
 | vs, [], i, d, h, e => by cases e
 | vs, c :: ds, 0, d, h, e => by
  obtain ⟨x, xs, rfl, a, t⟩ := eO.mp h
  cases e
  exact ⟨x, rfl, a⟩
 | vs, c :: ds, i + 1, d, h, e => by
  obtain ⟨x, xs, rfl, a, t⟩ := eO.mp h
  exact bZ.get (i := i) t e
theorem bZ.rep {vs : List V} {ds : List D} (h : bZ K C vs ds) : ∀ k : Nat, bZ K C (List.replicate k vs).flatten (List.replicate k ds).flatten
 | 0 => .nil
 | k + 1 => by
  rw [List.replicate_succ, List.flatten_cons, List.replicate_succ, List.flatten_cons]
  exact h.append (bZ.rep h k)
theorem bZ.ints {vs : List V} : ∀ {ns : List Int}, bZ K C vs (ns.map D.int) → vs = ns.map V.int := by
 intro ns
 induction ns generalizing vs with
 | nil => intro h; exact iL.mp h
 | cons n ns ih =>
  intro h
  obtain ⟨x, xs, rfl, a, t⟩ := eO.mp h
  rw [bB.mp a, ih t]
  rfl
theorem bZ.bools {vs : List V} : ∀ {ns : List Bool}, bZ K C vs (ns.map D.bl) → vs = ns.map V.bl := by
 intro ns
 induction ns generalizing vs with
 | nil => intro h; exact iL.mp h
 | cons n ns ih =>
  intro h
  obtain ⟨x, xs, rfl, a, t⟩ := eO.mp h
  rw [cP.mp a, ih t]
  rfl
end
structure d7 (C H C1 H1 : Hp) : Prop where
 hh : cM H H1
 cc : cM C C1
 ch : cM C1 H1
 ow : ∀ b, C b = none → H b ≠ none → C1 b = none
theorem d7.refl {C H : Hp} (h : cM C H) : d7 C H C H := ⟨cM.refl _, cM.refl _, h, fun _ e _ => e⟩
theorem d7.trans {C H C1 H1 C2 H2 : Hp} (a : d7 C H C1 H1) (b : d7 C1 H1 C2 H2) : d7 C H C2 H2 :=
 ⟨a.hh.trans b.hh, a.cc.trans b.cc, b.ch, fun c e n => b.ow c (a.ow c e n) fun z => n (a.hh.free z)⟩
theorem cM.upd {H : Hp} {p : Addr} {o : HO} (h : H p = none) : cM H (upd H p o) := fun b u e => by rw [aV (bM e h)]; exact e
theorem d7.new {C H : Hp} {p : Addr} {o : HO} (h : cM C H) (hp : H p = none) : d7 C H (upd C p o) (upd H p o) := by
 refine ⟨cM.upd hp, cM.upd (h.free hp), fun b u e => ?_, fun b e n => ?_⟩
 ·by_cases hb : b = p
  ·subst hb; rw [bQ] at e ⊢; exact e
  ·rw [aV hb] at e ⊢; exact h b u e
 ·rw [aV (fun z => n (by rw [z]; exact hp))]; exact e
theorem d7.newO {C H : Hp} {p : Addr} {o : HO} (h : cM C H) (hp : H p = none) : d7 C H C (upd H p o) :=
 ⟨cM.upd hp, cM.refl _, h.trans (cM.upd hp), fun b e n => e⟩
inductive DM where
 | k (kvs : List (Int × Int)) | t (kvs : List (List Int × Int))
def v7 : DM → HO
 | .k kvs => .dK (kvs.map fun p => (Sum.inl p.1, .int p.2))
 | .t kvs => .dT (kvs.map fun p => (p.1.map Sum.inl, .int p.2))
theorem xQ {m : DM} {xs : List V} : v7 m ≠ .lst xs := by cases m <;> intro z <;> cases z
inductive Sl where
 | un | im (d : D) | ow (ds : List D) | od (m : DM) | fd (m : DM)
abbrev DS := List Sl
structure zK (H0 : Hp) (δ : DS) (σ : St) (C H : Hp) : Prop where
 od : ∀ (i : Nat) m, δ[i]? = some (.od m) → ∃ l, σ[i]? = some (some (.ref l)) ∧ C l = none ∧ H0 l = none ∧ H l = some (v7 m)
 fd : ∀ (i : Nat) m, δ[i]? = some (.fd m) → ∃ l o, σ[i]? = some (some (.ref l)) ∧ C l = some (.frz o (v7 m))
 ap : ∀ (i j : Nat) m n l, i ≠ j → δ[i]? = some (.od m) → δ[j]? = some (.od n) → σ[i]? = some (some (.ref l)) → σ[j]? ≠ some (some (.ref l))
def Sl.isD : Sl → Bool
 | .od _ => true
 | .fd _ => true
 | _ => false
theorem aA4 {α : Type} {l : List α} {i j : Nat} {x y : α} (h : (l.set i x)[j]? = some y) : (j = i ∧ x = y ∧ i < l.length) ∨ (j ≠ i ∧ l[j]? = some y) := by
 by_cases e : j = i
 ·subst e
  have hl : j < l.length := by
   have := (List.getElem?_eq_some_iff.mp h).1
   simpa using this
  rw [List.getElem?_set_self hl] at h
  exact .inl ⟨rfl, Option.some.inj h, hl⟩
 ·rw [List.getElem?_set_ne (Ne.symm e)] at h
  exact .inr ⟨e, h⟩
section
variable {H0 C H C1 H1 : Hp} {δ : DS} {σ : St}
theorem zK.grow (D : zK H0 δ σ C H) (e : d7 C H C1 H1) : zK H0 δ σ C1 H1 := by
 refine ⟨fun i m h => ?_, fun i m h => ?_, D.ap⟩
 ·obtain ⟨l, a, b, c, d⟩ := D.od i m h
  exact ⟨l, a, e.ow l b (by rw [d]; simp), c, e.hh _ _ d⟩
 ·obtain ⟨l, o, a, b⟩ := D.fd i m h
  exact ⟨l, o, a, e.cc _ _ b⟩
theorem zK.weak (D : zK H0 δ σ C H) {δ' : DS} (h : ∀ (i : Nat) x, δ'[i]? = some x → x.isD = true → δ[i]? = some x) : zK H0 δ' σ C H :=
 ⟨fun i m e => D.od i m (h i _ e rfl), fun i m e => D.fd i m (h i _ e rfl), fun i j m n l hij e1 e2 => D.ap i j m n l hij (h i _ e1 rfl) (h j _ e2 rfl)⟩
theorem zK.set1 (D : zK H0 δ σ C H) {i : Nat} {x : Sl} (hx : x.isD = false) : zK H0 (δ.set i x) σ C H := D.weak fun j y e hy => by
 rcases aA4 e with ⟨_, z, _⟩ | ⟨_, e⟩
 ·rw [← z, hx] at hy; cases hy
 ·exact e
theorem zK.set2 (D : zK H0 δ σ C H) {i : Nat} {x : Sl} {o : Option V} (hx : x.isD = false) : zK H0 (δ.set i x) (σ.set i o) C H := by
 have key : ∀ (j : Nat) y, (δ.set i x)[j]? = some y → y.isD = true → j ≠ i ∧ δ[j]? = some y := fun j y e hy => by
  rcases aA4 e with ⟨_, z, _⟩ | ⟨hj, e⟩
  ·rw [← z, hx] at hy; cases hy
  ·exact ⟨hj, e⟩
 refine ⟨fun j m e => ?_, fun j m e => ?_, fun j k m n l hjk e1 e2 e3 => ?_⟩
 ·obtain ⟨hj, e⟩ := key j _ e rfl
  rw [List.getElem?_set_ne (Ne.symm hj)]
  exact D.od j m e
 ·obtain ⟨hj, e⟩ := key j _ e rfl
  rw [List.getElem?_set_ne (Ne.symm hj)]
  exact D.fd j m e
 ·obtain ⟨hj, e1⟩ := key j _ e1 rfl
  obtain ⟨hk, e2⟩ := key k _ e2 rfl
  rw [List.getElem?_set_ne (Ne.symm hj)] at e3
  rw [List.getElem?_set_ne (Ne.symm hk)]
  exact D.ap j k m n l hjk e1 e2 e3
theorem zK.frzL (D : zK H0 δ σ C H) {l : Addr} {xs : List V} (hc : C l = none) (hl : H l = some (.lst xs)) : zK H0 δ σ (upd C l (.lst xs)) H := by
 refine ⟨fun i m e => ?_, fun i m e => ?_, D.ap⟩
 ·obtain ⟨k, a, b, c, d⟩ := D.od i m e
  exact ⟨k, a, by rw [aV (aCP d hl xQ)]; exact b, c, d⟩
 ·obtain ⟨k, o, a, b⟩ := D.fd i m e
  exact ⟨k, o, a, cM.upd hc _ _ b⟩
theorem zK.updL (D : zK H0 δ σ C H) {l : Addr} {xs ys : List V} (hl : H l = some (.lst xs)) : zK H0 δ σ C (upd H l (.lst ys)) := by
 refine ⟨fun i m e => ?_, D.fd, D.ap⟩
 obtain ⟨k, a, b, c, d⟩ := D.od i m e
 exact ⟨k, a, b, c, by rw [aV (aCP d hl xQ)]; exact d⟩
theorem zK.none (h : ∀ (i : Nat) x, δ[i]? = some x → x.isD = false) : zK H0 δ σ C H := by
 refine ⟨fun i m e => ?_, fun i m e => ?_, fun i j m n l _ e => ?_⟩
 ·have := h i _ e
  cases this
 ·have := h i _ e
  cases this
 ·have := h i _ e
  cases this
end
def aEK : FuncBody → Option Pos
 | .stmts [.Return (some (.Call _ _ [⟨_, .Lambda _ _ _ lp, _⟩] _)) _] => some lp
 | _ => none
def zW (K : PySem.W.Frag) : Option (Addr × Value × Value × Str) := match PySem.W.nsIn K mainGlobals "hardest_for" with
 | some (some (.ref f)) => match K.lookup f with
  | some ⟨_, _, .func fd, _⟩ => match PySem.W.tabIn K "hardest_for", aEK fd.body with
   | some (_, P), some lp => some (P, rawInt lp.line, rawInt lp.col, fd.qualname ++ ".<locals>." ++ "<lambda>")
   | _, _ => none
  | _ => none
 | _ => none
def TB (K : PySem.W.Frag) (C : Hp) : Prop := ∀ P l c q, zW K = some (P, l, c, q) → C P = some (.tab l c q)
theorem TB.mono {K : PySem.W.Frag} {C C' : Hp} (h : TB K C) (e : cM C C') : TB K C' := fun P l c q z => e _ _ (h P l c q z)
structure gX (K : PySem.W.Frag) (C0 H0 : Hp) (δ : DS) (σ : St) (C H : Hp) : Prop where
 tb : TB K C0
 len : σ.length = δ.length
 ext : d7 C0 H0 C H
 im : ∀ (i : Nat) d, δ[i]? = some (.im d) → ∃ v, σ[i]? = some (some v) ∧ jX K C v d
 ow : ∀ (i : Nat) ds, δ[i]? = some (.ow ds) → ∃ l xs, σ[i]? = some (some (.ref l)) ∧ C l = none ∧ H0 l = none ∧ H l = some (.lst xs) ∧ bZ K C xs ds
 ap : ∀ (i j : Nat) ds es l, i ≠ j → δ[i]? = some (.ow ds) → δ[j]? = some (.ow es) → σ[i]? = some (some (.ref l)) → σ[j]? ≠ some (some (.ref l))
 dc : zK H0 δ σ C H
section
variable {K : PySem.W.Frag} {C0 H0 C H C1 H1 : Hp} {δ : DS} {σ : St}
theorem gX.grow (R : gX K C0 H0 δ σ C H) (e : d7 C H C1 H1) : gX K C0 H0 δ σ C1 H1 := by
 refine ⟨R.tb, R.len, R.ext.trans e, fun i d h => ?_, fun i ds h => ?_, R.ap, R.dc.grow e⟩
 ·obtain ⟨v, a, b⟩ := R.im i d h
  exact ⟨v, a, b.mono e.cc⟩
 ·obtain ⟨l, xs, a, b, c, d, f⟩ := R.ow i ds h
  exact ⟨l, xs, a, e.ow l b (by rw [d]; simp), c, e.hh _ _ d, f.mono e.cc⟩
theorem gX.ch (R : gX K C0 H0 δ σ C H) : cM C H := R.ext.ch
theorem gX.tc (R : gX K C0 H0 δ σ C H) : TB K C := R.tb.mono R.ext.cc
theorem bC {α : Type} {l : List α} {i j : Nat} {x y : α} (h : (l.set i x)[j]? = some y) : (j = i ∧ x = y ∧ i < l.length) ∨ (j ≠ i ∧ l[j]? = some y) := by
 by_cases e : j = i
 ·subst e
  have hl : j < l.length := by
   have := (List.getElem?_eq_some_iff.mp h).1
   simpa using this
  rw [List.getElem?_set_self hl] at h
  exact .inl ⟨rfl, Option.some.inj h, hl⟩
 ·rw [List.getElem?_set_ne (Ne.symm e)] at h
  exact .inr ⟨e, h⟩
theorem gX.setI (R : gX K C0 H0 δ σ C H) {i : Nat} {v : V} {d : D} (h : jX K C v d) : gX K C0 H0 (δ.set i (.im d)) (σ.set i (some v)) C H := by
 refine ⟨R.tb, by simp [R.len], R.ext, fun j e h' => ?_, fun j ds h' => ?_, fun j k ds es l hjk h1 h2 h3 => ?_, R.dc.set2 rfl⟩
 ·rcases bC h' with ⟨rfl, e1, hl⟩ | ⟨hj, h'⟩
  ·cases e1
   exact ⟨v, by rw [List.getElem?_set_self (by rw [R.len]; exact hl)], h⟩
  ·obtain ⟨u, a, b⟩ := R.im j e h'
   exact ⟨u, by rw [List.getElem?_set_ne (Ne.symm hj)]; exact a, b⟩
 ·rcases bC h' with ⟨_, e1, _⟩ | ⟨hj, h'⟩
  ·cases e1
  ·obtain ⟨l, xs, a, b⟩ := R.ow j ds h'
   exact ⟨l, xs, by rw [List.getElem?_set_ne (Ne.symm hj)]; exact a, b⟩
 ·rcases bC h1 with ⟨_, e1, _⟩ | ⟨hj, h1⟩
  ·cases e1
  ·rcases bC h2 with ⟨_, e1, _⟩ | ⟨hk, h2⟩
   ·cases e1
   ·rw [List.getElem?_set_ne (Ne.symm hj)] at h3
    rw [List.getElem?_set_ne (Ne.symm hk)]
    exact R.ap j k ds es l hjk h1 h2 h3
theorem gX.setO (R : gX K C0 H0 δ σ C H) {i : Nat} {l : Addr} {xs : List V} {ds : List D} (h0 : H0 l = none) (hc : C l = none) (hn : ∀ (j : Nat) es, j ≠ i → δ[j]? = some (.ow es) → σ[j]? ≠ some (some (.ref l))) (hl : H l = some (.lst xs)) (h : bZ K C xs ds) :
  gX K C0 H0 (δ.set i (.ow ds)) (σ.set i (some (.ref l))) C H := by
 refine ⟨R.tb, by simp [R.len], R.ext, fun j e h' => ?_, fun j es h' => ?_, fun j k es fs m hjk h1 h2 h3 => ?_, R.dc.set2 rfl⟩
 ·rcases bC h' with ⟨_, e1, _⟩ | ⟨hj, h'⟩
  ·cases e1
  ·obtain ⟨u, a, b⟩ := R.im j e h'
   exact ⟨u, by rw [List.getElem?_set_ne (Ne.symm hj)]; exact a, b⟩
 ·rcases bC h' with ⟨rfl, e1, hl'⟩ | ⟨hj, h'⟩
  ·cases e1
   exact ⟨l, xs, by rw [List.getElem?_set_self (by rw [R.len]; exact hl')], hc, h0, hl, h⟩
  ·obtain ⟨m, ys, a, b⟩ := R.ow j es h'
   exact ⟨m, ys, by rw [List.getElem?_set_ne (Ne.symm hj)]; exact a, b⟩
 ·rcases bC h1 with ⟨rfl, e1, hl1⟩ | ⟨hj, g1⟩
  ·cases e1
   rw [List.getElem?_set_self (by rw [R.len]; exact hl1)] at h3
   cases h3
   rcases bC h2 with ⟨z, _⟩ | ⟨hk, h2⟩
   ·exact absurd z.symm hjk
   ·rw [List.getElem?_set_ne (Ne.symm hk)]
    exact hn k fs hk h2
  ·rw [List.getElem?_set_ne (Ne.symm hj)] at h3
   rcases bC h2 with ⟨rfl, e1, hl1⟩ | ⟨hk, h2⟩
   ·rw [List.getElem?_set_self (by rw [R.len]; exact hl1)]
    intro z
    cases z
    exact hn j es hj g1 h3
   ·rw [List.getElem?_set_ne (Ne.symm hk)]
    exact R.ap j k es fs m hjk g1 h2 h3
theorem gX.freeze' (R : gX K C0 H0 δ σ C H) {i : Nat} {ds : List D} (h : δ[i]? = some (.ow ds)) : ∃ C1, gX K C0 H0 (δ.set i (.im (.lst ds))) σ C1 H := by
 obtain ⟨l, xs, a, b, c, d, f⟩ := R.ow i ds h
 have hl : i < δ.length := (List.getElem?_eq_some_iff.mp h).1
 have up : cM C (upd C l (.lst xs)) := cM.upd b
 have ch : cM (upd C l (.lst xs)) H := fun z u e => by
  by_cases hz : z = l
  ·subst hz; rw [bQ] at e; cases e; exact d
  ·rw [aV hz] at e; exact R.ch z u e
 refine ⟨upd C l (.lst xs), R.tb, by simp [R.len], ⟨R.ext.hh, R.ext.cc.trans up, ch, fun z e n => ?_⟩, fun j e h' => ?_, fun j es h' => ?_, fun j k es fs m hjk h1 h2 h3 => ?_, (R.dc.frzL b d).set1 rfl⟩
 ·rw [aV (fun q => n (by rw [q]; exact c))]
  exact R.ext.ow z e n
 ·rcases bC h' with ⟨rfl, e1, hl'⟩ | ⟨hj, h'⟩
  ·cases e1
   exact ⟨.ref l, a, cF.mpr ⟨l, xs, rfl, kK.of bQ, f.mono up⟩⟩
  ·obtain ⟨u, a', b'⟩ := R.im j e h'
   exact ⟨u, a', b'.mono up⟩
 ·rcases bC h' with ⟨_, e1, _⟩ | ⟨hj, h'⟩
  ·cases e1
  ·obtain ⟨m, ys, a', b', c', d', f'⟩ := R.ow j es h'
   refine ⟨m, ys, a', ?_, c', d', f'.mono up⟩
   rw [aV]
   ·exact b'
   ·intro z
    subst z
    exact R.ap i j ds es m (Ne.symm hj) h h' a a'
 ·rcases bC h1 with ⟨_, e1, _⟩ | ⟨hj, h1⟩
  ·cases e1
  ·rcases bC h2 with ⟨_, e1, _⟩ | ⟨hk, h2⟩
   ·cases e1
   ·exact R.ap j k es fs m hjk h1 h2 h3
theorem gX.change (R : gX K C0 H0 δ σ C H) {i : Nat} {ds es : List D} {l : Addr} {ys : List V} (h : δ[i]? = some (.ow ds)) (hs : σ[i]? = some (some (.ref l))) (hd : bZ K C ys es) :
  gX K C0 H0 (δ.set i (.ow es)) σ C (upd H l (.lst ys)) := by
 obtain ⟨l', xs, a, b, c, d, f⟩ := R.ow i ds h
 rw [hs] at a
 cases a
 have hl : i < δ.length := (List.getElem?_eq_some_iff.mp h).1
 have ne : ∀ z u, C z = some u → z ≠ l := fun z u e q => by rw [q, b] at e; cases e
 refine ⟨R.tb, by simp [R.len], ⟨fun z u e => ?_, R.ext.cc, fun z u e => ?_, R.ext.ow⟩, fun j e h' => ?_, fun j fs h' => ?_, fun j k fs gs m hjk h1 h2 h3 => ?_, (R.dc.updL d).set1 rfl⟩
 ·rw [aV (bM e c)]; exact R.ext.hh z u e
 ·rw [aV (ne z u e)]; exact R.ch z u e
 ·rcases bC h' with ⟨_, e1, _⟩ | ⟨hj, h'⟩
  ·cases e1
  ·exact R.im j e h'
 ·rcases bC h' with ⟨rfl, e1, hl'⟩ | ⟨hj, h'⟩
  ·cases e1
   exact ⟨l, ys, hs, b, c, bQ, hd⟩
  ·obtain ⟨m, zs, a', b', c', d', f'⟩ := R.ow j fs h'
   refine ⟨m, zs, a', b', c', ?_, f'⟩
   rw [aV]
   ·exact d'
   ·intro z
    subst z
    exact R.ap i j ds fs m (Ne.symm hj) h h' hs a'
 ·have g1 : ∃ fs', δ[j]? = some (.ow fs') := by
   rcases bC h1 with ⟨rfl, _, _⟩ | ⟨_, h1⟩
   ·exact ⟨_, h⟩
   ·exact ⟨_, h1⟩
  have g2 : ∃ fs', δ[k]? = some (.ow fs') := by
   rcases bC h2 with ⟨rfl, _, _⟩ | ⟨_, h2⟩
   ·exact ⟨_, h⟩
   ·exact ⟨_, h2⟩
  obtain ⟨_, g1⟩ := g1
  obtain ⟨_, g2⟩ := g2
  exact R.ap j k _ _ m hjk g1 g2 h3
end
section
variable {X : Cx} {a b c e : Expr} {ta tb tc td : TE} {pos : Pos}
end
abbrev GE := DS → (D → Prop) → Prop
abbrev GF := DS → (List D → Prop) → Prop
abbrev GT := DS → (Bool → Prop) → Prop
def DE (X : Cx) (e : Expr) (g : GE) : Prop := ∃ t, PE X e t ∧ ∀ C0 H0 δ σ C H (Q : D → Prop) (R : VK), gX X.K C0 H0 δ σ C H → g δ Q → (∀ d v C1 H1, Q d → d7 C H C1 H1 → jX X.K C1 v d → R v H1) → t σ H R
def DF (X : Cx) (e : Expr) (g : GF) : Prop := ∃ t, PE X e t ∧ ∀ C0 H0 δ σ C H (Q : List D → Prop) (R : VK), gX X.K C0 H0 δ σ C H → g δ Q →
 (∀ ds p xs C1 H1, Q ds → d7 C H C1 H1 → C1 p = none → H p = none → H1 p = some (.lst xs) → bZ X.K C1 xs ds → R (.ref p) H1) → t σ H R
def DT (X : Cx) (e : Expr) (g : GT) : Prop := ∃ t, PT X e t ∧ ∀ C0 H0 δ σ C H (Q : Bool → Prop) (R : Bool → Hp → Prop), gX X.K C0 H0 δ σ C H → g δ Q → (∀ b C1 H1, Q b → d7 C H C1 H1 → R b H1) → t σ H R
def DW (X : Cx) (e : Expr) (g : GT) : Prop := ∃ t, PW X e t ∧ ∀ C0 H0 δ σ C H (Q : Bool → Prop) (R : Bool → Hp → Prop), gX X.K C0 H0 δ σ C H → g δ Q → (∀ b C1 H1, Q b → d7 C H C1 H1 → R b H1) → t σ H R
def DA (X : Cx) (es : List Expr) (g : GF) : Prop := ∃ t, PA X es t ∧ ∀ C0 H0 δ σ C H (Q : List D → Prop) (R : List V → Hp → Prop), gX X.K C0 H0 δ σ C H → g δ Q → (∀ ds vs C1 H1, Q ds → d7 C H C1 H1 → bZ X.K C1 vs ds → R vs H1) → t σ H R
abbrev GO := D → D → (D → Prop) → Prop
def DOp (X : Cx) (f : Value → Value → Sem Value) (g : GO) : Prop := ∃ r, rW X f r ∧ ∀ x y dx dy C H (Q : D → Prop) (R : VK), cM C H → jX X.K C x dx → jX X.K C y dy → g dx dy Q → (∀ d v C1 H1, Q d → d7 C H C1 H1 → jX X.K C1 v d → R v H1) → r x y H R
def wN (X : Cx) (f : Value) (g : List D → (D → Prop) → Prop) : Prop := ∃ r, mT X f r ∧ ∀ xs ds C H (Q : D → Prop) (R : VK), cM C H → bZ X.K C xs ds → g ds Q → (∀ d v C1 H1, Q d → d7 C H C1 H1 → jX X.K C1 v d → R v H1) → r xs H R
def aIl (X : Cx) (f : Value) (g : List D → (List D → Prop) → Prop) : Prop := ∃ r, mT X f r ∧ ∀ xs ds C H (Q : List D → Prop) (R : VK), cM C H → bZ X.K C xs ds → g ds Q →
 (∀ es p ys C1 H1, Q es → d7 C H C1 H1 → C1 p = none → H p = none → H1 p = some (.lst ys) → bZ X.K C1 ys es → R (.ref p) H1) → r xs H R
theorem aJc {C H C1 H1 : Hp} {p : Addr} {o : HO} (e : d7 C H C1 H1) (hc : C1 p = none) (hn : H p = none) (h1 : H1 p = some o) : d7 C H (upd C1 p o) H1 := by
 refine ⟨e.hh, e.cc.trans (cM.upd hc), fun b u q => ?_, fun b q n => ?_⟩
 ·by_cases hb : b = p
  ·subst hb; rw [bQ] at q; cases q; exact h1
  ·rw [aV hb] at q; exact e.ch b u q
 ·rw [aV (fun z => n (by rw [z]; exact hn))]; exact e.ow b q n
section
variable {X : Cx} {a b c e : Expr} {es : List Expr} {pos : Pos} {ga gb gc gd : GE} {gf : GF} {ta tb : GT}
abbrev gF (g : GF) : GE := fun δ Q => g δ fun ds => Q (.lst ds)
theorem DF.toE (h : DF X e gf) : DE X e (gF gf) := by
 obtain ⟨t, p, h⟩ := h
 refine ⟨t, p, fun C0 H0 δ σ C H Q R rp g k => h C0 H0 δ σ C H _ R rp g fun ds p xs C1 H1 q ex hc hn hl hd => ?_⟩
 exact k (.lst ds) _ (upd C1 p (.lst xs)) H1 q (aJc ex hc hn hl) (cF.mpr ⟨p, xs, rfl, kK.of bQ, hd.mono (cM.upd hc)⟩)
def aE (i : Nat) : GE := fun δ Q => match δ[i]? with
 | some (.im d) => Q d
 | _ => False
theorem aA {i : Nat} {x : Str} (h : PE X (.Name x pos) (aBQ i)) : DE X (.Name x pos) (aE i) := by
 refine ⟨_, h, fun C0 H0 δ σ C H Q R rp g k => ?_⟩
 unfold aE at g
 split at g
 ·rename_i d e
  obtain ⟨v, a1, a2⟩ := rp.im i d e
  exact ⟨v, a1, k d v C H g (d7.refl rp.ch) a2⟩
 ·exact g.elim
abbrev gC (d : D) : GE := fun _ Q => Q d
theorem aO {i j} : DE X (.Constant (.int i) j pos) (gC (.int i)) := ⟨_, aLA, fun C0 H0 δ σ C H Q R rp g k => k _ _ C H g (d7.refl rp.ch) (bB.mpr rfl)⟩
theorem zC {i j} : DE X (.Constant (.bool i) j pos) (gC (.bl i)) := ⟨_, aMR, fun C0 H0 δ σ C H Q R rp g k => k _ _ C H g (d7.refl rp.ch) (cP.mpr rfl)⟩
theorem qC {j} : DE X (.Constant .none j pos) (gC .non) := ⟨_, aLa, fun C0 H0 δ σ C H Q R rp g k => k _ _ C H g (d7.refl rp.ch) (eD.mpr rfl)⟩
theorem aK1 {i j} : DE X (.Constant (.str i) j pos) (gC (.str i)) := ⟨_, aLW, fun C0 H0 δ σ C H Q R rp g k => k _ _ C H g (d7.refl rp.ch) (g9.mpr rfl)⟩
def bP (o : GO) (ga gb : GE) : GE := fun δ Q => ga δ fun x => gb δ fun y => o x y Q
theorem bO {op : Operator} {o : GO} (ho : DOp X (binaryOp op) o) (ha : DE X a ga) (hb : DE X b gb) : DE X (.BinOp a op b pos) (bP o ga gb) := by
 obtain ⟨r, pr, hr⟩ := ho
 obtain ⟨t1, p1, h1⟩ := ha
 obtain ⟨t2, p2, h2⟩ := hb
 refine ⟨_, aH5 pr p1 p2, fun C0 H0 δ σ C H Q R rp g k => ?_⟩
 refine h1 C0 H0 δ σ C H _ _ rp g fun d v C1 H1 q e1 n1 => h2 C0 H0 δ σ C1 H1 _ _ (rp.grow e1) q fun d2 v2 C2 H2 q2 e2 n2 => ?_
 exact hr v v2 d d2 C2 H2 Q R e2.ch (n1.mono e2.cc) n2 q2 fun d3 v3 C3 H3 q3 e3 n3 => k d3 v3 C3 H3 q3 (e1.trans (e2.trans e3)) n3
theorem zR {op : CmpOp} {o : GO} (ho : DOp X (compareOp op) o) (ha : DE X a ga) (hb : DE X b gb) (hm : behindInMarks op b = false := by first | exact aHe _ | with_unfolding_all rfl) : DE X (.Compare a [op] [b] pos) (bP o ga gb) := by
 obtain ⟨r, pr, hr⟩ := ho
 obtain ⟨t1, p1, h1⟩ := ha
 obtain ⟨t2, p2, h2⟩ := hb
 refine ⟨_, aJ1 pr p1 p2 hm, fun C0 H0 δ σ C H Q R rp g k => ?_⟩
 refine h1 C0 H0 δ σ C H _ _ rp g fun d v C1 H1 q e1 n1 => h2 C0 H0 δ σ C1 H1 _ _ (rp.grow e1) q fun d2 v2 C2 H2 q2 e2 n2 => ?_
 exact hr v v2 d d2 C2 H2 Q R e2.ch (n1.mono e2.cc) n2 q2 fun d3 v3 C3 H3 q3 e3 n3 => k d3 v3 C3 H3 q3 (e1.trans (e2.trans e3)) n3
def xI (Q : Bool → Prop) : D → Prop
 | .bl b => Q b
 | _ => False
theorem aJg {Q : Bool → Prop} {d : D} {K : PySem.W.Frag} {C : Hp} {v : V} (h : xI Q d) (n : jX K C v d) : ∃ b, v = .bl b ∧ Q b := by
 cases d with
 | bl b => exact ⟨b, cP.mp n, h⟩
 | _ => exact h.elim
def eM (ga : GE) : GT := fun δ Q => ga δ (xI Q)
theorem eY {op : CmpOp} {o : GO} (ho : DOp X (compareOp op) o) (ha : DE X a ga) (hb : DE X b gb) (hm : behindInMarks op b = false := by first | exact aHe _ | with_unfolding_all rfl) : DT X (.Compare a [op] [b] pos) (eM (bP o ga gb)) := by
 obtain ⟨r, pr, hr⟩ := ho
 obtain ⟨t1, p1, h1⟩ := ha
 obtain ⟨t2, p2, h2⟩ := hb
 refine ⟨_, aKf pr p1 p2 hm, fun C0 H0 δ σ C H Q R rp g k => ?_⟩
 refine h1 C0 H0 δ σ C H _ _ rp g fun d v C1 H1 q e1 n1 => h2 C0 H0 δ σ C1 H1 _ _ (rp.grow e1) q fun d2 v2 C2 H2 q2 e2 n2 => ?_
 refine hr v v2 d d2 C2 H2 _ _ e2.ch (n1.mono e2.cc) n2 q2 fun d3 v3 C3 H3 q3 e3 n3 => ?_
 obtain ⟨c, rfl, qc⟩ := aJg q3 n3
 exact ⟨c, rfl, k c C3 H3 qc (e1.trans (e2.trans e3))⟩
def aCp (o o' : GO) (ga gb gc : GE) : GE := fun δ Q => ga δ fun x => gb δ fun y => o x y (xI fun k => if k = true then gc δ fun z => o' y z Q else Q (.bl false))
def x6 (o o' o'' : GO) (ga gb gc gd : GE) : GE := fun δ Q => ga δ fun x => gb δ fun y => o x y (xI fun k => if k = true then gc δ (fun z => o' y z (xI fun k2 => if k2 = true then gd δ fun w => o'' z w Q else Q (.bl false))) else Q (.bl false))
def aFJ (ga gb : GE) : GE := fun δ Q => ga δ (xI fun c => if c = true then gb δ Q else Q (.bl false))
def aIZ (ga gb : GE) : GE := fun δ Q => ga δ (xI fun c => if c = true then Q (.bl true) else gb δ Q)
def aFN (ga : GE) : GE := fun δ Q => ga δ (xI fun c => Q (.bl (!c)))
def aGo (ga gb : GT) : GT := fun δ Q => ga δ fun c => if c = true then gb δ Q else Q false
def gOr (ga gb : GT) : GT := fun δ Q => ga δ fun c => if c = true then Q true else gb δ Q
def aGM (ga : GT) : GT := fun δ Q => ga δ fun c => Q (!c)
theorem DW.t (h : DW X e ta) : DT X e ta := by
 obtain ⟨t, p, h⟩ := h
 exact ⟨t, p.pt, h⟩
theorem aJ8 (h : DT X a ta) : DW X (.BoolOp .And [a] pos) ta := by
 obtain ⟨t, p, h⟩ := h
 exact ⟨t, aJa p, h⟩
theorem aLO (h : DT X a ta) : DW X (.BoolOp .Or [a] pos) ta := by
 obtain ⟨t, p, h⟩ := h
 exact ⟨t, aLN p, h⟩
theorem aLj {rest : List Expr} (ha : DT X a ta) (hb : DW X (.BoolOp .And (b :: rest) pos) tb) : DW X (.BoolOp .And (a :: b :: rest) pos) (aGo ta tb) := by
 obtain ⟨t1, p1, h1⟩ := ha
 obtain ⟨t2, p2, h2⟩ := hb
 refine ⟨_, aLQ p1 p2, fun C0 H0 δ σ C H Q R rp g k => h1 C0 H0 δ σ C H _ _ rp g fun c C1 H1 q e1 => ?_⟩
 cases c with
 | false => exact aHw (k false C1 H1 (by simpa using q) e1)
 | true => exact aIt (h2 C0 H0 δ σ C1 H1 _ _ (rp.grow e1) (by simpa using q) fun c2 C2 H2 q2 e2 => k c2 C2 H2 q2 (e1.trans e2))
theorem aMT {rest : List Expr} (ha : DT X a ta) (hb : DW X (.BoolOp .Or (b :: rest) pos) tb) : DW X (.BoolOp .Or (a :: b :: rest) pos) (gOr ta tb) := by
 obtain ⟨t1, p1, h1⟩ := ha
 obtain ⟨t2, p2, h2⟩ := hb
 refine ⟨_, aMI p1 p2, fun C0 H0 δ σ C H Q R rp g k => h1 C0 H0 δ σ C H _ _ rp g fun c C1 H1 q e1 => ?_⟩
 cases c with
 | true => exact aIt (k true C1 H1 (by simpa using q) e1)
 | false => exact aHw (h2 C0 H0 δ σ C1 H1 _ _ (rp.grow e1) (by simpa using q) fun c2 C2 H2 q2 e2 => k c2 C2 H2 q2 (e1.trans e2))
theorem aLx (ha : DT X a ta) : DT X (.UnaryOp .Not a pos) (aGM ta) := by
 obtain ⟨t1, p1, h1⟩ := ha
 exact ⟨_, aKO p1, fun C0 H0 δ σ C H Q R rp g k => h1 C0 H0 δ σ C H _ _ rp g fun c C1 H1 q e1 => k (!c) C1 H1 q e1⟩
def o4 (ga : GE) : GT := fun δ Q => ga δ fun d => match d with
 | .bl b => Q b
 | .int i => Q (i != 0)
 | .non => Q false
 | .str x => x.length ≤ sizeLine ∧ Q ((x.length : Int) != 0)
 | .tup ds => Q (!ds.isEmpty)
 | .lst ds => Q (!ds.isEmpty)
theorem pH {K : PySem.W.Frag} {C : Hp} {xs : List V} {ds : List D} (h : bZ K C xs ds) : xs.isEmpty = ds.isEmpty := by
 have := h.length
 cases xs <;> cases ds <;> simp_all
theorem o7 (ha : DE X a ga) (he : ∀ whole, isTrue a X.env whole = (do
  let v ← whole
  standAt a.pos
  holding [v] (truthy v))) : DT X a (o4 ga) := by
 obtain ⟨t1, p1, h1⟩ := ha
 refine ⟨_, aHT p1 he, fun C0 H0 δ σ C H Q R rp g k => h1 C0 H0 δ σ C H _ _ rp g fun d v C1 H1 q e1 n1 => ?_⟩
 cases d with
 | bl b => rw [cP.mp n1]; exact ⟨b, rfl, k _ C1 H1 q e1⟩
 | int i => rw [bB.mp n1]; exact ⟨_, rfl, k _ C1 H1 q e1⟩
 | non => rw [eD.mp n1]; exact ⟨_, rfl, k _ C1 H1 q e1⟩
 | str i => rw [g9.mp n1]; exact ⟨_, ⟨q.1, rfl⟩, k _ C1 H1 q.2 e1⟩
 | tup ds =>
  obtain ⟨p, xs, rfl, hx, hd⟩ := bS.mp n1
  refine ⟨_, .inr (.inl ⟨xs, e1.ch.seqT hx, rfl⟩), k _ C1 H1 ?_ e1⟩
  rw [pH hd]; exact q
 | lst ds =>
  obtain ⟨p, xs, rfl, hx, hd⟩ := cF.mp n1
  refine ⟨_, .inl ⟨xs, e1.ch.seq hx, rfl⟩, k _ C1 H1 ?_ e1⟩
  rw [pH hd]; exact q
def aGm (t : GT) (ga gb : GE) : GE := fun δ Q => t δ fun c => if c = true then ga δ Q else gb δ Q
theorem aMr (hc : DT X c ta) (ha : DE X a ga) (hb : DE X b gb) : DE X (.IfExp c a b pos) (aGm ta ga gb) := by
 obtain ⟨t0, p0, h0⟩ := hc
 obtain ⟨t1, p1, h1⟩ := ha
 obtain ⟨t2, p2, h2⟩ := hb
 refine ⟨_, aIF p0 p1 p2, fun C0 H0 δ σ C H Q R rp g k => h0 C0 H0 δ σ C H _ _ rp g fun c C1 H1 q e1 => ?_⟩
 cases c with
 | true => exact aIt (h1 C0 H0 δ σ C1 H1 _ _ (rp.grow e1) (by simpa using q) fun d2 v2 C2 H2 q2 e2 n2 => k d2 v2 C2 H2 q2 (e1.trans e2) n2)
 | false => exact aHw (h2 C0 H0 δ σ C1 H1 _ _ (rp.grow e1) (by simpa using q) fun d2 v2 C2 H2 q2 e2 n2 => k d2 v2 C2 H2 q2 (e1.trans e2) n2)
abbrev aJ : GF := fun _ Q => Q []
def aC (ga : GE) (gr : GF) : GF := fun δ Q => ga δ fun d => gr δ fun ds => Q (d :: ds)
theorem aG : DA X [] aJ := ⟨_, i6, fun C0 H0 δ σ C H Q R rp g k => k [] [] C H g (d7.refl rp.ch) .nil⟩
theorem aB (ha : DE X e ga) (hr : DA X es gf) (hs : starEach (e :: es) X.env = (false, eval e X.env) :: starEach es X.env := by rfl) : DA X (e :: es) (aC ga gf) := by
 obtain ⟨t1, p1, h1⟩ := ha
 obtain ⟨t2, p2, h2⟩ := hr
 refine ⟨_, e6 p1 p2 hs, fun C0 H0 δ σ C H Q R rp g k => h1 C0 H0 δ σ C H _ _ rp g fun d v C1 H1 q e1 n1 => ?_⟩
 exact h2 C0 H0 δ σ C1 H1 _ _ (rp.grow e1) q fun ds vs C2 H2 q2 e2 n2 => k (d :: ds) (v :: vs) C2 H2 q2 (e1.trans e2) (.cons (n1.mono e2.cc) n2)
def fU (gf : GF) : GE := fun δ Q => gf δ fun ds => ds.length ≤ sizeLine ∧ Q (.tup ds)
theorem eU {x1} (h : DA X es gf) : DE X (.Tuple es x1 pos) (fU gf) := by
 obtain ⟨t, p, h⟩ := h
 refine ⟨_, aLt p, fun C0 H0 δ σ C H Q R rp g k => h C0 H0 δ σ C H _ _ rp g fun ds vs C1 H1 q e1 n1 => ⟨by rw [n1.length]; exact q.1, fun p hp => ?_⟩⟩
 exact k (.tup ds) _ (upd C1 p (.tup vs)) _ q.2 (e1.trans (d7.new e1.ch hp)) (bS.mpr ⟨p, vs, rfl, jN.of bQ, n1.mono (cM.upd (e1.ch.free hp))⟩)
def rM (gf : GF) : GF := fun δ Q => gf δ fun ds => ds.length ≤ sizeLine ∧ Q ds
theorem m9 (h : DA X es gf) : DF X (.List es pos) (rM gf) := by
 obtain ⟨t, p, h⟩ := h
 refine ⟨_, aLH p, fun C0 H0 δ σ C H Q R rp g k => h C0 H0 δ σ C H _ _ rp g fun ds vs C1 H1 q e1 n1 => ⟨by rw [n1.length]; exact q.1, fun p hp => ?_⟩⟩
 exact k ds p vs C1 _ q.2 (e1.trans (d7.newO e1.ch hp)) (e1.ch.free hp) (e1.hh.free hp) bQ n1
def bV (g : List D → (D → Prop) → Prop) (gf : GF) : GE := fun δ Q => gf δ fun ds => g ds Q
def vR (g : List D → (List D → Prop) → Prop) (gf : GF) : GF := fun δ Q => gf δ fun ds => g ds Q
theorem aJl {x : Str} {f : Value} {g : List D → (List D → Prop) → Prop} {pos' : Pos} (hc : aIl X f g) (ha : DA X (e :: es) gf)
  (hp : ∀ {t : TA} {r : List V → Hp → VK → Prop}, mT X f r → PA X (e :: es) t → PE X (.Call (.Name x pos') (e :: es) [] pos) (tCB r t)) : DF X (.Call (.Name x pos') (e :: es) [] pos) (vR g gf) := by
 obtain ⟨r, pr, hr⟩ := hc
 obtain ⟨t, p, h⟩ := ha
 refine ⟨_, hp pr p, fun C0 H0 δ σ C H Q R rp g k => h C0 H0 δ σ C H _ _ rp g fun ds vs C1 H1 q e1 n1 => ?_⟩
 exact hr vs ds C1 H1 Q R e1.ch n1 q fun es' p ys C2 H2 q2 e2 h1 h2 h3 h4 => k es' p ys C2 H2 q2 (e1.trans e2) h1 (e1.hh.free h2) h3 h4
end
def zS (o : Option D) (Q : D → Prop) : Prop := match o with
 | some d => Q d
 | none => False
theorem aL4 {d : D} {Q : D → Prop} : zS (some d) Q = Q d := rfl
def spD (K : PySem.W.Frag) (F : List D → Option D) : Sp := fun vs H Q _ => ∃ C ds d, cM C H ∧ TB K C ∧ bZ K C vs ds ∧ F ds = some d ∧ ∀ v C' H', d7 C H C' H' → jX K C' v d → Q v H'
def d5 (P : Program) (w : World) (K : PySem.W.Frag) (mg : Str → Option Value) (base : Heap) (k : Nat) (x : Str) (F : List D → Option D) : Prop :=
 ∃ f fd ps, qA P w K mg base jE k f fd ps (spD K F) ∧ mg x = some (.ref f) ∧ PySem.W.keepIn K (.ref f) = true ∧ oH K fd ps []
section
variable {X : Cx} {a b c e : Expr} {es : List Expr} {pos : Pos} {ga gb gc gd : GE} {gf : GF} {ta tb : GT}
def aQ (F : List D → Option D) (gf : GF) : GE := fun δ Q => gf δ fun ds => zS (F ds) Q
theorem aP {F : List D → Option D} {k : Nat} {x : Str} {p : Pos} (h : d5 X.prog X.w X.K X.mg X.base k x F) (hr : cB k X.A) (hg : Gl X x) (ha : DA X (e :: es) gf) (hdb : (x == ("__debug__" : Str)) = false := by decide)
  (he : starEach (e :: es) X.env = (false, eval e X.env) :: starEach es X.env := by rfl) (hpl : (backTo pos (starEach es X.env)).any (·.1) = false := by rfl) : DE X (.Call (.Name x p) (e :: es) [] pos) (aQ F gf) := by
 obtain ⟨f, fd, ps, Fk, hm, hk, hb⟩ := h
 obtain ⟨t, pa, h⟩ := ha
 refine ⟨_, xU Fk hr hg hm hk hb .nil aHW pa hdb he hpl, fun C0 H0 δ σ C H Q R rp g k => h C0 H0 δ σ C H _ _ rp g fun ds vs C1 H1 q e1 n1 => ?_⟩
 cases e2 : F ds with
 | none => rw [e2] at q; exact q.elim
 | some d =>
  rw [e2] at q
  exact ⟨C1, ds, d, e1.ch, rp.tc.mono e1.cc, by rw [List.append_nil]; exact n1, e2, fun v C' H' ex nv => k d v C' H' q (e1.trans ex) nv⟩
def gM : GO := fun x y Q => match x, y with
 | .tup ds, .int i => zS (iC ds i) Q
 | .lst ds, .int i => zS (iC ds i) Q
 | _, _ => False
theorem aFa {K : PySem.W.Frag} {C : Hp} {xs : List V} {ds : List D} {i : Int} {d : D} (h : bZ K C xs ds) (e : iC ds i = some d) : ∃ v, iC xs i = some v ∧ jX K C v d := by
 unfold iC at e ⊢
 rw [h.length]
 cases z : ixN ds.length i with
 | none => rw [z] at e; cases e
 | some j =>
  rw [z] at e
  exact h.get e
theorem bF (ha : DE X a ga) (hb : DE X b gb) (hs : aFm b) : DE X (.Subscript a b pos) (bP gM ga gb) := by
 obtain ⟨t1, p1, h1⟩ := ha
 obtain ⟨t2, p2, h2⟩ := hb
 refine ⟨_, aMk aLf p1 p2 hs, fun C0 H0 δ σ C H Q R rp g k => ?_⟩
 refine h1 C0 H0 δ σ C H _ _ rp g fun d v C1 H1 q e1 n1 => h2 C0 H0 δ σ C1 H1 _ _ (rp.grow e1) q fun d2 v2 C2 H2 q2 e2 n2 => ?_
 have n1' := n1.mono e2.cc
 cases d with
 | tup ds =>
  cases d2 with
  | int i =>
   obtain ⟨p, xs, rfl, hx, hd⟩ := bS.mp n1'
   rw [bB.mp n2]
   have q2' : zS (iC ds i) Q := q2
   cases z : iC ds i with
   | none => rw [z] at q2'; exact q2'.elim
   | some d3 =>
    rw [z] at q2'
    obtain ⟨v3, ev, nv⟩ := aFa hd z
    exact .inr (.inl ⟨p, xs, i, v3, rfl, rfl, e2.ch.seqT hx, ev, k d3 v3 C2 H2 q2' (e1.trans e2) nv⟩)
  | _ => exact q2.elim
 | lst ds =>
  cases d2 with
  | int i =>
   obtain ⟨p, xs, rfl, hx, hd⟩ := cF.mp n1'
   rw [bB.mp n2]
   have q2' : zS (iC ds i) Q := q2
   cases z : iC ds i with
   | none => rw [z] at q2'; exact q2'.elim
   | some d3 =>
    rw [z] at q2'
    obtain ⟨v3, ev, nv⟩ := aFa hd z
    exact .inl ⟨p, xs, i, v3, rfl, rfl, e2.ch.seq hx, ev, k d3 v3 C2 H2 q2' (e1.trans e2) nv⟩
  | _ => exact q2.elim
 | _ => exact q2.elim
abbrev GP := DS → (Option Int → Prop) → Prop
def DO (X : Cx) (e : Option Expr) (g : GP) : Prop := ∃ t, PO X e t ∧ ∀ C0 H0 δ σ C H (Q : Option Int → Prop) (R : Option Int → Hp → Prop), gX X.K C0 H0 δ σ C H → g δ Q → (∀ o C1 H1, Q o → d7 C H C1 H1 → R o H1) → t σ H R
abbrev aBH : GP := fun _ Q => Q none
def tN (g : GE) : GP := fun δ Q => g δ fun d => match d with
 | .int i => Q (some i)
 | _ => False
theorem x8 : DO X none aBH := ⟨_, aJH, fun C0 H0 δ σ C H Q R rp g k => k none C H g (d7.refl rp.ch)⟩
theorem xP (h : DE X e ga) : DO X (some e) (tN ga) := by
 obtain ⟨t, p, h⟩ := h
 refine ⟨_, aIW p, fun C0 H0 δ σ C H Q R rp g k => h C0 H0 δ σ C H _ _ rp g fun d v C1 H1 q e1 n1 => ?_⟩
 cases d with
 | int i => exact ⟨i, bB.mp n1, k (some i) C1 H1 q e1⟩
 | _ => exact q.elim
def rO (xs : List D) (lo hi : Option Int) : List D := (xs.drop (HT.sIx xs.length 0 lo)).take (HT.sIx xs.length xs.length hi - HT.sIx xs.length 0 lo)
def aEN (ga : GE) (gl gh : GP) : GE := fun δ Q => ga δ fun d => gl δ fun lo => gh δ fun hi => match d with
 | .tup ds => Q (.tup (rO ds lo hi))
 | _ => False
theorem aCy {K : PySem.W.Frag} {C : Hp} {xs : List V} {ds : List D} {lo hi : Option Int} (h : bZ K C xs ds) : bZ K C (aBS xs lo hi) (rO ds lo hi) := by
 unfold aBS rO
 rw [h.length]
 exact (h.drop _).take _
theorem aIG {lo hi : Option Expr} {gl gh : GP} {p2 : Pos} (ha : DE X a ga) (hl : DO X lo gl) (hh : DO X hi gh) : DE X (.Subscript a (.Slice lo hi none p2) pos) (aEN ga gl gh) := by
 obtain ⟨t1, p1, h1⟩ := ha
 obtain ⟨t2, p2', h2⟩ := hl
 obtain ⟨t3, p3, h3⟩ := hh
 refine ⟨_, aDX (aLB.or aKb) p1 p2' p3, fun C0 H0 δ σ C H Q R rp g k => ?_⟩
 refine h1 C0 H0 δ σ C H _ _ rp g fun d v C1 H1 q e1 n1 => h2 C0 H0 δ σ C1 H1 _ _ (rp.grow e1) q fun o C2 H2 q2 e2 => h3 C0 H0 δ σ C2 H2 _ _ ((rp.grow e1).grow e2) q2 fun o2 C3 H3 q3 e3 => ?_
 have n1' := (n1.mono e2.cc).mono e3.cc
 have e123 := e1.trans (e2.trans e3)
 cases d with
 | tup ds =>
  obtain ⟨p, xs, rfl, hx, hd⟩ := bS.mp n1'
  by_cases hw : HT.sIx xs.length 0 o = 0 ∧ HT.sIx xs.length xs.length o2 = xs.length
  ·refine .inr ⟨p, xs, rfl, e3.ch.seqT hx, hw, k (.tup ds) _ C3 H3 ?_ e123 n1'⟩
   have q3' : Q (.tup (rO ds o o2)) := q3
   unfold rO at q3'
   rw [← hd.length, hw.1, hw.2, List.drop_zero, Nat.sub_zero, hd.length, List.take_length] at q3'
   exact q3'
  ·refine .inl ⟨p, xs, rfl, e3.ch.seqT hx, hw, fun p' hp => ?_⟩
   exact k _ _ (upd C3 p' (.tup (aBS xs o o2))) _ q3 (e123.trans (d7.new e3.ch hp)) (bS.mpr ⟨p', _, rfl, jN.of bQ, (aCy hd).mono (cM.upd (e3.ch.free hp))⟩)
 | _ => exact q3.elim
def aBL (f : Int → Int → D) : GO := fun x y Q => match x, y with
 | .int i, .int j => Q (f i j)
 | _, _ => False
def t9 (c : Int → Int → Prop) (f : Int → Int → D) : GO := fun x y Q => match x, y with
 | .int i, .int j => c i j ∧ Q (f i j)
 | _, _ => False
theorem uW {f : Value → Value → Sem Value} {c : Int → Int → Prop} {g : Int → Int → Int} (h : rW X f (rI c fun i j => .int (g i j))) : DOp X f (t9 c fun i j => .int (g i j)) := by
 refine ⟨_, h, fun x y dx dy C H Q R ch n1 n2 q k => ?_⟩
 cases dx with
 | int i =>
  cases dy with
  | int j => exact ⟨i, j, bB.mp n1, bB.mp n2, q.1, k _ _ C H q.2 (d7.refl ch) (bB.mpr rfl)⟩
  | _ => exact q.elim
 | _ => exact q.elim
theorem aDM {f : Value → Value → Sem Value} {g : Int → Int → Bool} (h : rW X f (rI0 fun i j => .bl (g i j))) : DOp X f (aBL fun i j => .bl (g i j)) := by
 refine ⟨_, h, fun x y dx dy C H Q R ch n1 n2 q k => ?_⟩
 cases dx with
 | int i =>
  cases dy with
  | int j => exact ⟨i, j, bB.mp n1, bB.mp n2, k _ _ C H q (d7.refl ch) (cP.mpr rfl)⟩
  | _ => exact q.elim
 | _ => exact q.elim
theorem aHm {f : Value → Value → Sem Value} {g : Int → Int → Int} (h : rW X f (rI0 fun i j => .int (g i j))) : DOp X f (aBL fun i j => .int (g i j)) := by
 refine ⟨_, h, fun x y dx dy C H Q R ch n1 n2 q k => ?_⟩
 cases dx with
 | int i =>
  cases dy with
  | int j => exact ⟨i, j, bB.mp n1, bB.mp n2, k _ _ C H q (d7.refl ch) (bB.mpr rfl)⟩
  | _ => exact q.elim
 | _ => exact q.elim
abbrev aD7 : GO := aBL fun i j => .int (i - j)
abbrev oLt : GO := aBL fun i j => .bl (decide (i < j))
abbrev oGt : GO := aBL fun i j => .bl (decide (j < i))
abbrev aAF : GO := t9 (fun _ j => 0 < j) fun i j => .int (i % j)
abbrev aJo : GO := t9 aMu fun i j => .int (i / j)
theorem vK : DOp X (binaryOp .Sub) aD7 := aHm aK8
theorem aFQ : DOp X (compareOp .Lt) oLt := aDM aMP
theorem aKv : DOp X (compareOp .Gt) oGt := aDM aMs
theorem pC : DOp X (binaryOp .Mod) aAF := uW aK9
theorem aEm : DOp X (binaryOp .FloorDiv) aJo := uW aJm
def kA : GO := fun x y Q => match x, y with
 | .int i, .int j => Q (.int (i + j))
 | .tup xs, .tup ys => xs.length + ys.length ≤ sizeLine ∧ Q (.tup (xs ++ ys))
 | _, _ => False
theorem fV : DOp X (binaryOp .Add) kA := by
 refine ⟨_, aK0.or (aIQ.or aJk), fun x y dx dy C H Q R ch n1 n2 q k => ?_⟩
 cases dx with
 | int i =>
  cases dy with
  | int j => exact .inl ⟨i, j, bB.mp n1, bB.mp n2, k _ _ C H q (d7.refl ch) (bB.mpr rfl)⟩
  | _ => exact q.elim
 | tup ds =>
  cases dy with
  | tup es =>
   obtain ⟨p, xs, rfl, hx, hd⟩ := bS.mp n1
   obtain ⟨p2, ys, rfl, hy, he⟩ := bS.mp n2
   have q' : ds.length + es.length ≤ sizeLine ∧ Q (.tup (ds ++ es)) := q
   refine .inr ?_
   cases ds with
   | nil =>
    have e := iL.mp hd
    subst e
    exact .inr ⟨p, p2, ys, rfl, rfl, ch.seqT hx, ch.seqT hy, k _ _ C H q'.2 (d7.refl ch) n2⟩
   | cons d ds =>
    refine .inl ⟨p, p2, xs, ys, rfl, rfl, ch.seqT hx, ch.seqT hy, ?_, by rw [hd.length, he.length]; exact q'.1, fun z => ?_, fun _ p' hp => ?_⟩
    ·intro z
     have := hd.length
     rw [z] at this
     simp at this
    ·subst z
     have e : es = [] := by
      have := he.length
      simpa using this.symm
     subst e
     rw [List.append_nil] at q'
     exact k _ _ C H q'.2 (d7.refl ch) n1
    ·exact k _ _ (upd C p' (.tup (xs ++ ys))) _ q'.2 (d7.new ch hp) (bS.mpr ⟨p', _, rfl, jN.of bQ, (hd.append he).mono (cM.upd (ch.free hp))⟩)
  | _ => exact q.elim
 | _ => exact q.elim
def rR : GO := fun x y Q => match x, y with
 | .int i, .int j => aGO i j ∧ Q (.int (i * j))
 | .tup xs, .int k => 1 < k ∧ k < 2 ^ 63 ∧ xs ≠ [] ∧ (xs.length : Int) * k ≤ sizeLine ∧ Q (.tup (List.replicate k.toNat xs).flatten)
 | _, _ => False
theorem pJ : DOp X (binaryOp .Mult) rR := by
 refine ⟨_, aLU.or aJ9, fun x y dx dy C H Q R ch n1 n2 q k => ?_⟩
 cases dx with
 | int i =>
  cases dy with
  | int j => exact .inl ⟨i, j, bB.mp n1, bB.mp n2, q.1, k _ _ C H q.2 (d7.refl ch) (bB.mpr rfl)⟩
  | _ => exact q.elim
 | tup ds =>
  cases dy with
  | int j =>
   obtain ⟨p, xs, rfl, hx, hd⟩ := bS.mp n1
   obtain ⟨q1, q2, q3, q4, q5⟩ := q
   refine .inr ⟨p, j, xs, rfl, bB.mp n2, ch.seqT hx, q1, q2, ?_, by rw [hd.length]; exact q4, fun p' hp => ?_⟩
   ·intro z
    have := hd.length
    rw [z] at this
    exact q3 (by simpa using this.symm)
   ·exact k _ _ (upd C p' _) _ q5 (d7.new ch hp) (bS.mpr ⟨p', _, rfl, jN.of bQ, (hd.rep _).mono (cM.upd (ch.free hp))⟩)
  | _ => exact q.elim
 | _ => exact q.elim
def oIs : GO := fun x y Q => match x, y with
 | .bl a, .bl b => Q (.bl (a == b))
 | _, _ => False
def aBA : GO := fun x y Q => match x, y with
 | .bl a, .bl b => Q (.bl (a != b))
 | _, _ => False
def aJ3 (ga : GE) : GE := fun δ Q => ga δ fun d => match d with
 | .int i => Q (.int (-i))
 | _ => False
def n4 : List D → (D → Prop) → Prop := fun ds Q => match ds with
 | [.tup xs] => Q (.int xs.length)
 | [.lst xs] => Q (.int xs.length)
 | _ => False
theorem j4 {K : PySem.W.Frag} {C : Hp} {vs : List V} {d : D} (h : bZ K C vs [d]) : ∃ v, vs = [v] ∧ jX K C v d := by
 obtain ⟨x, xs, rfl, a, t⟩ := eO.mp h
 rw [iL.mp t]
 exact ⟨x, rfl, a⟩
theorem aHS {K : PySem.W.Frag} {C : Hp} {vs : List V} {d d2 : D} (h : bZ K C vs [d, d2]) : ∃ v u, vs = [v, u] ∧ jX K C v d ∧ jX K C u d2 := by
 obtain ⟨x, xs, rfl, a, t⟩ := eO.mp h
 obtain ⟨u, rfl, b⟩ := j4 t
 exact ⟨x, u, rfl, a, b⟩
theorem k6 : wN X (.builtin "len") n4 := by
 refine ⟨_, aBW, fun xs ds C H Q R ch n q k => ?_⟩
 unfold n4 at q
 split at q
 ·obtain ⟨v, rfl, n1⟩ := j4 n
  obtain ⟨p, ys, rfl, hy, hd⟩ := bS.mp n1
  refine ⟨p, ys, rfl, .inr (ch.seqT hy), ?_⟩
  rw [hd.length]
  exact k _ _ C H q (d7.refl ch) (bB.mpr rfl)
 ·obtain ⟨v, rfl, n1⟩ := j4 n
  obtain ⟨p, ys, rfl, hy, hd⟩ := cF.mp n1
  refine ⟨p, ys, rfl, .inl (ch.seq hy), ?_⟩
  rw [hd.length]
  exact k _ _ C H q (d7.refl ch) (bB.mpr rfl)
 ·exact q.elim
def gJ : List D → (D → Prop) → Prop := fun ds Q => match ds with
 | [.tup xs] => Q (.tup xs)
 | [.lst xs] => Q (.tup xs)
 | _ => False
theorem fM : wN X (.type "tuple") gJ := by
 refine ⟨_, aAB, fun xs ds C H Q R ch n q k => ?_⟩
 unfold gJ at q
 split at q
 ·obtain ⟨v, rfl, n1⟩ := j4 n
  obtain ⟨p, ys, rfl, hy, hd⟩ := bS.mp n1
  exact ⟨p, ys, rfl, .inr ⟨ch.seqT hy, k _ _ C H q (d7.refl ch) n1⟩⟩
 ·obtain ⟨v, rfl, n1⟩ := j4 n
  obtain ⟨p, ys, rfl, hy, hd⟩ := cF.mp n1
  exact ⟨p, ys, rfl, .inl ⟨ch.seq hy, fun l hl => k _ _ (upd C l (.tup ys)) _ q (d7.new ch hl) (bS.mpr ⟨l, ys, rfl, jN.of bQ, hd.mono (cM.upd (ch.free hl))⟩)⟩⟩
 ·exact q.elim
def aFt : List D → (List D → Prop) → Prop := fun ds Q => match ds with
 | [.tup xs] => Q xs
 | [.lst xs] => Q xs
 | _ => False
def aBU : List D → (D → Prop) → Prop := fun ds Q => match ds with
 | [.int i] => Q (.int (if i < 0 then -i else i))
 | _ => False
theorem aD9 : wN X (.builtin "abs") aBU := by
 refine ⟨_, aH9, fun xs ds C H Q R ch n q k => ?_⟩
 unfold aBU at q
 split at q
 ·obtain ⟨v, rfl, n1⟩ := j4 n
  rw [bB.mp n1]
  exact ⟨_, rfl, k _ _ C H q (d7.refl ch) (bB.mpr rfl)⟩
 ·exact q.elim
def bools : List D → Option (List Bool)
 | [] => some []
 | .bl b :: r => (bools r).map (b :: ·)
 | _ :: _ => none
theorem aDh : ∀ {ds : List D} {bs : List Bool}, bools ds = some bs → ds = bs.map D.bl
 | [], bs, h => by cases h; rfl
 | .bl b :: r, bs, h => by
  unfold bools at h
  cases e : bools r with
  | none => rw [e] at h; cases h
  | some cs => rw [e] at h; cases h; rw [List.map_cons, ← aDh e]
 | .int _ :: _, _, h => by cases h
 | .non :: _, _, h => by cases h
 | .str _ :: _, _, h => by cases h
 | .tup _ :: _, _, h => by cases h
 | .lst _ :: _, _, h => by cases h
theorem aGt (bs : List Bool) : bools (bs.map D.bl) = some bs := by
 induction bs with
 | nil => rfl
 | cons b bs ih => rw [List.map_cons, bools, ih]; rfl
def aD3 : List D → (D → Prop) → Prop := fun ds Q => match ds with
 | [.lst xs] => match bools xs with
  | some bs => Q (.bl (bs.all id))
  | none => False
 | _ => False
theorem aLz (hc : X.calm = true) : wN X (.builtin "all") aD3 := by
 refine ⟨_, aHA hc, fun xs ds C H Q R ch n q k => ?_⟩
 unfold aD3 at q
 split at q
 ·split at q
  ·rename_i bs e
   obtain ⟨v, rfl, n1⟩ := j4 n
   obtain ⟨p, ys, rfl, hy, hd⟩ := cF.mp n1
   rw [aDh e] at hd
   rw [hd.bools] at hy
   exact ⟨p, bs, rfl, ch.seq hy, k _ _ C H q (d7.refl ch) (cP.mpr rfl)⟩
  ·exact q.elim
 ·exact q.elim
def tyD : D → String
 | .int _ => "int"
 | .bl _ => "bool"
 | .non => "NoneType"
 | .str _ => "str"
 | .tup _ => "tuple"
 | .lst _ => "list"
def aFs (T : String) (ga : GE) : GE := fun δ Q => ga δ fun d => Q (.bl (aFj (tyD d) T))
end
def aDD (K : PySem.W.Frag) (J : It) (its : List D) (C1 : Hp) : Prop := ∀ C2 H2, cM C1 C2 → cM C2 H2 → ∀ i : Nat,
 (∀ d, its[i]? = some d → J.go i H2 ∧ ∀ x H3, J.yld i H2 x H3 → ∃ C3, d7 C2 H2 C3 H3 ∧ jX K C3 x d) ∧ (its.length ≤ i → J.stop i H2)
def DI (X : Cx) (tg iter : Expr) (g : GF) : Prop := ∃ wi, PI X tg iter wi ∧ ∀ C0 H0 δ σ C H (Q : List D → Prop) (R : It → Hp → Prop), gX X.K C0 H0 δ σ C H → g δ Q →
 (∀ its J C1 H1, Q its → d7 C H C1 H1 → aDD X.K J its C1 → R J H1) → wi σ H R
section
variable {X : Cx} {a b c e tg iter : Expr} {es : List Expr} {pos : Pos} {ga gb gc gd : GE} {gf : GF} {ta tb : GT}
def gIt (ga : GE) : GF := fun δ Q => ga δ fun d => match d with
 | .tup ds => Q ds
 | _ => False
def gIl (ga : GE) : GF := fun δ Q => ga δ fun d => match d with
 | .lst ds => Q ds
 | _ => False
theorem aDi {K : PySem.W.Frag} {C1 : Hp} {p : Addr} {xs : List V} {ds : List D} (hx : jN K C1 p xs) (hd : bZ K C1 xs ds) (inj : ∀ H ys, cM C1 H → jN K H p ys → True) : aDD K ⟨fun i H => ∃ xs x, jN K H p xs ∧ xs[i]? = some x, fun i H x H' => H' = H ∧ ∀ xs, jN K H p xs → xs[i]? = some x, fun i H => ∃ xs, jN K H p xs ∧ xs.length ≤ i⟩ ds C1 := by
 intro C2 H2 c1 c2 i
 have hx2 := c2.seqT (c1.seqT hx)
 refine ⟨fun d e => ?_, fun hl => ⟨xs, hx2, by rw [hd.length]; exact hl⟩⟩
 obtain ⟨v, ev, nv⟩ := hd.get e
 refine ⟨⟨xs, v, hx2, ev⟩, fun x H3 y => ?_⟩
 obtain ⟨rfl, y⟩ := y
 have := y xs hx2
 rw [ev] at this
 cases this
 exact ⟨C2, d7.refl c2, nv.mono c1⟩
theorem aDV {K : PySem.W.Frag} {C1 : Hp} {p : Addr} {xs : List V} {ds : List D} (hx : kK K C1 p xs) (hd : bZ K C1 xs ds) : aDD K (Itl K p) ds C1 := by
 intro C2 H2 c1 c2 i
 have hx2 := c2.seq (c1.seq hx)
 refine ⟨fun d e => ?_, fun hl => ⟨xs, hx2, by rw [hd.length]; exact hl⟩⟩
 obtain ⟨v, ev, nv⟩ := hd.get e
 refine ⟨⟨xs, v, hx2, ev⟩, fun x H3 y => ?_⟩
 obtain ⟨rfl, y⟩ := y
 have := y xs hx2
 rw [ev] at this
 cases this
 exact ⟨C2, d7.refl c2, nv.mono c1⟩
theorem mQ (ha : DE X a ga) : DI X tg a (gIt ga) := by
 obtain ⟨t, p, h⟩ := ha
 refine ⟨_, aLl p, fun C0 H0 δ σ C H Q R rp g k => h C0 H0 δ σ C H _ _ rp g fun d v C1 H1 q e1 n1 => ?_⟩
 cases d with
 | tup ds =>
  obtain ⟨p, xs, rfl, hx, hd⟩ := bS.mp n1
  exact ⟨p, rfl, ⟨xs, e1.ch.seqT hx⟩, k ds _ C1 H1 q e1 (aDi hx hd fun _ _ _ _ => trivial)⟩
 | _ => exact q.elim
theorem aBD (ha : DE X a ga) : DI X tg a (gIl ga) := by
 obtain ⟨t, p, h⟩ := ha
 refine ⟨_, aKa p, fun C0 H0 δ σ C H Q R rp g k => h C0 H0 δ σ C H _ _ rp g fun d v C1 H1 q e1 n1 => ?_⟩
 cases d with
 | lst ds =>
  obtain ⟨p, xs, rfl, hx, hd⟩ := cF.mp n1
  exact ⟨p, rfl, ⟨xs, e1.ch.seq hx⟩, k ds _ C1 H1 q e1 (aDV hx hd)⟩
 | _ => exact q.elim
def b9 (lo : Int) (n : Nat) : List D := (List.range n).map fun (k : Nat) => D.int (lo + (k : Int))
theorem aDg {K : PySem.W.Frag} {C1 : Hp} (lo : Int) (n : Nat) : aDD K (Itr lo n) (b9 lo n) C1 := by
 intro C2 H2 c1 c2 i
 have hl : (b9 lo n).length = n := by simp [b9]
 refine ⟨fun d e => ?_, fun h => by rw [hl] at h; exact h⟩
 have hi : i < n := by rw [← hl]; exact (List.getElem?_eq_some_iff.mp e).1
 have ed : d = .int (lo + i) := by
  unfold b9 at e
  rw [List.getElem?_map, List.getElem?_range hi] at e
  exact (Option.some.inj e).symm
 subst ed
 exact ⟨hi, fun x H3 y => by obtain ⟨rfl, rfl⟩ := y; exact ⟨C2, d7.refl c2, bB.mpr rfl⟩⟩
def h8 (ga : GE) : GF := fun δ Q => ga δ fun d => match d with
 | .int j => (-(2 ^ 62) ≤ j ∧ j < 2 ^ 62) ∧ Q (b9 0 j.toNat)
 | _ => False
theorem fQ {p : Pos} (hg : Gl X "range") (hm : X.mg "range" = none) (ha : DE X a ga) (hs : starEach [a] X.env = [(false, eval a X.env)] := by rfl) : DI X tg (.Call (.Name "range" p) [a] [] pos) (h8 ga) := by
 obtain ⟨t, p, h⟩ := ha
 refine ⟨_, aGL hg hm (e6 p i6 hs) hs, fun C0 H0 δ σ C H Q R rp g k => h C0 H0 δ σ C H _ _ rp g fun d v C1 H1 q e1 n1 => ?_⟩
 cases d with
 | int j => rw [bB.mp n1]; exact ⟨j, rfl, q.1.1, q.1.2, k _ _ C1 H1 q.2 e1 (aDg 0 _)⟩
 | _ => exact q.elim
def aAT (ga gb : GE) : GF := fun δ Q => ga δ fun d => gb δ fun d2 => match d, d2 with
 | .int i, .int j => (-(2 ^ 62) ≤ i ∧ i < 2 ^ 62 ∧ -(2 ^ 62) ≤ j ∧ j < 2 ^ 62) ∧ Q (b9 i (j - i).toNat)
 | _, _ => False
theorem aI4 {p : Pos} (hg : Gl X "range") (hm : X.mg "range" = none) (ha : DE X a ga) (hb : DE X b gb) (hs1 : starEach [a, b] X.env = (false, eval a X.env) :: starEach [b] X.env := by rfl) (hs2 : starEach [b] X.env = [(false, eval b X.env)] := by rfl)
  (hp : ∀ {t : TA}, PA X [a, b] t → PI X tg (.Call (.Name "range" p) [a, b] [] pos) (aKi t)) : DI X tg (.Call (.Name "range" p) [a, b] [] pos) (aAT ga gb) := by
 obtain ⟨t1, p1, h1⟩ := ha
 obtain ⟨t2, p2, h2⟩ := hb
 refine ⟨_, hp (e6 p1 (e6 p2 i6 hs2) hs1), fun C0 H0 δ σ C H Q R rp g k => h1 C0 H0 δ σ C H _ _ rp g fun d v C1 H1 q e1 n1 => h2 C0 H0 δ σ C1 H1 _ _ (rp.grow e1) q fun d2 v2 C2 H2 q2 e2 n2 => ?_⟩
 cases d with
 | int i =>
  cases d2 with
  | int j =>
   rw [bB.mp n1, bB.mp n2]
   exact ⟨i, j, rfl, q2.1, k _ _ C2 H2 q2.2 (e1.trans e2) (aDg i _)⟩
  | _ => exact q2.elim
 | _ => exact q2.elim
abbrev GG := D → DS → (DS → Prop) → Prop
def DG (X : Cx) (tg : Expr) (ss : List Nat) (g : GG) : Prop := ∃ t, PG X tg t ∧ ∀ C0 H0 δ σ C H v d (Q : DS → Prop) (R : St → Hp → Prop), gX X.K C0 H0 δ σ C H → jX X.K C v d → g d δ Q →
 (∀ δ' σ', Q δ' → gX X.K C0 H0 δ' σ' C H → σ'.length = σ.length → (∀ j : Nat, j ∉ ss → σ'[j]? = σ[j]?) → R σ' H) → t v σ H R
abbrev dH (i : Nat) : GG := fun d δ Q => Q (δ.set i (.im d))
theorem aK {i : Nat} {x : Str} (h : PG X (.Name x pos) (wH i)) : DG X (.Name x pos) [i] (dH i) :=
 ⟨_, h, fun C0 H0 δ σ C H v d Q R rp n g k => k _ _ g (rp.setI n) (by simp) fun j hj => by rw [List.getElem?_set_ne]; intro z; exact hj (by simp [z])⟩
def pE (i j : Nat) : GG := fun d δ Q => match d with
 | .tup [a, b] => Q ((δ.set i (.im a)).set j (.im b))
 | _ => False
theorem oB {i j : Nat} {x y : Str} {p1 p2 : Pos} {k : Nat} (h1 : PG X (.Name x p1) (wH i)) (h2 : PG X (.Name y p2) (wH j))
  (hp : ∀ {t1 t2 : TG}, PG X (.Name x p1) t1 → PG X (.Name y p2) t2 → PG X (.Tuple [.Name x p1, .Name y p2] k pos) (aMg X.K 2 (aHs t1 (aHs t2 aM6)))) : DG X (.Tuple [.Name x p1, .Name y p2] k pos) [i, j] (pE i j) := by
 refine ⟨_, hp h1 h2, fun C0 H0 δ σ C H v d Q R rp n g k => ?_⟩
 unfold pE at g
 split at g
 ·rename_i d1 d2
  obtain ⟨p, xs, rfl, hx, hd⟩ := bS.mp n
  obtain ⟨v1, v2, rfl, n1, n2⟩ := aHS hd
  refine ⟨p, [v1, v2], rfl, rp.ch.seqT hx, rfl, v1, [v2], rfl, v2, [], rfl, rfl, ?_⟩
  refine k _ _ g ((rp.setI n1).setI n2) (by simp) fun m hm => ?_
  rw [List.getElem?_set_ne, List.getElem?_set_ne]
  ·intro z; exact hm (by simp [z])
  ·intro z; exact hm (by simp [z])
 ·exact g.elim
def δc (fr : List (Option Nat)) (δ : DS) : DS := fr.map fun o => match o with
 | none => .un
 | some j => match δ[j]? with
  | some (.im d) => .im d
  | some (.fd m) => .fd m
  | _ => .un
theorem gX.comp {K : PySem.W.Frag} {C0 H0 δ σ C H C1 H1} (fr : List (Option Nat)) (R : gX K C0 H0 δ σ C H) (cc : cM C C1) (ch : cM C1 H1) : gX K C1 H1 (δc fr δ) (σc fr σ) C1 H1 := by
 have no : ∀ (i : Nat) ds, (δc fr δ)[i]? ≠ some (.ow ds) := fun i ds e => by
  unfold δc at e
  rw [List.getElem?_map] at e
  cases ef : fr[i]? with
  | none => rw [ef] at e; cases e
  | some o =>
   rw [ef] at e
   cases o with
   | none => cases e
   | some j =>
    simp only [Option.map_some] at e
    split at e <;> cases e
 have nod : ∀ (i : Nat) m, (δc fr δ)[i]? ≠ some (.od m) := fun i ds e => by
  unfold δc at e
  rw [List.getElem?_map] at e
  cases ef : fr[i]? with
  | none => rw [ef] at e; cases e
  | some o =>
   rw [ef] at e
   cases o with
   | none => cases e
   | some j =>
    simp only [Option.map_some] at e
    split at e <;> cases e
 refine ⟨R.tc.mono cc, by unfold σc δc; simp, d7.refl ch, fun i d e => ?_, fun i ds e => absurd e (no i ds), fun i j ds es l _ e _ => absurd e (no i ds), fun i m e => absurd e (nod i m), fun i m e => ?_, fun i j m n l _ e => absurd e (nod i m)⟩
 rotate_left
 ·unfold δc at e
  unfold σc
  rw [List.getElem?_map] at e ⊢
  cases ef : fr[i]? with
  | none => rw [ef] at e; cases e
  | some o =>
   rw [ef] at e
   cases o with
   | none => cases e
   | some j =>
    simp only [Option.map_some] at e ⊢
    split at e
    ·cases e
    ·rename_i m' ed
     cases e
     obtain ⟨l, o, ev, nv⟩ := R.dc.fd j m ed
     refine ⟨l, o, ?_, cc _ _ nv⟩
     show some ((σ[j]?).bind id) = _
     rw [ev]
     rfl
    ·cases e
 unfold δc at e
 unfold σc
 rw [List.getElem?_map] at e ⊢
 cases ef : fr[i]? with
 | none => rw [ef] at e; cases e
 | some o =>
  rw [ef] at e
  cases o with
  | none => cases e
  | some j =>
   simp only [Option.map_some] at e ⊢
   split at e
   ·rename_i d' ed
    cases e
    obtain ⟨v, ev, nv⟩ := R.im j d ed
    refine ⟨v, ?_, nv.mono cc⟩
    show some ((σ[j]?).bind id) = _
    rw [ev]
    rfl
   ·cases e
   ·cases e
def eF (fr : List (Option Nat)) (gi : GF) (gg : GG) (ge : GE) : GF := fun δ Q => gi δ fun its => its.length ≤ sizeLine ∧ ∃ f : D → D, (∀ d ∈ its, gg d (δc fr δ) fun δ2 => ge δ2 fun y => y = f d) ∧ Q (its.map f)
def dO (fr : List (Option Nat)) (gi : GF) (gg : GG) (gt : GT) (ge : GE) : GF := fun δ Q => gi δ fun its => its.length ≤ sizeLine ∧ ∃ (p : D → Bool) (f : D → D), (∀ d ∈ its, gg d (δc fr δ) fun δ2 => gt δ2 fun c => c = p d ∧ (c = true → ge δ2 fun y => y = f d)) ∧ Q ((its.filter p).map f)
def aCq (fr : List (Option Nat)) (ss : List Nat) : Bool := ss.all fun j => fr[j]? == some none
theorem aJO {fr : List (Option Nat)} {ss : List Nat} (h : aCq fr ss = true) {σ : St} {j : Nat} (hj : j ∈ ss) : (σc fr σ)[j]? = some none := by
 unfold aCq at h
 rw [List.all_eq_true] at h
 have e : fr[j]? = some none := by simpa using h j hj
 unfold σc
 rw [List.getElem?_map, e]
 rfl
theorem aLK {fr : List (Option Nat)} {ss : List Nat} (h : aCq fr ss = true) {σ σ' : St} (hl : σ'.length = (σc fr σ).length) (hj : ∀ j : Nat, j ∉ ss → σ'[j]? = (σc fr σ)[j]?) : Fwd σ' (σc fr σ) := by
 refine ⟨hl, fun i v e => ?_⟩
 by_cases hi : i ∈ ss
 ·rw [aJO h hi] at e
  cases e
 ·rw [hj i hi]; exact e
def aGN (X : Cx) (ifs : List Expr) (g : GT) : Prop := ∃ t, aCz X ifs t ∧ ∀ C0 H0 δ σ C H (Q : Bool → Prop) (R : Bool → Hp → Prop), gX X.K C0 H0 δ σ C H → g δ Q → (∀ b C1 H1, Q b → d7 C H C1 H1 → R b H1) → t σ H R
end
theorem zX {K : PySem.W.Frag} {C0 H0 C H C1 H1 : Hp} {δ : DS} {σ : St} {fr : List (Option Nat)} {ss : List Nat} {J : It} {its : List D} {g : TG} {tt : TT} {te : TE} {gg : GG} {gt : GT} {ge : GE} {p : D → Bool} {f : D → D} {A : Addr} {Q : List D → Prop} {R : VK}
  (hg : ∀ C0 H0 δ σ C H v d (Q : DS → Prop) (R : St → Hp → Prop), gX K C0 H0 δ σ C H → jX K C v d → gg d δ Q → (∀ δ' σ', Q δ' → gX K C0 H0 δ' σ' C H → σ'.length = σ.length → (∀ j : Nat, j ∉ ss → σ'[j]? = σ[j]?) → R σ' H) → g v σ H R)
  (ht : ∀ C0 H0 δ σ C H (Q : Bool → Prop) (R : Bool → Hp → Prop), gX K C0 H0 δ σ C H → gt δ Q → (∀ b C1 H1, Q b → d7 C H C1 H1 → R b H1) → tt σ H R)
  (he : ∀ C0 H0 δ σ C H (Q : D → Prop) (R : VK), gX K C0 H0 δ σ C H → ge δ Q → (∀ d v C1 H1, Q d → d7 C H C1 H1 → jX K C1 v d → R v H1) → te σ H R)
  (fo : aCq fr ss = true) (rp : gX K C0 H0 δ σ C H) (e1 : d7 C H C1 H1) (wk : aDD K J its C1) (hz : its.length ≤ sizeLine)
  (hf : ∀ d ∈ its, gg d (δc fr δ) fun δ2 => gt δ2 fun c => c = p d ∧ (c = true → ge δ2 fun y => y = f d)) (q : Q ((its.filter p).map f))
  (k : ∀ ds p xs C1 H1, Q ds → d7 C H C1 H1 → C1 p = none → H p = none → H1 p = some (.lst xs) → bZ K C1 xs ds → R (.ref p) H1) (hA : H1 A = none) : aEX J (σc fr σ) g tt te A H1 R := by
 have hflt : ∀ i : Nat, (((its.take i).filter p).map f).length ≤ i := fun i => by
  rw [List.length_map]
  exact Nat.le_trans (List.length_filter_le _ _) (by rw [List.length_take]; omega)
 refine ⟨fun i m ys H2 => m = its.length - i ∧ i ≤ its.length ∧ ∃ C2, d7 C1 H1 C2 H2 ∧ H2 A = some (.lst ys) ∧ C2 A = none ∧ bZ K C2 ys (((its.take i).filter p).map f), ⟨_, rfl, Nat.zero_le _, C1, d7.newO e1.ch hA, bQ, e1.ch.free hA, by simpa using bZ.nil⟩, ?_⟩
 rintro i m ys H2 ⟨rfl, hi, C2, ex, hl, hc, hd⟩
 have W := wk C2 H2 ex.cc ex.ch i
 by_cases hlt : i < its.length
 ·have ed : its[i]? = some its[i] := by simp [hlt]
  obtain ⟨go, yl⟩ := W.1 _ ed
  refine .inr ⟨go, fun x H3 y => ?_⟩
  obtain ⟨C3, e3, n3⟩ := yl x H3 y
  have rc : gX K C3 H3 (δc fr δ) (σc fr σ) C3 H3 := rp.comp fr ((e1.cc.trans ex.cc).trans e3.cc) e3.ch
  refine hg C3 H3 _ _ C3 H3 x its[i] _ _ rc n3 (hf its[i] (List.getElem_mem hlt)) fun δ' σ' q' rp' hl' hj' => ⟨aLK fo hl' hj', ?_⟩
  refine ht C3 H3 δ' σ' C3 H3 _ _ rp' q' fun b C4 H4 q4 e4 => ?_
  have hA4 : H4 A = some (.lst ys) := e4.hh _ _ (e3.hh _ _ hl)
  have hc4 : C4 A = none := e4.ow A (e3.ow A hc (by rw [hl]; simp)) (by rw [e3.hh _ _ hl]; simp)
  have ed2 := ((hd.mono e3.cc).mono e4.cc)
  have tk : its.take (i + 1) = its.take i ++ [its[i]] := by rw [List.take_succ, ed]; rfl
  cases b with
  | false =>
   rw [if_neg (by simp)]
   refine ⟨its.length - (i + 1), by omega, rfl, hlt, C4, ex.trans (e3.trans e4), hA4, hc4, ?_⟩
   rw [tk, List.filter_append, List.filter_cons_of_neg (by rw [← q4.1]; simp)]
   simpa using ed2
  | true =>
   rw [if_pos rfl]
   refine he C3 H3 δ' σ' C4 H4 _ _ (rp'.grow e4) (q4.2 rfl) fun d v C5 H5 q5 e5 n5 => ?_
   have hA5 : H5 A = some (.lst ys) := e5.hh _ _ hA4
   have hc5 : C5 A = none := e5.ow A hc4 (by rw [hA4]; simp)
   have hyl : ys.length < sizeLine := by
    rw [hd.length]
    exact Nat.lt_of_le_of_lt (hflt i) (by omega)
   refine ⟨hA5, hyl, its.length - (i + 1), by omega, rfl, hlt, C5, ?_, bQ, hc5, ?_⟩
   ·have e := ex.trans (e3.trans (e4.trans e5))
    refine ⟨fun z u ez => ?_, e.cc, fun z u ez => ?_, e.ow⟩
    ·rw [aV (bM ez hA)]; exact e.hh z u ez
    ·rw [aV (bM ez hc5)]; exact e.ch z u ez
   ·rw [tk, List.filter_append, List.filter_cons_of_pos (by rw [← q4.1]), List.map_append, List.filter_nil, List.map_cons, List.map_nil]
    refine (ed2.mono e5.cc).append (.cons ?_ .nil)
    rw [← q5]; exact n5
 ·have e : i = its.length := by omega
  refine .inl ⟨W.2 (by omega), ?_⟩
  rw [e, List.take_length] at hd
  exact k _ A ys C2 H2 q (e1.trans ex) hc (e1.hh.free hA) hl hd
section
variable {X : Cx} {a b c e tg iter elt : Expr} {es : List Expr} {pos : Pos} {ge : GE} {gi : GF} {gt : GT} {gg : GG} {scope : Scope} {Nc : List Str} {fr : List (Option Nat)} {ss : List Nat}
def tDE (K : PySem.W.Frag) (g : GE) : TE := fun σ H R => ∃ C0 H0 δ C Q, gX K C0 H0 δ σ C H ∧ g δ Q ∧ ∀ d v C1 H1, Q d → d7 C H C1 H1 → jX K C1 v d → R v H1
def tDT (K : PySem.W.Frag) (g : GT) : TT := fun σ H R => ∃ C0 H0 δ C Q, gX K C0 H0 δ σ C H ∧ g δ Q ∧ ∀ b C1 H1, Q b → d7 C H C1 H1 → R b H1
def tDG (K : PySem.W.Frag) (ss : List Nat) (g : GG) : TG := fun v σ H R => ∃ C0 H0 δ C d Q, gX K C0 H0 δ σ C H ∧ jX K C v d ∧ g d δ Q ∧ ∀ δ' σ', Q δ' → gX K C0 H0 δ' σ' C H → σ'.length = σ.length → (∀ j : Nat, j ∉ ss → σ'[j]? = σ[j]?) → R σ' H
theorem DE.can (h : DE X e ge) : PE X e (tDE X.K ge) := by
 obtain ⟨t, p, h⟩ := h
 intro pins s σ H Q I q
 obtain ⟨C0, H0, δ, C, Q', rp, g, k⟩ := q
 exact p pins s σ H Q I (h C0 H0 δ σ C H Q' Q rp g k)
theorem DG.can (h : DG X tg ss gg) : PG X tg (tDG X.K ss gg) := by
 obtain ⟨t, p, h⟩ := h
 intro pins s σ H v u Q I r q
 obtain ⟨C0, H0, δ, C, d, Q', rp, n, g, k⟩ := q
 exact p pins s σ H v u Q I r (h C0 H0 δ σ C H v d Q' Q rp n g k)
theorem aGN.can {ifs : List Expr} (h : aGN X ifs gt) : aCz X ifs (tDT X.K gt) := by
 obtain ⟨t, p, h⟩ := h
 intro pins s σ H Q I q
 obtain ⟨C0, H0, δ, C, Q', rp, g, k⟩ := q
 exact p pins s σ H Q I (h C0 H0 δ σ C H Q' Q rp g k)
abbrev aIe : GT := fun _ Q => Q true
theorem aCG : aGN X [] aIe := ⟨_, aIn, fun C0 H0 δ σ C H Q R rp g k => k true C H g (d7.refl rp.ch)⟩
theorem j5 (h : DT X c gt) : aGN X [c] gt := by
 obtain ⟨t, p, h⟩ := h
 exact ⟨t, aIh p, h⟩
theorem aBa {ifs : List Expr} (h : DI X tg iter gi) (fo : aCq fr ss = true) : ∃ wi, PI X tg iter wi ∧ ∀ C0 H0 δ σ C H (Q : List D → Prop) (R : VK), gX X.K C0 H0 δ σ C H → dO fr gi gg gt ge δ Q →
  (∀ ds p xs C1 H1, Q ds → d7 C H C1 H1 → C1 p = none → H p = none → H1 p = some (.lst xs) → bZ X.K C1 xs ds → R (.ref p) H1) → aH0 fr wi (tDG X.K ss gg) (tDT X.K gt) (tDE X.K ge) σ H R := by
 obtain ⟨wi, pi, h⟩ := h
 refine ⟨wi, pi, fun C0 H0 δ σ C H Q R rp g k => h C0 H0 δ σ C H _ _ rp g fun its J C1 H1 q e1 wk A hA => ?_⟩
 obtain ⟨hz, p, f, hf, q⟩ := q
 refine zX (gg := gg) (gt := gt) (ge := ge) (ss := ss) (fun C0 H0 δ σ C H v d Q R rp n g k => ⟨C0, H0, δ, C, d, Q, rp, n, g, k⟩) (fun C0 H0 δ σ C H Q R rp g k => ⟨C0, H0, δ, C, Q, rp, g, k⟩) (fun C0 H0 δ σ C H Q R rp g k => ⟨C0, H0, δ, C, Q, rp, g, k⟩) fo rp e1 wk hz hf q k hA
theorem jW {ifs : List Expr} (ok : lZ X.env.scope scope X.N Nc fr = true) (fo : aCq fr ss = true) (hc : X.calm = true) (hi : DI X tg iter gi) (hg : ∀ Cc pins fp s3 H3, DG (xA X scope Nc Cc pins fp s3 H3) tg ss gg)
  (ht : ∀ Cc pins fp s3 H3, aGN (xA X scope Nc Cc pins fp s3 H3) ifs gt) (he : ∀ Cc pins fp s3 H3, DE (xA X scope Nc Cc pins fp s3 H3) elt ge) (hs : ∀ x, foldedSetIterable iter X.env x = pure x := by intro _; rfl) :
  DF X (.ListComp elt [⟨tg, iter, ifs, 0⟩] scope pos) (dO fr gi gg gt ge) := by
 obtain ⟨wi, pi, h⟩ := aBa (ifs := ifs) (gg := gg) (gt := gt) (ge := ge) hi fo
 exact ⟨_, aE5 ok hc pi (fun a b c d e => (hg a b c d e).can) (fun a b c d e => (ht a b c d e).can) (fun a b c d e => (he a b c d e).can) hs, h⟩
end
structure DEnds where
 nx : DS → Prop
 rt : D → Prop
 bk : DS → Prop := fun _ => False
 ct : DS → Prop := fun _ => False
abbrev GS := DEnds → DS → Prop
structure Adm (K : PySem.W.Frag) (C0 H0 : Hp) (E : aDd) (De : DEnds) : Prop where
 nx : ∀ δ σ C H, gX K C0 H0 δ σ C H → De.nx δ → E.nx σ H
 rt : ∀ d v C H, d7 C0 H0 C H → jX K C v d → De.rt d → E.rt v H
 bk : ∀ δ σ C H, gX K C0 H0 δ σ C H → De.bk δ → E.bk σ H
 ct : ∀ δ σ C H, gX K C0 H0 δ σ C H → De.ct δ → E.ct σ H
def DSt (X : Cx) (st : Stmt) (g : GS) : Prop := ∃ t, PS X st t ∧ ∀ C0 H0 δ σ C H De E, gX X.K C0 H0 δ σ C H → g De δ → Adm X.K C0 H0 E De → t E σ H
def jA (X : Cx) (sts : List Stmt) (g : GS) : Prop := ∃ t, PSs X sts t ∧ ∀ C0 H0 δ σ C H De E, gX X.K C0 H0 δ σ C H → g De δ → Adm X.K C0 H0 E De → t E σ H
section
variable {X : Cx} {a b c e tg iter elt : Expr} {st : Stmt} {sts s2 : List Stmt} {pos : Pos} {ge : GE} {gi gf : GF} {gt : GT} {gg : GG} {g1 g2 : GS} {scope : Scope} {Nc : List Str} {fr : List (Option Nat)} {ss : List Nat}
abbrev fR : GS := fun De δ => De.nx δ
def bI (g1 g2 : GS) : GS := fun De δ => g1 { De with nx := g2 De } δ
theorem fP : jA X [] fR := ⟨_, aJs, fun C0 H0 δ σ C H De E rp g k => k.nx δ σ C H rp g⟩
theorem aI (h1 : DSt X st g1) (h2 : jA X sts g2) : jA X (st :: sts) (bI g1 g2) := by
 obtain ⟨t1, p1, h1⟩ := h1
 obtain ⟨t2, p2, h2⟩ := h2
 refine ⟨_, aDQ p1 p2, fun C0 H0 δ σ C H De E rp g k => h1 C0 H0 δ σ C H { De with nx := g2 De } { E with nx := t2 E } rp g ⟨fun δ' σ' C' H' rp' q => ?_, k.rt, k.bk, k.ct⟩⟩
 exact h2 C0 H0 δ' σ' C' H' De E rp' q k
theorem aL (h1 : DSt X st g1) : jA X [st] g1 := by
 obtain ⟨t1, p1, h1⟩ := h1
 exact ⟨_, aE7 p1, h1⟩
def rQ (i : Nat) (g : GS) : GS := fun De δ => match δ[i]? with
 | some (.ow ds) => g De (δ.set i (.im (.lst ds)))
 | _ => False
theorem lG (i : Nat) (h : jA X sts g1) : jA X sts (rQ i g1) := by
 obtain ⟨t, p, h⟩ := h
 refine ⟨t, p, fun C0 H0 δ σ C H De E rp g k => ?_⟩
 unfold rQ at g
 split at g
 ·rename_i ds e
  obtain ⟨C1, rp'⟩ := rp.freeze' e
  exact h C0 H0 _ σ C1 H De E rp' g k
 ·exact g.elim
def cT (ge : GE) : GS := fun De δ => ge δ De.rt
theorem bH (he : DE X e ge) : DSt X (.Return (some e) pos) (cT ge) := by
 obtain ⟨t, p, h⟩ := he
 exact ⟨_, aHM p, fun C0 H0 δ σ C H De E rp g k => h C0 H0 δ σ C H _ _ rp g fun d v C1 H1 q e1 n1 => k.rt d v C1 H1 (rp.ext.trans e1) n1 q⟩
def j6 (gt : GT) (g1 g2 : GS) : GS := fun De δ => gt δ fun c => if c = true then g1 De δ else g2 De δ
theorem lT (hc : DT X c gt) (h1 : jA X sts g1) (h2 : jA X s2 g2) : DSt X (.If c sts s2 pos) (j6 gt g1 g2) := by
 obtain ⟨t0, p0, h0⟩ := hc
 obtain ⟨t1, p1, h1⟩ := h1
 obtain ⟨t2, p2, h2⟩ := h2
 refine ⟨_, aKr p0 p1 p2, fun C0 H0 δ σ C H De E rp g k => h0 C0 H0 δ σ C H _ _ rp g fun c C1 H1 q e1 => ?_⟩
 cases c with
 | true => exact aIt (h1 C0 H0 δ σ C1 H1 De E (rp.grow e1) (by simpa using q) k)
 | false => exact aHw (h2 C0 H0 δ σ C1 H1 De E (rp.grow e1) (by simpa using q) k)
def cA (ge : GE) (gg : GG) : GS := fun De δ => ge δ fun d => gg d δ De.nx
theorem bA (he : DE X e ge) (hg : DG X tg ss gg) (hp : ∀ {te : TE} {g : TG}, PE X e te → PG X tg g → PS X (.Assign [tg] e pos) (aEH te g)) : DSt X (.Assign [tg] e pos) (cA ge gg) := by
 obtain ⟨t, p, h⟩ := he
 obtain ⟨t2, p2, h2⟩ := hg
 refine ⟨_, hp p p2, fun C0 H0 δ σ C H De E rp g k => h C0 H0 δ σ C H _ _ rp g fun d v C1 H1 q e1 n1 => ?_⟩
 exact h2 C0 H0 δ σ C1 H1 v d _ _ (rp.grow e1) n1 q fun δ' σ' q' rp' _ _ => k.nx δ' σ' C1 H1 rp' q'
def kM (i : Nat) (gf : GF) : GS := fun De δ => gf δ fun ds => De.nx (δ.set i (.ow ds))
theorem rC {i : Nat} {x : Str} {pos' : Pos} (he : DF X e gf) (hp : ∀ {te : TE}, PE X e te → PS X (.Assign [.Name x pos'] e pos) (aEH te (wH i))) : DSt X (.Assign [.Name x pos'] e pos) (kM i gf) := by
 obtain ⟨t, p, h⟩ := he
 refine ⟨_, hp p, fun C0 H0 δ σ C H De E rp g k => h C0 H0 δ σ C H _ _ rp g fun ds p xs C1 H1 q e1 hc hn hl hd => ?_⟩
 have rp1 := rp.grow e1
 refine k.nx _ _ C1 H1 (rp1.setO (rp.ext.hh.free hn) hc (fun j es hj ho z => ?_) hl hd) q
 obtain ⟨l, ys, a, _, _, d, _⟩ := rp.ow j es ho
 rw [z] at a
 cases a
 rw [hn] at d
 cases d
theorem aHU {i : Nat} {x : Str} {ifs : List Expr} {pos' pos'' : Pos} (ok : lZ X.env.scope scope X.N Nc fr = true) (fo : aCq fr ss = true) (hc : X.calm = true) (hN : X.N.Nodup) (hi : X.N[i]? = some x) (hx : Loc X.env.scope x) (hit : DI X tg iter gi) (hg : ∀ Cc pins fp s3 H3, DG (xA X scope Nc Cc pins fp s3 H3) tg ss gg)
  (ht : ∀ Cc pins fp s3 H3, aGN (xA X scope Nc Cc pins fp s3 H3) ifs gt) (he : ∀ Cc pins fp s3 H3, DE (xA X scope Nc Cc pins fp s3 H3) elt ge) (hsw : swapsWith (.ListComp elt [⟨tg, iter, ifs, 0⟩] scope pos) (some (.Name x pos')) pos''.line X.env = pure true)
  (hs : ∀ x, foldedSetIterable iter X.env x = pure x := by intro _; rfl) (hf : X.fn x = true ∨ X.env.scope.names.lookup x = some .local := by first | exact .inl rfl | exact .inr rfl | assumption) :
  DSt X (.Assign [.Name x pos'] (.ListComp elt [⟨tg, iter, ifs, 0⟩] scope pos) pos'') (kM i (dO fr gi gg gt ge)) := by
 obtain ⟨wi, pi, h⟩ := aBa (ifs := ifs) (gg := gg) (gt := gt) (ge := ge) hit fo
 refine ⟨_, aFK ok hc hN hi hx pi (fun a b c d e => (hg a b c d e).can) (fun a b c d e => (ht a b c d e).can) (fun a b c d e => (he a b c d e).can) hsw hs hf, fun C0 H0 δ σ C H De E rp g k => h C0 H0 δ σ C H _ _ rp g fun ds p xs C1 H1 q e1 hc hn hl hd => ?_⟩
 have rp1 := rp.grow e1
 refine k.nx _ _ C1 H1 (rp1.setO (rp.ext.hh.free hn) hc (fun j es hj ho z => ?_) hl hd) q
 obtain ⟨l, ys, a, _, _, d, _⟩ := rp.ow j es ho
 rw [z] at a
 cases a
 rw [hn] at d
 cases d
def aAu (i : Nat) (ge : GE) : GS := fun De δ => match δ[i]? with
 | some (.ow ds) => ge δ fun d => ds.length < sizeLine ∧ De.nx (δ.set i (.ow (ds ++ [d])))
 | _ => False
theorem aCg {i : Nat} {o : Expr} {nm : Str} {p2 p3 : Pos} (he : DE X e ge) (hp : ∀ {te : TE}, PE X e te → PS X (.Expr (.Call (.Attribute o nm p2) [e] [] p3) pos) (aG9 (tBM X.K "list" aFi (aBQ i) (aFF te aJ2)))) : DSt X (.Expr (.Call (.Attribute o nm p2) [e] [] p3) pos) (aAu i ge) := by
 obtain ⟨t, p, h⟩ := he
 refine ⟨_, hp p, fun C0 H0 δ σ C H De E rp g k => ?_⟩
 unfold aAu at g
 split at g
 ·rename_i ds eo
  obtain ⟨l, xs, a, b, c, d, f⟩ := rp.ow i ds eo
  refine ⟨.ref l, a, .inl ⟨rfl, xs, kK.of d⟩, h C0 H0 δ σ C H _ _ rp g fun dv v C1 H1 q e1 n1 => ?_⟩
  have d1 := e1.hh _ _ d
  refine ⟨l, xs, v, rfl, rfl, d1, by rw [f.length]; exact q.1, k.nx _ σ C1 _ ((rp.grow e1).change eo a ((f.mono e1.cc).append (.cons n1 .nil))) q.2⟩
 ·exact g.elim
def aET (i : Nat) (gf : GF) : GS := fun De δ => match δ[i]? with
 | some (.ow ds) => gf δ fun es => ds.length + es.length ≤ sizeLine ∧ De.nx (δ.set i (.ow (ds ++ es)))
 | _ => False
theorem aKJ {i : Nat} {o : Expr} {nm : Str} {p2 p3 : Pos} (he : DF X e gf) (hp : ∀ {te : TE}, PE X e te → PS X (.Expr (.Call (.Attribute o nm p2) [e] [] p3) pos) (aG9 (tBM X.K "list" aFv (aBQ i) (aFF te aJ2)))) : DSt X (.Expr (.Call (.Attribute o nm p2) [e] [] p3) pos) (aET i gf) := by
 obtain ⟨t, p, h⟩ := he
 refine ⟨_, hp p, fun C0 H0 δ σ C H De E rp g k => ?_⟩
 unfold aET at g
 split at g
 ·rename_i ds eo
  obtain ⟨l, xs, a, b, c, d, f⟩ := rp.ow i ds eo
  refine ⟨.ref l, a, .inl ⟨rfl, xs, kK.of d⟩, h C0 H0 δ σ C H _ _ rp g fun es p ys C1 H1 q e1 hc hn hl hd => ?_⟩
  have d1 := e1.hh _ _ d
  refine ⟨l, p, xs, ys, rfl, rfl, d1, hl, by rw [f.length, hd.length]; exact q.1, k.nx _ σ C1 _ ((rp.grow e1).change eo a ((f.mono e1.cc).append hd)) q.2⟩
 ·exact g.elim
theorem iW (ok : lZ X.env.scope scope X.N Nc fr = true) (fo : aCq fr ss = true) (hc : X.calm = true) (hi : DI X tg iter gi) (hg : ∀ Cc pins fp s3 H3, DG (xA X scope Nc Cc pins fp s3 H3) tg ss gg)
  (he : ∀ Cc pins fp s3 H3, DE (xA X scope Nc Cc pins fp s3 H3) elt ge) (mg : ∀ d δ (P P' : DS → Prop), (∀ l, P l → P' l) → gg d δ P → gg d δ P') (hs : ∀ x, foldedSetIterable iter X.env x = pure x := by intro _; rfl) :
  DF X (.ListComp elt [⟨tg, iter, [], 0⟩] scope pos) (eF fr gi gg ge) := by
 obtain ⟨wi, pi, h⟩ := hi
 refine ⟨_, aE5 (g := tDG X.K ss gg) (tt := tDT X.K aIe) (te := tDE X.K ge) ok hc pi (fun a b c d e => (hg a b c d e).can) (fun a b c d e => (aCG (X := xA X scope Nc a b c d e)).can) (fun a b c d e => (he a b c d e).can) hs, fun C0 H0 δ σ C H Q R rp g k => h C0 H0 δ σ C H _ _ rp g fun its J C1 H1 q e1 wk A hA => ?_⟩
 obtain ⟨hz, f, hf, q⟩ := q
 refine zX (gg := gg) (gt := aIe) (ge := ge) (ss := ss) (p := fun _ => true) (f := f) (Q := Q) (fun C0 H0 δ σ C H v d Q R rp n g k => ⟨C0, H0, δ, C, d, Q, rp, n, g, k⟩) (fun C0 H0 δ σ C H Q R rp g k => ⟨C0, H0, δ, C, Q, rp, g, k⟩) (fun C0 H0 δ σ C H Q R rp g k => ⟨C0, H0, δ, C, Q, rp, g, k⟩) fo rp e1 wk hz
  (fun d hd => mg d _ _ _ (fun δ2 q2 => ⟨rfl, fun _ => q2⟩) (hf d hd)) (by rw [List.filter_eq_self.mpr (fun _ _ => rfl)]; exact q) k hA
theorem rG {i : Nat} {x : Str} {pos' pos'' : Pos} (ok : lZ X.env.scope scope X.N Nc fr = true) (fo : aCq fr ss = true) (hc : X.calm = true) (hN : X.N.Nodup) (hi : X.N[i]? = some x) (hx : Loc X.env.scope x) (hit : DI X tg iter gi) (hg : ∀ Cc pins fp s3 H3, DG (xA X scope Nc Cc pins fp s3 H3) tg ss gg)
  (he : ∀ Cc pins fp s3 H3, DE (xA X scope Nc Cc pins fp s3 H3) elt ge) (mg : ∀ d δ (P P' : DS → Prop), (∀ l, P l → P' l) → gg d δ P → gg d δ P') (hsw : swapsWith (.ListComp elt [⟨tg, iter, [], 0⟩] scope pos) (some (.Name x pos')) pos''.line X.env = pure true)
  (hs : ∀ x, foldedSetIterable iter X.env x = pure x := by intro _; rfl) (hf : X.fn x = true ∨ X.env.scope.names.lookup x = some .local := by first | exact .inl rfl | exact .inr rfl | assumption) :
  DSt X (.Assign [.Name x pos'] (.ListComp elt [⟨tg, iter, [], 0⟩] scope pos) pos'') (kM i (eF fr gi gg ge)) := by
 obtain ⟨wi, pi, h⟩ := hit
 refine ⟨_, aFK (g := tDG X.K ss gg) (tt := tDT X.K aIe) (te := tDE X.K ge) ok hc hN hi hx pi (fun a b c d e => (hg a b c d e).can) (fun a b c d e => (aCG (X := xA X scope Nc a b c d e)).can) (fun a b c d e => (he a b c d e).can) hsw hs hf, fun C0 H0 δ σ C H De E rp g k => h C0 H0 δ σ C H _ _ rp g fun its J C1 H1 q e1 wk A hA => ?_⟩
 obtain ⟨hz, f, hf, q⟩ := q
 refine zX (gg := gg) (gt := aIe) (ge := ge) (ss := ss) (p := fun _ => true) (f := f) (Q := fun ds => De.nx (δ.set i (.ow ds))) (fun C0 H0 δ σ C H v d Q R rp n g k => ⟨C0, H0, δ, C, d, Q, rp, n, g, k⟩) (fun C0 H0 δ σ C H Q R rp g k => ⟨C0, H0, δ, C, Q, rp, g, k⟩) (fun C0 H0 δ σ C H Q R rp g k => ⟨C0, H0, δ, C, Q, rp, g, k⟩) fo rp e1 wk hz
  (fun d hd => mg d _ _ _ (fun δ2 q2 => ⟨rfl, fun _ => q2⟩) (hf d hd)) (by rw [List.filter_eq_self.mpr (fun _ _ => rfl)]; exact q) (fun ds p xs C1 H1 q e1 hc hn hl hd => ?_) hA
 have rp1 := rp.grow e1
 refine k.nx _ _ C1 H1 (rp1.setO (rp.ext.hh.free hn) hc (fun j es hj ho z => ?_) hl hd) q
 obtain ⟨l, ys, a, _, _, d, _⟩ := rp.ow j es ho
 rw [z] at a
 cases a
 rw [hn] at d
 cases d
theorem iY {i : Nat} : ∀ d δ (P P' : DS → Prop), (∀ l, P l → P' l) → dH i d δ P → dH i d δ P' := fun _ _ _ _ h q => h _ q
theorem u0 {i j : Nat} : ∀ d δ (P P' : DS → Prop), (∀ l, P l → P' l) → pE i j d δ P → pE i j d δ P' := fun d δ P P' h q => by
 unfold pE at q ⊢
 split at q
 ·exact h _ q
 ·exact q.elim
theorem gX.rebase {K : PySem.W.Frag} {C0 H0 δ σ C H} (R : gX K C0 H0 δ σ C H) : gX K C H0 δ σ C H := ⟨R.tc, R.len, ⟨R.ext.hh, cM.refl _, R.ext.ch, fun _ e _ => e⟩, R.im, R.ow, R.ap, R.dc⟩
theorem d7.unbase {C0 H0 C1 H1 C H : Hp} (e : d7 C0 H0 C1 H1) (x : d7 C1 H0 C H) : d7 C0 H0 C H := ⟨x.hh, e.cc.trans x.cc, x.ch, fun b a n => x.ow b (e.ow b a n) n⟩
theorem gX.unbase {K : PySem.W.Frag} {C0 H0 C1 H1 δ σ C H} (e : d7 C0 H0 C1 H1) (R : gX K C1 H0 δ σ C H) (t0 : TB K C0) : gX K C0 H0 δ σ C H := ⟨t0, R.len, e.unbase R.ext, R.im, R.ow, R.ap, R.dc⟩
def gR (gi : GF) (gg : GG) (gb : GS) : GS := fun De δ => gi δ fun its => ∃ P : Nat → DS → Prop, P 0 δ ∧ (∀ (i : Nat) d δ', its[i]? = some d → P i δ' → gg d δ' fun δ2 => gb { De with nx := P (i + 1), ct := P (i + 1), bk := De.nx } δ2) ∧ ∀ δ', P its.length δ' → De.nx δ'
theorem gT {gb : GS} (hc : X.calm = true) (hp : PassesOwn (model X.prog X.w) X.A X.env X.xe) (hi : DI X tg iter gi) (hg : DG X tg ss gg) (hb : jA X sts gb) (hs : ∀ x, foldedSetIterable iter X.env x = pure x := by intro _; rfl) : DSt X (.For tg iter sts [] pos) (gR gi gg gb) := by
 obtain ⟨wi, pi, h⟩ := hi
 obtain ⟨t2, p2, h2⟩ := hg
 obtain ⟨t3, p3, h3⟩ := hb
 refine ⟨_, aLT hp hc pi p2 p3 hs, fun C0 H0 δ σ C H De E rp g k => h C0 H0 δ σ C H _ _ rp g fun its J C1 H1 q e1 wk => ?_⟩
 obtain ⟨P, P0, Pt, Pe⟩ := q
 have rp1 := rp.grow e1
 refine ⟨fun i m σ' H' => m = its.length - i ∧ i ≤ its.length ∧ ∃ δ' C', gX X.K C1 H0 δ' σ' C' H' ∧ P i δ', ⟨_, rfl, Nat.zero_le _, δ, C1, rp1.rebase, P0⟩, ?_⟩
 rintro i m σ' H' ⟨rfl, hi, δ', C', rp', p⟩
 have W := wk C' H' rp'.ext.cc rp'.ch i
 by_cases hlt : i < its.length
 ·have ed : its[i]? = some its[i] := by simp [hlt]
  obtain ⟨go, yl⟩ := W.1 _ ed
  refine .inr ⟨go, fun σ2 H2 => ∃ δ2 C2, gX X.K C1 H0 δ2 σ2 C2 H2 ∧ P (i + 1) δ2, fun σ2 H2 ⟨δ2, C2, a, b⟩ => ⟨its.length - (i + 1), by omega, rfl, hlt, δ2, C2, a, b⟩, fun x H3 y => ?_⟩
  obtain ⟨C3, e3, n3⟩ := yl x H3 y
  refine h2 C1 H0 δ' σ' C3 H3 x its[i] _ _ (rp'.grow e3) n3 (Pt i _ δ' ed p) fun δ4 σ4 q4 rp4 _ _ => ?_
  refine h3 C1 H0 δ4 σ4 C3 H3 _ _ rp4 q4 ⟨fun δ5 σ5 C5 H5 a b => ⟨δ5, C5, a, b⟩, fun d v C5 H5 a b c => k.rt d v C5 H5 (rp1.ext.unbase a) b c, fun δ5 σ5 C5 H5 a b => k.nx δ5 σ5 C5 H5 (a.unbase rp1.ext rp1.tb) b, fun δ5 σ5 C5 H5 a b => ⟨δ5, C5, a, b⟩⟩
 ·have e : i = its.length := by omega
  subst e
  exact .inl ⟨W.2 (Nat.le_refl _), k.nx δ' σ' C' H' (rp'.unbase rp1.ext rp1.tb) (Pe δ' p)⟩
def o5 (gt : GT) (gb : GS) : GS := fun De δ => ∃ P : Nat → DS → Prop, (∃ n, P n δ) ∧ ∀ n δ', P n δ' → gt δ' fun c => if c = true then gb { De with nx := fun δ2 => ∃ m, m < n ∧ P m δ2, ct := fun δ2 => ∃ m, m < n ∧ P m δ2, bk := De.nx } δ' else De.nx δ'
theorem uG {gb : GS} (hp : PassesOwn (model X.prog X.w) X.A X.env X.xe) (hc : DT X c gt) (hb : jA X sts gb) : DSt X (.While c sts [] pos) (o5 gt gb) := by
 obtain ⟨t0, p0, h0⟩ := hc
 obtain ⟨t1, p1, h1⟩ := hb
 refine ⟨_, aIv hp p0 p1, fun C0 H0 δ σ C H De E rp g k => ?_⟩
 obtain ⟨P, ⟨n0, P0⟩, Pt⟩ := g
 refine ⟨fun n σ' H' => ∃ δ' C', gX X.K C0 H0 δ' σ' C' H' ∧ P n δ', ⟨n0, δ, C, rp, P0⟩, ?_⟩
 rintro n σ' H' ⟨δ', C', rp', p⟩
 refine h0 C0 H0 δ' σ' C' H' _ _ rp' (Pt n δ' p) fun c C2 H2 q2 e2 => ?_
 have rp2 := rp'.grow e2
 cases c with
 | true =>
  refine ⟨fun σ3 H3 => ∃ m, m < n ∧ ∃ δ3 C3, gX X.K C0 H0 δ3 σ3 C3 H3 ∧ P m δ3, fun σ3 H3 z => z, ?_⟩
  have q2' : gb { De with nx := fun δ2 => ∃ m, m < n ∧ P m δ2, ct := fun δ2 => ∃ m, m < n ∧ P m δ2, bk := De.nx } δ' := by simpa using q2
  refine h1 C0 H0 δ' σ' C2 H2 _ _ rp2 q2' ⟨fun δ5 σ5 C5 H5 a ⟨m, b1, b2⟩ => ⟨m, b1, δ5, C5, a, b2⟩, k.rt, k.nx, fun δ5 σ5 C5 H5 a ⟨m, b1, b2⟩ => ⟨m, b1, δ5, C5, a, b2⟩⟩
 | false => exact k.nx δ' σ' C2 H2 rp2 (by simpa using q2)
end
def bD (N : List Str) (ds : List D) : DS := ds.map Sl.im ++ List.replicate (N.length - ds.length) .un
theorem oM {K : PySem.W.Frag} {C H : Hp} {N : List Str} {vs : List V} {ds : List D} (ch : cM C H) (tb : TB K C) (h : bZ K C vs ds) : gX K C H (bD N ds) (lL N vs) C H := by
 have no : ∀ (i : Nat) es, (bD N ds)[i]? ≠ some (.ow es) := fun i es e => by
  have := List.mem_of_getElem? e
  unfold bD at this
  rcases List.mem_append.mp this with z | z
  ·obtain ⟨d, _, q⟩ := List.mem_map.mp z
   cases q
  ·have := List.eq_of_mem_replicate z
   cases this
 refine ⟨tb, ?_, d7.refl ch, fun i d e => ?_, fun i es e => absurd e (no i es), fun i j es fs l _ e _ => absurd e (no i es), zK.none fun i x e => ?_⟩
 rotate_right
 ·have := List.mem_of_getElem? e
  unfold bD at this
  rcases List.mem_append.mp this with z | z
  ·obtain ⟨d, _, q⟩ := List.mem_map.mp z
   rw [← q]
   rfl
  ·rw [List.eq_of_mem_replicate z]
   rfl
 ·unfold lL bD
  simp [h.length]
 ·unfold bD at e
  unfold lL
  by_cases hi : i < ds.length
  ·rw [List.getElem?_append_left (by simpa using hi), List.getElem?_map] at e
   cases e2 : ds[i]? with
   | none => rw [e2] at e; cases e
   | some d' =>
    rw [e2] at e
    cases e
    obtain ⟨v, ev, nv⟩ := h.get e2
    refine ⟨v, ?_, nv⟩
    rw [List.getElem?_append_left (by rw [List.length_map, h.length]; exact hi), List.getElem?_map, ev]
    rfl
  ·rw [List.getElem?_append_right (by simpa using hi), List.getElem?_replicate] at e
   split at e <;> cases e
theorem oE {P : Program} {w : World} {K : PySem.W.Frag} {mg : Str → Option Value} {base : Heap} {x qual : Str} {st : Stmt} {f : Addr} {fd : FuncData} {N ps : List Str} {k : Nat} {F : List D → Option D} {g : GS} (Fn : Fun K x qual st f fd) (S : aW N ps (aD st))
  (hl : ∀ ds d, F ds = some d → ds.length = ps.length)
  (hb : ∀ (cdv : Value) (A : Around) (outer : List Env) (s : Shared) (H : Hp) (E : XK), cB k (A.deeper (envOfC qual (aD st) s.heap.objs.size f cdv)) → jA (dL jE P w K mg base N qual (aD st) f cdv A outer s H E).nox (aR st) g)
  (hv : ∀ ds d, F ds = some d → g { nx := fun _ => d = .non, rt := fun r => r = d } (bD N ds)) (hm : mg x = some (.ref f)) (bi : oH K fd ps []) : d5 P w K mg base (k + 1) x F := by
 refine ⟨f, fd, ps, Fn.ok S (fun vs H Q E h => ?_) (fun cdv A outer s H vs Q E hr h => ?_), hm, Fn.kp, bi⟩
 ·obtain ⟨C, ds, d, _, _, n, e, _⟩ := h
  rw [n.length]
  exact hl ds d e
 ·obtain ⟨C, ds, d, ch, tb, n, e, q⟩ := h
  obtain ⟨t, p, h⟩ := hb cdv A outer s H E hr
  refine ⟨t, p, h C H (bD N ds) (lL N vs) C H _ _ (oM ch tb n) (hv ds d e) ⟨fun δ σ C' H' rp z => ?_, fun r v C' H' ex nv z => ?_, fun _ _ _ _ _ z => z.elim, fun _ _ _ _ _ z => z.elim⟩⟩
  ·subst z
   exact q _ C' H' rp.ext (eD.mpr rfl)
  ·subst z
   exact q v C' H' ex nv
section
variable {X : Cx}
def aMQ (K : PySem.W.Frag) : R2 := fun x y H Q => ∃ l b xs zs, x = .ref l ∧ y = .ref b ∧ kK K H l xs ∧ kK K H b zs ∧ xs.length + zs.length ≤ sizeLine ∧ ∀ p, H p = none → Q (.ref p) (upd H p (.lst (xs ++ zs)))
theorem aJp : rW X (binaryOp .Add) (aMQ X.K) := by
 intro pins s σ H x y v u Q I rx ry h
 obtain ⟨l, b, xs, zs, rfl, rfl, hH, hB, hz, q⟩ := h
 cases rx
 cases ry
 obtain ⟨its, r, pl, z⟩ := I.list hH
 obtain ⟨its2, r2, pl2, z2⟩ := I.list hB
 have hl := r.length
 have hl2 := r2.length
 obtain ⟨⟨cls, dd, data, sl⟩, ho, hc, n, hd⟩ := pl.isList
 obtain ⟨⟨cls2, dd2, data2, sl2⟩, ho2, hc2, n2, hd2⟩ := pl2.isList
 simp only at hc hd hc2 hd2
 subst hc hd hc2 hd2
 refine concat_meets ⟨_, ho, rfl⟩ ⟨_, ho2, rfl⟩ noFill_list_add seq_list_add PySem.F.slot_list_add PySem.F.entry_list_add (PySem.F.args_list_add_2 _ _) (list_addW l b its.toArray its2.toArray n n2 dd dd2 sl sl2 (by rw [List.size_toArray, List.size_toArray]; omega)) ⟨ho, ho2, ?_⟩
 have ea : its.toArray ++ its2.toArray = (its ++ its2).toArray := by simp
 rw [ea]
 exact ⟨.ref _, _, I.lnew (t' := s.toks) (r.append r2) (by rw [List.length_append]; omega), rfl, q _ I.fresh⟩
variable {a b c e : Expr} {es : List Expr} {pos : Pos} {ga gb : GE}
def zM (ga gb : GE) : GF := fun δ Q => ga δ fun x => gb δ fun y => match x, y with
 | .lst xs, .lst ys => xs.length + ys.length ≤ sizeLine ∧ Q (xs ++ ys)
 | _, _ => False
theorem aHH (ha : DE X a ga) (hb : DE X b gb) : DF X (.BinOp a .Add b pos) (zM ga gb) := by
 obtain ⟨t1, p1, h1⟩ := ha
 obtain ⟨t2, p2, h2⟩ := hb
 refine ⟨_, aH5 aJp p1 p2, fun C0 H0 δ σ C H Q R rp g k => ?_⟩
 refine h1 C0 H0 δ σ C H _ _ rp g fun d v C1 H1 q e1 n1 => h2 C0 H0 δ σ C1 H1 _ _ (rp.grow e1) q fun d2 v2 C2 H2 q2 e2 n2 => ?_
 have n1' := n1.mono e2.cc
 have e12 := e1.trans e2
 cases d with
 | lst ds =>
  cases d2 with
  | lst es =>
   obtain ⟨p, xs, rfl, hx, hd⟩ := cF.mp n1'
   obtain ⟨p', ys, rfl, hy, he⟩ := cF.mp n2
   have q2' : ds.length + es.length ≤ sizeLine ∧ Q (ds ++ es) := q2
   exact ⟨p, p', xs, ys, rfl, rfl, e2.ch.seq hx, e2.ch.seq hy, by rw [hd.length, he.length]; exact q2'.1, fun l hl => k _ l _ C2 _ q2'.2 (e12.trans (d7.newO e2.ch hl)) (e2.ch.free hl) (e12.hh.free hl) bQ (hd.append he)⟩
  | _ => exact q2.elim
 | _ => exact q2.elim
end
mutual
def oA : D → D → Option Bool
 | .int i, .int j => some (i == j)
 | .bl i, .bl j => some (i == j)
 | .str i, .str j => some (i == j)
 | .non, .non => some true
 | .tup xs, .tup ys => (nZ xs ys).map fun b => b && xs.length == ys.length
 | .lst xs, .lst ys => if xs.length = ys.length then nZ xs ys else some false
 | _, _ => none
def nZ : List D → List D → Option Bool
 | x :: xs, y :: ys => match oA x y, nZ xs ys with
  | some a, some b => some (a && b)
  | _, _ => none
 | _, _ => some true
end
mutual
def rY : D → Nat
 | .tup ds => rS ds + 1
 | .lst ds => rS ds + 1
 | _ => 0
def rS : List D → Nat
 | [] => 0
 | d :: ds => max (rY d) (rS ds)
end
mutual
theorem zD : ∀ d : D, oA d d = some true
 | .int i => by simp [oA]
 | .bl i => by simp [oA]
 | .str i => by simp [oA]
 | .non => by simp [oA]
 | .tup ds => by simp [oA, vV ds]
 | .lst ds => by simp [oA, vV ds]
theorem vV : ∀ ds : List D, nZ ds ds = some true
 | [] => by simp [nZ]
 | d :: ds => by simp [nZ, zD d, vV ds]
end
theorem uZ : ∀ {xs ys : List D} {r : Bool}, nZ xs ys = some r → ∃ f : Nat → Bool, (∀ (j : Nat) x y, xs[j]? = some x → ys[j]? = some y → oA x y = some (f j)) ∧ r = (List.range (min xs.length ys.length)).all f
 | [], ys, r, h => by
  refine ⟨fun _ => true, fun j x y e => by simp at e, ?_⟩
  have : r = true := by simpa [nZ] using h.symm
  simp [this]
 | x :: xs, [], r, h => by
  refine ⟨fun _ => true, fun j x y _ e => by simp at e, ?_⟩
  have : r = true := by simpa [nZ] using h.symm
  simp [this]
 | x :: xs, y :: ys, r, h => by
  rw [nZ] at h
  cases e1 : oA x y with
  | none => rw [e1] at h; cases h
  | some a =>
   cases e2 : nZ xs ys with
   | none => rw [e1, e2] at h; cases h
   | some b =>
    rw [e1, e2] at h
    obtain ⟨f, hf, hb⟩ := uZ e2
    refine ⟨fun j => match j with
     | 0 => a
     | j + 1 => f j, fun j x' y' h1 h2 => ?_, ?_⟩
    ·cases j with
     | zero => cases h1; cases h2; exact e1
     | succ j => exact hf j x' y' h1 h2
    ·have : r = (a && b) := (Option.some.inj h).symm
     rw [this, hb, List.length_cons, List.length_cons, Nat.succ_min_succ, List.range_succ_eq_map, List.all_cons, List.all_map]
     rfl
theorem rB : ∀ {xs : List D} {j : Nat} {x : D}, xs[j]? = some x → rY x ≤ rS xs
 | [], j, x, h => by simp at h
 | y :: ys, 0, x, h => by
  cases h
  rw [rS]
  exact Nat.le_max_left _ _
 | y :: ys, j + 1, x, h => by
  rw [rS]
  exact Nat.le_trans (rB (xs := ys) (j := j) h) (Nat.le_max_right _ _)
section
variable {X : Cx} {pins : List (Addr × Obj)} {σ : St} {H C : Hp} {s : Shared}
mutual
theorem xV (I : bE X pins σ H s) (ch : cM C H) : ∀ {v : V} (d e : D), jX X.K C v d → jX X.K C v e → d = e
 | v, .int i, e, h, h' => by
  have z := bB.mp h
  subst z
  cases e with
  | int j => have z := bB.mp h'; cases z; rfl
  | bl j => have z := cP.mp h'; cases z
  | non => have z := eD.mp h'; cases z
  | str j => have z := g9.mp h'; cases z
  | tup j => obtain ⟨_, _, z, _⟩ := bS.mp h'; cases z
  | lst j => obtain ⟨_, _, z, _⟩ := cF.mp h'; cases z
 | v, .bl i, e, h, h' => by
  have z := cP.mp h
  subst z
  cases e with
  | int j => have z := bB.mp h'; cases z
  | bl j => have z := cP.mp h'; cases z; rfl
  | non => have z := eD.mp h'; cases z
  | str j => have z := g9.mp h'; cases z
  | tup j => obtain ⟨_, _, z, _⟩ := bS.mp h'; cases z
  | lst j => obtain ⟨_, _, z, _⟩ := cF.mp h'; cases z
 | v, .non, e, h, h' => by
  have z := eD.mp h
  subst z
  cases e with
  | int j => have z := bB.mp h'; cases z
  | bl j => have z := cP.mp h'; cases z
  | non => rfl
  | str j => have z := g9.mp h'; cases z
  | tup j => obtain ⟨_, _, z, _⟩ := bS.mp h'; cases z
  | lst j => obtain ⟨_, _, z, _⟩ := cF.mp h'; cases z
 | v, .str i, e, h, h' => by
  have z := g9.mp h
  subst z
  cases e with
  | int j => have z := bB.mp h'; cases z
  | bl j => have z := cP.mp h'; cases z
  | non => have z := eD.mp h'; cases z
  | str j => have z := g9.mp h'; cases z; rfl
  | tup j => obtain ⟨_, _, z, _⟩ := bS.mp h'; cases z
  | lst j => obtain ⟨_, _, z, _⟩ := cF.mp h'; cases z
 | v, .tup ds, e, h, h' => by
  obtain ⟨a, xs, rfl, hx, hd⟩ := bS.mp h
  cases e with
  | int j => have z := bB.mp h'; cases z
  | bl j => have z := cP.mp h'; cases z
  | non => have z := eD.mp h'; cases z
  | str j => have z := g9.mp h'; cases z
  | tup es =>
   obtain ⟨a', ys, z, hy, he⟩ := bS.mp h'
   cases z
   have q := I.tuple_inj (ch.seqT hx) (ch.seqT hy)
   subst q
   rw [yY I ch ds es hd he]
  | lst es =>
   obtain ⟨a', ys, z, hy, he⟩ := cF.mp h'
   cases z
   obtain ⟨its, _, ⟨o, h1, h2, _⟩, _⟩ := I.tuple (ch.seqT hx)
   obtain ⟨its2, _, pl, _⟩ := I.list (ch.seq hy)
   obtain ⟨o2, h3, h4, _⟩ := pl.isList
   rw [h1] at h3
   cases h3
   rw [h2] at h4
   exact absurd h4 (by decide)
 | v, .lst ds, e, h, h' => by
  obtain ⟨a, xs, rfl, hx, hd⟩ := cF.mp h
  cases e with
  | int j => have z := bB.mp h'; cases z
  | bl j => have z := cP.mp h'; cases z
  | non => have z := eD.mp h'; cases z
  | str j => have z := g9.mp h'; cases z
  | lst es =>
   obtain ⟨a', ys, z, hy, he⟩ := cF.mp h'
   cases z
   have q := I.list_inj (ch.seq hx) (ch.seq hy)
   subst q
   rw [yY I ch ds es hd he]
  | tup es =>
   obtain ⟨a', ys, z, hy, he⟩ := bS.mp h'
   cases z
   obtain ⟨its, _, ⟨o, h1, h2, _⟩, _⟩ := I.tuple (ch.seqT hy)
   obtain ⟨its2, _, pl, _⟩ := I.list (ch.seq hx)
   obtain ⟨o2, h3, h4, _⟩ := pl.isList
   rw [h1] at h3
   cases h3
   rw [h2] at h4
   exact absurd h4 (by decide)
theorem yY (I : bE X pins σ H s) (ch : cM C H) : ∀ {vs : List V} (ds es : List D), bZ X.K C vs ds → bZ X.K C vs es → ds = es
 | vs, [], es, h, h' => by
  have z := iL.mp h
  subst z
  cases es with
  | nil => rfl
  | cons e es => obtain ⟨_, _, z, _⟩ := eO.mp h'; cases z
 | vs, d :: ds, es, h, h' => by
  obtain ⟨x, xs, rfl, n, t⟩ := eO.mp h
  cases es with
  | nil => have z := iL.mp h'; cases z
  | cons e es =>
   obtain ⟨_, _, z, n', t'⟩ := eO.mp h'
   cases z
   rw [xV I ch d e n n', yY I ch ds es t t']
end
theorem nQ {xs : List V} {its : List Value} (r : dE xs its) {j : Nat} (h : j < its.toArray.size) : ∃ x, xs[j]? = some x ∧ dS x its.toArray[j] := by
 have h' : j < its.length := by simpa using h
 have hx : j < xs.length := by rw [r.length]; exact h'
 have e : xs[j]? = some xs[j] := by simp [hx]
 obtain ⟨u, e1, e2⟩ := r.get e
 refine ⟨xs[j], e, ?_⟩
 have : u = its.toArray[j] := by
  have e3 : its[j]? = some its[j] := by simp [h']
  rw [e3] at e1
  cases e1
  simp
 rw [← this]
 exact e2
theorem aDY (I : bE X pins σ H s) (ch : cM C H) : ∀ (n : Nat) (d e : D) (r : Bool) (A : Around) (x y : V) (u v : Value), rY d ≤ n → A.units + n < cLine → oA d e = some r → dS x u → dS y v → jX X.K C x d → jX X.K C y e → SeqAt.EqAt A s u v r := by
 intro n
 induction n with
 | zero =>
  intro d e r A x y u v hn hu he rx ry nx ny
  cases d with
  | int i =>
   cases e with
   | int j =>
    rw [oA] at he
    cases he
    have z := bB.mp nx
    have z2 := bB.mp ny
    subst z z2
    obtain ⟨t, rfl⟩ := rx
    obtain ⟨t', rfl⟩ := ry
    exact SeqAt.EqAt.int_int i t j t'
   | _ => cases he
  | bl i =>
   cases e with
   | bl j =>
    rw [oA] at he
    cases he
    have z := cP.mp nx
    have z2 := cP.mp ny
    subst z z2
    cases rx
    cases ry
    exact SeqAt.EqAt.bool_bool i j
   | _ => cases he
  | str i =>
   cases e with
   | str j =>
    rw [oA] at he
    cases he
    have z := g9.mp nx
    have z2 := g9.mp ny
    subst z z2
    obtain ⟨t, rfl⟩ := rx
    obtain ⟨t', rfl⟩ := ry
    exact SeqAt.EqAt.str_str i t j t'
   | _ => cases he
  | non =>
   cases e with
   | non =>
    rw [oA] at he
    cases he
    have z := eD.mp nx
    have z2 := eD.mp ny
    subst z z2
    cases rx
    cases ry
    exact SeqAt.EqAt.same _
   | _ => cases he
  | tup ds => rw [rY] at hn; omega
  | lst ds => rw [rY] at hn; omega
 | succ n ih =>
  intro d e r A x y u v hn hu he rx ry nx ny
  cases d with
  | tup ds =>
   cases e with
   | tup es =>
    obtain ⟨a, xs, rfl, hx, hd⟩ := bS.mp nx
    obtain ⟨b, ys, rfl, hy, hee⟩ := bS.mp ny
    cases rx
    cases ry
    by_cases hab : a = b
    ·subst hab
     have q := xV I ch _ _ nx ny
     rw [← q, zD] at he
     cases he
     exact SeqAt.EqAt.same _
    ·refine SeqAt.EqAt.of_refs hab ?_
     rw [oA] at he
     cases e1 : nZ ds es with
     | none => rw [e1] at he; cases he
     | some r0 =>
      rw [e1] at he
      obtain ⟨f, hf, hr⟩ := uZ e1
      obtain ⟨its, r1, t1, _⟩ := I.tuple (ch.seqT hx)
      obtain ⟨its2, r2, t2, _⟩ := I.tuple (ch.seqT hy)
      have l1 : its.toArray.size = ds.length := by rw [List.size_toArray, ← r1.length, hd.length]
      have l2 : its2.toArray.size = es.length := by rw [List.size_toArray, ← r2.length, hee.length]
      have q := SeqAt.RcAt.tuples (A := A) (e := f) t1 t2 (by omega) fun j h1 h2 => by
       obtain ⟨x', ex, rx'⟩ := nQ r1 h1
       obtain ⟨y', ey, ry'⟩ := nQ r2 h2
       have hj1 : j < ds.length := by omega
       have hj2 : j < es.length := by omega
       have ed : ds[j]? = some ds[j] := by simp [hj1]
       have ee : es[j]? = some es[j] := by simp [hj2]
       obtain ⟨x2, ex2, nx2⟩ := hd.get ed
       obtain ⟨y2, ey2, ny2⟩ := hee.get ee
       rw [ex] at ex2
       cases ex2
       rw [ey] at ey2
       cases ey2
       refine ih ds[j] es[j] (f j) A.in1 x' y' _ _ ?_ (by show A.units + 1 + n < cLine; omega) (hf j _ _ ed ee) rx' ry' nx2 ny2
       have := rB ed
       rw [rY] at hn
       omega
      rw [l1, l2] at q
      have er : r = ((List.range (min ds.length es.length)).all f && ds.length == es.length) := by
       rw [← hr]
       exact (Option.some.inj he).symm
      rw [er]
      exact q
   | _ => cases he
  | lst ds =>
   cases e with
   | lst es =>
    obtain ⟨a, xs, rfl, hx, hd⟩ := cF.mp nx
    obtain ⟨b, ys, rfl, hy, hee⟩ := cF.mp ny
    cases rx
    cases ry
    by_cases hab : a = b
    ·subst hab
     have q := xV I ch _ _ nx ny
     rw [← q, zD] at he
     cases he
     exact SeqAt.EqAt.same _
    ·refine SeqAt.EqAt.of_refs hab ?_
     rw [oA] at he
     obtain ⟨its, r1, p1, _⟩ := I.list (ch.seq hx)
     obtain ⟨its2, r2, p2, _⟩ := I.list (ch.seq hy)
     have l1 : its.toArray.size = ds.length := by rw [List.size_toArray, ← r1.length, hd.length]
     have l2 : its2.toArray.size = es.length := by rw [List.size_toArray, ← r2.length, hee.length]
     by_cases hlen : ds.length = es.length
     ·rw [if_pos hlen] at he
      obtain ⟨f, hf, hr⟩ := uZ he
      have q := SeqAt.RcAt.lists (A := A) (e := f) p1.isList p2.isList (by rw [l1, l2]; exact hlen) (by omega) fun j h1 h2 => by
       obtain ⟨x', ex, rx'⟩ := nQ r1 h1
       obtain ⟨y', ey, ry'⟩ := nQ r2 h2
       have hj1 : j < ds.length := by omega
       have hj2 : j < es.length := by omega
       have ed : ds[j]? = some ds[j] := by simp [hj1]
       have ee : es[j]? = some es[j] := by simp [hj2]
       obtain ⟨x2, ex2, nx2⟩ := hd.get ed
       obtain ⟨y2, ey2, ny2⟩ := hee.get ee
       rw [ex] at ex2
       cases ex2
       rw [ey] at ey2
       cases ey2
       refine ih ds[j] es[j] (f j) A.in1 x' y' _ _ ?_ (by show A.units + 1 + n < cLine; omega) (hf j _ _ ed ee) rx' ry' nx2 ny2
       have := rB ed
       rw [rY] at hn
       omega
      rw [l1] at q
      rw [hr, ← hlen, Nat.min_self]
      exact q
     ·rw [if_neg hlen] at he
      cases he
      exact SeqAt.RcAt.lists_lengths p1.isList p2.isList (by rw [l1, l2]; simpa using hlen) (by omega)
   | _ => cases he
  | int i => exact ih (.int i) e r A x y u v (by simp [rY]) (by omega) he rx ry nx ny
  | bl i => exact ih (.bl i) e r A x y u v (by simp [rY]) (by omega) he rx ry nx ny
  | non => exact ih .non e r A x y u v (by simp [rY]) (by omega) he rx ry nx ny
  | str i => exact ih (.str i) e r A x y u v (by simp [rY]) (by omega) he rx ry nx ny
theorem aIr (I : bE X pins σ H s) (ch : cM C H) (n : Nat) (d e : D) (r : Bool) (A : Around) (x y : V) (u v : Value) (hn : rY d ≤ n) (hu : A.units + n < cLine) (he : oA d e = some r) (rx : dS x u) (ry : dS y v) (nx : jX X.K C x d) (ny : jX X.K C y e) :
  SeqAt.RcAt A s u v r ∧ SeqAt.RcNeAt A s u v (!r) := by
 cases d with
 | int i =>
  cases e with
  | int j =>
   rw [oA] at he
   cases he
   have z := bB.mp nx
   have z2 := bB.mp ny
   subst z z2
   obtain ⟨t, rfl⟩ := rx
   obtain ⟨t', rfl⟩ := ry
   exact ⟨SeqAt.RcAt.int_int i t j t', SeqAt.RcNeAt.int_int i t j t'⟩
  | _ => cases he
 | bl i =>
  cases e with
  | bl j =>
   rw [oA] at he
   cases he
   have z := cP.mp nx
   have z2 := cP.mp ny
   subst z z2
   cases rx
   cases ry
   exact ⟨SeqAt.RcAt.bool_bool i j, SeqAt.RcNeAt.bool_bool i j⟩
  | _ => cases he
 | str i =>
  cases e with
  | str j =>
   rw [oA] at he
   cases he
   have z := g9.mp nx
   have z2 := g9.mp ny
   subst z z2
   obtain ⟨t, rfl⟩ := rx
   obtain ⟨t', rfl⟩ := ry
   exact ⟨SeqAt.RcAt.str_str i t j t', SeqAt.RcNeAt.str_str i t j t'⟩
  | _ => cases he
 | non =>
  cases e with
  | non =>
   rw [oA] at he
   cases he
   have z := eD.mp nx
   have z2 := eD.mp ny
   subst z z2
   cases rx
   cases ry
   exact ⟨SeqAt.RcAt.none_none, SeqAt.RcNeAt.none_none⟩
  | _ => cases he
 | tup ds =>
  cases e with
  | tup es =>
   obtain ⟨a, xs, rfl, hx, hd⟩ := bS.mp nx
   obtain ⟨b, ys, rfl, hy, hee⟩ := bS.mp ny
   cases rx
   cases ry
   rw [oA] at he
   cases e1 : nZ ds es with
   | none => rw [e1] at he; cases he
   | some r0 =>
    rw [e1] at he
    obtain ⟨f, hf, hr⟩ := uZ e1
    obtain ⟨its, r1, t1, _⟩ := I.tuple (ch.seqT hx)
    obtain ⟨its2, r2, t2, _⟩ := I.tuple (ch.seqT hy)
    have l1 : its.toArray.size = ds.length := by rw [List.size_toArray, ← r1.length, hd.length]
    have l2 : its2.toArray.size = es.length := by rw [List.size_toArray, ← r2.length, hee.length]
    rw [rY] at hn
    have hin : ∀ j (h1 : j < its.toArray.size) (h2 : j < its2.toArray.size), SeqAt.EqAt A.in1 s its.toArray[j] its2.toArray[j] (f j) := fun j h1 h2 => by
     obtain ⟨x', ex, rx'⟩ := nQ r1 h1
     obtain ⟨y', ey, ry'⟩ := nQ r2 h2
     have hj1 : j < ds.length := by omega
     have hj2 : j < es.length := by omega
     have ed : ds[j]? = some ds[j] := by simp [hj1]
     have ee : es[j]? = some es[j] := by simp [hj2]
     obtain ⟨x2, ex2, nx2⟩ := hd.get ed
     obtain ⟨y2, ey2, ny2⟩ := hee.get ee
     rw [ex] at ex2
     cases ex2
     rw [ey] at ey2
     cases ey2
     have := rB ed
     exact aDY I ch (n - 1) ds[j] es[j] (f j) A.in1 x' y' _ _ (by omega) (by show A.units + 1 + (n - 1) < cLine; omega) (hf j _ _ ed ee) rx' ry' nx2 ny2
    have q := SeqAt.RcAt.tuples (A := A) (e := f) t1 t2 (by omega) hin
    have q' := SeqAt.RcNeAt.tuples (A := A) (e := f) t1 t2 (by omega) hin
    rw [l1, l2] at q q'
    have er : r = ((List.range (min ds.length es.length)).all f && ds.length == es.length) := by
     rw [← hr]
     exact (Option.some.inj he).symm
    rw [er]
    exact ⟨q, q'⟩
  | _ => cases he
 | lst ds =>
  cases e with
  | lst es =>
   obtain ⟨a, xs, rfl, hx, hd⟩ := cF.mp nx
   obtain ⟨b, ys, rfl, hy, hee⟩ := cF.mp ny
   cases rx
   cases ry
   rw [oA] at he
   obtain ⟨its, r1, p1, _⟩ := I.list (ch.seq hx)
   obtain ⟨its2, r2, p2, _⟩ := I.list (ch.seq hy)
   have l1 : its.toArray.size = ds.length := by rw [List.size_toArray, ← r1.length, hd.length]
   have l2 : its2.toArray.size = es.length := by rw [List.size_toArray, ← r2.length, hee.length]
   rw [rY] at hn
   by_cases hlen : ds.length = es.length
   ·rw [if_pos hlen] at he
    obtain ⟨f, hf, hr⟩ := uZ he
    have hin : ∀ j (h1 : j < its.toArray.size) (h2 : j < its2.toArray.size), SeqAt.EqAt A.in1 s its.toArray[j] its2.toArray[j] (f j) := fun j h1 h2 => by
     obtain ⟨x', ex, rx'⟩ := nQ r1 h1
     obtain ⟨y', ey, ry'⟩ := nQ r2 h2
     have hj1 : j < ds.length := by omega
     have hj2 : j < es.length := by omega
     have ed : ds[j]? = some ds[j] := by simp [hj1]
     have ee : es[j]? = some es[j] := by simp [hj2]
     obtain ⟨x2, ex2, nx2⟩ := hd.get ed
     obtain ⟨y2, ey2, ny2⟩ := hee.get ee
     rw [ex] at ex2
     cases ex2
     rw [ey] at ey2
     cases ey2
     have := rB ed
     exact aDY I ch (n - 1) ds[j] es[j] (f j) A.in1 x' y' _ _ (by omega) (by show A.units + 1 + (n - 1) < cLine; omega) (hf j _ _ ed ee) rx' ry' nx2 ny2
    have q := SeqAt.RcAt.lists (A := A) (e := f) p1.isList p2.isList (by rw [l1, l2]; exact hlen) (by omega) hin
    have q' := SeqAt.RcNeAt.lists (A := A) (e := f) p1.isList p2.isList (by rw [l1, l2]; exact hlen) (by omega) hin
    rw [l1] at q q'
    rw [hr, ← hlen, Nat.min_self]
    exact ⟨q, q'⟩
   ·rw [if_neg hlen] at he
    cases he
    exact ⟨SeqAt.RcAt.lists_lengths p1.isList p2.isList (by rw [l1, l2]; simpa using hlen) (by omega), SeqAt.RcNeAt.lists_lengths p1.isList p2.isList (by rw [l1, l2]; simpa using hlen) (by omega)⟩
  | _ => cases he
end
section
variable {X : Cx}
def oEq : GO := fun x y Q => rY x ≤ 32 ∧ match oA x y with
 | some b => Q (.bl b)
 | none => False
def oNe : GO := fun x y Q => rY x ≤ 32 ∧ match oA x y with
 | some b => Q (.bl (!b))
 | none => False
def aMd (K : PySem.W.Frag) (neg : Bool) : R2 := fun x y H R => ∃ C d e b, cM C H ∧ jX K C x d ∧ jX K C y e ∧ oA d e = some b ∧ rY d ≤ 32 ∧ R (.bl (if neg then !b else b)) H
theorem rX (hu : X.A.units + 64 < cLine) : DOp X (compareOp .Eq) oEq := by
 refine ⟨aMd X.K false, fun pins s σ H x y v u Q I rx ry h => ?_, fun x y dx dy C H Q R ch n1 n2 q k => ?_⟩
 ·obtain ⟨C, d, e, b, ch, nx, ny, he, hd, q⟩ := h
  exact (aIr I ch 32 d e b X.A x y v u hd (by omega) he rx ry nx ny).1 _ _ _ _ ⟨.bl b, H, I, rfl, q⟩
 ·obtain ⟨hd, q⟩ := q
  cases z : oA dx dy with
  | none => rw [z] at q; exact q.elim
  | some b => rw [z] at q; exact ⟨C, dx, dy, b, ch, n1, n2, z, hd, k _ _ C H q (d7.refl ch) (cP.mpr rfl)⟩
theorem aA1 (hu : X.A.units + 64 < cLine) : DOp X (compareOp .NotEq) oNe := by
 refine ⟨aMd X.K true, fun pins s σ H x y v u Q I rx ry h => ?_, fun x y dx dy C H Q R ch n1 n2 q k => ?_⟩
 ·obtain ⟨C, d, e, b, ch, nx, ny, he, hd, q⟩ := h
  exact (aIr I ch 32 d e b X.A x y v u hd (by omega) he rx ry nx ny).2 _ _ _ _ ⟨.bl (!b), H, I, rfl, q⟩
 ·obtain ⟨hd, q⟩ := q
  cases z : oA dx dy with
  | none => rw [z] at q; exact q.elim
  | some b => rw [z] at q; exact ⟨C, dx, dy, b, ch, n1, n2, z, hd, k _ _ C H q (d7.refl ch) (cP.mpr rfl)⟩
theorem aA7 : ∀ {us : List Value} {ns : List Int}, IntsAre us ns → dE (ns.map V.int) us
 | _, _, .nil => .nil
 | _, _, .cons _ t h => .cons ⟨_, rfl⟩ (aA7 h)
theorem aDC : mT X (.builtin "sorted") (fun xs H Q => ∃ (p : Addr) (ns : List Int), xs = [.ref p] ∧ kK X.K H p (ns.map V.int) ∧ ns.length < 64 ∧ ∀ ms : List Int, ms.Perm ns → ms.Pairwise (· ≤ ·) → ∀ l, H l = none → Q (.ref l) (upd H l (.lst (ms.map V.int)))) := by
 intro pins s σ H xs us Q I r h
 obtain ⟨p, ns, rfl, hq, h64, q⟩ := h
 obtain ⟨u, rfl, rx⟩ := r8 r
 cases rx
 obtain ⟨its, r', pl, hz⟩ := I.list hq
 have hlen := r'.length
 rw [List.length_map] at hlen
 refine sorted_ints pl.isList (aEq r') (by omega) fun out ms a1 a2 a3 => ?_
 obtain ⟨e, he⟩ := sortedAll_at s.heap its out
 have fr : H (s.heap.objs.size + 1) = none := I.hok.fresh (Nat.le_succ _)
 have hl2 : (ms.map V.int).length ≤ sizeLine := by
  rw [List.length_map, a2.length_eq]
  have : (64 : Nat) ≤ sizeLine := by decide
  omega
 refine ⟨.ref (s.heap.objs.size + 1), _, I.laid (t' := s.toks) (o := .lst (ms.map V.int)) (fun b ob z => sortedAll_old z) (Nat.le_succ _) ⟨hl2, out.toList, e, aA7 a1, ?_⟩, rfl, q ms a2 a3 _ fr⟩
 rw [he]
def g6 : List D → Option (List Int)
 | [] => some []
 | .int b :: r => (g6 r).map (b :: ·)
 | _ :: _ => none
theorem jF : ∀ {ds : List D} {bs : List Int}, g6 ds = some bs → ds = bs.map D.int
 | [], bs, h => by cases h; rfl
 | .int b :: r, bs, h => by
  unfold g6 at h
  cases e : g6 r with
  | none => rw [e] at h; cases h
  | some cs => rw [e] at h; cases h; rw [List.map_cons, ← jF e]
 | .bl _ :: _, _, h => by cases h
 | .non :: _, _, h => by cases h
 | .str _ :: _, _, h => by cases h
 | .tup _ :: _, _, h => by cases h
 | .lst _ :: _, _, h => by cases h
theorem eW (bs : List Int) : g6 (bs.map D.int) = some bs := by
 induction bs with
 | nil => rfl
 | cons b bs ih => rw [List.map_cons, g6, ih]; rfl
theorem aA9 {K : PySem.W.Frag} {C : Hp} (ns : List Int) : bZ K C (ns.map V.int) (ns.map D.int) := by
 induction ns with
 | nil => exact .nil
 | cons n ns ih => exact .cons (bB.mpr rfl) ih
def xS : List D → (List D → Prop) → Prop := fun ds Q => match ds with
 | [.lst xs] => match g6 xs with
  | some ns => ns.length < 64 ∧ ∀ ms : List Int, ms.Perm ns → ms.Pairwise (· ≤ ·) → Q (ms.map D.int)
  | none => False
 | _ => False
theorem aFW : aIl X (.builtin "sorted") xS := by
 refine ⟨_, aDC, fun xs ds C H Q R ch n q k => ?_⟩
 unfold xS at q
 split at q
 ·split at q
  ·rename_i ns e
   obtain ⟨v, rfl, n1⟩ := j4 n
   obtain ⟨p, ys, rfl, hy, hd⟩ := cF.mp n1
   rw [jF e] at hd
   rw [hd.ints] at hy
   exact ⟨p, ns, rfl, ch.seq hy, q.1, fun ms a b l hl => k _ l _ C _ (q.2 ms a b) (d7.newO ch hl) (ch.free hl) hl bQ (aA9 ms)⟩
  ·exact q.elim
 ·exact q.elim
end
def At (h : Heap) (it src : Addr) (k : Nat) (xs : Array Value) : Prop := (h.IsListIter it src k ∧ h.IsList src xs) ∨ (h.IsTupleIter it src k ∧ h.IsTuple src xs)
theorem At.kept {h h' : Heap} {it src : Addr} {k : Nat} {xs : Array Value} (a : At h it src k xs) (h1 : ∀ o, h.get? it = some o → h'.get? it = some o) (h2 : ∀ o, h.get? src = some o → h'.get? src = some o) : At h' it src k xs := by
 rcases a with ⟨⟨o, a, b⟩, ⟨o', c, d⟩⟩ | ⟨⟨o, a, b⟩, ⟨o', c, d⟩⟩
 ·exact .inl ⟨⟨o, h1 o a, b⟩, ⟨o', h2 o' c, d⟩⟩
 ·exact .inr ⟨⟨o, h1 o a, b⟩, ⟨o', h2 o' c, d⟩⟩
theorem At.but {h h' : Heap} {it src b : Addr} {k : Nat} {xs : Array Value} (a : At h it src k xs) (hs : Heap.ExtBut b h h') (n1 : it ≠ b) (n2 : src ≠ b) : At h' it src k xs :=
 a.kept (fun o e => hs it o n1 e) fun o e => hs src o n2 e
section
variable {prog : Program} {w : World} {A : Around} {E : Value → Shared → Prop} {s : Shared}
theorem xW {it src : Addr} {k : Nat} {xs : Array Value} {x : Value} {Q : Value → Shared → Prop} (a : At s.heap it src k xs) (ns : src ≠ it) (hx : xs[k]? = some x) (hQ : ∀ h', At h' it src (k + 1) xs → Heap.SameBut it s.heap h' → Q x { s with heap := h' }) :
  wpAny (model prog w) A (Builtin.SmallTypes.nextOf (.ref it)) Q E s := by
 rcases a with ⟨a, l⟩ | ⟨a, l⟩
 ·exact wpAny_nextOf_list_item a l hx fun h' a' sb => hQ h' (.inl ⟨a', l.extBut sb.extBut ns⟩) sb
 ·obtain ⟨o, ho, hc, hd⟩ := id a
  obtain ⟨ol, hol, _, nl, hdl⟩ := id l
  unfold Builtin.SmallTypes.nextOf
  have sl := F.slot_tuple_iterator_next
  refine wpAny_bind (wpAny_callSpecial?_slot (name := Str.ofString "__next__") a.typeIs sl (wpAny_call_entry sl a.typeIs F.entry_tuple_iterator_next ?_ (F.args_tuple_iterator_next_1 _)))
  refine wpAny_bind (m := field (.ref it) 0) (wpAny_field ho hd (x := .ref src) rfl ?_)
  refine wpAny_ite_false (show (Value.ref src == Value.none) = false from rfl) ?_
  refine wpAny_bind (m := field (.ref it) 1) (wpAny_field ho hd (x := .int k 0) rfl ?_)
  refine wpAny_bind (m := seqItems? (.ref src)) (wpAny_seqItems hol hdl ?_)
  simp only [Int.toNat_natCast, hx]
  refine wpAny_bind (wpAny_setField ho hd (by simp) (wpAny_pure ⟨x, rfl, wpAny_pure (hQ _ ?_ (Heap.SameBut.update ..))⟩))
  refine .inr ⟨⟨_, Heap.get?_update_self _ ho (Obj.isFreed_of_fields (Obj.data_mapFields hd _)), (Obj.cls_mapFields ..).trans hc, ?_⟩, l.extBut (Heap.SameBut.update ..).extBut ns⟩
  rw [Obj.data_mapFields hd]
  simp [rawInt]
theorem yQ {it src : Addr} {k : Nat} {xs : Array Value} {Q : Value → Shared → Prop} (hh : A.handled = none) (a : At s.heap it src k xs) (hx : xs[k]? = none)
  (hE : ∀ h' e, Heap.ExtBut it s.heap h' → (∃ o, h'.get? e = some o ∧ o.cls = .type "StopIteration") → E (.ref e) { s with heap := h' }) : wpAny (model prog w) A (Builtin.SmallTypes.nextOf (.ref it)) Q E s := by
 rcases a with ⟨a, l⟩ | ⟨a, l⟩
 ·exact wpAny_nextOf_list_end hh a l hx hE
 ·obtain ⟨o, ho, hc, hd⟩ := id a
  obtain ⟨ol, hol, _, nl, hdl⟩ := id l
  unfold Builtin.SmallTypes.nextOf
  have sl := F.slot_tuple_iterator_next
  refine wpAny_bind (wpAny_callSpecial?_slot (name := Str.ofString "__next__") a.typeIs sl (wpAny_call_entry sl a.typeIs F.entry_tuple_iterator_next ?_ (F.args_tuple_iterator_next_1 _)))
  refine wpAny_bind (m := field (.ref it) 0) (wpAny_field ho hd (x := .ref src) rfl ?_)
  refine wpAny_ite_false (show (Value.ref src == Value.none) = false from rfl) ?_
  refine wpAny_bind (m := field (.ref it) 1) (wpAny_field ho hd (x := .int k 0) rfl ?_)
  refine wpAny_bind (m := seqItems? (.ref src)) (wpAny_seqItems hol hdl ?_)
  simp only [Int.toNat_natCast, hx]
  refine wpAny_bind (wpAny_rule (wpAny_bind (wpAny_setField ho hd (by simp) ?_)))
  refine wpAny_bind (m := newExc (.type "StopIteration") []) ?_
  simp only [newExc, newTuple]
  refine wpAny_bind (wpAny_newObj_type ?_ (by size_fits))
  refine wpAny_bind (m := firstArgMember _ _) (wpAny_of_eq (a := Value.none) (by first | rfl | (simp only [firstArgMember]; rfl)) ?_)
  refine wpAny_newObj_type ?_ (by size_fits)
  simp only [raiseNew]
  refine wpAny_bind (wpAny_handled ?_)
  have hh' : A.in1.handled = none := hh
  rw [hh']
  refine wpAny_bind (wpAny_pure (wpAny_throw ?_))
  exact hE _ _ (((Heap.SameBut.update ..).extBut.push _).push _) ⟨_, Heap.get?_push_size _ rfl, rfl⟩
theorem aF9 {z TI TO i1 i2 l1 l2 : Addr} {k1 k2 : Nat} {xs ys : Array Value} {x y a b : Value} {Q : Value → Shared → Prop} (D : ZipApart z TI TO i1 i2 l1 l2)
  (hz : IsZip s.heap z TI TO .none) (hTI : IsPair s.heap TI (.ref i1) (.ref i2)) (hTO : IsPair s.heap TO a b) (h1 : At s.heap i1 l1 k1 xs) (h2 : At s.heap i2 l2 k2 ys) (hx : xs[k1]? = some x) (hy : ys[k2]? = some y)
  (hQ : ∀ h', IsZip h' z TI TO (rawInt s.heap.objs.size) → IsPair h' TO x y → At h' i1 l1 (k1 + 1) xs → At h' i2 l2 (k2 + 1) ys → IsPair h' s.heap.objs.size x y → h'.objs.size = s.heap.objs.size + 1 →
   (∀ c o, c ≠ z → c ≠ TO → c ≠ i1 → c ≠ i2 → s.heap.get? c = some o → h'.get? c = some o) → Q (.ref s.heap.objs.size) { s with heap := h' }) :
  wpAny (model prog w) A (Builtin.«zip.__next__» ⟨[.ref z], []⟩) (fun fin s' => ∃ v, fin = .done (.ret v) ∧ Q v s') E s := by
 refine wpAny_bind (m := field (.ref z) 2) (wpAny_field hz rfl (x := .bool false) rfl ?_)
 refine wpAny_bind (m := field (.ref z) 3) (wpAny_field hz rfl (x := .ref TI) rfl ?_)
 refine wpAny_bind (wpAny_seqItems hTI rfl ?_)
 refine wpAny_bind (m := Builtin.SmallTypes.ownedTupleIsFree (.ref z)) ?_
 unfold Builtin.SmallTypes.ownedTupleIsFree
 refine wpAny_bind (wpAny_field hz rfl (x := .none) rfl (wpAny_pure ?_))
 simp only [if_true]
 refine wpAny_bind (wpAny_rule ?_)
 refine wpAny_bind (wpAny_field hz rfl (x := .ref TO) rfl ?_)
 refine wpAny_bind (wpAny_setField_rec hz (by simp) fun g1 hz1 sb1 => ?_)
 replace hz1 : IsZip g1 z TI TO .ellipsis := hz1
 refine wpAny_bind ?_
 simp only [List.zipIdx_cons, List.zipIdx_nil, List.forIn_cons, List.forIn_nil]
 refine wpAny_bind (wpAny_bind (wpAny_onRaise ?_))
 refine wpAny_bind (m := Builtin.SmallTypes.nextOf (.ref i1)) (xW (h1.but sb1.extBut D.i1z D.l1z) D.l1i1 hx fun g2 a2 sb2 => wpAny_pure ?_)
 have to2 : IsPair g2 TO a b := sb2.extBut _ _ D.TOi1 (sb1.extBut _ _ D.TOz hTO)
 refine wpAny_bind (wpAny_seqItems to2 rfl ?_)
 refine wpAny_bind (wpAny_updateSeq_pair to2 fun g3 to3 sb3 => ?_)
 replace to3 : IsPair g3 TO x b := to3
 refine wpAny_bind (wpAny_letGo (wpAny_pure ?_))
 refine wpAny_bind (wpAny_bind (wpAny_onRaise ?_))
 have a2' : At g3 i2 l2 k2 ys := ((h2.but sb1.extBut D.i2z D.l2z).but sb2.extBut D.i12.symm D.l2i1).but sb3.extBut D.TOi2.symm D.l2TO
 refine wpAny_bind (m := Builtin.SmallTypes.nextOf (.ref i2)) (xW a2' D.l2i2 hy fun g4 a4 sb4 => wpAny_pure ?_)
 have to4 : IsPair g4 TO x b := sb4.extBut _ _ D.TOi2 to3
 refine wpAny_bind (wpAny_seqItems to4 rfl ?_)
 refine wpAny_bind (wpAny_updateSeq_pair to4 fun g5 to5 sb5 => ?_)
 replace to5 : IsPair g5 TO x y := to5
 refine wpAny_bind (wpAny_letGo (wpAny_pure (wpAny_pure ?_)))
 refine wpAny_bind (wpAny_seqItems to5 rfl ?_)
 refine wpAny_bind (wpAny_newTuple ?_)
 have esz : g5.objs.size = s.heap.objs.size := by rw [sb5.1, sb4.1, sb3.1, sb2.1, sb1.1]
 have z5 : IsZip g5 z TI TO .ellipsis := sb5.extBut _ _ D.TOz.symm (sb4.extBut _ _ D.i2z.symm (sb3.extBut _ _ D.TOz.symm (sb2.extBut _ _ D.i1z.symm hz1)))
 have k5 : ∀ c o, c ≠ z → c ≠ TO → c ≠ i1 → c ≠ i2 → s.heap.get? c = some o → g5.get? c = some o := fun c o c1 c2 c3 c4 e =>
  sb5.extBut _ _ c2 (sb4.extBut _ _ c4 (sb3.extBut _ _ c2 (sb2.extBut _ _ c3 (sb1.extBut _ _ c1 e))))
 have a15 : At g5 i1 l1 (k1 + 1) xs := ((a2.but sb3.extBut D.TOi1.symm D.l1TO).but sb4.extBut D.i12 D.l1i2).but sb5.extBut D.TOi1.symm D.l1TO
 have a25 : At g5 i2 l2 (k2 + 1) ys := a4.but sb5.extBut D.TOi2.symm D.l2TO
 have zlt : z < g5.objs.size := Heap.lt_size z5
 refine wpAny_bind (m := Builtin.SmallTypes.ownedTupleHandOut (.ref z) (.ref g5.objs.size)) ?_
 unfold Builtin.SmallTypes.ownedTupleHandOut
 have z6 : IsZip (g5.push { cls := .type "tuple", data := .seq #[x, y] }) z TI TO .ellipsis := Heap.get?_push_of_some _ z5
 refine wpAny_bind (wpAny_setField_rec z6 (by simp) fun g7 z7 sb7 => ?_)
 replace z7 : IsZip g7 z TI TO (rawInt g5.objs.size) := z7
 refine wpAny_setField_rec z7 (by simp) fun g8 z8 sb8 => ?_
 replace z8 : IsZip g8 z TI TO (rawInt g5.objs.size) := z8
 have up : ∀ c o, c ≠ z → g5.get? c = some o → g8.get? c = some o := fun c o c1 e => sb8.extBut _ _ c1 (sb7.extBut _ _ c1 (Heap.get?_push_of_some _ e))
 have t8 : IsPair g8 g5.objs.size x y := sb8.extBut _ _ (Nat.ne_of_gt zlt) (sb7.extBut _ _ (Nat.ne_of_gt zlt) (Heap.get?_push_size _ rfl))
 have sz8 : g8.objs.size = g5.objs.size + 1 := by rw [sb8.1, sb7.1, Heap.size_push]
 rw [esz] at z8 t8 sz8
 refine wpAny_pure ⟨_, rfl, ?_⟩
 show Q (.ref g5.objs.size) _
 rw [esz]
 exact hQ g8 z8 (up _ _ D.TOz to5) (a15.kept (fun o e => up _ o D.i1z e) fun o e => up _ o D.l1z e) (a25.kept (fun o e => up _ o D.i2z e) fun o e => up _ o D.l2z e) t8 sz8 fun c o c1 c2 c3 c4 e => up c o c1 (k5 c o c1 c2 c3 c4 e)
theorem aHv {z TI TO i1 i2 l1 l2 : Addr} {k1 k2 : Nat} {xs ys : Array Value} {a b : Value} {Q : PySem.Fin → Shared → Prop} (hh : A.handled = none) (D : ZipApart z TI TO i1 i2 l1 l2)
  (hz : IsZip s.heap z TI TO .none) (hTI : IsPair s.heap TI (.ref i1) (.ref i2)) (hTO : IsPair s.heap TO a b) (h1 : At s.heap i1 l1 k1 xs) (h2 : At s.heap i2 l2 k2 ys) (hend : xs[k1]? = none ∨ ys[k2]? = none)
  (hE : ∀ h' e, (∀ c o, c ≠ z → c ≠ TO → c ≠ i1 → c ≠ i2 → s.heap.get? c = some o → h'.get? c = some o) → (∃ o, h'.get? e = some o ∧ o.cls = .type "StopIteration") → E (.ref e) { s with heap := h' }) :
  wpAny (model prog w) A (Builtin.«zip.__next__» ⟨[.ref z], []⟩) Q E s := by
 refine wpAny_bind (m := field (.ref z) 2) (wpAny_field hz rfl (x := .bool false) rfl ?_)
 refine wpAny_bind (m := field (.ref z) 3) (wpAny_field hz rfl (x := .ref TI) rfl ?_)
 refine wpAny_bind (wpAny_seqItems hTI rfl ?_)
 refine wpAny_bind (m := Builtin.SmallTypes.ownedTupleIsFree (.ref z)) ?_
 unfold Builtin.SmallTypes.ownedTupleIsFree
 refine wpAny_bind (wpAny_field hz rfl (x := .none) rfl (wpAny_pure ?_))
 simp only [if_true]
 refine wpAny_bind (wpAny_rule ?_)
 refine wpAny_bind (wpAny_field hz rfl (x := .ref TO) rfl ?_)
 refine wpAny_bind (wpAny_setField_rec hz (by simp) fun g1 hz1 sb1 => ?_)
 replace hz1 : IsZip g1 z TI TO .ellipsis := hz1
 refine wpAny_bind ?_
 simp only [List.zipIdx_cons, List.zipIdx_nil, List.forIn_cons, List.forIn_nil]
 refine wpAny_bind (wpAny_bind (wpAny_onRaise ?_))
 have a1 := h1.but sb1.extBut D.i1z D.l1z
 cases hx : xs[k1]? with
 | none =>
  refine wpAny_bind (m := Builtin.SmallTypes.nextOf (.ref i1)) (yQ hh a1 hx fun g2 e sb2 he => ?_)
  obtain ⟨oe, hoe, hce⟩ := he
  have z2 : IsZip g2 z TI TO .ellipsis := sb2 _ _ D.i1z.symm hz1
  have hez : e ≠ z := fun q => by
   subst q
   rw [z2] at hoe
   cases hoe
   simp at hce
  exact wpAny_setField_rec z2 (by simp) fun g3 _ sb3 => hE g3 e (fun c o c1 _ c3 _ q => sb3.extBut _ _ c1 (sb2 _ _ c3 (sb1.extBut _ _ c1 q))) ⟨oe, sb3.extBut _ _ hez hoe, hce⟩
 | some x =>
  have hy : ys[k2]? = none := by
   rcases hend with h | h
   ·rw [hx] at h; cases h
   ·exact h
  refine wpAny_bind (m := Builtin.SmallTypes.nextOf (.ref i1)) (xW a1 D.l1i1 hx fun g2 a2 sb2 => wpAny_pure ?_)
  have to2 : IsPair g2 TO a b := sb2.extBut _ _ D.TOi1 (sb1.extBut _ _ D.TOz hTO)
  refine wpAny_bind (wpAny_seqItems to2 rfl ?_)
  refine wpAny_bind (wpAny_updateSeq_pair to2 fun g3 to3 sb3 => ?_)
  refine wpAny_bind (wpAny_letGo (wpAny_pure ?_))
  refine wpAny_bind (wpAny_bind (wpAny_onRaise ?_))
  have a2' : At g3 i2 l2 k2 ys := ((h2.but sb1.extBut D.i2z D.l2z).but sb2.extBut D.i12.symm D.l2i1).but sb3.extBut D.TOi2.symm D.l2TO
  refine wpAny_bind (m := Builtin.SmallTypes.nextOf (.ref i2)) (yQ hh a2' hy fun g4 e sb4 he => ?_)
  obtain ⟨oe, hoe, hce⟩ := he
  have z4 : IsZip g4 z TI TO .ellipsis := sb4 _ _ D.i2z.symm (sb3.extBut _ _ D.TOz.symm (sb2.extBut _ _ D.i1z.symm hz1))
  have hez : e ≠ z := fun q => by
   subst q
   rw [z4] at hoe
   cases hoe
   simp at hce
  exact wpAny_setField_rec z4 (by simp) fun g5 _ sb5 => hE g5 e (fun c o c1 c2 c3 c4 q => sb5.extBut _ _ c1 (sb4 _ _ c4 (sb3.extBut _ _ c2 (sb2.extBut _ _ c3 (sb1.extBut _ _ c1 q))))) ⟨oe, sb5.extBut _ _ hez hoe, hce⟩
end
def Itz (K : PySem.W.Frag) (k1 k2 : Bool) (a b : Addr) : It :=
 ⟨fun i H => ∃ xs ys x y, (if k1 then kK K H a xs else jN K H a xs) ∧ (if k2 then kK K H b ys else jN K H b ys) ∧ xs[i]? = some x ∧ ys[i]? = some y,
 fun i H x H' => ∃ p, H p = none ∧ x = .ref p ∧ ∀ xs ys, (if k1 then kK K H a xs else jN K H a xs) → (if k2 then kK K H b ys else jN K H b ys) → ∃ u v, xs[i]? = some u ∧ ys[i]? = some v ∧ H' = upd H p (.tup [u, v]),
 fun i H => ∃ xs ys, (if k1 then kK K H a xs else jN K H a xs) ∧ (if k2 then kK K H b ys else jN K H b ys) ∧ (xs.length ≤ i ∨ ys.length ≤ i)⟩
def zN (kind : Bool) (h : Heap) (it src : Addr) (k : Nat) : Prop := if kind then h.IsListIter it src k else h.IsTupleIter it src k
def sqk (kind : Bool) (h : Heap) (src : Addr) (xs : Array Value) : Prop := if kind then h.IsList src xs else h.IsTuple src xs
theorem zN.kept {kind : Bool} {h h' : Heap} {it src : Addr} {k : Nat} (a : zN kind h it src k) (e : ∀ o, h.get? it = some o → h'.get? it = some o) : zN kind h' it src k := by
 cases kind with
 | true => obtain ⟨o, h1, h2⟩ := a; exact ⟨o, e o h1, h2⟩
 | false => obtain ⟨o, h1, h2⟩ := a; exact ⟨o, e o h1, h2⟩
theorem zN.at {kind : Bool} {h : Heap} {it src : Addr} {k : Nat} {xs : Array Value} (a : zN kind h it src k) (s : sqk kind h src xs) : At h it src k xs := by
 cases kind with
 | true => exact .inl ⟨a, s⟩
 | false => exact .inr ⟨a, s⟩
theorem zN.of {kind : Bool} {h : Heap} {it src : Addr} {k : Nat} {xs : Array Value} (a : At h it src k xs) (s : sqk kind h src xs) : zN kind h it src k := by
 rcases a with ⟨a, b⟩ | ⟨a, b⟩
 ·cases kind with
  | true => exact a
  | false =>
   obtain ⟨o, h1, h2, _⟩ := b
   obtain ⟨o', h3, h4, _⟩ := (show h.IsTuple src xs from s)
   rw [h1] at h3
   cases h3
   rw [h2] at h4
   exact absurd h4 (by decide)
 ·cases kind with
  | false => exact a
  | true =>
   obtain ⟨o, h1, h2, _⟩ := b
   obtain ⟨o', h3, h4, _⟩ := (show h.IsList src xs from s)
   rw [h1] at h3
   cases h3
   rw [h2] at h4
   exact absurd h4 (by decide)
theorem zN.obj {kind : Bool} {h : Heap} {it src : Addr} {k : Nat} (a : zN kind h it src k) : ∃ o, h.get? it = some o ∧ ∀ v, o.data ≠ .cell v := by
 cases kind with
 | true =>
  obtain ⟨o, h1, _, h2⟩ := a
  exact ⟨o, h1, fun v z => by rw [h2] at z; cases z⟩
 | false =>
  obtain ⟨o, h1, _, h2⟩ := a
  exact ⟨o, h1, fun v z => by rw [h2] at z; cases z⟩
theorem bE.sqk {X : Cx} {pins : List (Addr × Obj)} {σ : St} {H : Hp} {s : Shared} {a : Addr} {xs : List V} {kind : Bool} (I : bE X pins σ H s) (h : if kind then kK X.K H a xs else jN X.K H a xs) : ∃ its : List Value, dE xs its ∧ L2.sqk kind s.heap a its.toArray := by
 cases kind with
 | true =>
  obtain ⟨its, r, pl, _⟩ := I.list h
  exact ⟨its, r, pl.isList⟩
 | false =>
  obtain ⟨its, r, pl, _⟩ := I.tuple h
  exact ⟨its, r, pl⟩
theorem bE.sq_inj {X : Cx} {pins : List (Addr × Obj)} {σ : St} {H : Hp} {s : Shared} {a : Addr} {xs ys : List V} {kind : Bool} (I : bE X pins σ H s) (h : if kind then kK X.K H a xs else jN X.K H a xs) (h' : if kind then kK X.K H a ys else jN X.K H a ys) : xs = ys := by
 cases kind with
 | true => exact I.list_inj h h'
 | false => exact I.tuple_inj h h'
theorem bE.turnedT {X : Cx} {pins : List (Addr × Obj)} {σ : St} {H : Hp} {s : Shared} {h' : Heap} {ch : List Addr} {p : Addr} {xs : List V} {us : List Value} {t' : Nat} (I : bE X pins σ H s) (hf : ∀ b ∈ ch, nB X pins H b) (hp : s.heap.objs.size ≤ p)
  (k : ∀ b o, b ∉ ch → s.heap.get? b = some o → h'.get? b = some o) (there : ∀ b ∈ ch, ∃ o, h'.get? b = some o) (r : dE xs us) (hx : xs.length ≤ sizeLine) (ht : IsTup h' p us.toArray) : bE X pins σ (upd H p (.tup xs)) { s with heap := h', toks := t' } := by
 have nit : ∀ b u, H b = some u → b ∉ ch := fun b u e z => by rw [(hf b z).1] at e; cases e
 have fr : H p = none := I.hok.fresh hp
 have np : ∀ b o, s.heap.get? b = some o → b ≠ p := fun b o e z => absurd (Nat.lt_of_lt_of_le (Heap.lt_size e) (by rw [z]; exact hp)) (Nat.lt_irrefl _)
 refine I.step (g' := s.gens) (d' := s.drawn) (ch := ch) (fun b hb => ?_) (fun b o _ _ hc e _ => k b o hc e) (fun b o _ _ hc e _ => ⟨o.slots, k b o hc e⟩) (fun b o _ e n => by rw [aV (np b o e)]; exact n)
  (fun b o hc e => ⟨o, k b o hc e⟩) (fun b ys e => by rw [aV (bM e fr)]; exact e) (fun b o u e => by rw [aV (bM e fr)]; exact e) (fun b ps e => ⟨#[], by rw [aV (bM e fr), e]; simp⟩) (fun m hm => ?_) (fun b u e => ?_) I.bare
 ·have q := hf b hb
  exact ⟨q.2.2.2.1, q.2.1, q.2.2.2.2.1, q.2.2.2.2.2⟩
 ·obtain ⟨o, es, ep, ho, r⟩ := hm
  exact ⟨o, es, ep, k _ o (fun z => (hf _ z).2.1 rfl) ho, r⟩
 ·by_cases hb : b = p
  ·subst hb
   rw [bQ] at e
   cases e
   exact ⟨hx, us, r, ht⟩
  ·rw [aV hb] at e
   refine (I.hok b u e).stay (fun c v hc q => k c v ?_ q) (fun c q => ?_) (fun c ys q => ?_) fun c ob u q => ?_
   ·rcases hc with z | z
    ·rw [z]; exact nit b u e
    ·exact nit c _ z
   ·rw [aV (bM q fr)]; exact q
   ·rw [aV (bM q fr)]; exact q
   ·rw [aV (bM q fr)]; exact q
theorem bE.turnedM {X : Cx} {pins : List (Addr × Obj)} {σ : St} {H : Hp} {s : Shared} {h' : Heap} {ch : List Addr} {t' : Nat} (I : bE X pins σ H s) (hf : ∀ b ∈ ch, nB X pins H b) (k : ∀ b o, b ∉ ch → s.heap.get? b = some o → h'.get? b = some o) : bE X pins σ H { s with heap := h', toks := t' } := by
 have nit : ∀ b u, H b = some u → b ∉ ch := fun b u e z => by rw [(hf b z).1] at e; cases e
 refine I.step (g' := s.gens) (d' := s.drawn) (ch := ch) (fun b hb => ?_) (fun b o _ _ hc e _ => k b o hc e) (fun b o _ _ hc e _ => ⟨o.slots, k b o hc e⟩) (fun b o _ e n => n)
  (fun b o hc e => ⟨o, k b o hc e⟩) (fun b ys e => e) (fun b o u e => e) (fun b ps e => ⟨#[], by rw [e]; simp⟩) (fun m hm => ?_) (fun b u e => ?_) I.bare
 ·have q := hf b hb
  exact ⟨q.2.2.2.1, q.2.1, q.2.2.2.2.1, q.2.2.2.2.2⟩
 ·obtain ⟨o, es, ep, ho, r⟩ := hm
  exact ⟨o, es, ep, k _ o (fun z => (hf _ z).2.1 rfl) ho, r⟩
 ·refine (I.hok b u e).stay (fun c v hc q => k c v ?_ q) (fun c q => q) (fun c ys q => q) fun c ob u q => q
  rcases hc with z | z
  ·rw [z]; exact nit b u e
  ·exact nit c _ z
def aIc (k1 k2 : Bool) (z TI TO i1 i2 l1 l2 : Addr) (i : Nat) (h : Heap) : Prop := IsZip h z TI TO .none ∧ IsPair h TI (.ref i1) (.ref i2) ∧ (∃ a b, IsPair h TO a b) ∧ zN k1 h i1 l1 i ∧ zN k2 h i2 l2 i
theorem aHQ {P : Program} {w : World} {K : PySem.W.Frag} {elts : List Expr} {x1 : Nat} {pos : Pos} (k1 k2 : Bool) (z TI TO i1 i2 l1 l2 : Addr) (A : ZipApart z TI TO i1 i2 l1 l2) :
  aB0 P w K (.Tuple elts x1 pos) (Itz K k1 k2 l1 l2) [z, TI, TO, i1, i2] z (aIc k1 k2 z TI TO i1 i2 l1 l2) where
 mem := by simp
 obj := fun i h st b hb => by
  obtain ⟨hz, hTI, ⟨a, c, hTO⟩, h1, h2⟩ := st
  simp only [List.mem_cons, List.not_mem_nil, or_false] at hb
  rcases hb with rfl | rfl | rfl | rfl | rfl
  ·exact ⟨_, hz, fun v q => by cases (show Data.fields _ = Data.cell v from q)⟩
  ·exact ⟨_, hTI, fun v q => by cases (show Data.seq _ _ = Data.cell v from q)⟩
  ·exact ⟨_, hTO, fun v q => by cases (show Data.seq _ _ = Data.cell v from q)⟩
  ·exact h1.obj
  ·exact h2.obj
 keep := fun i h h' st k => by
  obtain ⟨hz, hTI, ⟨a, c, hTO⟩, h1, h2⟩ := st
  exact ⟨k z (by simp) _ hz, k TI (by simp) _ hTI, ⟨a, c, k TO (by simp) _ hTO⟩, h1.kept fun o e => k i1 (by simp) o e, h2.kept fun o e => k i2 (by simp) o e⟩
 item := by
  intro X hP hw hK hc i pins s σ H E I hf st hg
  subst hP hw hK
  obtain ⟨xs, ys, x, y, hx, hy, ex, ey⟩ := hg
  obtain ⟨hz, hTI, ⟨a, c, hTO⟩, h1, h2⟩ := st
  obtain ⟨its, r1, q1⟩ := I.sqk hx
  obtain ⟨its2, r2, q2⟩ := I.sqk hy
  obtain ⟨u, eu, ru⟩ := r1.get ex
  obtain ⟨v, ev, rv⟩ := r2.get ey
  have hT : s.TypeIs (.ref z) "zip" := ⟨_, hz, rfl⟩
  unfold pyNext
  have nx := F.slot_zip_next
  refine wpAny_bind (wpAny_attempt (wpAny_callSpecial?_slot (name := Str.ofString "__next__") hT nx (wpAny_call_entry nx hT F.entry_zip_next
   (aF9 A hz hTI hTO (h1.at q1) (h2.at q2) (x := u) (y := v) (by simpa using eu) (by simpa using ev) fun h' z' to' a1 a2 t' sz kp => wpAny_pure ?_) (F.args_zip_next_1 _))))
  refine ⟨.ref s.heap.objs.size, rfl, wpAny_letOwnedTupleGo_zip z' fun h2' z2 sb => ?_⟩
  have ltT : ∀ b o, s.heap.get? b = some o → b ≠ s.heap.objs.size := fun b o e => Nat.ne_of_lt (Heap.lt_size e)
  have kp2 : ∀ b o, b ∉ [z, TI, TO, i1, i2] → s.heap.get? b = some o → h2'.get? b = some o := fun b o hb e => by
   simp only [List.mem_cons, List.not_mem_nil, or_false, not_or] at hb
   exact sb.extBut b o hb.1 (kp b o hb.1 hb.2.2.1 hb.2.2.2.1 hb.2.2.2.2 e)
  have zT : s.heap.objs.size ≠ z := fun q => ltT z _ hz q.symm
  have tT : IsPair h2' s.heap.objs.size u v := sb.extBut _ _ zT t'
  have upz : ∀ b o, b ≠ z → h'.get? b = some o → h2'.get? b = some o := fun b o hb e => sb.extBut b o hb e
  have q1' : sqk k1 h' l1 its.toArray := by
   cases k1 with
   | true => obtain ⟨o, e, r⟩ := q1; exact ⟨o, kp l1 o A.l1z A.l1TO A.l1i1 A.l1i2 e, r⟩
   | false => obtain ⟨o, e, r⟩ := q1; exact ⟨o, kp l1 o A.l1z A.l1TO A.l1i1 A.l1i2 e, r⟩
  have q2' : sqk k2 h' l2 its2.toArray := by
   cases k2 with
   | true => obtain ⟨o, e, r⟩ := q2; exact ⟨o, kp l2 o A.l2z A.l2TO A.l2i1 A.l2i2 e, r⟩
   | false => obtain ⟨o, e, r⟩ := q2; exact ⟨o, kp l2 o A.l2z A.l2TO A.l2i1 A.l2i2 e, r⟩
  have st' : aIc k1 k2 z TI TO i1 i2 l1 l2 (i + 1) h2' :=
   ⟨z2, upz _ _ A.TIz (kp _ _ A.TIz A.TITO A.TIi1 A.TIi2 hTI), ⟨u, v, upz _ _ A.TOz to'⟩, (zN.of a1 q1').kept fun o e => upz _ o A.i1z e, (zN.of a2 q2').kept fun o e => upz _ o A.i2z e⟩
  have fT : H s.heap.objs.size = none := I.fresh
  refine ⟨.ref s.heap.objs.size, upd H s.heap.objs.size (.tup [x, y]), I.turnedT (t' := s.toks) (us := [u, v]) hf (Nat.le_refl _) kp2 (fun b hb => ?_) (.cons ru (.cons rv .nil)) (by show 2 ≤ sizeLine; decide) ⟨_, tT, rfl, _, rfl⟩, rfl, ⟨_, fT, rfl, fun xs' ys' hx' hy' => ?_⟩, st', fun b hb => ?_⟩
  ·obtain ⟨z3, ti3, ⟨a3, b3, to3⟩, i13, i23⟩ := st'
   simp only [List.mem_cons, List.not_mem_nil, or_false] at hb
   rcases hb with rfl | rfl | rfl | rfl | rfl
   ·exact ⟨_, z3⟩
   ·exact ⟨_, ti3⟩
   ·exact ⟨_, to3⟩
   ·obtain ⟨o, e, _⟩ := i13.obj; exact ⟨o, e⟩
   ·obtain ⟨o, e, _⟩ := i23.obj; exact ⟨o, e⟩
  ·have e1 := I.sq_inj hx' hx
   have e2 := I.sq_inj hy' hy
   subst e1 e2
   exact ⟨x, y, ex, ey, rfl⟩
  ·obtain ⟨o, e, _⟩ : ∃ o, s.heap.get? b = some o ∧ True := by
    simp only [List.mem_cons, List.not_mem_nil, or_false] at hb
    rcases hb with rfl | rfl | rfl | rfl | rfl
    ·exact ⟨_, hz, trivial⟩
    ·exact ⟨_, hTI, trivial⟩
    ·exact ⟨_, hTO, trivial⟩
    ·obtain ⟨o, e, _⟩ := h1.obj; exact ⟨o, e, trivial⟩
    ·obtain ⟨o, e, _⟩ := h2.obj; exact ⟨o, e, trivial⟩
   rw [aV (ltT b o e)]
   exact (hf b hb).1
 done := by
  intro X hP hw hK hc i pins s σ H E I hf st hg
  subst hP hw hK
  obtain ⟨xs, ys, hx, hy, hend⟩ := hg
  obtain ⟨hz, hTI, ⟨a, c, hTO⟩, h1, h2⟩ := st
  obtain ⟨its, r1, q1⟩ := I.sqk hx
  obtain ⟨its2, r2, q2⟩ := I.sqk hy
  have hT : s.TypeIs (.ref z) "zip" := ⟨_, hz, rfl⟩
  have l1 := r1.length
  have l2 := r2.length
  unfold pyNext
  have nx := F.slot_zip_next
  refine wpAny_bind (wpAny_attempt (wpAny_callSpecial?_slot (name := Str.ofString "__next__") hT nx (wpAny_call_entry nx hT F.entry_zip_next
   (aHv (I.ok.hd hc) A hz hTI hTO (h1.at q1) (h2.at q2) ?_ fun h' e kp he => ?_) (F.args_zip_next_1 _))))
  ·rcases hend with z | z
   ·exact .inl (by simp; omega)
   ·exact .inr (by simp; omega)
  ·obtain ⟨o, ho, hcl⟩ := he
   refine wpAny_bind (wpAny_isInstance (T := "StopIteration") (b := true) ⟨o, ho, hcl⟩ isSubtype_stop ?_)
   refine wpAny_pure ⟨rfl, I.turnedM (t' := s.toks) hf fun b o hb e => ?_⟩
   simp only [List.mem_cons, List.not_mem_nil, or_false, not_or] at hb
   exact kp b o hb.1 hb.2.2.1 hb.2.2.2.1 hb.2.2.2.2 e
 self := fun _ _ _ _ _ st h => wpAny_pyIter_zip st.1 h
def dJ (kind : Bool) (l : Addr) : Obj := { cls := .type (if kind then "list_iterator" else "tuple_iterator"), data := .fields #[.ref l, .int 0 0] }
theorem lQ {prog : Program} {w : World} {A : Around} {E : Value → Shared → Prop} {s : Shared} {kind : Bool} {l : Addr} {xs : Array Value} {Q : Value → Shared → Prop} (h : sqk kind s.heap l xs) (hQ : Q (.ref s.heap.objs.size) { s with heap := s.heap.push (dJ kind l) }) : wpAny (model prog w) A (pyIter (.ref l)) Q E s := by
 cases kind with
 | true => exact wpAny_pyIter_list h hQ
 | false => exact wpAny_pyIter_tuple h hQ
theorem sqk.push {kind : Bool} {h : Heap} {l : Addr} {xs : Array Value} (a : sqk kind h l xs) (o : Obj) : sqk kind (h.push o) l xs := by
 cases kind with
 | true => exact Heap.IsList.push a o
 | false => exact Heap.IsTuple.push a o
theorem zN.new {kind : Bool} {h : Heap} {l it : Addr} (e : h.get? it = some (dJ kind l)) : zN kind h it l 0 := by
 cases kind with
 | true => exact ⟨_, e, rfl, rfl⟩
 | false => exact ⟨_, e, rfl, rfl⟩
theorem aJF (k1 k2 : Bool) (l1 l2 : Addr) (xs ys : Array Value) :
  Meets (Builtin.«zip.__new__» ⟨[.type "zip", .ref l1, .ref l2], []⟩) (fun _ R s => sqk k1 s.heap l1 xs ∧ sqk k2 s.heap l2 ys ∧
   R (.ok (.ret (.ref ((((s.heap.push (dJ k1 l1)).push (dJ k2 l2)).push { cls := .type "tuple", data := .seq #[.ref s.heap.objs.size, .ref (s.heap.push (dJ k1 l1)).objs.size] }).push { cls := .type "tuple", data := .seq #[.none, .none] }).objs.size)))
    { s with heap := ((((s.heap.push (dJ k1 l1)).push (dJ k2 l2)).push { cls := .type "tuple", data := .seq #[.ref s.heap.objs.size, .ref (s.heap.push (dJ k1 l1)).objs.size] }).push { cls := .type "tuple", data := .seq #[.none, .none] }).push { cls := .type "zip", data := .fields #[.none, .bool false, .bool false, .ref ((s.heap.push (dJ k1 l1)).push (dJ k2 l2)).objs.size, .ref (((s.heap.push (dJ k1 l1)).push (dJ k2 l2)).push { cls := .type "tuple", data := .seq #[.ref s.heap.objs.size, .ref (s.heap.push (dJ k1 l1)).objs.size] }).objs.size] } }) :=
 .of_wp fun prog w A R s h => by
  obtain ⟨hp, g, d, tk, os⟩ := s
  obtain ⟨hl1, hl2, h⟩ := h
  have hsub := sub_zip
  have hL1 : sqk k1 (Shared.heap ⟨hp, g, d, tk, os⟩) l1 xs := hl1
  have hL2 : sqk k2 (Shared.heap ⟨hp.push (dJ k1 l1), g, d, tk, os⟩) l2 ys := hl2.push _
  wp_walk using lQ hL1, lQ hL2
  exact ⟨_, rfl, h⟩
theorem aFU {prog : Program} {w : World} {A : Around} {E : Value → Shared → Prop} {s : Shared} {k1 k2 : Bool} {l1 l2 : Addr} {xs ys : Array Value} {Q : Value → Shared → Prop} (hl1 : sqk k1 s.heap l1 xs) (hl2 : sqk k2 s.heap l2 ys)
  (h : ∀ h', aIc k1 k2 (s.heap.objs.size + 4) (s.heap.objs.size + 2) (s.heap.objs.size + 3) s.heap.objs.size (s.heap.objs.size + 1) l1 l2 0 h' → (∀ c o, s.heap.get? c = some o → h'.get? c = some o) → Q (.ref (s.heap.objs.size + 4)) { s with heap := h' }) :
  wpAny (model prog w) A (call (.type "zip") [.ref l1, .ref l2]) Q E s := by
 refine callType_new F.called_zip (by decide) (F.typeCall_zip_2 _ _) (F.newCall_zip_2 _ _) (fun obj => F.args_object_init_3 obj _ _) F.entry_zip_new (aJF k1 k2 l1 l2 xs ys) ⟨hl1, hl2, ?_⟩
 generalize hh1 : s.heap.push (dJ k1 l1) = h1
 have s1 : h1.objs.size = s.heap.objs.size + 1 := by rw [← hh1, Heap.size_push]
 generalize hh2 : h1.push (dJ k2 l2) = h2
 have s2 : h2.objs.size = s.heap.objs.size + 2 := by rw [← hh2, Heap.size_push, s1]
 generalize hh3 : h2.push { cls := .type "tuple", data := .seq #[.ref s.heap.objs.size, .ref h1.objs.size] } = h3
 have s3 : h3.objs.size = s.heap.objs.size + 3 := by rw [← hh3, Heap.size_push, s2]
 generalize hh4 : h3.push { cls := .type "tuple", data := .seq #[.none, .none] } = h4
 have s4 : h4.objs.size = s.heap.objs.size + 4 := by rw [← hh4, Heap.size_push, s3]
 have g1 : h1.get? s.heap.objs.size = some (dJ k1 l1) := by rw [← hh1]; exact Heap.get?_push_size _ (by rfl)
 have g2 : h2.get? h1.objs.size = some (dJ k2 l2) := by rw [← hh2]; exact Heap.get?_push_size _ (by rfl)
 have g3 : IsPair h3 h2.objs.size (.ref s.heap.objs.size) (.ref h1.objs.size) := by rw [← hh3]; exact Heap.get?_push_size _ rfl
 have g4 : IsPair h4 h3.objs.size .none .none := by rw [← hh4]; exact Heap.get?_push_size _ rfl
 have g5 := Heap.get?_push_size h4 (o := { cls := .type "zip", data := .fields #[.none, .bool false, .bool false, .ref h2.objs.size, .ref h3.objs.size] }) rfl
 have u12 : ∀ c o, h1.get? c = some o → h2.get? c = some o := fun c o e => by rw [← hh2]; exact Heap.get?_push_of_some _ e
 have u23 : ∀ c o, h2.get? c = some o → h3.get? c = some o := fun c o e => by rw [← hh3]; exact Heap.get?_push_of_some _ e
 have u34 : ∀ c o, h3.get? c = some o → h4.get? c = some o := fun c o e => by rw [← hh4]; exact Heap.get?_push_of_some _ e
 have u01 : ∀ c o, s.heap.get? c = some o → h1.get? c = some o := fun c o e => by rw [← hh1]; exact Heap.get?_push_of_some _ e
 rw [s1] at g2 g3
 rw [s2] at g3 g5
 rw [s3] at g4 g5
 rw [s4] at g5
 rw [s2, s3, s4]
 refine ⟨⟨_, g5, rfl⟩, h _ ⟨g5, Heap.get?_push_of_some _ (u34 _ _ g3), ⟨_, _, Heap.get?_push_of_some _ g4⟩, zN.new (Heap.get?_push_of_some _ (u34 _ _ (u23 _ _ (u12 _ _ g1)))), zN.new (Heap.get?_push_of_some _ (u34 _ _ (u23 _ _ g2)))⟩ fun c o e => Heap.get?_push_of_some _ (u34 _ _ (u23 _ _ (u12 _ _ (u01 _ _ e))))⟩
section
variable {X : Cx}
def aNB (K : PySem.W.Frag) (k1 k2 : Bool) (ta : TA) : TI := fun σ H R => ta σ H fun vs H1 => ∃ p q xs ys, vs = [.ref p, .ref q] ∧ (if k1 then kK K H1 p xs else jN K H1 p xs) ∧ (if k2 then kK K H1 q ys else jN K H1 q ys) ∧ R (Itz K k1 k2 p q) H1
theorem aLV {a b : Expr} {ta : TA} {p pos pos' : Pos} {elts : List Expr} {x1 : Nat} (k1 k2 : Bool) (hg : Gl X "zip") (hm : X.mg "zip" = none) (hbt : bootBuiltins "zip" = some (.type "zip")) (ha : PA X [a, b] ta) (hs : starEach [a, b] X.env = [(false, eval a X.env), (false, eval b X.env)] := by rfl) (hs2 : starEach [b] X.env = [(false, eval b X.env)] := by rfl) :
  PI X (.Tuple elts x1 pos') (.Call (.Name "zip" p) [a, b] [] pos) (aNB X.K k1 k2 ta) := by
 intro pins s σ H R I h
 refine Call_ (qK I hg hm hbt (PyProof.Rows.callWith_type1 (gW (ha pos pins s σ H _ I h) fun us s1 ⟨vs, H1, I1, r1, q1⟩ => ?_) (by rw [hs, hs2]) (by rw [hs2]; rfl)))
 obtain ⟨l1, l2, xs, ys, e, hx, hy, q⟩ := q1
 subst e
 cases r1 with
 | cons r rr =>
  cases rr with
  | cons r' rr =>
   cases rr
   cases r
   cases r'
   obtain ⟨its, v1, w1⟩ := I1.sqk hx
   obtain ⟨its2, v2, w2⟩ := I1.sqk hy
   have lt1 : l1 < s1.heap.objs.size := by
    cases k1 with
    | true => obtain ⟨o, e, _⟩ := w1; exact Heap.lt_size e
    | false => obtain ⟨o, e, _⟩ := w1; exact Heap.lt_size e
   have lt2 : l2 < s1.heap.objs.size := by
    cases k2 with
    | true => obtain ⟨o, e, _⟩ := w2; exact Heap.lt_size e
    | false => obtain ⟨o, e, _⟩ := w2; exact Heap.lt_size e
   refine aFU w1 w2 fun h' st kp => ?_
   refine wpAny_pyIter_zip st.1 ?_
   have I2 : bE X pins σ H1 { s1 with heap := h' } := I1.kept (t' := s1.toks) kp
   generalize hn : s1.heap.objs.size = n at *
   have lt1' : @LT.lt Nat _ l1 n := lt1
   have lt2' : @LT.lt Nat _ l2 n := lt2
   have ap : ZipApart (n + 4) (n + 2) (n + 3) n (n + 1) l1 l2 := by constructor <;> (intro z; have z' : @Eq Nat _ _ := z; omega)
   refine ⟨n + 4, _, _, _, H1, rfl, I2, aHQ k1 k2 (n + 4) (n + 2) (n + 3) n (n + 1) l1 l2 ap, st, fun b hb => ?_, q⟩
   have hb' : n ≤ b := by
    simp only [List.mem_cons, List.not_mem_nil, or_false] at hb
    rcases hb with rfl | rfl | rfl | rfl | rfl <;> first | exact Nat.le_refl _ | exact Nat.le_add_right _ _
   exact I1.fpOk (by rw [hn]; exact hb') (I1.hok.fresh (by rw [hn]; exact hb'))
variable {a b c e : Expr} {es : List Expr} {pos : Pos} {ga gb : GE}
def aG0 (ga gb : GE) : GF := fun δ Q => ga δ fun d => gb δ fun d2 => match d, d2 with
 | .tup xs, .tup ys => Q (List.zipWith (fun x y => D.tup [x, y]) xs ys)
 | _, _ => False
theorem aIw {K : PySem.W.Frag} {C1 : Hp} {p q : Addr} {xs ys : List V} {ds es : List D} (hx : jN K C1 p xs) (hy : jN K C1 q ys) (hd : bZ K C1 xs ds) (he : bZ K C1 ys es) : aDD K (Itz K false false p q) (List.zipWith (fun x y => D.tup [x, y]) ds es) C1 := by
 intro C2 H2 c1 c2 i
 have hx2 := c2.seqT (c1.seqT hx)
 have hy2 := c2.seqT (c1.seqT hy)
 refine ⟨fun d e => ?_, fun hl => ⟨xs, ys, hx2, hy2, ?_⟩⟩
 ·rw [List.getElem?_zipWith] at e
  cases e1 : ds[i]? with
  | none => rw [e1] at e; cases e
  | some d1 =>
   cases e2 : es[i]? with
   | none => rw [e1, e2] at e; cases e
   | some d2 =>
    rw [e1, e2] at e
    cases e
    obtain ⟨v1, ev1, n1⟩ := hd.get e1
    obtain ⟨v2, ev2, n2⟩ := he.get e2
    refine ⟨⟨xs, ys, v1, v2, hx2, hy2, ev1, ev2⟩, fun x H3 y => ?_⟩
    obtain ⟨t, ht, rfl, k⟩ := y
    obtain ⟨u, v, eu, ev, rfl⟩ := k xs ys hx2 hy2
    rw [ev1] at eu
    cases eu
    rw [ev2] at ev
    cases ev
    refine ⟨upd C2 t (.tup [v1, v2]), d7.new c2 ht, bS.mpr ⟨t, _, rfl, jN.of bQ, ?_⟩⟩
    have up := cM.upd (o := .tup [v1, v2]) (c2.free ht)
    exact .cons ((n1.mono c1).mono up) (.cons ((n2.mono c1).mono up) .nil)
 ·rw [List.length_zipWith] at hl
  rw [hd.length, he.length]
  omega
theorem aLS {p pos' : Pos} {elts : List Expr} {x1 : Nat} (hg : Gl X "zip") (hm : X.mg "zip" = none) (hbt : bootBuiltins "zip" = some (.type "zip")) (ha : DE X a ga) (hb : DE X b gb) (hs : starEach [a, b] X.env = [(false, eval a X.env), (false, eval b X.env)] := by rfl) (hs2 : starEach [b] X.env = [(false, eval b X.env)] := by rfl) :
  DI X (.Tuple elts x1 pos') (.Call (.Name "zip" p) [a, b] [] pos) (aG0 ga gb) := by
 obtain ⟨t1, p1, h1⟩ := ha
 obtain ⟨t2, p2, h2⟩ := hb
 refine ⟨_, aLV false false hg hm hbt (e6 p1 (e6 p2 i6 hs2) (by rw [hs, hs2])) hs hs2, fun C0 H0 δ σ C H Q R rp g k => h1 C0 H0 δ σ C H _ _ rp g fun d v C1 H1 q e1 n1 => h2 C0 H0 δ σ C1 H1 _ _ (rp.grow e1) q fun d2 v2 C2 H2 q2 e2 n2 => ?_⟩
 have n1' := n1.mono e2.cc
 cases d with
 | tup ds =>
  cases d2 with
  | tup es =>
   obtain ⟨p, xs, rfl, hx, hd⟩ := bS.mp n1'
   obtain ⟨p', ys, rfl, hy, he⟩ := bS.mp n2
   exact ⟨p, p', xs, ys, rfl, e2.ch.seqT hx, e2.ch.seqT hy, k _ _ C2 H2 q2 (e1.trans e2) (aIw hx hy hd he)⟩
  | _ => exact q2.elim
 | _ => exact q2.elim
end
def aCJ (o : Option (D → Prop)) (Q : D → Prop) : Prop := match o with
 | some p => ∀ d, p d → Q d
 | none => False
def spR (K : PySem.W.Frag) (F : List D → Option (D → Prop)) : Sp := fun vs H Q _ => ∃ C ds p, cM C H ∧ TB K C ∧ bZ K C vs ds ∧ F ds = some p ∧ ∀ d v C' H', p d → d7 C H C' H' → jX K C' v d → Q v H'
def aD4 (P : Program) (w : World) (K : PySem.W.Frag) (mg : Str → Option Value) (base : Heap) (k : Nat) (x : Str) (F : List D → Option (D → Prop)) : Prop :=
 ∃ f fd ps, qA P w K mg base jE k f fd ps (spR K F) ∧ mg x = some (.ref f) ∧ PySem.W.keepIn K (.ref f) = true ∧ oH K fd ps []
section
variable {X : Cx} {a b c e : Expr} {es : List Expr} {pos : Pos} {ga gb gc gd : GE} {gf : GF} {ta tb : GT}
def oC (F : List D → Option (D → Prop)) (gf : GF) : GE := fun δ Q => gf δ fun ds => aCJ (F ds) Q
theorem aAf {F : List D → Option (D → Prop)} {k : Nat} {x : Str} {p : Pos} (h : aD4 X.prog X.w X.K X.mg X.base k x F) (hr : cB k X.A) (hg : Gl X x) (ha : DA X (e :: es) gf) (hdb : (x == ("__debug__" : Str)) = false := by decide)
  (he : starEach (e :: es) X.env = (false, eval e X.env) :: starEach es X.env := by rfl) (hpl : (backTo pos (starEach es X.env)).any (·.1) = false := by rfl) : DE X (.Call (.Name x p) (e :: es) [] pos) (oC F gf) := by
 obtain ⟨f, fd, ps, Fk, hm, hk, hb⟩ := h
 obtain ⟨t, pa, h⟩ := ha
 refine ⟨_, xU Fk hr hg hm hk hb .nil aHW pa hdb he hpl, fun C0 H0 δ σ C H Q R rp g k => h C0 H0 δ σ C H _ _ rp g fun ds vs C1 H1 q e1 n1 => ?_⟩
 cases e2 : F ds with
 | none => rw [e2] at q; exact q.elim
 | some p =>
  rw [e2] at q
  exact ⟨C1, ds, p, e1.ch, rp.tc.mono e1.cc, by rw [List.append_nil]; exact n1, e2, fun d v C' H' hp ex nv => k d v C' H' (q d hp) (e1.trans ex) nv⟩
theorem bJ {x : Str} {f : Value} {g : List D → (D → Prop) → Prop} {pos' : Pos} (hc : wN X f g) (ha : DA X (e :: es) gf)
  (hp : ∀ {t : TA} {r : List V → Hp → VK → Prop}, mT X f r → PA X (e :: es) t → PE X (.Call (.Name x pos') (e :: es) [] pos) (tCB r t)) : DE X (.Call (.Name x pos') (e :: es) [] pos) (bV g gf) := by
 obtain ⟨r, pr, hr⟩ := hc
 obtain ⟨t, p, h⟩ := ha
 refine ⟨_, hp pr p, fun C0 H0 δ σ C H Q R rp g k => h C0 H0 δ σ C H _ _ rp g fun ds vs C1 H1 q e1 n1 => ?_⟩
 exact hr vs ds C1 H1 Q R e1.ch n1 q fun d v C2 H2 q2 e2 n2 => k d v C2 H2 q2 (e1.trans e2) n2
theorem bN {scope sc : Scope} {N Nc : List Str} {fr : List (Option Nat)} (h1 : X.env.scope = sc) (h2 : X.N = N) (h : lZ sc scope N Nc fr = true) : lZ X.env.scope scope X.N Nc fr = true := by rw [h1, h2]; exact h
end
theorem fnR {P : Program} {w : World} {K : PySem.W.Frag} {mg : Str → Option Value} {base : Heap} {x qual : Str} {st : Stmt} {f : Addr} {fd : FuncData} {N ps : List Str} {k : Nat} {F : List D → Option (D → Prop)} {g : GS} (Fn : Fun K x qual st f fd) (S : aW N ps (aD st))
  (hl : ∀ ds p, F ds = some p → ds.length = ps.length)
  (hb : ∀ (cdv : Value) (A : Around) (outer : List Env) (s : Shared) (H : Hp) (E : XK), cB k (A.deeper (envOfC qual (aD st) s.heap.objs.size f cdv)) → jA (dL jE P w K mg base N qual (aD st) f cdv A outer s H E).nox (aR st) g)
  (hv : ∀ ds p, F ds = some p → g { nx := fun _ => p .non, rt := p } (bD N ds)) (hm : mg x = some (.ref f)) (bi : oH K fd ps []) : aD4 P w K mg base (k + 1) x F := by
 refine ⟨f, fd, ps, Fn.ok S (fun vs H Q E h => ?_) (fun cdv A outer s H vs Q E hr h => ?_), hm, Fn.kp, bi⟩
 ·obtain ⟨C, ds, p, _, _, n, e, _⟩ := h
  rw [n.length]
  exact hl ds p e
 ·obtain ⟨C, ds, pd, ch, tb, n, e, q⟩ := h
  obtain ⟨t, p, h⟩ := hb cdv A outer s H E hr
  refine ⟨t, p, h C H (bD N ds) (lL N vs) C H _ _ (oM ch tb n) (hv ds pd e) ⟨fun δ σ C' H' rp z => ?_, fun r v C' H' ex nv z => ?_, fun _ _ _ _ _ z => z.elim, fun _ _ _ _ _ z => z.elim⟩⟩
  ·exact q .non _ C' H' z rp.ext (eD.mpr rfl)
  ·exact q r v C' H' z ex nv
theorem kE : bootBuiltins "len" = some (.builtin "len") := by decide +kernel
theorem aEJ : bootBuiltins "abs" = some (.builtin "abs") := by decide +kernel
theorem aKV : bootBuiltins "all" = some (.builtin "all") := by decide +kernel
theorem aF4 : bootBuiltins "sorted" = some (.builtin "sorted") := by decide +kernel
theorem fL : bootBuiltins "tuple" = some (.type "tuple") := by decide +kernel
theorem aLJ : bootBuiltins "zip" = some (.type "zip") := by decide +kernel
@[reducible] def aF (ns : List Int) : D := .tup (ns.map D.int)
def dB (rows : List (List Int)) (m : Int) : List (List Int) := rows.flatMap fun r => (List.range m.toNat).map fun (k : Nat) => r ++ [(k : Int)]
def aN (ns : List Int) : List (List Int) := ns.foldl dB [[]]
def dZ (ns : List Int) : Bool := decide (ns.length ≤ 3) && ns.all fun n => decide (1 ≤ n) && decide (n ≤ 3)
def k9 (ds : List D) (f : List Int → D) : Option D := match g6 ds with
 | some ns => if dZ ns = true then some (f ns) else none
 | none => none
def d8 : List D → Option D
 | [.int a, .int b] => some (.int (Int.gcd a b))
 | _ => none
def kU : List D → Option D
 | [.tup ds] => k9 ds fun ns => .tup ((aN ns).map aF)
 | _ => none
def cQ : List D → Option D
 | [.tup [.tup ds, _]] => k9 ds fun ns => .tup ((aN ns).map aF)
 | _ => none
def iM : List D → Option D
 | [.tup ds] => k9 ds fun ns => .lst ((aN ns).map aF)
 | _ => none
def dG : List D → Option D
 | [.lst ds, .int k] => match g6 ds with
  | some ns => if 0 ≤ k then some (.int (ns.getD k.toNat 0)) else none
  | none => none
 | _ => none
def pR (c p m : Int) : Int := c * 48271 % p % m
def dN : List D → Option D
 | [.int c, .int p, .int m] => if 0 < p ∧ 0 < m then some (.int (pR c p m)) else none
 | _ => none
structure aX (ns : List Int) (pay : List (List Int)) : Prop where
 two : 2 ≤ ns.length
 ok : dZ ns = true
 many : pay.length = (aN ns).length
 rows : ∀ r ∈ pay, r.length = ns.length ∧ ∀ x ∈ r, -9 ≤ x ∧ x ≤ 9
@[reducible] def aY (ns : List Int) (pay : List (List Int)) : D := .tup [aF ns, .tup (pay.map aF)]
def eG : List D → Option (D → Prop)
 | [.int c] => some fun d => ∃ ns pay, d = aY ns pay ∧ aX ns pay ∧ (c % 3 = 0 → ns = [2, 2])
 | _ => none
def zO (c : Int) : Int := 2 + pR c 9929 29
def aHg (c : Int) : Int := if c % 4 = 0 then zO c - 1 else 1 + pR c 9923 (zO c - 1)
def qD (c : Int) : Rat := Rat.divInt (aHg c) (zO c)
def cK : List D → Option D
 | [.int c] => some (.tup [.int (qD c).num, .int ((qD c).den : Int)])
 | _ => none
@[reducible] def f8 (pl : List (List Int × List Int)) : D := .tup (pl.map fun s => .tup [aF s.1, aF s.2])
def wK : List D → Option (D → Prop)
 | [.lst ds] => match g6 ds with
  | some _ => some fun d => d = .bl true
  | none => none
 | _ => none
theorem mX (rows : List (List Int)) (m : Int) : (dB rows m).length = rows.length * m.toNat := by
 unfold dB
 induction rows with
 | nil => simp
 | cons r rows ih => rw [List.flatMap_cons, List.length_append, ih, List.length_map, List.length_range, List.length_cons, Nat.succ_mul, Nat.add_comm]
theorem yF (a b : List (List Int)) (m : Int) : dB (a ++ b) m = dB a m ++ dB b m := by
 unfold dB
 rw [List.flatMap_append]
theorem aDe (r : List Int) (m : Int) : dB [r] m = (List.range m.toNat).map fun (k : Nat) => r ++ [(k : Int)] := by
 unfold dB
 simp
theorem mO (ns : List Int) (m : Int) : aN (ns ++ [m]) = dB (aN ns) m := by
 unfold aN
 rw [List.foldl_append]
 rfl
def yC (ns r : List Int) : Prop := r.length = ns.length ∧ ∀ (i : Nat) (x n : Int), r[i]? = some x → ns[i]? = some n → 0 ≤ x ∧ x < n
theorem aEt {ns r : List Int} {m k : Int} (h : yC ns r) (h0 : 0 ≤ k) (h1 : k < m) : yC (ns ++ [m]) (r ++ [k]) := by
 refine ⟨by simp [h.1], fun i x n e1 e2 => ?_⟩
 by_cases hi : i < r.length
 ·rw [List.getElem?_append_left hi] at e1
  rw [List.getElem?_append_left (by rw [← h.1]; exact hi)] at e2
  exact h.2 i x n e1 e2
 ·rw [List.getElem?_append_right (by omega)] at e1
  rw [List.getElem?_append_right (by rw [← h.1]; omega)] at e2
  rw [h.1] at e1
  cases hj : i - ns.length with
  | zero =>
   rw [hj] at e1 e2
   cases e1
   cases e2
   exact ⟨h0, h1⟩
  | succ j =>
   rw [hj] at e1
   simp at e1
theorem aDu : ∀ (ms : List Int), ∀ r ∈ aN ms.reverse, yC ms.reverse r
 | [], r, h => by
  have : r = [] := by simpa [aN] using h
  subst this
  exact ⟨rfl, fun i x n e => by simp at e⟩
 | m :: ms, r, h => by
  rw [List.reverse_cons, mO] at h
  rw [List.reverse_cons]
  unfold dB at h
  obtain ⟨r0, h0, h1⟩ := List.mem_flatMap.mp h
  obtain ⟨k, hk, rfl⟩ := List.mem_map.mp h1
  have hk' := List.mem_range.mp hk
  exact aEt (aDu ms r0 h0) (by omega) (by omega)
theorem uD {ns r : List Int} (h : r ∈ aN ns) : yC ns r := by
 have := aDu ns.reverse r (by rw [List.reverse_reverse]; exact h)
 rwa [List.reverse_reverse] at this
theorem tG {ns : List Int} (h : dZ ns = true) (i : Nat) : dZ (ns.take i) = true := by
 unfold dZ at h ⊢
 rw [Bool.and_eq_true, decide_eq_true_eq, List.all_eq_true] at h ⊢
 exact ⟨by rw [List.length_take]; omega, fun x hx => h.2 x (List.mem_of_mem_take hx)⟩
theorem cC {ns : List Int} (h : dZ ns = true) : ns.length ≤ 3 ∧ ∀ n ∈ ns, 1 ≤ n ∧ n ≤ 3 := by
 unfold dZ at h
 rw [Bool.and_eq_true, decide_eq_true_eq, List.all_eq_true] at h
 refine ⟨h.1, fun n hn => ?_⟩
 have := h.2 n hn
 simpa using this
theorem tW : ∀ (ms : List Int), (∀ n ∈ ms, 1 ≤ n ∧ n ≤ 3) → 1 ≤ (aN ms.reverse).length ∧ (aN ms.reverse).length ≤ 3 ^ ms.length
 | [], _ => by simp [aN]
 | m :: ms, h => by
  rw [List.reverse_cons, mO, mX, List.length_cons, Nat.pow_succ]
  obtain ⟨h1, h2⟩ := tW ms fun n hn => h n (List.mem_cons_of_mem _ hn)
  obtain ⟨h3, h4⟩ := h m List.mem_cons_self
  have h5 : 1 ≤ m.toNat := by omega
  have h6 : m.toNat ≤ 3 := by omega
  exact ⟨Nat.mul_le_mul h1 h5, Nat.mul_le_mul h2 h6⟩
theorem fN {ns : List Int} (h : dZ ns = true) : 1 ≤ (aN ns).length ∧ (aN ns).length ≤ 27 := by
 obtain ⟨h1, h2⟩ := cC h
 have q := tW ns.reverse fun n hn => h2 n (List.mem_reverse.mp hn)
 rw [List.reverse_reverse, List.length_reverse] at q
 refine ⟨q.1, Nat.le_trans q.2 ?_⟩
 exact Nat.le_trans (Nat.pow_le_pow_right (n := 3) (by decide) h1) (by decide)
theorem sN {ds : List D} {f : List Int → D} {d : D} (h : k9 ds f = some d) : ∃ ns, ds = ns.map D.int ∧ dZ ns = true ∧ d = f ns := by
 unfold k9 at h
 split at h
 ·rename_i ns e
  split at h
  ·rename_i ho
   cases h
   exact ⟨ns, jF e, ho, rfl⟩
  ·cases h
 ·cases h
theorem o6 {ns : List Int} (f : List Int → D) (h : dZ ns = true) : k9 (ns.map D.int) f = some (f ns) := by
 unfold k9
 rw [eW]
 simp [h]
def aM (K : PySem.W.Frag) (mg : Str → Option Value) (x : Str) (st : Stmt) (ps : List Str) : Prop := ∃ f fd, Fun K x x st f fd ∧ mg x = some (.ref f) ∧ oH K fd ps []
theorem aHi {K : PySem.W.Frag} {h : Heap} {mg : Str → Option Value} {x : Str} {st : Stmt} {ps : List Str} {f : Addr} {od an : Option Addr} {sl : Array (Option Value)} {oc kV dc pm cd ct : Value} (X : K.In h) (G : h.Ns mainGlobals mg)
  (a : PySem.W.nsIn K mainGlobals x = some (some (.ref f))) (l : K.lookup f = some ⟨oc, od, .func (PySem.W.fnOf x x (kB st) (aR st) (aD st) .none kV dc pm an cd ct), sl⟩) (c : PySem.W.codeIn K cd x = true) (k : PySem.W.keepIn K (.ref f) = true)
  (hb : ∀ (kV doc pm : Value) (an : Option Addr) (cdv ct : Value) (us : List Value), us.length = ps.length → bindArgs (PySem.W.fnOf x x (kB st) (aR st) (aD st) .none kV doc pm an cdv ct) ⟨us, []⟩ = pure (ps.zip us)) : aM K mg x st ps :=
 ⟨f, _, aEh (st := st) l c k, PySem.W.mg_of X G a, (aEh (st := st) l c k).binds hb⟩
theorem aNj {P : Program} {w : World} {K : PySem.W.Frag} {mg : Str → Option Value} {base : Heap} {x qual : Str} {st : Stmt} {f : Addr} {fd : FuncData} {N ps : List Str} {k : Nat} {F : List D → Option (D → Prop)} {g : GS} (Fn : Fun K x qual st f fd) (S : aW N ps (aD st))
  (hl : ∀ ds p, F ds = some p → ds.length = ps.length)
  (hb : ∀ (cdv : Value) (A : Around) (outer : List Env) (s : Shared) (H : Hp) (E : XK), cB k (A.deeper (envOfC qual (aD st) s.heap.objs.size f cdv)) → jA (dL jE P w K mg base N qual (aD st) f cdv A outer s H E).nox (aR st) g)
  (hv : ∀ ds p, F ds = some p → g { nx := fun _ => p .non, rt := p } (bD N ds)) : qA P w K mg base jE (k + 1) f fd ps (spR K F) := by
 refine Fn.ok S (fun vs H Q E h => ?_) (fun cdv A outer s H vs Q E hr h => ?_)
 ·obtain ⟨C, ds, p, _, _, n, e, _⟩ := h
  rw [n.length]
  exact hl ds p e
 ·obtain ⟨C, ds, pd, ch, tb, n, e, q⟩ := h
  obtain ⟨t, p, h⟩ := hb cdv A outer s H E hr
  refine ⟨t, p, h C H (bD N ds) (lL N vs) C H _ _ (oM ch tb n) (hv ds pd e) ⟨fun δ σ C' H' rp z => ?_, fun r v C' H' ex nv z => ?_, fun _ _ _ _ _ z => z.elim, fun _ _ _ _ _ z => z.elim⟩⟩
  ·exact q .non _ C' H' z rp.ext (eD.mpr rfl)
  ·exact q r v C' H' z ex nv
theorem us1 {P : List Value → Prop} (h : ∀ a, P [a]) : ∀ us : List Value, us.length = 1 → P us
 | [a], _ => h a
theorem us2 {P : List Value → Prop} (h : ∀ a b, P [a, b]) : ∀ us : List Value, us.length = 2 → P us
 | [a, b], _ => h a b
theorem us3 {P : List Value → Prop} (h : ∀ a b c, P [a, b, c]) : ∀ us : List Value, us.length = 3 → P us
 | [a, b, c], _ => h a b c
theorem us4 {P : List Value → Prop} (h : ∀ a b c d, P [a, b, c, d]) : ∀ us : List Value, us.length = 4 → P us
 | [a, b, c, d], _ => h a b c d
theorem us5 {P : List Value → Prop} (h : ∀ a b c d e, P [a, b, c, d, e]) : ∀ us : List Value, us.length = 5 → P us
 | [a, b, c, d, e], _ => h a b c d e
theorem us6 {P : List Value → Prop} (h : ∀ a b c d e f, P [a, b, c, d, e, f]) : ∀ us : List Value, us.length = 6 → P us
 | [a, b, c, d, e, f], _ => h a b c d e f
def xL (x : D) : List D → Option (List Bool)
 | [] => some []
 | y :: ys => match oA y x, xL x ys with
  | some a, some b => some (a :: b)
  | _, _ => none
theorem aFb {x : D} : ∀ {ds : List D} {bs : List Bool}, xL x ds = some bs → bs.length = ds.length ∧ ∀ (j : Nat) d, ds[j]? = some d → ∃ b, bs[j]? = some b ∧ oA d x = some b
 | [], bs, h => by
  cases h
  exact ⟨rfl, fun j d e => by simp at e⟩
 | y :: ys, bs, h => by
  unfold xL at h
  cases e1 : oA y x with
  | none => rw [e1] at h; cases h
  | some a =>
   cases e2 : xL x ys with
   | none => rw [e1, e2] at h; cases h
   | some b =>
    rw [e1, e2] at h
    cases h
    obtain ⟨h1, h2⟩ := aFb e2
    refine ⟨by simp [h1], fun j d e => ?_⟩
    cases j with
    | zero => cases e; exact ⟨a, rfl, e1⟩
    | succ j => exact h2 j d e
section
variable {X : Cx} {pins : List (Addr × Obj)} {σ : St} {H C : Hp} {s : Shared}
open Classical in
noncomputable def aCh (K : PySem.W.Frag) (C : Hp) (x : D) (u : Value) : Bool := decide (∃ z d, dS z u ∧ jX K C z d ∧ oA d x = some true)
open Classical in
theorem tH (I : bE X pins σ H s) (ch : cM C H) {A : Around} {dx : D} {x : V} {v : Value} {xs : List V} {its : List Value} {ds : List D} {bs : List Bool} (hu : A.units + 32 < cLine) (hd : rS ds ≤ 32) (rx : dS x v) (nx : jX X.K C x dx)
  (r : dE xs its) (n : bZ X.K C xs ds) (h : xL dx ds = some bs) : (∀ y ∈ its, SeqAt.EqAt A s y v (aCh X.K C dx y)) ∧ its.map (aCh X.K C dx) = bs := by
 obtain ⟨h1, h2⟩ := aFb h
 have key : ∀ (j : Nat) y, its[j]? = some y → ∃ b, bs[j]? = some b ∧ aCh X.K C dx y = b ∧ SeqAt.EqAt A s y v b := by
  intro j y e
  have hj : j < its.length := (List.getElem?_eq_some_iff.mp e).1
  have hl := r.length
  have hl2 := n.length
  have ed : ds[j]? = some (ds[j]'(by omega)) := List.getElem?_eq_getElem _
  obtain ⟨z, ez, nz⟩ := n.get ed
  obtain ⟨y', ey, ry⟩ := r.get ez
  rw [e] at ey
  cases ey
  obtain ⟨b, eb, q⟩ := h2 j _ ed
  refine ⟨b, eb, ?_, aDY I ch 32 _ dx b A z x y v (Nat.le_trans (rB ed) hd) hu q ry rx nz nx⟩
  cases b with
  | true =>
   unfold aCh
   exact decide_eq_true ⟨z, _, ry, nz, q⟩
  | false =>
   unfold aCh
   refine decide_eq_false fun ⟨z', d', r', n', q'⟩ => ?_
   have e1 := r'.inj ry
   subst e1
   have e2 := xV I ch _ _ n' nz
   subst e2
   rw [q] at q'
   cases q'
 refine ⟨fun y hy => ?_, ?_⟩
 ·obtain ⟨j, hj, rfl⟩ := List.mem_iff_getElem.mp hy
  obtain ⟨b, _, e, q⟩ := key j _ (List.getElem?_eq_getElem hj)
  rw [e]; exact q
 ·refine List.ext_getElem? fun j => ?_
  rw [List.getElem?_map]
  cases e : its[j]? with
  | none =>
   have : its.length ≤ j := List.getElem?_eq_none_iff.mp e
   have hl := r.length
   have hl2 := n.length
   exact (List.getElem?_eq_none_iff.mpr (by omega)).symm
  | some y =>
   obtain ⟨b, eb, e2, _⟩ := key j y e
   rw [eb, Option.map_some, e2]
end
section
variable {X : Cx} {a b c e o : Expr} {es : List Expr} {pos : Pos} {ga gb gc gd : GE} {gf : GF}
def kD : D → Option (List D)
 | .tup ds => some ds
 | .lst ds => some ds
 | _ => none
def oIn : GO := fun x y Q => match kD y with
 | some ds => rS ds ≤ 32 ∧ match xL x ds with
  | some bs => Q (.bl (bs.any id))
  | none => False
 | none => False
def qH : GO := fun x y Q => match kD y with
 | some ds => rS ds ≤ 32 ∧ match xL x ds with
  | some bs => Q (.bl (!bs.any id))
  | none => False
 | none => False
def aM1 (K : PySem.W.Frag) (neg : Bool) : R2 := fun x y H R => ∃ C dx p xs ds bs, cM C H ∧ jX K C x dx ∧ y = .ref p ∧ (kK K H p xs ∨ jN K H p xs) ∧ bZ K C xs ds ∧ rS ds ≤ 32 ∧ xL dx ds = some bs ∧ R (.bl (if neg then !bs.any id else bs.any id)) H
theorem x5 (its : List Value) (f : Value → Bool) : its.toArray.any f = (its.map f).any id := by
 simp [List.any_map, Function.comp_def]
theorem aCu {K : PySem.W.Frag} {C H : Hp} {v : V} {y : D} {ds : List D} (ch : cM C H) (n : jX K C v y) (e : kD y = some ds) : ∃ p xs, v = .ref p ∧ (kK K H p xs ∨ jN K H p xs) ∧ bZ K C xs ds := by
 cases y with
 | tup ys => cases e; obtain ⟨p, xs, rfl, hx, hd⟩ := bS.mp n; exact ⟨p, xs, rfl, .inr (ch.seqT hx), hd⟩
 | lst ys => cases e; obtain ⟨p, xs, rfl, hx, hd⟩ := cF.mp n; exact ⟨p, xs, rfl, .inl (ch.seq hx), hd⟩
 | _ => cases e
theorem aME (hu : X.A.units + 64 < cLine) : DOp X (compareOp .In) oIn := by
 refine ⟨aM1 X.K false, fun pins s σ H x y v u Q I rx ry h => ?_, fun x y dx dy C H Q R ch n1 n2 q k => ?_⟩
 ·obtain ⟨C, dx, p, xs, ds, bs, ch, nx, rfl, hq, nd, hd, ha, q⟩ := h
  cases ry
  rcases hq with hq | hq
  ·obtain ⟨its, r, pl, hz⟩ := I.list hq
   obtain ⟨h1, h2⟩ := tH I ch (A := X.A.in1) (by show X.A.units + 1 + 32 < cLine; omega) hd rx nx r nd ha
   refine SeqAt.in_listAt (aCh X.K C dx) pl.isList (fun w hw => h1 w (by simpa using hw)) ⟨.bl _, H, I, rfl, ?_⟩
   rw [x5, h2]
   exact q
  ·obtain ⟨its, r, pl, hz⟩ := I.tuple hq
   obtain ⟨h1, h2⟩ := tH I ch (A := X.A.in1) (by show X.A.units + 1 + 32 < cLine; omega) hd rx nx r nd ha
   refine SeqAt.in_tupleAt (aCh X.K C dx) pl (fun w hw => h1 w (by simpa using hw)) ⟨.bl _, H, I, rfl, ?_⟩
   rw [x5, h2]
   exact q
 ·unfold oIn at q
  split at q
  ·rename_i ds e
   obtain ⟨hd, q⟩ := q
   split at q
   ·rename_i bs e2
    obtain ⟨p, xs, rfl, hx, nd⟩ := aCu ch n2 e
    exact ⟨C, dx, p, xs, ds, bs, ch, n1, rfl, hx, nd, hd, e2, k _ _ C H q (d7.refl ch) (cP.mpr rfl)⟩
   ·exact q.elim
  ·exact q.elim
theorem aDo (hu : X.A.units + 64 < cLine) : DOp X (compareOp .NotIn) qH := by
 refine ⟨aM1 X.K true, fun pins s σ H x y v u Q I rx ry h => ?_, fun x y dx dy C H Q R ch n1 n2 q k => ?_⟩
 ·obtain ⟨C, dx, p, xs, ds, bs, ch, nx, rfl, hq, nd, hd, ha, q⟩ := h
  cases ry
  rcases hq with hq | hq
  ·obtain ⟨its, r, pl, hz⟩ := I.list hq
   obtain ⟨h1, h2⟩ := tH I ch (A := X.A.in1) (by show X.A.units + 1 + 32 < cLine; omega) hd rx nx r nd ha
   refine SeqAt.notIn_listAt (aCh X.K C dx) pl.isList (fun w hw => h1 w (by simpa using hw)) ⟨.bl _, H, I, rfl, ?_⟩
   rw [x5, h2]
   exact q
  ·obtain ⟨its, r, pl, hz⟩ := I.tuple hq
   obtain ⟨h1, h2⟩ := tH I ch (A := X.A.in1) (by show X.A.units + 1 + 32 < cLine; omega) hd rx nx r nd ha
   refine SeqAt.notIn_tupleAt (aCh X.K C dx) pl (fun w hw => h1 w (by simpa using hw)) ⟨.bl _, H, I, rfl, ?_⟩
   rw [x5, h2]
   exact q
 ·unfold qH at q
  split at q
  ·rename_i ds e
   obtain ⟨hd, q⟩ := q
   split at q
   ·rename_i bs e2
    obtain ⟨p, xs, rfl, hx, nd⟩ := aCu ch n2 e
    exact ⟨C, dx, p, xs, ds, bs, ch, n1, rfl, hx, nd, hd, e2, k _ _ C H q (d7.refl ch) (cP.mpr rfl)⟩
   ·exact q.elim
  ·exact q.elim
end
open AutoSeq1 (wpAny_loadPart')
section
variable {prog : Program} {w : World} {A : Around} {E : Value → Shared → Prop} {s : Shared}
theorem aEW {e it src : Addr} {k : Nat} {xs : Array Value} {x old : Value} {Q : Value → Shared → Prop} (he : IsEnum s.heap e it k old) (a : At s.heap it src k xs) (hx : xs[k]? = some x) (ne : e ≠ it) (ns : src ≠ it) (nse : src ≠ e)
  (hQ : ∀ h', IsEnumOut h' e it ((k : Int) + 1) x s.heap.objs.size → At h' it src (k + 1) xs → IsPair h' s.heap.objs.size (.int k s.toks) x → (∀ b o, b ≠ e → b ≠ it → s.heap.get? b = some o → h'.get? b = some o) → Q (.ref s.heap.objs.size) { s with heap := h', toks := s.toks + 1 }) :
  wpAny (model prog w) A (Builtin.«enumerate.__next__» ⟨[.ref e], []⟩) (fun fin s' => ∃ v, fin = .done (.ret v) ∧ Q v s') E s := by
 obtain ⟨hp, g, d, tk, os⟩ := s
 refine wpAny_bind (m := field (.ref e) 2) (wpAny_field he rfl (x := .ref it) rfl ?_)
 refine wpAny_bind (xW a ns hx fun h1 a1 sb1 => ?_)
 replace sb1 : Heap.SameBut it hp h1 := sb1
 have en1 : IsEnum h1 e it k old := (sb1.2 e ne).trans he
 refine wpAny_bind (m := field (.ref e) 3) (wpAny_field en1 rfl (x := rawInt k) rfl ?_)
 refine wpAny_bind (m := field (.ref e) 4) (wpAny_field en1 rfl (x := .none) rfl ?_)
 refine wpAny_bind (m := mkInt k) (wpAny_mkInt ?_)
 refine wpAny_bind (m := setField (.ref e) 3 (rawInt ((k : Int) + 1))) (wpAny_setField_rec en1 (by simp) fun h2 en2 sb2 => ?_)
 replace sb2 : Heap.SameBut e h1 h2 := sb2
 replace en2 : IsEnum h2 e it ((k : Int) + 1) old := en2
 refine wpAny_bind (m := setField (.ref e) 4 .none) (wpAny_setField_rec en2 (by simp) fun h3 en3 sb3 => ?_)
 replace sb3 : Heap.SameBut e h2 h3 := sb3
 replace en3 : IsEnum h3 e it ((k : Int) + 1) old := en3
 refine wpAny_bind (m := newTuple [.int k tk, x]) (wpAny_newTuple ?_)
 have en4 : IsEnum (h3.push { cls := .type "tuple", data := .seq #[.int k tk, x] }) e it ((k : Int) + 1) old := Heap.get?_push_of_some _ en3
 generalize hh4 : h3.push { cls := .type "tuple", data := .seq #[.int k tk, x] } = h4 at en4
 show wpAny _ A _ _ E ⟨h4, g, d, tk + 1, os⟩
 have z3 : h3.objs.size = hp.objs.size := by rw [sb3.1, sb2.1, sb1.1]
 have lte : e < hp.objs.size := Heap.lt_size he
 have t4 : IsPair h4 hp.objs.size (.int k tk) x := by rw [← hh4, ← z3]; exact Heap.get?_push_size _ rfl
 have k4 : ∀ b o, b ≠ e → b ≠ it → hp.get? b = some o → h4.get? b = some o := fun b o n1 n2 q => by
  rw [← hh4]
  exact Heap.get?_push_of_some _ (sb3.extBut b o n1 (sb2.extBut b o n1 (sb1.extBut b o n2 q)))
 have a4 : At h4 it src (k + 1) xs := by
  rw [← hh4]
  exact ((a1.but sb2.extBut (Ne.symm ne) nse).but sb3.extBut (Ne.symm ne) nse).kept (fun o q => Heap.get?_push_of_some _ q) fun o q => Heap.get?_push_of_some _ q
 refine wpAny_bind (m := Builtin.SmallTypes.ownedTupleIsFree (.ref e)) ?_
 rw [z3]
 clear hh4 en3 sb3 en2 sb2 en1 sb1 a1 z3 h3 h2 h1
 unfold Builtin.SmallTypes.ownedTupleIsFree
 refine wpAny_bind (wpAny_field en4 rfl (x := .none) rfl (wpAny_pure ?_))
 simp only [if_true]
 refine wpAny_bind (wpAny_rule ?_)
 refine wpAny_bind (m := field (.ref e) 5) (wpAny_field en4 rfl (x := old) rfl ?_)
 refine wpAny_bind (wpAny_setField_rec en4 (by simp) fun h5 en5 sb5 => ?_)
 replace sb5 : Heap.SameBut e h4 h5 := sb5
 replace en5 : IsEnum h5 e it ((k : Int) + 1) x := en5
 refine wpAny_bind (m := Builtin.SmallTypes.ownedTupleHandOut (.ref e) (.ref hp.objs.size)) ?_
 unfold Builtin.SmallTypes.ownedTupleHandOut
 refine wpAny_bind (wpAny_setField_rec en5 (by simp) fun h6 en6 sb6 => ?_)
 replace sb6 : Heap.SameBut e h5 h6 := sb6
 replace en6 : IsEnumOut h6 e it ((k : Int) + 1) x hp.objs.size := en6
 refine wpAny_setField_rec en6 (by simp) fun h7 en7 sb7 => ?_
 replace sb7 : Heap.SameBut e h6 h7 := sb7
 replace en7 : IsEnumOut h7 e it ((k : Int) + 1) x hp.objs.size := en7
 have up : ∀ b o, b ≠ e → h4.get? b = some o → h7.get? b = some o := fun b o n1 q => sb7.extBut b o n1 (sb6.extBut b o n1 (sb5.extBut b o n1 q))
 refine wpAny_bind (wpAny_letGo (wpAny_pure ⟨_, rfl, hQ h7 en7 (a4.kept (fun o q => up _ o (Ne.symm ne) q) fun o q => up _ o nse q) (up _ _ (Nat.ne_of_gt lte) t4) fun b o n1 n2 q => up b o n1 (k4 b o n1 n2 q)⟩))
theorem aGd {e it src : Addr} {k : Nat} {xs : Array Value} {old : Value} {Q : Option Value → Shared → Prop} (hh : A.handled = none) (he : IsEnum s.heap e it k old) (a : At s.heap it src k xs) (hx : xs[k]? = none)
  (hQ : ∀ h', Heap.ExtBut it s.heap h' → Q none { s with heap := h' }) : wpAny (model prog w) A (pyNext (.ref e)) Q E s := by
 have hT : s.TypeIs (.ref e) "enumerate" := ⟨_, he, rfl⟩
 have nx := F.slot_enumerate_next
 unfold pyNext
 refine wpAny_bind (wpAny_attempt (wpAny_callSpecial?_slot (name := Str.ofString "__next__") hT nx (wpAny_call_entry nx hT F.entry_enumerate_next ?_ (F.args_enumerate_next_1 _))))
 refine wpAny_bind (m := field (.ref e) 2) (wpAny_field he rfl (x := .ref it) rfl ?_)
 refine wpAny_bind (yQ hh a hx fun h' x he' hx' => ?_)
 obtain ⟨o, ho, hc⟩ := hx'
 exact wpAny_bind (wpAny_isInstance (T := "StopIteration") (b := true) ⟨o, ho, hc⟩ isSubtype_stop (wpAny_pure (hQ _ he')))
end
def Ite (K : PySem.W.Frag) (kd : Bool) (l : Addr) : It :=
 ⟨fun i H => ∃ xs x, (if kd then kK K H l xs else jN K H l xs) ∧ xs[i]? = some x,
 fun i H v H' => ∃ t, H t = none ∧ v = .ref t ∧ ∀ xs, (if kd then kK K H l xs else jN K H l xs) → ∃ x, xs[i]? = some x ∧ H' = upd H t (.tup [.int i, x]),
 fun i H => ∃ xs, (if kd then kK K H l xs else jN K H l xs) ∧ xs.length ≤ i⟩
def aEO (kd : Bool) (e it l : Addr) (i : Nat) (h : Heap) : Prop := (∃ old, IsEnum h e it i old) ∧ zN kd h it l i
theorem aGw {P : Program} {w : World} {K : PySem.W.Frag} {elts : List Expr} {x1 : Nat} {pos : Pos} (kd : Bool) (e it l : Addr) (ne : e ≠ it) (nle : l ≠ e) (nli : l ≠ it) :
  aB0 P w K (.Tuple elts x1 pos) (Ite K kd l) [e, it] e (aEO kd e it l) where
 mem := by simp
 obj := fun i h st b hb => by
  obtain ⟨⟨old, he⟩, h1⟩ := st
  simp only [List.mem_cons, List.not_mem_nil, or_false] at hb
  rcases hb with rfl | rfl
  ·exact ⟨_, he, fun v q => by cases (show Data.fields _ = Data.cell v from q)⟩
  ·exact h1.obj
 keep := fun i h h' st k => by
  obtain ⟨⟨old, he⟩, h1⟩ := st
  exact ⟨⟨old, k e (by simp) _ he⟩, h1.kept fun o q => k it (by simp) o q⟩
 item := by
  intro X hP hw hK hc i pins s σ H E I hf st hg
  subst hP hw hK
  obtain ⟨xs, x, hx, ex⟩ := hg
  obtain ⟨⟨old, he⟩, h1⟩ := st
  obtain ⟨its, r1, q1⟩ := I.sqk hx
  obtain ⟨u, eu, ru⟩ := r1.get ex
  have hT : s.TypeIs (.ref e) "enumerate" := ⟨_, he, rfl⟩
  have ltT : ∀ b o, s.heap.get? b = some o → b ≠ s.heap.objs.size := fun b o q => Nat.ne_of_lt (Heap.lt_size q)
  unfold pyNext
  have nx := F.slot_enumerate_next
  refine wpAny_bind (wpAny_attempt (wpAny_callSpecial?_slot (name := Str.ofString "__next__") hT nx (wpAny_call_entry nx hT F.entry_enumerate_next
   (aEW he (h1.at q1) (x := u) (by simpa using eu) ne nli nle fun h' e' a' t' kp => wpAny_pure ?_) (F.args_enumerate_next_1 _))))
  refine ⟨.ref s.heap.objs.size, rfl, wpAny_letOwnedTupleGo_enum e' fun h2 e2 sb => ?_⟩
  have up : ∀ b o, b ≠ e → h'.get? b = some o → h2.get? b = some o := fun b o hb q => sb.extBut b o hb q
  have kp2 : ∀ b o, b ∉ [e, it] → s.heap.get? b = some o → h2.get? b = some o := fun b o hb q => by
   simp only [List.mem_cons, List.not_mem_nil, or_false, not_or] at hb
   exact up b o hb.1 (kp b o hb.1 hb.2 q)
  have eT : s.heap.objs.size ≠ e := fun q => ltT e _ he q.symm
  have tT : IsPair h2 s.heap.objs.size (.int i s.toks) u := up _ _ eT t'
  have q1' : sqk kd h' l its.toArray := by
   cases kd with
   | true => obtain ⟨o, q, r⟩ := q1; exact ⟨o, kp l o nle nli q, r⟩
   | false => obtain ⟨o, q, r⟩ := q1; exact ⟨o, kp l o nle nli q, r⟩
  have st' : aEO kd e it l (i + 1) h2 := ⟨⟨u, by simpa using e2⟩, (zN.of a' q1').kept fun o q => up _ o (Ne.symm ne) q⟩
  have fT : H s.heap.objs.size = none := I.fresh
  refine ⟨.ref s.heap.objs.size, upd H s.heap.objs.size (.tup [.int i, x]), I.turnedT (t' := s.toks + 1) (us := [.int i s.toks, u]) hf (Nat.le_refl _) kp2 (fun b hb => ?_) (.cons ⟨_, rfl⟩ (.cons ru .nil)) (by show 2 ≤ sizeLine; decide) ⟨_, tT, rfl, _, rfl⟩, rfl, ⟨_, fT, rfl, fun xs' hx' => ?_⟩, st', fun b hb => ?_⟩
  ·obtain ⟨⟨o3, e3⟩, i3⟩ := st'
   simp only [List.mem_cons, List.not_mem_nil, or_false] at hb
   rcases hb with rfl | rfl
   ·exact ⟨_, e3⟩
   ·obtain ⟨o, q, _⟩ := i3.obj; exact ⟨o, q⟩
  ·have e1 := I.sq_inj hx' hx
   subst e1
   exact ⟨x, ex, rfl⟩
  ·obtain ⟨o, q⟩ : ∃ o, s.heap.get? b = some o := by
    simp only [List.mem_cons, List.not_mem_nil, or_false] at hb
    rcases hb with rfl | rfl
    ·exact ⟨_, he⟩
    ·obtain ⟨o, q, _⟩ := h1.obj; exact ⟨o, q⟩
   rw [aV (ltT b o q)]
   exact (hf b hb).1
 done := by
  intro X hP hw hK hc i pins s σ H E I hf st hg
  subst hP hw hK
  obtain ⟨xs, hx, hend⟩ := hg
  obtain ⟨⟨old, he⟩, h1⟩ := st
  obtain ⟨its, r1, q1⟩ := I.sqk hx
  have l1 := r1.length
  refine aGd (I.ok.hd hc) he (h1.at q1) (by simp; omega) fun h' kp => ⟨rfl, I.turnedM (t' := s.toks) hf fun b o hb q => ?_⟩
  simp only [List.mem_cons, List.not_mem_nil, or_false, not_or] at hb
  exact kp b o hb.2 q
 self := fun _ _ _ _ _ st h => by
  obtain ⟨⟨old, he⟩, _⟩ := st
  exact wpAny_pyIter_enum he h
theorem aIi (kd : Bool) (l : Addr) (xs : Array Value) :
  Meets (Builtin.«enumerate.__new__» ⟨[.type "enumerate", .ref l], []⟩) (fun _ R s => sqk kd s.heap l xs ∧
   R (.ok (.ret (.ref (s.heap.push (dJ kd l)).objs.size))) { s with heap := (s.heap.push (dJ kd l)).push { cls := .type "enumerate", data := .fields #[.none, .bool false, .ref s.heap.objs.size, rawInt 0, .none, .none] } }) :=
 .of_wp fun prog w A R s h => by
  obtain ⟨hp, g, d, tk, os⟩ := s
  obtain ⟨hl, h⟩ := h
  have hsub := sub_enumerate
  have hL : sqk kd (Shared.heap ⟨hp, g, d, tk, os⟩) l xs := hl
  wp_walk using lQ hL
  refine wpAny_stack_any fun st => wpAny_pure ?_
  split
  ·rename_i c _ _ _ _ _
   cases (c == Value.type "enumerate")
   ·wp_walk using lQ hL
    exact ⟨_, rfl, h⟩
   ·wp_walk using lQ hL
    exact ⟨_, rfl, h⟩
  ·wp_walk using lQ hL
   exact ⟨_, rfl, h⟩
theorem aEk {prog : Program} {w : World} {A : Around} {E : Value → Shared → Prop} {s : Shared} {kd : Bool} {l : Addr} {xs : Array Value} {Q : Value → Shared → Prop} (hl : sqk kd s.heap l xs)
  (h : ∀ h', aEO kd (s.heap.objs.size + 1) s.heap.objs.size l 0 h' → (∀ c o, s.heap.get? c = some o → h'.get? c = some o) → Q (.ref (s.heap.objs.size + 1)) { s with heap := h' }) :
  wpAny (model prog w) A (call (.type "enumerate") [.ref l]) Q E s := by
 refine callType_new F.called_enumerate (by decide) (F.typeCall_enumerate_1 _) (F.newCall_enumerate_1 _) (fun obj => F.args_object_init_2 obj _) F.entry_enumerate_new (aIi kd l xs) ⟨hl, ?_⟩
 generalize hh1 : s.heap.push (dJ kd l) = h1
 have s1 : h1.objs.size = s.heap.objs.size + 1 := by rw [← hh1, Heap.size_push]
 have g1 : h1.get? s.heap.objs.size = some (dJ kd l) := by rw [← hh1]; exact Heap.get?_push_size _ (by rfl)
 have g5 := Heap.get?_push_size h1 (o := { cls := .type "enumerate", data := .fields #[.none, .bool false, .ref s.heap.objs.size, rawInt 0, .none, .none] }) rfl
 have u01 : ∀ c o, s.heap.get? c = some o → h1.get? c = some o := fun c o e => by rw [← hh1]; exact Heap.get?_push_of_some _ e
 rw [s1] at g5
 rw [s1]
 exact ⟨⟨_, g5, rfl⟩, h _ ⟨⟨_, g5⟩, zN.new (Heap.get?_push_of_some _ g1)⟩ fun c o e => Heap.get?_push_of_some _ (u01 _ _ e)⟩
section
variable {X : Cx}
def aMp (K : PySem.W.Frag) (kd : Bool) (ta : TA) : TI := fun σ H R => ta σ H fun vs H1 => ∃ p xs, vs = [.ref p] ∧ (if kd then kK K H1 p xs else jN K H1 p xs) ∧ R (Ite K kd p) H1
theorem aE1 {a : Expr} {ta : TA} {p pos pos' : Pos} {elts : List Expr} {x1 : Nat} (kd : Bool) (hg : Gl X "enumerate") (hm : X.mg "enumerate" = none) (hbt : bootBuiltins "enumerate" = some (.type "enumerate")) (ha : PA X [a] ta) (hs : starEach [a] X.env = [(false, eval a X.env)] := by rfl) :
  PI X (.Tuple elts x1 pos') (.Call (.Name "enumerate" p) [a] [] pos) (aMp X.K kd ta) := by
 intro pins s σ H R I h
 refine Call_ (qK I hg hm hbt (PyProof.Rows.callWith_type1 (gW (ha pos pins s σ H _ I h) fun us s1 ⟨vs, H1, I1, r1, q1⟩ => ?_) (by rw [hs]; rfl) (by rfl)))
 obtain ⟨l, xs, e, hx, q⟩ := q1
 subst e
 obtain ⟨u, rfl, r⟩ := r8 r1
 cases r
 obtain ⟨its, v1, w1⟩ := I1.sqk hx
 have lt1 : l < s1.heap.objs.size := by
  cases kd with
  | true => obtain ⟨o, e, _⟩ := w1; exact Heap.lt_size e
  | false => obtain ⟨o, e, _⟩ := w1; exact Heap.lt_size e
 refine aEk w1 fun h' st kp => ?_
 obtain ⟨⟨old, he⟩, hit⟩ := id st
 refine wpAny_pyIter_enum he ?_
 have I2 : bE X pins σ H1 { s1 with heap := h' } := I1.kept (t' := s1.toks) kp
 generalize hn : s1.heap.objs.size = n at *
 have lt1' : @LT.lt Nat _ l n := lt1
 refine ⟨n + 1, _, _, _, H1, rfl, I2, aGw kd (n + 1) n l (fun z => by have z' : @Eq Nat _ _ := z; omega) (fun z => by have z' : @Eq Nat _ _ := z; omega) (fun z => by have z' : @Eq Nat _ _ := z; omega), st, fun b hb => ?_, q⟩
 have hb' : n ≤ b := by
  simp only [List.mem_cons, List.not_mem_nil, or_false] at hb
  rcases hb with rfl | rfl <;> first | exact Nat.le_refl _ | exact Nat.le_add_right _ _
 exact I1.fpOk (by rw [hn]; exact hb') (I1.hok.fresh (by rw [hn]; exact hb'))
variable {a b c e : Expr} {es : List Expr} {pos : Pos} {ga gb : GE}
def p7 (ds : List D) : List D := (List.range ds.length).zipWith (fun (k : Nat) d => D.tup [.int k, d]) ds
theorem tQ (ds : List D) (i : Nat) : (p7 ds)[i]? = (ds[i]?).map fun d => D.tup [.int i, d] := by
 unfold p7
 rw [List.getElem?_zipWith]
 by_cases h : i < ds.length
 ·rw [List.getElem?_range h, List.getElem?_eq_getElem h]
  rfl
 ·have h1 : ds[i]? = none := List.getElem?_eq_none_iff.mpr (by omega)
  rw [h1]
  cases (List.range ds.length)[i]? <;> rfl
theorem pA (ds : List D) : (p7 ds).length = ds.length := by simp [p7]
def l3 (ga : GE) : GF := fun δ Q => ga δ fun d => match d with
 | .tup xs => Q (p7 xs)
 | _ => False
def vM (ga : GE) : GF := fun δ Q => ga δ fun d => match d with
 | .lst xs => Q (p7 xs)
 | _ => False
theorem aAP {K : PySem.W.Frag} {C1 : Hp} {p : Addr} {xs : List V} {ds : List D} (kd : Bool) (hx : if kd then kK K C1 p xs else jN K C1 p xs) (hd : bZ K C1 xs ds) : aDD K (Ite K kd p) (p7 ds) C1 := by
 intro C2 H2 c1 c2 i
 have hx2 : if kd then kK K H2 p xs else jN K H2 p xs := by
  cases kd with
  | true => exact c2.seq (c1.seq hx)
  | false => exact c2.seqT (c1.seqT hx)
 refine ⟨fun d e => ?_, fun hl => ⟨xs, hx2, by rw [pA] at hl; rw [hd.length]; exact hl⟩⟩
 rw [tQ] at e
 cases e1 : ds[i]? with
 | none => rw [e1] at e; cases e
 | some d1 =>
  rw [e1] at e
  cases e
  obtain ⟨v1, ev1, n1⟩ := hd.get e1
  refine ⟨⟨xs, v1, hx2, ev1⟩, fun x H3 y => ?_⟩
  obtain ⟨t, ht, rfl, k⟩ := y
  obtain ⟨u, eu, rfl⟩ := k xs hx2
  rw [ev1] at eu
  cases eu
  refine ⟨upd C2 t (.tup [.int i, v1]), d7.new c2 ht, bS.mpr ⟨t, _, rfl, jN.of bQ, ?_⟩⟩
  have up := cM.upd (o := .tup [.int i, v1]) (c2.free ht)
  exact .cons (bB.mpr rfl) (.cons ((n1.mono c1).mono up) .nil)
theorem mV {p pos' : Pos} {elts : List Expr} {x1 : Nat} (hg : Gl X "enumerate") (hm : X.mg "enumerate" = none) (hbt : bootBuiltins "enumerate" = some (.type "enumerate")) (ha : DE X a ga) (hs : starEach [a] X.env = [(false, eval a X.env)] := by rfl) :
  DI X (.Tuple elts x1 pos') (.Call (.Name "enumerate" p) [a] [] pos) (l3 ga) := by
 obtain ⟨t1, p1, h1⟩ := ha
 refine ⟨_, aE1 false hg hm hbt (e6 p1 i6 hs) hs, fun C0 H0 δ σ C H Q R rp g k => h1 C0 H0 δ σ C H _ _ rp g fun d v C1 H1 q e1 n1 => ?_⟩
 cases d with
 | tup ds =>
  obtain ⟨p, xs, rfl, hx, hd⟩ := bS.mp n1
  exact ⟨p, xs, rfl, e1.ch.seqT hx, k _ _ C1 H1 q e1 (aAP false hx hd)⟩
 | _ => exact q.elim
theorem aIp {p pos' : Pos} {elts : List Expr} {x1 : Nat} (hg : Gl X "enumerate") (hm : X.mg "enumerate" = none) (hbt : bootBuiltins "enumerate" = some (.type "enumerate")) (ha : DE X a ga) (hs : starEach [a] X.env = [(false, eval a X.env)] := by rfl) :
  DI X (.Tuple elts x1 pos') (.Call (.Name "enumerate" p) [a] [] pos) (vM ga) := by
 obtain ⟨t1, p1, h1⟩ := ha
 refine ⟨_, aE1 true hg hm hbt (e6 p1 i6 hs) hs, fun C0 H0 δ σ C H Q R rp g k => h1 C0 H0 δ σ C H _ _ rp g fun d v C1 H1 q e1 n1 => ?_⟩
 cases d with
 | lst ds =>
  obtain ⟨p, xs, rfl, hx, hd⟩ := cF.mp n1
  exact ⟨p, xs, rfl, e1.ch.seq hx, k _ _ C1 H1 q e1 (aAP true hx hd)⟩
 | _ => exact q.elim
end
theorem gB : bootBuiltins "enumerate" = some (.type "enumerate") := by decide +kernel
theorem aHx : bootBuiltins "min" = some (.builtin "min") := by decide +kernel
theorem aEU : bootBuiltins "max" = some (.builtin "max") := by decide +kernel
end L2
namespace L2
open PySem PySem.Spec PyProof.Rows
def uT : List Int → Int
 | [] => 0
 | [x] => x
 | x :: y :: r => if x ≤ uT (y :: r) then x else uT (y :: r)
def tI : List Int → Int
 | [] => 0
 | [x] => x
 | x :: y :: r => if tI (y :: r) ≤ x then x else tI (y :: r)
theorem mU : ∀ {ns : List Int}, ns ≠ [] → uT ns ∈ ns ∧ ∀ a ∈ ns, uT ns ≤ a
 | [], h => absurd rfl h
 | [x], _ => by simp [uT]
 | x :: y :: r, _ => by
  obtain ⟨h1, h2⟩ := mU (ns := y :: r) (by simp)
  unfold uT
  split
  ·rename_i hx
   refine ⟨List.mem_cons_self, fun a ha => ?_⟩
   rcases List.mem_cons.mp ha with rfl | ha
   ·omega
   ·have := h2 a ha; omega
  ·rename_i hx
   refine ⟨List.mem_cons_of_mem _ h1, fun a ha => ?_⟩
   rcases List.mem_cons.mp ha with rfl | ha
   ·omega
   ·exact h2 a ha
theorem p9 : ∀ {ns : List Int}, ns ≠ [] → tI ns ∈ ns ∧ ∀ a ∈ ns, a ≤ tI ns
 | [], h => absurd rfl h
 | [x], _ => by simp [tI]
 | x :: y :: r, _ => by
  obtain ⟨h1, h2⟩ := p9 (ns := y :: r) (by simp)
  unfold tI
  split
  ·rename_i hx
   refine ⟨List.mem_cons_self, fun a ha => ?_⟩
   rcases List.mem_cons.mp ha with rfl | ha
   ·omega
   ·have := h2 a ha; omega
  ·rename_i hx
   refine ⟨List.mem_cons_of_mem _ h1, fun a ha => ?_⟩
   rcases List.mem_cons.mp ha with rfl | ha
   ·omega
   ·exact h2 a ha
section
variable {prog : Program} {w : World} {A : Around}
theorem aE2 (hh : A.handled = none) (kd : Bool) (I l : Addr) (hne : l ≠ I) (xs : Array Value) : Walks prog w A I [I, l] [I] xs.size (fun i v => xs[i]? = some v) (fun i h => zN kd h I l i ∧ sqk kd h l xs) := by
 cases kd with
 | true => exact Walks.list hh I l hne xs
 | false => exact Walks.tuple hh I l hne xs
theorem aBT {kd : Bool} {h : Heap} {l : Addr} {xs : Array Value} (q : sqk kd h l xs) : l < h.objs.size := by
 cases kd with
 | true => obtain ⟨o, e, _⟩ := q; exact Heap.lt_size e
 | false => obtain ⟨o, e, _⟩ := q; exact Heap.lt_size e
theorem aKg {h : Heap} {l : Addr} {o : Obj} (hl : l < h.objs.size) : ∀ b ∈ [h.objs.size, l], b < (h.push o).objs.size := fun b hb => by
 rw [Heap.size_push]
 rcases List.mem_cons.mp hb with rfl | hb
 ·exact Nat.lt_succ_self _
 ·rw [List.mem_singleton.mp hb]; exact Nat.lt_succ_of_lt hl
theorem aHO {kd : Bool} {h : Heap} {l : Addr} {xs : Array Value} (q : sqk kd h l xs) : zN kd (h.push (dJ kd l)) h.objs.size l 0 ∧ sqk kd (h.push (dJ kd l)) l xs :=
 ⟨zN.new (Heap.get?_push_size _ (by cases kd <;> rfl)), q.push _⟩
theorem tK {its : List Value} {ns : List Int} (r : dE (ns.map V.int) its) : ∀ (i : Nat) v, its.toArray[i]? = some v → ∃ t, v = .int (ns.getD i 0) t := fun i v e => by
 have e' : its[i]? = some v := by simpa using e
 have hi : i < its.length := (List.getElem?_eq_some_iff.mp e').1
 have hl := r.length
 rw [List.length_map] at hl
 have en : (ns.map V.int)[i]? = some (.int (ns.getD i 0)) := by
  rw [List.getElem?_map, List.getElem?_eq_getElem (by omega)]
  simp [List.getD_eq_getElem?_getD, List.getElem?_eq_getElem (show i < ns.length by omega)]
 obtain ⟨u, eu, ru⟩ := r.get en
 rw [e'] at eu
 cases eu
 exact ru
end
section
variable {X : Cx}
def aHB (K : PySem.W.Frag) (ok : List Int → Prop) (f : List Int → Int) : List V → Hp → VK → Prop := fun xs H Q => ∃ p kd ns, xs = [.ref p] ∧ (if kd = true then kK K H p (ns.map V.int) else jN K H p (ns.map V.int)) ∧ ok ns ∧ Q (.int (f ns)) H
theorem aGR (hc : X.calm = true) : mT X (.builtin "min") (aHB X.K (· ≠ []) uT) := by
 intro pins s σ H xs us Q I r h
 obtain ⟨p, kd, ns, rfl, hq, hne, q⟩ := h
 obtain ⟨u, rfl, rx⟩ := r8 r
 cases rx
 obtain ⟨its, r', w1⟩ := I.sqk hq
 have hl := r'.length
 rw [List.length_map] at hl
 have hn : 0 < ns.length := List.length_pos_iff.mpr hne
 refine call_min_walk (lQ w1 ?_)
 refine ⟨s.heap.objs.size, _, _, its.toArray.size, _, _, fun i j => decide (ns.getD i 0 < ns.getD j 0), rfl, aE2 (A := X.A.in1) (I.ok.hd hc) kd _ p (Nat.ne_of_lt (aBT w1)) its.toArray, aHO w1, aKg (aBT w1), by rw [List.size_toArray]; omega,
  CmpOf.ints_lt (fun i => ns.getD i 0) (tK r'), fun v h' tk hP hk => ?_⟩
 obtain ⟨t, rfl⟩ := tK r' _ _ hP
 obtain ⟨b1, b2⟩ := argBest_lt (fun i => ns.getD i 0) (its.toArray.size - 1)
 have e : ns.getD (argBest (fun i j => decide (ns.getD i 0 < ns.getD j 0)) (its.toArray.size - 1)) 0 = uT ns := by
  obtain ⟨m1, m2⟩ := mU hne
  rw [List.size_toArray] at b1 b2 ⊢
  have hi : argBest (fun i j => decide (ns.getD i 0 < ns.getD j 0)) (its.length - 1) < ns.length := by omega
  have c1 : ns.getD (argBest (fun i j => decide (ns.getD i 0 < ns.getD j 0)) (its.length - 1)) 0 ∈ ns := by
   rw [List.getD_eq_getElem?_getD, List.getElem?_eq_getElem hi, Option.getD_some]
   exact List.getElem_mem hi
  obtain ⟨j, hj, ej⟩ := List.mem_iff_getElem.mp m1
  have c2 := b2 j (by omega)
  have e2 : ns.getD j 0 = uT ns := by
   rw [List.getD_eq_getElem?_getD, List.getElem?_eq_getElem hj, Option.getD_some]
   exact ej
  rw [e2] at c2
  have := m2 _ c1
  omega
 rw [e]
 exact ⟨.int (uT ns), H, I.kept (t' := tk) (aBN hk), ⟨t, rfl⟩, q⟩
theorem aGE (hc : X.calm = true) : mT X (.builtin "max") (aHB X.K (· ≠ []) tI) := by
 intro pins s σ H xs us Q I r h
 obtain ⟨p, kd, ns, rfl, hq, hne, q⟩ := h
 obtain ⟨u, rfl, rx⟩ := r8 r
 cases rx
 obtain ⟨its, r', w1⟩ := I.sqk hq
 have hl := r'.length
 rw [List.length_map] at hl
 have hn : 0 < ns.length := List.length_pos_iff.mpr hne
 refine call_max_walk (lQ w1 ?_)
 refine ⟨s.heap.objs.size, _, _, its.toArray.size, _, _, fun i j => decide (ns.getD i 0 > ns.getD j 0), rfl, aE2 (A := X.A.in1) (I.ok.hd hc) kd _ p (Nat.ne_of_lt (aBT w1)) its.toArray, aHO w1, aKg (aBT w1), by rw [List.size_toArray]; omega,
  CmpOf.ints_gt (fun i => ns.getD i 0) (tK r'), fun v h' tk hP hk => ?_⟩
 obtain ⟨t, rfl⟩ := tK r' _ _ hP
 obtain ⟨b1, b2⟩ := argBest_gt (fun i => ns.getD i 0) (its.toArray.size - 1)
 have e : ns.getD (argBest (fun i j => decide (ns.getD i 0 > ns.getD j 0)) (its.toArray.size - 1)) 0 = tI ns := by
  obtain ⟨m1, m2⟩ := p9 hne
  rw [List.size_toArray] at b1 b2 ⊢
  have hi : argBest (fun i j => decide (ns.getD i 0 > ns.getD j 0)) (its.length - 1) < ns.length := by omega
  have c1 : ns.getD (argBest (fun i j => decide (ns.getD i 0 > ns.getD j 0)) (its.length - 1)) 0 ∈ ns := by
   rw [List.getD_eq_getElem?_getD, List.getElem?_eq_getElem hi, Option.getD_some]
   exact List.getElem_mem hi
  obtain ⟨j, hj, ej⟩ := List.mem_iff_getElem.mp m1
  have c2 := b2 j (by omega)
  have e2 : ns.getD j 0 = tI ns := by
   rw [List.getD_eq_getElem?_getD, List.getElem?_eq_getElem hj, Option.getD_some]
   exact ej
  rw [e2] at c2
  have := m2 _ c1
  omega
 rw [e]
 exact ⟨.int (tI ns), H, I.kept (t' := tk) (aBN hk), ⟨t, rfl⟩, q⟩
def uI (ok : List Int → Prop) (f : List Int → Int) : List D → (D → Prop) → Prop := fun ds Q => match ds with
 | [d] => match kD d with
  | some xs => match g6 xs with
   | some ns => ok ns ∧ Q (.int (f ns))
   | none => False
  | none => False
 | _ => False
theorem aE8 {id : String} {ok : List Int → Prop} {f : List Int → Int} (h : mT X (.builtin id) (aHB X.K ok f)) : wN X (.builtin id) (uI ok f) := by
 refine ⟨_, h, fun xs ds C H Q R ch n q k => ?_⟩
 unfold uI at q
 split at q
 ·rename_i d
  obtain ⟨v, rfl, n1⟩ := j4 n
  split at q
  ·rename_i ys e
   split at q
   ·rename_i ns e2
    obtain ⟨p, zs, rfl, hx, nd⟩ := aCu ch n1 e
    rw [jF e2] at nd
    have e3 := nd.ints
    subst e3
    rcases hx with hx | hx
    ·exact ⟨p, true, ns, rfl, hx, q.1, k _ _ C H q.2 (d7.refl ch) (bB.mpr rfl)⟩
    ·exact ⟨p, false, ns, rfl, hx, q.1, k _ _ C H q.2 (d7.refl ch) (bB.mpr rfl)⟩
   ·exact q.elim
  ·exact q.elim
 ·exact q.elim
abbrev aLD := uI (· ≠ []) uT
abbrev aJD := uI (· ≠ []) tI
theorem aHl (hc : X.calm = true) : wN X (.builtin "min") aLD := aE8 (aGR hc)
theorem aD5 (hc : X.calm = true) : wN X (.builtin "max") aJD := aE8 (aGE hc)
def aJb : List D → (D → Prop) → Prop := fun ds Q => match ds with
 | [.bl b] => Q (.int (if b then 1 else 0))
 | [.int i] => Q (.int i)
 | _ => False
def aCV : D → Bool
 | .non => true
 | _ => false
theorem aBb {K : PySem.W.Frag} {C : Hp} {v : V} {d : D} (n : jX K C v d) : decide (v = V.non) = aCV d := by
 cases d with
 | non => rw [eD.mp n]; rfl
 | int i => rw [bB.mp n]; rfl
 | bl i => rw [cP.mp n]; rfl
 | str i => rw [g9.mp n]; rfl
 | tup ds => obtain ⟨p, xs, rfl, _⟩ := bS.mp n; rfl
 | lst ds => obtain ⟨p, xs, rfl, _⟩ := cF.mp n; rfl
def aBl : GO := fun x y Q => match y with
 | .non => Q (.bl (aCV x))
 | .bl b => match x with
  | .bl a => Q (.bl (a == b))
  | _ => False
 | _ => False
def t5 : GO := fun x y Q => match y with
 | .non => Q (.bl (!aCV x))
 | .bl b => match x with
  | .bl a => Q (.bl (a != b))
  | _ => False
 | _ => False
theorem aEd : DOp X (compareOp .Is) aBl := by
 refine ⟨_, aKB.or aK2, fun x y dx dy C H Q R ch n1 n2 q k => ?_⟩
 cases dy with
 | non => exact .inr ⟨eD.mp n2, k _ _ C H q (d7.refl ch) (cP.mpr (by rw [aBb n1]))⟩
 | bl j =>
  cases dx with
  | bl i => exact .inl ⟨i, j, cP.mp n1, cP.mp n2, k _ _ C H q (d7.refl ch) (cP.mpr rfl)⟩
  | _ => exact q.elim
 | _ => exact q.elim
theorem aG4 : DOp X (compareOp .IsNot) t5 := by
 refine ⟨_, aGy.or aIO, fun x y dx dy C H Q R ch n1 n2 q k => ?_⟩
 cases dy with
 | non => exact .inr ⟨eD.mp n2, k _ _ C H q (d7.refl ch) (cP.mpr (by rw [aBb n1]))⟩
 | bl j =>
  cases dx with
  | bl i => exact .inl ⟨i, j, cP.mp n1, cP.mp n2, k _ _ C H q (d7.refl ch) (cP.mpr rfl)⟩
  | _ => exact q.elim
 | _ => exact q.elim
variable {a b c e : Expr} {es : List Expr} {pos : Pos} {ga gb gc : GE} {gf : GF}
def aHG (gf : GF) (gb : GE) : GF := fun δ Q => gf δ fun ds => gb δ fun k => match k with
 | .int k => (-(2 ^ 63) ≤ k ∧ k < 2 ^ 63 ∧ ds.length * k.toNat ≤ sizeLine) ∧ Q (List.replicate k.toNat ds).flatten
 | _ => False
theorem aKz (ha : DF X a gf) (hb : DE X b gb) : DF X (.BinOp a .Mult b pos) (aHG gf gb) := by
 obtain ⟨t1, p1, h1⟩ := ha
 obtain ⟨t2, p2, h2⟩ := hb
 refine ⟨_, aH5 aLq p1 p2, fun C0 H0 δ σ C H Q R rp g k => ?_⟩
 refine h1 C0 H0 δ σ C H _ _ rp g fun ds p xs C1 H1 q e1 hc hn hl hd => h2 C0 H0 δ σ C1 H1 _ _ (rp.grow e1) q fun d2 v2 C2 H2 q2 e2 n2 => ?_
 cases d2 with
 | int j =>
  obtain ⟨⟨c1, c2, c3⟩, q2⟩ := q2
  rw [bB.mp n2]
  have e12 := e1.trans e2
  exact ⟨p, j, xs, rfl, rfl, e2.hh _ _ hl, c1, c2, by rw [hd.length]; exact c3, fun l hl2 => k _ l _ C2 _ q2 (e12.trans (d7.newO e2.ch hl2)) (e2.ch.free hl2) (e12.hh.free hl2) bQ ((hd.mono e2.cc).rep _)⟩
 | _ => exact q2.elim
def aJx (ga : GE) (gl gh : GP) : GF := fun δ Q => ga δ fun d => gl δ fun lo => gh δ fun hi => match d with
 | .lst ds => Q (rO ds lo hi)
 | _ => False
theorem aHC {lo hi : Option Expr} {gl gh : GP} {p2 : Pos} (ha : DE X a ga) (hl : DO X lo gl) (hh : DO X hi gh) : DF X (.Subscript a (.Slice lo hi none p2) pos) (aJx ga gl gh) := by
 obtain ⟨t1, p1, h1⟩ := ha
 obtain ⟨t2, p2', h2⟩ := hl
 obtain ⟨t3, p3, h3⟩ := hh
 refine ⟨_, aDX aJd p1 p2' p3, fun C0 H0 δ σ C H Q R rp g k => ?_⟩
 refine h1 C0 H0 δ σ C H _ _ rp g fun d v C1 H1 q e1 n1 => h2 C0 H0 δ σ C1 H1 _ _ (rp.grow e1) q fun o C2 H2 q2 e2 => h3 C0 H0 δ σ C2 H2 _ _ ((rp.grow e1).grow e2) q2 fun o2 C3 H3 q3 e3 => ?_
 have n1' := (n1.mono e2.cc).mono e3.cc
 have e123 := e1.trans (e2.trans e3)
 cases d with
 | lst ds =>
  obtain ⟨p, xs, rfl, hx, hd⟩ := cF.mp n1'
  exact ⟨p, xs, rfl, e3.ch.seq hx, fun p' hp => k _ p' _ C3 _ q3 (e123.trans (d7.newO e3.ch hp)) (e3.ch.free hp) (e123.hh.free hp) bQ (aCy hd)⟩
 | _ => exact q3.elim
def aD0 (i j : Nat) (ga gb : GE) : GS := fun De δ => ga δ fun x => gb δ fun y => De.nx ((δ.set i (.im x)).set j (.im y))
theorem aK5 {i j : Nat} {tg : Expr} {k2 : Nat} {pt2 : Pos} (ha : DE X a ga) (hb : DE X b gb) (hp : ∀ {ta : TA}, PA X [a, b] ta → PS X (.Assign [tg] (.Tuple [a, b] k2 pt2) pos) (aMW i j ta))
  (hs : starEach [a, b] X.env = (false, eval a X.env) :: starEach [b] X.env := by rfl) (hs2 : starEach [b] X.env = (false, eval b X.env) :: starEach [] X.env := by rfl) : DSt X (.Assign [tg] (.Tuple [a, b] k2 pt2) pos) (aD0 i j ga gb) := by
 obtain ⟨t1, p1, h1⟩ := ha
 obtain ⟨t2, p2, h2⟩ := hb
 refine ⟨_, hp (e6 p1 (e6 p2 i6 hs2) hs), fun C0 H0 δ σ C H De E rp g k => h1 C0 H0 δ σ C H _ _ rp g fun d v C1 H1 q e1 n1 => h2 C0 H0 δ σ C1 H1 _ _ (rp.grow e1) q fun d2 v2 C2 H2 q2 e2 n2 => ?_⟩
 exact ⟨v, v2, rfl, k.nx _ _ C2 H2 ((((rp.grow e1).grow e2).setI (n1.mono e2.cc)).setI n2) q2⟩
end
section
variable {X : Cx} {a b c e : Expr} {es : List Expr} {pos : Pos} {ga gb gc : GE} {gf : GF} {ta : TE}
theorem aJq (ha : PE X a ta) : PE X (.UnaryOp .Not a pos) (fun σ H Q => ta σ H fun x H' => ∃ k, aLn X.K x H' k ∧ Q (.bl (!k)) H') := by
 intro pins s σ H Q I h
 refine UnaryOp_ (gW (ha pins s σ H _ I h) fun v s1 ⟨x, H1, I1, r1, q1⟩ => ?_)
 exact not_of (gW (aHp pins s1 σ H1 x v (fun k H' => Q (.bl (!k)) H') I1 r1 q1) fun k s2 ⟨H2, I2, q2⟩ => ⟨.bl (!k), H2, I2, rfl, q2⟩)
def aHN (d : D) (Q : Bool → Prop) : Prop := match d with
 | .bl b => Q b
 | .int i => Q (i != 0)
 | .non => Q false
 | .str x => x.length ≤ sizeLine ∧ Q ((x.length : Int) != 0)
 | .tup ds => Q (!ds.isEmpty)
 | .lst ds => Q (!ds.isEmpty)
def yD (ga : GE) : GE := fun δ Q => ga δ fun d => aHN d fun k => Q (.bl (!k))
theorem aJn (ha : DE X a ga) : DE X (.UnaryOp .Not a pos) (yD ga) := by
 obtain ⟨t1, p1, h1⟩ := ha
 refine ⟨_, aJq p1, fun C0 H0 δ σ C H Q R rp g k => h1 C0 H0 δ σ C H _ _ rp g fun d v C1 H1 q e1 n1 => ?_⟩
 have fin : ∀ b : Bool, Q (.bl (!b)) → R (.bl (!b)) H1 := fun b q => k _ _ C1 H1 q e1 (cP.mpr rfl)
 cases d with
 | bl b => rw [cP.mp n1]; exact ⟨b, rfl, fin _ q⟩
 | int i => rw [bB.mp n1]; exact ⟨_, rfl, fin _ q⟩
 | non => rw [eD.mp n1]; exact ⟨_, rfl, fin _ q⟩
 | str i => rw [g9.mp n1]; exact ⟨_, ⟨q.1, rfl⟩, fin _ q.2⟩
 | tup ds =>
  obtain ⟨p, xs, rfl, hx, hd⟩ := bS.mp n1
  refine ⟨_, .inr (.inl ⟨xs, e1.ch.seqT hx, rfl⟩), fin _ ?_⟩
  rw [pH hd]; exact q
 | lst ds =>
  obtain ⟨p, xs, rfl, hx, hd⟩ := cF.mp n1
  refine ⟨_, .inl ⟨xs, e1.ch.seq hx, rfl⟩, fin _ ?_⟩
  rw [pH hd]; exact q
end
section
variable {prog : Program} {w : World} {A : Around} {R : Result → Shared → Prop}
end
namespace HG
section
open PySem.SeqAt
open PySem.AutoSeq1 (wpAny_loadPart')
open PySem.MeetsSeq PySem.MeetsSeq2 PySem.MeetsSeq3
end
end HG
section
variable {X : Cx}
end
end L2
namespace L2
open PySem PySem.Spec PyProof.Rows
structure Fl (P : Program) (w : World) (outer : List Env) (H H' : Hp) (s : Shared) (B : Heap) (a : Addr) (cls a0 : Value) (h' : Heap) : Prop where
 un : Un (frs outer) [] H H' s.heap h'
 kb : ∀ b o, s.heap.get? b = some o → H b = none → b ∉ frs outer → B.get? b = some o
 kt : ∀ b o, s.heap.get? b = some o → b ∉ frs outer → ∃ o', B.get? b = some o'
 hok : qV P w H' B
 fl : Heap.FlyingW B outer a cls a0 h'
theorem mS (b : Addr) : b ∉ ([] : List Addr) := fun z => absurd z (by simp)
section
variable {P : Program} {w : World} {outer : List Env} {H H' : Hp} {s : Shared} {B h' h'' : Heap} {a : Addr} {cls a0 : Value}
theorem aH2 (free : ∀ b o, s.heap.get? b = some o → H b = none → H' b = none) (tups : ∀ b xs, H b = some (.tup xs) → H' b = some (.tup xs)) (frzs : ∀ b o u, H b = some (.frz o u) → H' b = some (.frz o u)) (tbls : ∀ b ps, H b = some (.tbl ps) → ∃ more, H' b = some (.tbl (ps ++ more)))
  (kb : ∀ b o, s.heap.get? b = some o → H b = none → b ∉ frs outer → B.get? b = some o) (kt : ∀ b o, s.heap.get? b = some o → b ∉ frs outer → ∃ o', B.get? b = some o') (st : B.StaysIn h'')
  (sl : ∀ b o, s.heap.get? b = some o → b ∈ frs outer → H b = none → ∃ sl, h''.get? b = some { o with slots := sl }) (fr : ∀ b ∈ frs outer, H b = none) : Un (frs outer) [] H H' s.heap h'' where
 keep := fun b o q n hb _ => st b o (kb b o q n hb)
 slot := fun b o q n hb _ => sl b o q hb n
 free := fun b o q n _ => free b o q n
 there := fun b o q _ => by
  by_cases hb : b ∈ frs outer
  ·obtain ⟨x, e⟩ := sl b o q hb (fr b hb)
   exact ⟨_, e⟩
  ·obtain ⟨o', e⟩ := kt b o q hb
   exact ⟨o', st b o' e⟩
 tups := tups
 frzs := frzs
 tbls := tbls
theorem Fl.next (F : Fl P w outer H H' s B a cls a0 h') (fr : ∀ b ∈ frs outer, H b = none) (fl : Heap.FlyingW B outer a cls a0 h'') (up : h'.UpToSlots h'') : Fl P w outer H H' s B a cls a0 h'' := by
 refine ⟨aH2 (fun b o q n => F.un.free b o q n (mS b)) F.un.tups F.un.frzs F.un.tbls F.kb F.kt fl.1 (fun b o q hb n => ?_) fr, F.kb, F.kt, F.hok, fl⟩
 obtain ⟨sl, e⟩ := F.un.slot b o q n hb (mS b)
 obtain ⟨_, o2, e2, nf⟩ := F.fl.2.2.1.mem hb
 rw [e] at e2
 cases e2
 obtain ⟨sl2, e3⟩ := up b _ e nf
 exact ⟨sl2, e3⟩
end
def CX1 (P : Program) (w : World) : CXT := fun outer H s E e s' => ∃ (a : Addr) (cls a0 : Value) (H' : Hp) (B : Heap), e = .ref a ∧ s'.os = s.os ∧ AllBare s'.gens ∧ Fl P w outer H H' s B a cls a0 s'.heap ∧ E cls none H'
section
variable {P : Program} {w : World} {K : PySem.W.Frag} {mg : Str → Option Value} {base : Heap} {N : List Str} {qual : Str} {scope : Scope} {f : Addr} {cd : Value} {A : Around} {outer : List Env} {s : Shared} {H : Hp} {E E' : XK}
abbrev cx1 (P : Program) (w : World) (K : PySem.W.Frag) (mg : Str → Option Value) (base : Heap) (N : List Str) (qual : Str) (scope : Scope) (f : Addr) (cd : Value) (A : Around) (outer : List Env) (s : Shared) (H : Hp) (E : XK) : Cx := dL (CX1 P w) P w K mg base N qual scope f cd A outer s H E
theorem yA {pins : List (Addr × Obj)} {σ : St} {H1 : Hp} {s1 : Shared} (I : bE (cx1 P w K mg base N qual scope f cd A outer s H E) pins σ H1 s1) {b : Addr} {o : Obj} (q : s.heap.get? b = some o) (hb : b ∉ frs outer) : b ∉ frs (cx1 P w K mg base N qual scope f cd A outer s H E).stack := fun z => by
 rcases List.mem_cons.mp (I.stkSub b z) with z | z
 ·have lt := Heap.lt_size q
  have ab : s.heap.objs.size ≤ b := by rw [z]; exact I.ok.above
  exact absurd (Nat.lt_of_lt_of_le lt ab) (Nat.lt_irrefl _)
 ·exact hb z
theorem aEc {pins : List (Addr × Obj)} {σ : St} {H1 : Hp} {s1 s2 : Shared} {a : Addr} {cls : Value} {args : List Value} (I : bE (cx1 P w K mg base N qual scope f cd A outer s H E) pins σ H1 s1) (hx : Heap.MadeExcOf s1.heap s2.heap a cls args)
  (ho : s2.os = s1.os) (hg : AllBare s2.gens) (hE : E cls none H1) : (cx1 P w K mg base N qual scope f cd A outer s H E).xe (.ref a) s2 := by
 have hin : ∀ env ∈ (cx1 P w K mg base N qual scope f cd A outer s H E).stack, ∀ b, env.frame = some b → b ∈ frs (cx1 P w K mg base N qual scope f cd A outer s H E).stack := fun env he b hb => List.mem_filterMap.mpr ⟨env, he, hb⟩
 have hl := PySem.W.funFrames_hide I.stack hin
 refine wpAny_leaves_madeW (base := PySem.W.hideAll s1.heap (frs (cx1 P w K mg base N qual scope f cd A outer s H E).stack)) (h := s1.heap) I.ok.frames rfl (fun b o q => PySem.W.of_hideAll _ q) hl hx fun h' t x1 x2 x3 x4 => ?_
 have kb : ∀ b o, s.heap.get? b = some o → H b = none → b ∉ frs outer → (PySem.W.hideAll s1.heap (frs (cx1 P w K mg base N qual scope f cd A outer s H E).stack)).get? b = some o := fun b o q n hb =>
  PySem.W.hideAll_get _ (I.base.keep b o q n hb (mS b)) (yA I q hb)
 have kt : ∀ b o, s.heap.get? b = some o → b ∉ frs outer → ∃ o', (PySem.W.hideAll s1.heap (frs (cx1 P w K mg base N qual scope f cd A outer s H E).stack)).get? b = some o' := fun b o q hb => by
  obtain ⟨o', e⟩ := I.base.there b o q (mS b)
  exact ⟨o', PySem.W.hideAll_get _ e (yA I q hb)⟩
 have hok : qV P w H1 (PySem.W.hideAll s1.heap (frs (cx1 P w K mg base N qual scope f cd A outer s H E).stack)) := fun c u e => by
  refine (I.hok c u e).stay (fun b u' hb q => PySem.W.hideAll_get _ q fun z => ?_) (fun _ q => q) (fun _ _ q => q) fun _ _ _ q => q
  have z0 := I.stkFree b z
  rcases hb with rfl | hb
  ·rw [e] at z0; cases z0
  ·rw [hb] at z0; cases z0
 refine ⟨a, cls, .ref t, H1, _, rfl, ho.trans I.os, hg, ⟨aH2 (fun b o q n => I.base.free b o q n (mS b)) I.base.tups I.base.frzs I.base.tbls kb kt x1.1 (fun b o q hb n => ?_) I.ok.frf, kb, kt, hok, x1⟩, hE⟩
 obtain ⟨sl, e⟩ := I.base.slot b o q n hb (mS b)
 obtain ⟨_, o2, e2, nf⟩ := I.funs.mem hb
 rw [e] at e2
 cases e2
 obtain ⟨sl2, e3⟩ := x4 b _ (hx.keeps b _ e) nf
 exact ⟨sl2, e3⟩
theorem aJ0 (hE : ∀ cls H', E' cls none H' → E cls none H') : o0 (CX1 P w) (cx1 P w K mg base N qual scope f cd A outer s H E) E' := by
 intro pins σ H1 s1 e s' I hc
 obtain ⟨a, cls, a0, H', B, rfl, ho, hg, F, hq⟩ := hc
 refine wpAny_leaves_onW I.ok.frames rfl F.fl fun h' x1 x2 => ?_
 have F1 := F.un
 have kb : ∀ b o, s.heap.get? b = some o → H b = none → b ∉ frs outer → B.get? b = some o := fun b o q n hb =>
  F.kb b o (I.base.keep b o q n hb (mS b)) (I.base.free b o q n (mS b)) (yA I q hb)
 have kt : ∀ b o, s.heap.get? b = some o → b ∉ frs outer → ∃ o', B.get? b = some o' := fun b o q hb => by
  obtain ⟨o', e⟩ := I.base.there b o q (mS b)
  exact F.kt b o' e (yA I q hb)
 refine ⟨a, cls, a0, H', B, rfl, ho.trans I.os, hg, ⟨aH2 (fun b o q n => ?_) (fun b xs q => F1.tups b xs (I.base.tups b xs q)) (fun b o u q => F1.frzs b o u (I.base.frzs b o u q)) (fun b ps q => ?_) kb kt x1.1 (fun b o q hb n => ?_) I.ok.frf, kb, kt, F.hok, x1⟩, hE _ _ hq⟩
 ·obtain ⟨o', e⟩ := I.base.there b o q (mS b)
  exact F1.free b o' e (I.base.free b o q n (mS b)) (mS b)
 ·obtain ⟨m1, e1⟩ := I.base.tbls b ps q
  obtain ⟨m2, e2⟩ := F1.tbls b _ e1
  exact ⟨m1 ++ m2, by rw [e2, Array.append_assoc]⟩
 ·obtain ⟨sl, e⟩ := I.base.slot b o q n hb (mS b)
  have hb' : b ∈ frs (cx1 P w K mg base N qual scope f cd A outer s H E).stack := List.mem_cons_of_mem _ hb
  obtain ⟨sl1, e1⟩ := F1.slot b _ e (I.base.free b o q n (mS b)) hb' (mS b)
  obtain ⟨_, o2, e2, nf⟩ := F.fl.2.2.1.mem hb'
  rw [e1] at e2
  cases e2
  obtain ⟨sl2, e3⟩ := x2 b _ e1 nf
  exact ⟨sl2, e3⟩
end
theorem Fun.okX {P : Program} {w : World} {K : PySem.W.Frag} {mg : Str → Option Value} {base : Heap} {x qual : Str} {st : Stmt} {f : Addr} {fd : FuncData} {N ps : List Str} {k : Nat} {sp : Sp} (F : Fun K x qual st f fd) (S : aW N ps (aD st)) (len : ∀ vs H Q E, sp vs H Q E → vs.length = ps.length)
  (hbody : ∀ (cdv : Value) (A : Around) (outer : List Env) (s : Shared) (H : Hp) (vs : List V) (Q : VK) (E : XK), cB k (A.deeper (envOfC qual (aD st) s.heap.objs.size f cdv)) → sp vs H Q E →
   ∃ t, PSs (cx1 P w K mg base N qual (aD st) f cdv A outer s H E) (aR st) t ∧ t { nx := fun _ H' => Q .non H', rt := Q } (lL N vs) H) : qA P w K mg base (CX1 P w) (k + 1) f fd ps sp := by
 obtain ⟨oc, od, kV, doc, pm, an, cdv, ct, osl, rfl, lk, hcd⟩ := F.ex
 exact aIC lk hcd S len fun A outer s H vs Q E hr hsp => hbody cdv A outer s H vs Q E hr hsp
theorem qA.calm {P : Program} {w : World} {K : PySem.W.Frag} {mg : Str → Option Value} {base : Heap} {k : Nat} {f : Addr} {fd : FuncData} {ps : List Str} {sp sp' : Sp} (F : qA P w K mg base (CX1 P w) k f fd ps sp)
  (h : ∀ vs H Q E, sp' vs H Q E → sp vs H Q (fun _ _ _ => False)) : qA P w K mg base jE k f fd ps sp' := by
 refine ⟨fun vs H Q E q => F.len vs H Q _ (h _ _ _ _ q), fun A outer s H args us vs Q E hr he hb hv hs => codeAny_mono (F.run A outer s H args us vs Q (fun _ _ _ => False) hr he hb hv (h _ _ _ _ hs)) fun r s' hq => ?_⟩
 cases r with
 | error e => obtain ⟨_, _, _, _, _, _, _, _, _, z⟩ := hq; exact z.elim
 | ok fl => cases fl <;> exact hq
structure XEE (X : Cx) (EE : XK) : Prop where
 pass : o0 (CX1 X.prog X.w) X EE
 made : ∀ (pins : List (Addr × Obj)) (σ : St) (H1 : Hp) (s1 s2 : Shared) (a : Addr) (cls : Value) (args : List Value), bE X pins σ H1 s1 → Heap.MadeExcOf s1.heap s2.heap a cls args → s2.os = s1.os → s2.gens = s1.gens → EE cls none H1 → X.xe (.ref a) s2
structure DEX extends DEnds where
 xc : Str → Prop
abbrev GX := DEX → DS → Prop
def aFG (X : Cx) (EE : XK) (C0 H0 : Hp) (xc : Str → Prop) : Prop := ∀ c cls C' H', X.mg c = some cls → xc c → d7 C0 H0 C' H' → EE cls none H'
def DSX (X : Cx) (EE : XK) (st : Stmt) (g : GX) : Prop := ∃ t, PS X st t ∧ ∀ C0 H0 δ σ C H (De : DEX) E, aFG X EE C0 H0 De.xc → gX X.K C0 H0 δ σ C H → g De δ → Adm X.K C0 H0 E De.toDEnds → t E σ H
def wZ (X : Cx) (EE : XK) (sts : List Stmt) (g : GX) : Prop := ∃ t, PSs X sts t ∧ ∀ C0 H0 δ σ C H (De : DEX) E, aFG X EE C0 H0 De.xc → gX X.K C0 H0 δ σ C H → g De δ → Adm X.K C0 H0 E De.toDEnds → t E σ H
abbrev GEX := DS → (Str → Prop) → (D → Prop) → Prop
def DEx (X : Cx) (EE : XK) (e : Expr) (g : GEX) : Prop := ∃ t, PE X e t ∧ ∀ C0 H0 δ σ C H (xc : Str → Prop) (Q : D → Prop) (R : VK), aFG X EE C0 H0 xc → gX X.K C0 H0 δ σ C H → g δ xc Q → (∀ d v C1 H1, Q d → d7 C H C1 H1 → jX X.K C1 v d → R v H1) → t σ H R
section
variable {X : Cx} {EE : XK} {a b c e tg iter : Expr} {st : Stmt} {sts s2 : List Stmt} {es : List Expr} {pos : Pos} {ge : GE} {gi gf : GF} {gt : GT} {gg : GG} {g1 g2 : GX} {gx : GEX} {ss : List Nat}
def aA2 (g : GS) : GX := fun De δ => g De.toDEnds δ
theorem aFe {g : GS} (h : DSt X st g) : DSX X EE st (aA2 g) := by
 obtain ⟨t, p, h⟩ := h
 exact ⟨t, p, fun C0 H0 δ σ C H De E _ rp g k => h C0 H0 δ σ C H De.toDEnds E rp g k⟩
theorem aHK {g : GS} (h : jA X sts g) : wZ X EE sts (aA2 g) := by
 obtain ⟨t, p, h⟩ := h
 exact ⟨t, p, fun C0 H0 δ σ C H De E _ rp g k => h C0 H0 δ σ C H De.toDEnds E rp g k⟩
def aFS (g1 g2 : GX) : GX := fun De δ => g1 { De with nx := g2 De } δ
theorem aDT (h1 : DSX X EE st g1) (h2 : wZ X EE sts g2) : wZ X EE (st :: sts) (aFS g1 g2) := by
 obtain ⟨t1, p1, h1⟩ := h1
 obtain ⟨t2, p2, h2⟩ := h2
 refine ⟨_, aDQ p1 p2, fun C0 H0 δ σ C H De E te rp g k => h1 C0 H0 δ σ C H { De with nx := g2 De } { E with nx := t2 E } te rp g ⟨fun δ' σ' C' H' rp' q => ?_, k.rt, k.bk, k.ct⟩⟩
 exact h2 C0 H0 δ' σ' C' H' De E te rp' q k
theorem xX (h1 : DSX X EE st g1) : wZ X EE [st] g1 := by
 obtain ⟨t1, p1, h1⟩ := h1
 exact ⟨_, aE7 p1, h1⟩
def aKP (gt : GT) (g1 g2 : GX) : GX := fun De δ => gt δ fun c => if c = true then g1 De δ else g2 De δ
theorem aMN (hc : DT X c gt) (h1 : wZ X EE sts g1) (h2 : wZ X EE s2 g2) : DSX X EE (.If c sts s2 pos) (aKP gt g1 g2) := by
 obtain ⟨t0, p0, h0⟩ := hc
 obtain ⟨t1, p1, h1⟩ := h1
 obtain ⟨t2, p2, h2⟩ := h2
 refine ⟨_, aKr p0 p1 p2, fun C0 H0 δ σ C H De E te rp g k => h0 C0 H0 δ σ C H _ _ rp g fun c C1 H1 q e1 => ?_⟩
 cases c with
 | true => exact aIt (h1 C0 H0 δ σ C1 H1 De E te (rp.grow e1) (by simpa using q) k)
 | false => exact aHw (h2 C0 H0 δ σ C1 H1 De E te (rp.grow e1) (by simpa using q) k)
def aIj (gx : GEX) : GX := fun De δ => gx δ De.xc De.rt
theorem aLY (he : DEx X EE e gx) : DSX X EE (.Return (some e) pos) (aIj gx) := by
 obtain ⟨t, p, h⟩ := he
 exact ⟨_, aHM p, fun C0 H0 δ σ C H De E te rp g k => h C0 H0 δ σ C H _ _ _ te rp g fun d v C1 H1 q e1 n1 => k.rt d v C1 H1 (rp.ext.trans e1) n1 q⟩
def aHj (gx : GEX) (gg : GG) : GX := fun De δ => gx δ De.xc fun d => gg d δ De.nx
theorem aKE (he : DEx X EE e gx) (hg : DG X tg ss gg) (hp : ∀ {te : TE} {g : TG}, PE X e te → PG X tg g → PS X (.Assign [tg] e pos) (aEH te g)) : DSX X EE (.Assign [tg] e pos) (aHj gx gg) := by
 obtain ⟨t, p, h⟩ := he
 obtain ⟨t2, p2, h2⟩ := hg
 refine ⟨_, hp p p2, fun C0 H0 δ σ C H De E te rp g k => h C0 H0 δ σ C H _ _ _ te rp g fun d v C1 H1 q e1 n1 => ?_⟩
 exact h2 C0 H0 δ σ C1 H1 v d _ _ (rp.grow e1) n1 q fun δ' σ' q' rp' _ _ => k.nx δ' σ' C1 H1 rp' q'
structure Out where
 ret : D → Prop
 exc : Str → Prop := fun _ => False
def spX (K : PySem.W.Frag) (mg : Str → Option Value) (F : List D → Option Out) : Sp := fun vs H Q E => ∃ C ds o, cM C H ∧ TB K C ∧ bZ K C vs ds ∧ F ds = some o ∧ (∀ d v C' H', o.ret d → d7 C H C' H' → jX K C' v d → Q v H') ∧ ∀ c cls C' H', mg c = some cls → o.exc c → d7 C H C' H' → E cls none H'
def aBj (P : Program) (w : World) (K : PySem.W.Frag) (mg : Str → Option Value) (base : Heap) (k : Nat) (x : Str) (F : List D → Option Out) : Prop :=
 ∃ f fd ps, qA P w K mg base (CX1 P w) k f fd ps (spX K mg F) ∧ mg x = some (.ref f) ∧ PySem.W.keepIn K (.ref f) = true ∧ oH K fd ps []
def yI (F : List D → Option Out) (gf : GF) : GEX := fun δ xc Q => gf δ fun ds => match F ds with
 | some o => (∀ c, o.exc c → xc c) ∧ ∀ d, o.ret d → Q d
 | none => False
theorem aDH {F : List D → Option Out} {k : Nat} {x : Str} {p : Pos} (h : aBj X.prog X.w X.K X.mg X.base k x F) (hX : o0 (CX1 X.prog X.w) X EE) (hr : cB k X.A) (hg : Gl X x) (ha : DA X (e :: es) gf) (hdb : (x == ("__debug__" : Str)) = false := by decide)
  (he : starEach (e :: es) X.env = (false, eval e X.env) :: starEach es X.env := by rfl) (hpl : (backTo pos (starEach es X.env)).any (·.1) = false := by rfl) : DEx X EE (.Call (.Name x p) (e :: es) [] pos) (yI F gf) := by
 obtain ⟨f, fd, ps, Fk, hm, hk, hb⟩ := h
 obtain ⟨t, pa, h⟩ := ha
 refine ⟨_, xU Fk hr hg hm hk hb .nil hX pa hdb he hpl, fun C0 H0 δ σ C H xc Q R te rp g k => h C0 H0 δ σ C H _ _ rp g fun ds vs C1 H1 q e1 n1 => ?_⟩
 split at q
 ·rename_i o e2
  exact ⟨C1, ds, o, e1.ch, rp.tc.mono e1.cc, by rw [List.append_nil]; exact n1, e2, fun d v C' H' hd ex nv => k d v C' H' (q.2 d hd) (e1.trans ex) nv, fun c cls C' H' hmc hx ex => te c cls C' H' hmc (q.1 c hx) ((rp.ext.trans e1).trans ex)⟩
 ·exact q.elim
theorem aBj.calm {P : Program} {w : World} {K : PySem.W.Frag} {mg : Str → Option Value} {base : Heap} {k : Nat} {x : Str} {F : List D → Option Out} {F' : List D → Option (D → Prop)} (h : aBj P w K mg base k x F)
  (hF : ∀ ds p, F' ds = some p → ∃ o, F ds = some o ∧ (∀ d, o.ret d → p d) ∧ ∀ c, ¬ o.exc c) : aD4 P w K mg base k x F' := by
 obtain ⟨f, fd, ps, Fk, b⟩ := h
 refine ⟨f, fd, ps, Fk.calm fun vs H Q E q => ?_, b⟩
 obtain ⟨C, ds, p, ch, tb, n, e, q⟩ := q
 obtain ⟨o, e2, h1, h2⟩ := hF ds p e
 exact ⟨C, ds, o, ch, tb, n, e2, fun d v C' H' hd ex nv => q d v C' H' (h1 d hd) ex nv, fun c cls C' H' _ hx _ => h2 c hx⟩
def aIo (K : PySem.W.Frag) (mg : Str → Option Value) (x : Str) : Prop := ∃ C, mg x = some (.ref C) ∧ ∀ h, K.In h → OwnCls x C [.type "ValueError", .type "Exception", .type "BaseException", .type "object"] "ValueError.__new__" mg h
theorem aH3 {x : Str} {C : Addr} {np cpos : Pos} {t : TA} (O : ∀ h, X.K.In h → OwnCls x C [.type "ValueError", .type "Exception", .type "BaseException", .type "object"] "ValueError.__new__" X.mg h) (hc : X.calm = true) (hg : Gl X x) (hX : XEE X EE) (ha : PA X (e :: es) t)
  (hdb : (x == ("__debug__" : Str)) = false := by decide) (he : starEach (e :: es) X.env = (false, eval e X.env) :: starEach es X.env := by rfl) (hpl : (backTo cpos (starEach es X.env)).any (·.1) = false := by rfl) :
  PS X (.Raise (some (.Call (.Name x np) (e :: es) [] cpos)) none pos) (fun _ σ H => t σ H fun vs H1 => vs.length ≤ sizeLine ∧ EE (.ref C) none H1) := by
 intro pins s σ H Dn I h
 have O0 := O _ I.mod.kin
 obtain ⟨tl, Nn, nm, q, bs, hdct, sn, sub, ab, col, dd, k0, k1, k2, k3, k5, mN, hC, hN, hni, T⟩ := O0.obj
 refine wpAny_Raise_call_subT (C := C) (nm := nm) (q := q) (N := Nn) (bs := bs) (bm := tl) (hdct := hdct) (sn := sn) (sub := sub) (ab := ab) (col := col) (dd := dd) (k0 := k0) (k1 := k1) (k2 := k2) (k3 := k3) (k5 := k5)
  PySem.F.excBase_ValueError (mN := mN) (T.hasType PySem.F.excBase_ValueError.hasBase) (I.ok.hd hc) (by rw [he]; show (false || (backTo cpos (starEach es X.env)).any (·.1)) = false; rw [hpl]; rfl) hni (aBC I hg O0.bound ⟨rfl, ?_⟩ hdb)
 have hA := ha cpos pins s σ H _ I h
 rw [he] at hA ⊢
 refine Calls.evalArgs_plain (wpAny_mono hA (fun us s2 h2 => ?_) fun _ _ y => y)
 obtain ⟨vs, H2, I2, r2, hz, hq⟩ := h2
 have hl : us.length = vs.length := r2.length.symm
 exact ⟨rfl, by rw [hl]; exact hz, I2.bk _ _ hC, hN.keeps I2.bk, T.keeps I2.bk, fun h' a hm => hX.made pins σ H2 s2 { s2 with heap := h' } a (.ref C) us I2 hm rfl rfl hq⟩
def aEv (x : Str) (gf : GF) : GX := fun De δ => gf δ fun ds => ds.length ≤ sizeLine ∧ De.xc x
theorem aH4 {x : Str} {np cpos : Pos} (O : aIo X.K X.mg x) (hc : X.calm = true) (hg : Gl X x) (hX : XEE X EE) (ha : DA X (e :: es) gf)
  (hdb : (x == ("__debug__" : Str)) = false := by decide) (he : starEach (e :: es) X.env = (false, eval e X.env) :: starEach es X.env := by rfl) (hpl : (backTo cpos (starEach es X.env)).any (·.1) = false := by rfl) : DSX X EE (.Raise (some (.Call (.Name x np) (e :: es) [] cpos)) none pos) (aEv x gf) := by
 obtain ⟨C, hm, O⟩ := O
 obtain ⟨t, p, h⟩ := ha
 refine ⟨_, aH3 O hc hg hX p hdb he hpl, fun C0 H0 δ σ C' H De E te rp g k => h C0 H0 δ σ C' H _ _ rp g fun ds vs C1 H1 q e1 n1 => ⟨by rw [n1.length]; exact q.1, te x _ C1 H1 hm q.2 (rp.ext.trans e1)⟩⟩
end
theorem aLF {K : PySem.W.Frag} {mg : Str → Option Value} {x : Str} {C : Addr} {h : Heap} (X : K.In h) (G : h.Ns mainGlobals mg) (e : PySem.W.nsIn K mainGlobals x = some (some (.ref C)))
  (q : PySem.W.excIn K C [.type "ValueError", .type "Exception", .type "BaseException", .type "object"] "ValueError.__new__" = true) : aIo K mg x := by
 have hm := PySem.W.mg_of X G e
 refine ⟨C, hm, fun h' X' => ⟨hm, ?_⟩⟩
 unfold PySem.W.excIn at q
 split at q
 ·rename_i d1 cd sl lk
  split at q
  ·rename_i C' bm a0 a1 a2 a3 n a5 hmro hsl
   simp only [Bool.and_eq_true, beq_iff_eq, Bool.not_eq_true'] at q
   obtain ⟨⟨⟨⟨⟨q1, q2⟩, q3⟩, q4⟩, q5⟩, q6⟩ := q
   subst q1 q2
   obtain ⟨c1, c2, c3, c4, c5, c6, c7, c8, c9, c10, c11⟩ := cd
   dsimp only at hmro q3 q5 q6
   subst hmro q3
   have es : sl = #[a0, a1, a2, a3, some (.builtin "ValueError.__new__"), a5] := by
    obtain ⟨l⟩ := sl
    simp only at hsl
    rw [hsl]
   subst es
   exact ⟨bm, c4, c1, c5, c2, c6, c7, c8, c9, c10, d1, a0, a1, a2, a3, a5, _, X' _ _ lk, .of_isNs (PySem.W.isNs_of_in X' q5), PySem.W.nsMap_none_of_in X' q5 q6, PySem.W.tail_of_in X' q4⟩
  ·cases q
 ·cases q
theorem aMG {P : Program} {w : World} {K : PySem.W.Frag} {mg : Str → Option Value} {base : Heap} {N : List Str} {qual : Str} {scope : Scope} {f : Addr} {cd : Value} {A : Around} {outer : List Env} {s : Shared} {H : Hp} {E : XK} : XEE (cx1 P w K mg base N qual scope f cd A outer s H E) E :=
 ⟨aJ0 fun _ _ q => q, fun pins σ H1 s1 s2 a cls args I hx ho hg hE => aEc I hx ho (by rw [hg]; exact I.bare) hE⟩
theorem fnX {P : Program} {w : World} {K : PySem.W.Frag} {mg : Str → Option Value} {base : Heap} {x qual : Str} {st : Stmt} {f : Addr} {fd : FuncData} {N ps : List Str} {k : Nat} {F : List D → Option Out} {g : GX} (Fn : Fun K x qual st f fd) (S : aW N ps (aD st))
  (hl : ∀ ds o, F ds = some o → ds.length = ps.length)
  (hb : ∀ (cdv : Value) (A : Around) (outer : List Env) (s : Shared) (H : Hp) (E : XK), cB k (A.deeper (envOfC qual (aD st) s.heap.objs.size f cdv)) → wZ (cx1 P w K mg base N qual (aD st) f cdv A outer s H E) E (aR st) g)
  (hv : ∀ ds o, F ds = some o → g { nx := fun _ => o.ret .non, rt := o.ret, xc := o.exc } (bD N ds)) (hm : mg x = some (.ref f)) (bi : oH K fd ps []) : aBj P w K mg base (k + 1) x F := by
 refine ⟨f, fd, ps, Fn.okX S (fun vs H Q E h => ?_) (fun cdv A outer s H vs Q E hr h => ?_), hm, Fn.kp, bi⟩
 ·obtain ⟨C, ds, o, _, _, n, e, _⟩ := h
  rw [n.length]
  exact hl ds o e
 ·obtain ⟨C, ds, o, ch, tb, n, e, q, qx⟩ := h
  obtain ⟨t, p, h⟩ := hb cdv A outer s H E hr
  refine ⟨t, p, h C H (bD N ds) (lL N vs) C H _ _ (fun c cls C' H' hmc hx ex => qx c cls C' H' hmc hx ex) (oM ch tb n) (hv ds o e) ⟨fun δ σ C' H' rp z => ?_, fun r v C' H' ex nv z => ?_, fun _ _ _ _ _ z => z.elim, fun _ _ _ _ _ z => z.elim⟩⟩
  ·exact q .non _ C' H' z rp.ext (eD.mpr rfl)
  ·exact q r v C' H' z ex nv
abbrev Cx.tr (X : Cx) (pn : List (Addr × Obj)) (xe : Value → Shared → Prop) : Cx := { X with pn := pn, xe := xe }
abbrev Cx.su (X : Cx) (e : Value) (pn : List (Addr × Obj)) : Cx := { X with A := X.A.mark (some e), calm := false, pn := pn, xe := fun _ _ => False }
section
variable {X : Cx} {pins pins' pn : List (Addr × Obj)} {xe : Value → Shared → Prop} {σ : St} {H : Hp} {s : Shared} {e : Value}
theorem bE.tr (I : bE X pins σ H s) (pn : List (Addr × Obj)) (xe : Value → Shared → Prop) (h : ∀ p ∈ pn, p ∈ X.pn ++ pins) : bE (X.tr pn xe) [] σ H s :=
 ⟨⟨I.ok.mod, I.ok.kind, I.ok.glob, I.ok.blt, I.ok.above, I.ok.inj, I.ok.has, I.ok.cab, I.ok.hd, I.ok.frames, I.ok.stk, I.ok.exf, I.ok.bs, I.ok.bsz, I.ok.noex, I.ok.exfs, I.ok.funs, I.ok.frf⟩, I.os, I.bare, I.base, I.loc, I.cell, I.free, I.freeC, fun p hp => I.pin p (h p (by simpa using hp)), I.hok, I.len⟩
theorem bE.untr (I : bE (X.tr pn xe) pins' σ H s) (h : ∀ p ∈ X.pn ++ pins, p ∈ pn) : bE X pins σ H s :=
 ⟨⟨I.ok.mod, I.ok.kind, I.ok.glob, I.ok.blt, I.ok.above, I.ok.inj, I.ok.has, I.ok.cab, I.ok.hd, I.ok.frames, I.ok.stk, I.ok.exf, I.ok.bs, I.ok.bsz, I.ok.noex, I.ok.exfs, I.ok.funs, I.ok.frf⟩, I.os, I.bare, I.base, I.loc, I.cell, I.free, I.freeC, fun p hp => I.pin p (List.mem_append_left _ (h p hp)), I.hok, I.len⟩
theorem bE.su (I : bE X pins σ H s) (e : Value) (pn : List (Addr × Obj)) (h : ∀ p ∈ pn, p ∈ X.pn ++ pins ∨ (s.heap.get? p.1 = some p.2 ∧ H p.1 = none ∧ p.1 ≠ X.env.locals ∧ p.1 ∉ X.fs ∧ ∀ v, p.2.data ≠ .cell v)) : bE (X.su e pn) [] σ H s :=
 ⟨⟨I.ok.mod, I.ok.kind, I.ok.glob, I.ok.blt, I.ok.above, I.ok.inj, I.ok.has, I.ok.cab, fun z => absurd z (by show ¬ (false = true); decide), I.ok.frames, I.ok.stk, I.ok.exf, I.ok.bs, I.ok.bsz, I.ok.noex, I.ok.exfs, I.ok.funs, I.ok.frf⟩, I.os, I.bare, I.base, I.loc, I.cell, I.free, I.freeC, fun p hp => (h p (by simpa using hp)).elim (I.pin p) id, I.hok, I.len⟩
theorem bE.unsu (I : bE (X.su e pn) pins' σ H s) (hd : X.calm = true → X.A.handled = none) (h : ∀ p ∈ X.pn ++ pins, p ∈ pn) : bE X pins σ H s :=
 ⟨⟨I.ok.mod, I.ok.kind, I.ok.glob, I.ok.blt, I.ok.above, I.ok.inj, I.ok.has, I.ok.cab, hd, I.ok.frames, I.ok.stk, I.ok.exf, I.ok.bs, I.ok.bsz, I.ok.noex, I.ok.exfs, I.ok.funs, I.ok.frf⟩, I.os, I.bare, I.base, I.loc, I.cell, I.free, I.freeC, fun p hp => I.pin p (List.mem_append_left _ (h p hp)), I.hok, I.len⟩
theorem SP.untr {D : aDd} {f : Flow} (h : ∀ p ∈ X.pn ++ pins, p ∈ pn) (q : SP (X.tr pn xe) pins' D f s) : SP X pins D f s := by
 cases f with
 | next => obtain ⟨σ', H', I, q⟩ := q; exact ⟨σ', H', I.untr h, q⟩
 | brk => obtain ⟨σ', H', I, q⟩ := q; exact ⟨σ', H', I.untr h, q⟩
 | cont => obtain ⟨σ', H', I, q⟩ := q; exact ⟨σ', H', I.untr h, q⟩
 | ret u => obtain ⟨v, σ', H', I, r, q⟩ := q; exact ⟨v, σ', H', I.untr h, r, q⟩
theorem SP.unsu {D : aDd} {f : Flow} (hd : X.calm = true → X.A.handled = none) (h : ∀ p ∈ X.pn ++ pins, p ∈ pn) (q : SP (X.su e pn) pins' D f s) : SP X pins D f s := by
 cases f with
 | next => obtain ⟨σ', H', I, q⟩ := q; exact ⟨σ', H', I.unsu hd h, q⟩
 | brk => obtain ⟨σ', H', I, q⟩ := q; exact ⟨σ', H', I.unsu hd h, q⟩
 | cont => obtain ⟨σ', H', I, q⟩ := q; exact ⟨σ', H', I.unsu hd h, q⟩
 | ret u => obtain ⟨v, σ', H', I, r, q⟩ := q; exact ⟨v, σ', H', I.unsu hd h, r, q⟩
theorem iE.there {P : Program} {w : World} {H : Hp} {h : Heap} {a : Addr} {o : HO} (x : iE P w H h a o) : ∃ ob, h.get? a = some ob := by
 cases o with
 | lst xs => obtain ⟨_, _, _, _, e⟩ := x; exact ⟨_, e⟩
 | tup xs => obtain ⟨_, _, _, o, e, _⟩ := x; exact ⟨_, e⟩
 | dK kvs => obtain ⟨_, _, _, _, o, _, _, e, _⟩ := x; exact ⟨_, e⟩
 | dT kvs => obtain ⟨_, _, _, _, o, _, _, e, _⟩ := x; exact ⟨_, e⟩
 | set S n => obtain ⟨o, _, _, _, e, _⟩ := x; exact ⟨_, e⟩
 | ins C dx fs => obtain ⟨_, _, _, e, _⟩ := x; exact ⟨_, e⟩
 | own y => exact x
 | xd fs => obtain ⟨_, ⟨_, _, _, e, _⟩, _⟩ := x; exact ⟨_, e⟩
 | rng lo hi => obtain ⟨_, _, _, e⟩ := x; exact ⟨_, e⟩
 | frz ob u => obtain ⟨e, _⟩ := x; exact ⟨_, e⟩
 | tbl ps => exact ⟨_, x⟩
 | tab l c q => obtain ⟨_, e, _⟩ := x; exact ⟨_, e⟩
 | met f y => exact ⟨_, x⟩
 | ext φ => obtain ⟨_, e, _⟩ := x; exact e
end
def σ0 (X : Cx) : St := List.replicate X.N.length none
theorem bE.forget {X : Cx} {pins : List (Addr × Obj)} {σ : St} {H : Hp} {s : Shared} (I : bE X pins σ H s) : bE X pins (σ0 X) H s := by
 refine I.weak ?_ fun i v e => ?_
 ·unfold σ0; rw [List.length_replicate]; first | exact I.len | exact I.len.symm
 ·unfold σ0 at e
  rw [List.getElem?_replicate] at e
  split at e <;> cases e
section
variable {X : Cx} {EE : XK} {body suite : List Stmt} {b₀ : Stmt} {x : Str} {cl : Value} {np hpos pos : Pos} {tb ts : TS}
theorem aEL {pins : List (Addr × Obj)} {σ1 : St} {H1 : Hp} {s1 s' : Shared} {ev : Value} {Q : Flow → Shared → Prop} {E : Value → Shared → Prop} {hs : List ExceptHandler} (hstk : X.stack = X.env :: X.outer) (hfr : X.env.frame = some X.env.locals) (I : bE X pins σ1 H1 s1) (hc : CX1 X.prog X.w X.stack H1 s1 EE ev s')
  (k : ∀ a cls a0 H' B h5, ev = .ref a → EE cls none H' → Fl X.prog X.w X.stack H1 H' s1 B a cls a0 h5 → bE X pins σ1 H' { s' with heap := h5 } → s'.os = s1.os → AllBare s'.gens → wpAny (model X.prog X.w) X.A (handleBy ev X.env hs) Q E { s' with heap := h5 }) :
  wpAny (model X.prog X.w) X.A (noteFrame ev X.env) (fun _ s2 => wpAny (model X.prog X.w) X.A (setFlight ev none) (fun _ s3 => wpAny (model X.prog X.w) X.A (handleBy ev X.env hs) Q E s3) E s2) E s' := by
 obtain ⟨a, cls, a0, H', B, rfl, ho, hg, F, hq⟩ := hc
 have hfrm : X.A.frames = some (X.env :: X.outer) := by rw [← hstk]; exact I.ok.frames
 have fl : Heap.FlyingW B (X.env :: X.outer) a cls a0 s'.heap := by rw [← hstk]; exact F.fl
 refine wpAny_looks_onW hfrm hfr fl fun h4 held4 up4 => ?_
 refine wpAny_landsW held4 fun h5 fl5 up5 => ?_
 have F5 := F.next I.stkFree (by rw [hstk]; exact fl5) (up4.trans up5)
 exact k a cls a0 H' B h5 rfl hq F5 (I.call' (ch := []) ho F5.un (F5.hok.kept F5.fl.1) hg fun b z => absurd z (by simp)) ho hg
theorem aJy {pins : List (Addr × Obj)} {σ1 : St} {H1 H' : Hp} {s1 s5 : Shared} {B : Heap} {a : Addr} {cls a0 : Value} (F : Fl X.prog X.w X.stack H1 H' s1 B a cls a0 s5.heap) (I : bE X pins σ1 H' s5) : ∃ oe, oe.cls = cls ∧ s5.heap.get? a = some oe ∧ H' a = none ∧ a ≠ X.env.locals ∧ a ∉ X.fs ∧ ∀ v, oe.data ≠ .cell v := by
 obtain ⟨oe, vs, e1, e2, e3, _⟩ := F.fl.first
 refine ⟨oe, e2, e1, ?_, fun z => ?_, fun z => ?_, fun v q => by rw [e3] at q; cases q⟩
 ·cases q : H' a with
  | none => rfl
  | some o =>
   obtain ⟨ob, z⟩ := (F.hok a o q).there
   rw [F.fl.2.1] at z
   cases z
 ·obtain ⟨m, ⟨o', es, ep, ho', hd', _⟩, _⟩ := I.loc
  rw [← z, e1] at ho'
  cases ho'
  rw [hd'] at e3
  cases e3
 ·obtain ⟨_, o', ho', nf⟩ := I.funs.mem z
  rw [e1] at ho'
  cases ho'
  exact nf vs e3
theorem aLm (hstk : X.stack = X.env :: X.outer) (hfr : X.env.frame = some X.env.locals) (hg : Gl X x) (hm : X.mg x = some cl) (hb : ∀ pn xe, o0 (CX1 X.prog X.w) (X.tr pn xe) EE → PSs (X.tr pn xe) body tb)
  (hs : ∀ ev pn, PSs (X.su ev pn) (b₀ :: suite) ts) (hdb : (x == ("__debug__" : Str)) = false := by decide) :
  PS X (.Try body [.ExceptHandler (some (.Name x np)) none (b₀ :: suite) hpos] [] [] pos) (fun D σ H => tb D σ H ∧ ∀ cls H', EE cls none H' → PySem.W.exmOne X.K cls cl = some true ∧ ts D (σ0 X) H') := by
 intro pins s σ H D I h
 obtain ⟨h1, h2⟩ := h
 have I' := I.tr (X.pn ++ pins) (fun e s' => ∃ σ1 H1 s1, bE X pins σ1 H1 s1 ∧ CX1 X.prog X.w X.stack H1 s1 EE e s') fun p hp => hp
 have hp : o0 (CX1 X.prog X.w) (X.tr (X.pn ++ pins) (fun e s' => ∃ σ1 H1 s1, bE X pins σ1 H1 s1 ∧ CX1 X.prog X.w X.stack H1 s1 EE e s')) EE := fun pins0 σ1 H1 s1 e s' I1 hc => ⟨σ1, H1, s1, I1.untr fun p hp => hp, hc⟩
 refine wpAny_Try_except (wpAny_mono (hb _ _ hp [] s σ H D I' h1) (fun f s1 q => ?_) (fun ev s1 q => ?_))
 ·have q' : SP X pins D f s1 := SP.untr (fun p hp => hp) q
  cases f with
  | next => exact wpAny_execs_nil q'
  | brk => exact q'
  | cont => exact q'
  | ret u => exact q'
 ·obtain ⟨σ1, H1, s0, I0, hc⟩ := q
  refine aEL hstk hfr I0 hc fun a cls a0 H' B h5 ha hq F5 I5 ho hgn => ?_
  subst ha
  obtain ⟨hx, hts⟩ := h2 cls H' hq
  obtain ⟨oe, c1, c2, c3⟩ := aJy (s5 := { s1 with heap := h5 }) F5 I5
  have LT : PySem.W.Looks (model X.prog X.w) h5 (typeOf (.ref a)) cls := by
   subst c1
   exact (PySem.W.Looks.ld c2).andThen .now
  have Im := I5.su (.ref a) (X.pn ++ pins) fun p hp => .inl hp
  refine wpAny_handleBy_cons (codeAny_handlers_test (aBC (X := X.su (.ref a) (X.pn ++ pins)) Im hg hm ((PySem.W.exm_one I5.kIn LT hx).here ?_) hdb)) (by intro q; cases q)
  show codeAny _ _ (.handlers (.ref a) [.ExceptHandler none none (b₀ :: suite) hpos] X.env) _ _
  refine codeAny_handlers_suite (lands_againW F5.fl fun h6 fl6 up6 => ?_)
  have F6 := F5.next I0.stkFree fl6 up6
  have I6 : bE X pins σ1 H' { s1 with heap := h6 } := I0.call' (ch := []) ho F6.un (F6.hok.kept F6.fl.1) hgn fun b z => absurd z (by simp)
  have J := I6.forget.su (.ref a) (X.pn ++ pins) fun p hp => .inl hp
  exact wpAny_mono (hs (.ref a) (X.pn ++ pins) [] _ _ H' D J hts) (fun f s2 q => SP.unsu I.ok.hd (fun p hp => hp) q) fun _ _ z => False.elim z
end
def tX (K : PySem.W.Frag) (mg : Str → Option Value) (EE : XK) (g : GX) : TS := fun E σ H => ∃ C0 H0 δ C, ∃ De : DEX, (∀ c cls C' H', mg c = some cls → De.xc c → d7 C0 H0 C' H' → EE cls none H') ∧ gX K C0 H0 δ σ C H ∧ g De δ ∧ Adm K C0 H0 E De.toDEnds
def tSt (K : PySem.W.Frag) (g : GS) : TS := fun E σ H => ∃ C0 H0 δ C De, gX K C0 H0 δ σ C H ∧ g De δ ∧ Adm K C0 H0 E De
theorem wZ.can {X : Cx} {EE : XK} {sts : List Stmt} {g : GX} (h : wZ X EE sts g) : PSs X sts (tX X.K X.mg EE g) := by
 obtain ⟨t, p, h⟩ := h
 intro pins s σ H E I q
 obtain ⟨C0, H0, δ, C, De, te, rp, g, k⟩ := q
 exact p pins s σ H E I (h C0 H0 δ σ C H De E te rp g k)
theorem jA.can {X : Cx} {sts : List Stmt} {g : GS} (h : jA X sts g) : PSs X sts (tSt X.K g) := by
 obtain ⟨t, p, h⟩ := h
 intro pins s σ H E I q
 obtain ⟨C0, H0, δ, C, De, rp, g, k⟩ := q
 exact p pins s σ H E I (h C0 H0 δ σ C H De E rp g k)
theorem aLE {K : PySem.W.Frag} {C0 H0 C H : Hp} (n : Nat) (tb : TB K C0) (ex : d7 C0 H0 C H) : gX K C0 H0 (List.replicate n .un) (List.replicate n none) C H := by
 refine ⟨tb, by simp, ex, fun i d e => ?_, fun i ds e => ?_, fun i j ds es l _ e _ => ?_, zK.none fun i x e => by
  rw [List.getElem?_replicate] at e
  split at e
  ·cases e; rfl
  ·cases e⟩
 ·rw [List.getElem?_replicate] at e; split at e <;> cases e
 ·rw [List.getElem?_replicate] at e; split at e <;> cases e
 ·rw [List.getElem?_replicate] at e; split at e <;> cases e
def aKX (n : Nat) (cov : Str → Prop) (gb : GX) (gs : GS) : GS := fun De δ => gb { De with xc := fun c => cov c ∧ gs De (List.replicate n .un) } δ
theorem aLC {X : Cx} {body suite : List Stmt} {b₀ : Stmt} {x : Str} {cl : Value} {np hpos pos : Pos} {n : Nat} {cov : Str → Prop} {gb : GX} {gs : GS} (hn : X.N.length = n) (hstk : X.stack = X.env :: X.outer) (hfr : X.env.frame = some X.env.locals) (hg : Gl X x) (hm : X.mg x = some cl)
  (hcov : ∀ c cls, cov c → X.mg c = some cls → PySem.W.exmOne X.K cls cl = some true)
  (hb : ∀ EE pn xe, o0 (CX1 X.prog X.w) (X.tr pn xe) EE → wZ (X.tr pn xe) EE body gb) (hs : ∀ ev pn, jA (X.su ev pn) (b₀ :: suite) gs) (hdb : (x == ("__debug__" : Str)) = false := by decide) :
  DSt X (.Try body [.ExceptHandler (some (.Name x np)) none (b₀ :: suite) hpos] [] [] pos) (aKX n cov gb gs) := by
 refine ⟨fun D σ H => ∃ EE : XK, tX X.K X.mg EE gb D σ H ∧ ∀ cls H', EE cls none H' → PySem.W.exmOne X.K cls cl = some true ∧ tSt X.K gs D (σ0 X) H', fun pins s σ H D I q => ?_, fun C0 H0 δ σ C H De E rp g k => ?_⟩
 ·obtain ⟨EE, q⟩ := q
  exact aLm (EE := EE) (tb := tX X.K X.mg EE gb) (ts := tSt X.K gs) hstk hfr hg hm (fun pn xe hp => (hb EE pn xe hp).can) (fun ev pn => (hs ev pn).can) hdb pins s σ H D I q
 ·refine ⟨fun cls _ H' => ∃ c C', X.mg c = some cls ∧ cov c ∧ gs De (List.replicate n .un) ∧ d7 C0 H0 C' H', ⟨C0, H0, δ, C, { De with xc := fun c => cov c ∧ gs De (List.replicate n .un) }, fun c cls C' H' hmc hx ex => ⟨c, C', hmc, hx.1, hx.2, ex⟩, rp, g, k⟩, fun cls H' q => ?_⟩
  obtain ⟨c, C', hmc, hc, q, ex⟩ := q
  refine ⟨hcov c cls hc hmc, C0, H0, List.replicate n .un, C', De, ?_, q, k⟩
  unfold σ0
  rw [hn]
  exact aLE n rp.tb ex
end L2
namespace L2
open PySem PySem.Spec PyProof.Rows PySem.W
open Builtin Builtin.ObjectAttr Builtin.Getset_descriptor
section
variable {prog : Program} {w : World} {A : Around} {E : Value → Shared → Prop} {K : Frag} {x C : Addr} {R : Result → Shared → Prop} {hh : Heap} {g : Array GenState} {dr : Drawn} {t : Nat} {os : OsState} {o : Obj}
end
end L2
namespace L2
open PySem PySem.Spec PyProof.Rows
section
variable {X : Cx} {pins : List (Addr × Obj)} {σ : St} {H : Hp} {s : Shared}
end
section
variable {X : Cx} {a : Addr} {oe : Obj} {C : Addr} {i : Nat} {n y : Str} {vy : V} {b : Bool} {p p1 p2 pos : Pos}
end
section
variable {X : Cx} {EE : XK} {body suite : List Stmt} {b₀ : Stmt} {x n : Str} {i : Nat} {cl : Value} {np hpos pos : Pos} {tb : TS} {ts : Addr → Value → TS}
end
mutual
def noL : D → Bool
 | .lst _ => false
 | .tup ds => aLZ ds
 | _ => true
def aLZ : List D → Bool
 | [] => true
 | d :: ds => noL d && aLZ ds
end
section
variable {X : Cx} {e : Expr} {ge : GE} {gt : GT} {gf : GF}
def aE6 (i : Nat) (ge : GE) : GE := fun δ Q => match δ[i]? with
 | some (.ow ds) => ge (δ.set i (.im (.lst ds))) fun d => noL d = true ∧ Q d
 | _ => False
def aBV (i : Nat) (gt : GT) : GT := fun δ Q => match δ[i]? with
 | some (.ow ds) => gt (δ.set i (.im (.lst ds))) Q
 | _ => False
def aBw (i : Nat) (gf : GF) : GF := fun δ Q => match δ[i]? with
 | some (.ow ds) => gf (δ.set i (.im (.lst ds))) fun es => aLZ es = true ∧ Q es
 | _ => False
end
section
variable {X : Cx} {st : Stmt} {i : Nat} {gf : GF} {tg iter elt : Expr} {pos : Pos} {ge : GE} {gi : GF} {gt : GT} {gg : GG} {scope : Scope} {Nc : List Str} {fr : List (Option Nat)} {ss : List Nat}
end
def iH : D → Option (List Int)
 | .tup ds => g6 ds
 | _ => none
def wI : List D → Option (List (List Int))
 | [] => some []
 | d :: ds => match iH d, wI ds with
  | some r, some rs => some (r :: rs)
  | _, _ => none
def p5 : D → Option (List Int × List (List Int))
 | .tup [a, .tup ps] => match iH a, wI ps with
  | some ns, some pay => some (ns, pay)
  | _, _ => none
 | _ => none
theorem cD (r : List Int) : iH (aF r) = some r := eW r
theorem lB {d : D} {r : List Int} (h : iH d = some r) : d = aF r := by
 unfold iH at h
 split at h
 ·rw [jF h]
 ·cases h
theorem tU : ∀ rs : List (List Int), wI (rs.map aF) = some rs
 | [] => rfl
 | r :: rs => by rw [List.map_cons, wI, cD, tU rs]
theorem uX : ∀ {ds : List D} {rs : List (List Int)}, wI ds = some rs → ds = rs.map aF
 | [], rs, h => by cases h; rfl
 | d :: ds, rs, h => by
  unfold wI at h
  split at h
  ·rename_i r rs' e1 e2
   cases h
   rw [lB e1, uX e2]
   rfl
  ·cases h
theorem qR (ns : List Int) (pay : List (List Int)) : p5 (aY ns pay) = some (ns, pay) := by
 unfold aY p5
 simp only [cD, tU]
theorem qZ {d : D} {ns : List Int} {pay : List (List Int)} (h : p5 d = some (ns, pay)) : d = aY ns pay := by
 unfold p5 at h
 split at h
 ·split at h
  ·rename_i e1 e2
   cases h
   rw [lB e1, uX e2]
  ·cases h
 ·cases h
open Classical in
noncomputable def bL (m : D) (f : List Int → List (List Int) → Option D) : Option D := match p5 m with
 | some (ns, pay) => if aX ns pay then f ns pay else none
 | none => none
def p6 (ns : List Int) (d : D) (f : List Int → Option D) : Option D := match iH d with
 | some r => if r ∈ aN ns then f r else none
 | none => none
def i7 (n : Nat) (d : D) (f : Nat → Option D) : Option D := match d with
 | .int h => if 0 ≤ h ∧ h < n then f h.toNat else none
 | _ => none
theorem bT {ns : List Int} {pay : List (List Int)} {f : List Int → List (List Int) → Option D} (h : aX ns pay) : bL (aY ns pay) f = f ns pay := by
 unfold bL
 rw [qR]
 exact if_pos h
theorem b8 {m d : D} {f : List Int → List (List Int) → Option D} (h : bL m f = some d) : ∃ ns pay, m = aY ns pay ∧ aX ns pay ∧ f ns pay = some d := by
 unfold bL at h
 split at h
 ·rename_i ns pay e
  split at h
  ·rename_i ho
   exact ⟨ns, pay, qZ e, ho, h⟩
  ·cases h
 ·cases h
theorem mL {ns r : List Int} {f : List Int → Option D} (h : r ∈ aN ns) : p6 ns (aF r) f = f r := by
 unfold p6
 rw [cD]
 exact if_pos h
theorem mJ {ns : List Int} {m d : D} {f : List Int → Option D} (h : p6 ns m f = some d) : ∃ r, m = aF r ∧ r ∈ aN ns ∧ f r = some d := by
 unfold p6 at h
 split at h
 ·rename_i r e
  split at h
  ·rename_i ho
   exact ⟨r, lB e, ho, h⟩
  ·cases h
 ·cases h
theorem fH {n h : Nat} {f : Nat → Option D} (hh : h < n) : i7 n (.int h) f = f h := by
 show (if (0 : Int) ≤ (h : Int) ∧ (h : Int) < n then f (h : Int).toNat else none) = f h
 rw [if_pos ⟨by omega, by omega⟩]
 rfl
theorem fJ {n : Nat} {m d : D} {f : Nat → Option D} (h : i7 n m f = some d) : ∃ k : Nat, m = .int k ∧ k < n ∧ f k = some d := by
 unfold i7 at h
 split at h
 ·rename_i i
  split at h
  ·rename_i ho
   exact ⟨i.toNat, by rw [Int.toNat_of_nonneg ho.1], by omega, h⟩
  ·cases h
 ·cases h
def j0 (ns : List Int) (pay : List (List Int)) (r : List Int) : List Int := pay.getD ((aN ns).idxOf r) []
def bG (ns : List Int) (pay : List (List Int)) (r : List Int) (h : Nat) : Int := (j0 ns pay r).getD h 0
def aS (ns : List Int) (h : Nat) : List Int := (List.range (ns.getD h 0).toNat).map fun (k : Nat) => (k : Int)
def vT (ns : List Int) (pay : List (List Int)) (h : Nat) (r : List Int) : Int := tI ((aS ns h).map fun k => bG ns pay (r.set h k) h)
def wU (ns : List Int) (pay : List (List Int)) (h : Nat) (r : List Int) : List Int := (aS ns h).filter fun k => decide (bG ns pay (r.set h k) h = vT ns pay h r)
def vU (ns : List Int) (pay : List (List Int)) (r : List Int) : Bool := (List.range ns.length).all fun h => (wU ns pay h r).contains (r.getD h 0)
def aAI (ns : List Int) (pay : List (List Int)) : List (List Int) := (aN ns).filter (vU ns pay)
def zE (ns : List Int) (pay : List (List Int)) (h : Nat) : Int := uT ((aN ns).map (vT ns pay h))
def aB3 (ns : List Int) (pay : List (List Int)) (h : Nat) (k : Int) : Int := uT (((aN ns).filter fun r => decide (r.getD h 0 = k)).map fun r => bG ns pay r h)
def aDR (ns : List Int) (pay : List (List Int)) (h : Nat) : Int := tI ((aS ns h).map (aB3 ns pay h))
noncomputable def fW : List D → Option D
 | [m, r] => bL m fun ns pay => p6 ns r fun r => some (aF (j0 ns pay r))
 | _ => none
noncomputable def f9 : List D → Option D
 | [m, h, r] => bL m fun ns pay => i7 ns.length h fun h => p6 ns r fun r => some (aF (wU ns pay h r))
 | _ => none
noncomputable def pG : List D → Option D
 | [m] => bL m fun ns pay => some (.tup ((aAI ns pay).map aF))
 | _ => none
noncomputable def jZ : List D → Option D
 | [m, h] => bL m fun ns pay => i7 ns.length h fun h => some (.int (zE ns pay h))
 | _ => none
noncomputable def pX : List D → Option D
 | [m, h] => bL m fun ns pay => i7 ns.length h fun h => some (.int (aDR ns pay h))
 | _ => none
theorem y3 : ∀ (ms : List Int) (r : List Int), yC ms.reverse r → r ∈ aN ms.reverse
 | [], r, h => by
  have : r = [] := List.eq_nil_of_length_eq_zero h.1
  subst this
  simp [aN]
 | m :: ms, r, h => by
  rw [List.reverse_cons] at h ⊢
  rw [mO]
  have hl : r.length = ms.reverse.length + 1 := by rw [h.1, List.length_append]; rfl
  have hne : r ≠ [] := fun z => by rw [z] at hl; simp at hl
  have er := (List.dropLast_concat_getLast hne).symm
  generalize hx : r.getLast hne = x at er
  generalize hd : r.dropLast = r0 at er
  have hl0 : r0.length = ms.reverse.length := by rw [er, List.length_append] at hl; simpa using hl
  subst er
  have h0 : yC ms.reverse r0 := ⟨hl0, fun i y n e1 e2 => h.2 i y n (by rw [List.getElem?_append_left ((List.getElem?_eq_some_iff.mp e1).1)]; exact e1) (by rw [List.getElem?_append_left ((List.getElem?_eq_some_iff.mp e2).1)]; exact e2)⟩
  have hk := h.2 r0.length x m (by simp) (by rw [hl0]; simp)
  unfold dB
  refine List.mem_flatMap.mpr ⟨r0, y3 ms r0 h0, List.mem_map.mpr ⟨x.toNat, List.mem_range.mpr (by omega), ?_⟩⟩
  rw [Int.toNat_of_nonneg hk.1]
theorem aHY {ns r : List Int} (h : yC ns r) : r ∈ aN ns := by
 have := y3 ns.reverse r (by rw [List.reverse_reverse]; exact h)
 rwa [List.reverse_reverse] at this
theorem e7 {ns r : List Int} (h : r ∈ aN ns) : r.length = ns.length := (uD h).1
theorem qQ {ns r : List Int} (h : r ∈ aN ns) {i : Nat} {k : Int} (h0 : 0 ≤ k) (h1 : k < ns.getD i 0) : r.set i k ∈ aN ns := by
 have q := uD h
 refine aHY ⟨by rw [List.length_set]; exact q.1, fun j x n e1 e2 => ?_⟩
 rcases bC e1 with ⟨rfl, e3, hl⟩ | ⟨hj, e3⟩
 ·subst e3
  rw [List.getD_eq_getElem?_getD, e2] at h1
  exact ⟨h0, h1⟩
 ·exact q.2 j x n e3 e2
theorem x9 (i j : Int) : oA (.int i) (.int j) = some (i == j) := by unfold oA; rfl
theorem aAZ : ∀ (a b : List Int), nZ (a.map D.int) (b.map D.int) = some ((a.zip b).all fun p => p.1 == p.2)
 | [], _ => by unfold nZ; rfl
 | _ :: _, [] => by unfold nZ; rfl
 | x :: a, y :: b => by
  rw [List.map_cons, List.map_cons, nZ, x9, aAZ a b]
  rfl
theorem aA5 : ∀ (a b : List Int), (((a.zip b).all fun p => p.1 == p.2) && a.length == b.length) = (a == b)
 | [], [] => rfl
 | [], _ :: _ => rfl
 | _ :: _, [] => rfl
 | x :: a, y :: b => by
  have := aA5 a b
  rw [List.zip_cons_cons, List.all_cons, List.length_cons, List.length_cons, List.cons_beq_cons, ← this, Bool.and_assoc]
  congr 2
  simp
theorem aBh (a b : List Int) : oA (aF a) (aF b) = some (a == b) := by
 unfold aF oA
 rw [aAZ, List.length_map, List.length_map, Option.map_some, aA5]
theorem vP (r : List Int) : ∀ rs : List (List Int), xL (aF r) (rs.map aF) = some (rs.map fun x => x == r)
 | [] => rfl
 | x :: rs => by
  rw [List.map_cons, xL, aBh, vP r rs]
  rfl
theorem aBc (k : Int) : ∀ rs : List Int, xL (.int k) (rs.map D.int) = some (rs.map fun x => x == k)
 | [] => rfl
 | x :: rs => by
  rw [List.map_cons, xL, x9, aBc k rs]
  rfl
theorem vS : ∀ ns : List Int, rS (ns.map D.int) = 0
 | [] => by unfold rS; rfl
 | n :: ns => by
  rw [List.map_cons, rS, vS ns]
  unfold rY
  rfl
theorem aGb (r : List Int) : rY (aF r) = 1 := by
 unfold aF rY
 rw [vS]
theorem rL : ∀ rs : List (List Int), rS (rs.map aF) ≤ 1
 | [] => by rw [List.map_nil, rS]; omega
 | r :: rs => by
  rw [List.map_cons, rS, aGb]
  have := rL rs
  omega
theorem bR {α : Type} {l : List α} {i : Nat} (h : i < l.length) (d : α) : l.getD i d = l[i] := by
 rw [List.getD_eq_getElem?_getD, List.getElem?_eq_getElem h, Option.getD_some]
theorem v5 {l : List D} {i : Nat} (h : i < l.length) : iC l (i : Int) = some l[i] := by
 simp [iC, ixN, h]
theorem d0 {l : List Int} {i : Nat} (h : i < l.length) : iC (l.map D.int) (i : Int) = some (.int (l.getD i 0)) := by
 rw [v5 (by rw [List.length_map]; exact h), List.getElem_map, bR h]
theorem aHo {l : List (List Int)} {i : Nat} (h : i < l.length) : iC (l.map aF) (i : Int) = some (aF (l.getD i [])) := by
 rw [v5 (by rw [List.length_map]; exact h), List.getElem_map, bR h]
section
variable {ns : List Int} {pay : List (List Int)} {r : List Int} {h : Nat}
theorem aCY (ho : aX ns pay) (hr : r ∈ aN ns) : (aN ns).idxOf r < pay.length := by
 rw [ho.many]
 exact List.idxOf_lt_length_of_mem hr
theorem kH (ho : aX ns pay) (hr : r ∈ aN ns) : (j0 ns pay r).length = ns.length ∧ ∀ x ∈ j0 ns pay r, -9 ≤ x ∧ x ≤ 9 := by
 unfold j0
 rw [bR (aCY ho hr)]
 exact ho.rows _ (List.getElem_mem _)
theorem gG {k : Int} : k ∈ aS ns h ↔ 0 ≤ k ∧ k < ns.getD h 0 := by
 unfold aS
 rw [List.mem_map]
 constructor
 ·rintro ⟨j, hj, rfl⟩
  have := List.mem_range.mp hj
  omega
 ·intro hk
  exact ⟨k.toNat, List.mem_range.mpr (by omega), by omega⟩
theorem qE (ho : aX ns pay) (hh : h < ns.length) : 1 ≤ ns.getD h 0 ∧ ns.getD h 0 ≤ 3 := by
 rw [bR hh]
 exact (cC ho.ok).2 _ (List.getElem_mem hh)
theorem mD (ho : aX ns pay) (hh : h < ns.length) : aS ns h ≠ [] := by
 have := qE ho hh
 exact List.ne_nil_of_mem (gG.mpr ⟨Int.le_refl 0, by omega⟩)
theorem aFf (ho : aX ns pay) (hh : h < ns.length) {k : Int} (hk : k ∈ aS ns h) : bG ns pay (r.set h k) h ≤ vT ns pay h r := by
 unfold vT
 exact (p9 (by simpa using mD ho hh)).2 _ (List.mem_map.mpr ⟨k, hk, rfl⟩)
theorem aJi (ho : aX ns pay) (hh : h < ns.length) : ∃ k ∈ aS ns h, bG ns pay (r.set h k) h = vT ns pay h r := by
 unfold vT
 obtain ⟨k, hk, e⟩ := List.mem_map.mp (p9 (ns := (aS ns h).map fun k => bG ns pay (r.set h k) h) (by simpa using mD ho hh)).1
 exact ⟨k, hk, e⟩
theorem uL {i : Nat} (hi : i < r.length) : r.set i (r.getD i 0) = r := by
 rw [bR hi]
 exact List.set_getElem_self hi
theorem aBR (ho : aX ns pay) : aN ns ≠ [] := by
 have := (fN ho.ok).1
 intro z
 rw [z] at this
 simp at this
theorem aIY (ho : aX ns pay) (hh : h < ns.length) : aDR ns pay h ≤ zE ns pay h := by
 unfold aDR zE
 obtain ⟨k, hk, e1⟩ := List.mem_map.mp (p9 (ns := (aS ns h).map (aB3 ns pay h)) (by simpa using mD ho hh)).1
 obtain ⟨r, hr, e2⟩ := List.mem_map.mp (mU (ns := (aN ns).map (vT ns pay h)) (by simpa using aBR ho)).1
 rw [← e1, ← e2]
 refine Int.le_trans ?_ (aFf (r := r) ho hh hk)
 unfold aB3
 have hs : r.set h k ∈ (aN ns).filter fun r => decide (r.getD h 0 = k) := by
  refine List.mem_filter.mpr ⟨qQ hr (gG.mp hk).1 (gG.mp hk).2, ?_⟩
  have hl : h < (r.set h k).length := by rw [List.length_set, e7 hr]; exact hh
  rw [bR hl]
  simp
 have hm : bG ns pay (r.set h k) h ∈ ((aN ns).filter fun r => decide (r.getD h 0 = k)).map fun r => bG ns pay r h := List.mem_map.mpr ⟨_, hs, rfl⟩
 exact (mU (List.ne_nil_of_mem hm)).2 _ hm
end
theorem aI0 (k : Int) (l : List Int) : (l.map fun x => x == k).any id = l.contains k := by
 induction l with
 | nil => rfl
 | cons x l ih => rw [List.map_cons, List.any_cons, ih, List.contains_cons, id]; rw [Bool.beq_comm]
theorem fZ {ns : List Int} {h : Nat} : b9 0 (ns.getD h 0).toNat = (aS ns h).map D.int := by
 unfold b9 aS
 rw [List.map_map]
 refine List.map_congr_left fun k _ => ?_
 simp
def Bd (k : Nat) (i : Int) : Prop := i.natAbs < 2 ^ k
theorem Bd.mono {a b : Nat} {i : Int} (h : Bd a i) (hab : a ≤ b) : Bd b i := Nat.lt_of_lt_of_le h (Nat.pow_le_pow_right (by decide) hab)
theorem Bd.mul {a b : Nat} {i j : Int} (h1 : Bd a i) (h2 : Bd b j) : Bd (a + b) (i * j) := by
 unfold Bd at *
 rw [Int.natAbs_mul, Nat.pow_add]
 exact Nat.mul_lt_mul_of_lt_of_le h1 (Nat.le_of_lt h2) (Nat.two_pow_pos b)
theorem Bd.neg {a : Nat} {i : Int} (h : Bd a i) : Bd a (-i) := by
 unfold Bd at *
 rw [Int.natAbs_neg]
 exact h
theorem Bd.add {a : Nat} {i j : Int} (h1 : Bd a i) (h2 : Bd a j) : Bd (a + 1) (i + j) := by
 unfold Bd at *
 have := Int.natAbs_add_le i j
 rw [Nat.pow_succ]
 omega
theorem Bd.sub {a : Nat} {i j : Int} (h1 : Bd a i) (h2 : Bd a j) : Bd (a + 1) (i - j) := by
 rw [Int.sub_eq_add_neg]
 exact h1.add h2.neg
theorem Bd.of_le {a : Nat} {i j : Int} (h : Bd a j) (h0 : 0 ≤ i) (h1 : i ≤ j) : Bd a i := by
 unfold Bd at *
 omega
theorem Bd.abs {a : Nat} {i j : Int} (h : Bd a j) (h1 : i.natAbs ≤ j.natAbs) : Bd a i := Nat.lt_of_le_of_lt h1 h
theorem Bd.bits {a : Nat} {i : Int} (h : Bd a i) : Builtin.Int.intBits i ≤ a := by
 unfold Builtin.Int.intBits
 split
 ·exact Nat.zero_le _
 ·rename_i hz
  have h0 : i.natAbs ≠ 0 := by
   intro z
   exact hz (by rw [Int.natAbs_eq_zero.mp z]; rfl)
  exact (Nat.log2_lt h0).mpr h
theorem Bd.log {a : Nat} {i : Int} (h : Bd a i) (ha : 0 < a) : i.natAbs.log2 < a := by
 by_cases h0 : i.natAbs = 0
 ·rw [h0]
  exact ha
 ·exact (Nat.log2_lt h0).mpr h
theorem Bd.pow {a : Nat} {i : Int} (h : Bd a i) : ∀ n : Nat, Bd (a * n + 1) (i ^ n)
 | 0 => by rw [Int.pow_zero]; show (1 : Nat) < 2 ^ (a * 0 + 1); rw [Nat.mul_zero]; decide
 | n + 1 => by
  have := (Bd.pow h n).mul h
  rw [Int.pow_succ]
  exact this.mono (by rw [Nat.mul_succ]; omega)
def aFB (i j : Int) : Prop := aGO i j ∨ (Bd 8000 i ∧ Bd 8000 j)
def aKs (i j : Int) : Prop := 0 < j ∧ Bd 8000 j
theorem aFB.ok {i j : Int} (h : aFB i j) : IntMulOk i j := by
 rcases h with h | ⟨h1, h2⟩
 ·exact h.ok
 ·exact PySem.IntMulOk.of_bits (Nat.le_trans h1.bits (by decide)) (Nat.le_trans h2.bits (by decide))
section
variable {X : Cx}
theorem aI8 : rW X (binaryOp .Mult) (rI aFB fun i j => .int (i * j)) := opI fun _ _ _ _ _ _ _ hc q => mul_int q hc.ok
theorem aIJ : rW X (binaryOp .FloorDiv) (rI aKs fun i j => .int (i / j)) := opI fun i j _ _ _ _ _ hc q => by
 have h1 : (0 : Int) < j := hc.1
 exact floordiv_int (by omega) (by rw [Int.fdiv_eq_ediv_of_nonneg i (by omega)]; exact q) (.inl (PyProof.noPylong_of_log2 (Nat.lt_of_lt_of_le (hc.2.log (by decide)) (by decide))))
abbrev oQ : GO := t9 aFB fun i j => .int (i * j)
abbrev aFq : GO := t9 aKs fun i j => .int (i / j)
theorem jL : DOp X (binaryOp .Mult) oQ := uW aI8
theorem aBz : DOp X (binaryOp .FloorDiv) aFq := uW aIJ
end
end L2
namespace L2
def gN (f : Nat → Nat) : Nat → Nat → Nat
 | 0, s => s
 | t + 1, s => gN f t (f s)
theorem lD (f : Nat → Nat) : ∀ (a b s : Nat), gN f (a + b) s = gN f b (gN f a s)
 | 0, b, s => by rw [Nat.zero_add]; rfl
 | a + 1, b, s => by
  rw [Nat.add_right_comm]
  exact lD f a b (f s)
theorem nY {f : Nat → Nat} {N : Nat} (hf : ∀ s, s < N → f s < N) : ∀ (t s : Nat), s < N → gN f t s < N
 | 0, s, h => h
 | t + 1, s, h => nY hf t (f s) (hf s h)
def fst (d : Rat) (g : Nat → Rat) (f : Nat → Nat) : Nat → Nat → Rat
 | 0, _ => 0
 | n + 1, s => (1 - d) * g s + d * fst d g f n (f s)
def Sol (N : Nat) (d : Rat) (g : Nat → Rat) (f : Nat → Nat) (W : Nat → Rat) : Prop := ∀ s, s < N → W s = (1 - d) * g s + d * W (f s)
section
variable {N : Nat} {d : Rat} {g : Nat → Rat} {f : Nat → Nat} {W V : Nat → Rat}
theorem Sol.unroll (h : Sol N d g f W) (hf : ∀ s, s < N → f s < N) : ∀ (n s : Nat), s < N → W s = fst d g f n s + d ^ n * W (gN f n s)
 | 0, s, hs => by
  show W s = 0 + d ^ 0 * W s
  grind
 | n + 1, s, hs => by
  have e := h.unroll hf n (f s) (hf s hs)
  have e0 := h s hs
  show W s = ((1 - d) * g s + d * fst d g f n (f s)) + d ^ (n + 1) * W (gN f n (f s))
  rw [e0, Rat.pow_succ]
  grind
theorem kZ (h0 : 0 < d) (h1 : d < 1) : ∀ n : Nat, 0 < n → d ^ n < 1 ∧ 0 < d ^ n
 | 0, h => absurd h (Nat.lt_irrefl 0)
 | 1, _ => by rw [Rat.pow_succ, Rat.pow_zero]; grind
 | n + 2, _ => by
  obtain ⟨a, b⟩ := kZ h0 h1 (n + 1) (Nat.succ_pos n)
  rw [Rat.pow_succ]
  have c : d ^ (n + 1) * d < 1 * d := by
   have := Rat.mul_lt_mul_of_pos_right a h0
   exact this
  have e : 0 < d ^ (n + 1) * d := Rat.mul_pos b h0
  grind
theorem aCE (h0 : 0 < d) : ∀ n : Nat, 0 < d ^ n
 | 0 => by rw [Rat.pow_zero]; grind
 | n + 1 => by rw [Rat.pow_succ]; exact Rat.mul_pos (aCE h0 n) h0
theorem vY : ∀ (N : Nat) (q : Nat → Nat), (∀ i, i ≤ N → q i < N) → ∃ i j, i < j ∧ j ≤ N ∧ q i = q j
 | 0, q, h => absurd (h 0 (Nat.le_refl 0)) (Nat.not_lt_zero _)
 | N + 1, q, h => by
  by_cases hd : ∃ i, i ≤ N ∧ q i = q (N + 1)
  ·obtain ⟨i, hi, e⟩ := hd
   exact ⟨i, N + 1, by omega, Nat.le_refl _, e⟩
  ·-- move the last value away
   have hd' : ∀ i, i ≤ N → q i ≠ q (N + 1) := fun i hi e => hd ⟨i, hi, e⟩
   have hl := h (N + 1) (Nat.le_refl _)
   obtain ⟨i, j, hij, hj, e⟩ := vY N (fun i => if q i = N then q (N + 1) else q i) fun i hi => by
    have h1 := h i (by omega)
    have h2 := hd' i hi
    show (if q i = N then q (N + 1) else q i) < N
    split <;> omega
   refine ⟨i, j, hij, by omega, ?_⟩
   have h1 := hd' i (by omega)
   have h2 := hd' j hj
   have e : (if q i = N then q (N + 1) else q i) = (if q j = N then q (N + 1) else q j) := e
   split at e <;> split at e <;> omega
theorem qW (hf : ∀ s, s < N → f s < N) {s : Nat} (hs : s < N) : ∃ i P, 0 < P ∧ i + P ≤ N ∧ gN f P (gN f i s) = gN f i s := by
 obtain ⟨i, j, hij, hj, e⟩ := vY N (fun t => gN f t s) fun t _ => nY hf t s hs
 refine ⟨i, j - i, by omega, by omega, ?_⟩
 rw [← lD, show i + (j - i) = j by omega]
 exact e.symm
theorem Sol.uniq (h0 : 0 < d) (h1 : d < 1) (hf : ∀ s, s < N → f s < N) (hW : Sol N d g f W) (hV : Sol N d g f V) {s : Nat} (hs : s < N) : W s = V s := by
 obtain ⟨i, P, hP, _, e⟩ := qW hf hs
 have hc := nY hf i s hs
 have a1 := hW.unroll hf P (gN f i s) hc
 have a2 := hV.unroll hf P (gN f i s) hc
 have b1 := hW.unroll hf i s hs
 have b2 := hV.unroll hf i s hs
 rw [e] at a1 a2
 obtain ⟨p1, p2⟩ := kZ h0 h1 P hP
 have : (1 - d ^ P) * (W (gN f i s) - V (gN f i s)) = 0 := by grind
 have hne : (1 - d ^ P) ≠ 0 := by grind
 have : W (gN f i s) = V (gN f i s) := by grind
 rw [b1, b2, this]
theorem aEu {B : Rat} (h0 : 0 < d) (h1 : d < 1) (hf : ∀ s, s < N → f s < N) (hg : ∀ s, s < N → g s ≤ B) : ∀ (n s : Nat), s < N → fst d g f n s ≤ (1 - d ^ n) * B
 | 0, s, hs => by
  show (0 : Rat) ≤ (1 - d ^ 0) * B
  rw [Rat.pow_zero]
  grind
 | n + 1, s, hs => by
  have e := aEu h0 h1 hf hg n (f s) (hf s hs)
  have a := hg s hs
  show (1 - d) * g s + d * fst d g f n (f s) ≤ _
  have b : d * fst d g f n (f s) ≤ d * ((1 - d ^ n) * B) := Rat.mul_le_mul_of_nonneg_left e (Rat.le_of_lt h0)
  have c : (1 - d) * g s ≤ (1 - d) * B := Rat.mul_le_mul_of_nonneg_left a (by grind)
  rw [Rat.pow_succ]
  grind
theorem Sol.neg (h : Sol N d g f W) : Sol N d (fun s => - g s) f (fun s => - W s) := fun s hs => by
 have := h s hs
 grind
theorem Sol.le {B : Rat} (h0 : 0 < d) (h1 : d < 1) (hf : ∀ s, s < N → f s < N) (hW : Sol N d g f W) (hg : ∀ s, s < N → g s ≤ B) {s : Nat} (hs : s < N) : W s ≤ B := by
 obtain ⟨i, P, hP, _, e⟩ := qW hf hs
 have hc := nY hf i s hs
 have a1 := hW.unroll hf P (gN f i s) hc
 have b1 := hW.unroll hf i s hs
 rw [e] at a1
 obtain ⟨p1, p2⟩ := kZ h0 h1 P hP
 have l1 := aEu h0 h1 hf hg P (gN f i s) hc
 have l2 := aEu h0 h1 hf hg i s hs
 have k : W (gN f i s) ≤ B := by
  have : (1 - d ^ P) * W (gN f i s) ≤ (1 - d ^ P) * B := by grind
  exact Rat.le_of_mul_le_mul_left this (by grind)
 have : d ^ i * W (gN f i s) ≤ d ^ i * B := Rat.mul_le_mul_of_nonneg_left k (Rat.le_of_lt (aCE h0 i))
 rw [b1]
 grind
theorem Sol.ge {B : Rat} (h0 : 0 < d) (h1 : d < 1) (hf : ∀ s, s < N → f s < N) (hW : Sol N d g f W) (hg : ∀ s, s < N → B ≤ g s) {s : Nat} (hs : s < N) : B ≤ W s := by
 have := hW.neg.le (B := -B) h0 h1 hf (fun s hs => by have := hg s hs; grind) hs
 grind
end
end L2
namespace L2
section
variable {N : Nat} {d : Rat} {g : Nat → Rat} {f : Nat → Nat} {W V : Nat → Rat}
theorem aFc {P c : Nat} (h : gN f P c = c) : ∀ k, gN f (P * k) c = c
 | 0 => rfl
 | k + 1 => by rw [Nat.mul_succ, lD, aFc h k, h]
theorem aKY {P c : Nat} (h : gN f P c = c) (t : Nat) : gN f P (gN f t c) = gN f t c := by
 rw [← lD, Nat.add_comm, lD, h]
def fac : Nat → Nat
 | 0 => 1
 | n + 1 => (n + 1) * fac n
theorem aFH : ∀ n, 0 < fac n
 | 0 => Nat.one_pos
 | n + 1 => Nat.mul_pos (Nat.succ_pos n) (aFH n)
theorem aFC {k : Nat} (hk : 0 < k) : ∀ n, k ≤ n → k ∣ fac n
 | 0, h => by omega
 | n + 1, h => by
  by_cases e : k = n + 1
  ·rw [e]; exact Nat.dvd_mul_right _ _
  ·exact Nat.dvd_trans (aFC hk n (by omega)) (Nat.dvd_mul_left _ _)
theorem far (hf : ∀ s, s < N → f s < N) {s : Nat} (hs : s < N) : gN f (fac N) (gN f N s) = gN f N s := by
 obtain ⟨i, P, hP, hN, e⟩ := qW hf hs
 have : gN f N s = gN f (N - i) (gN f i s) := by rw [← lD]; congr 1; omega
 rw [this]
 refine aKY ?_ _
 obtain ⟨k, hk⟩ := aFC hP N (by omega)
 rw [hk]
 exact aFc e k
theorem aAg : ∀ (n s : Nat), fst d g f (n + 1) s = fst d g f n s + (1 - d) * d ^ n * g (gN f n s)
 | 0, s => by
  show (1 - d) * g s + d * 0 = 0 + (1 - d) * d ^ 0 * g s
  rw [Rat.pow_zero]
  grind
 | n + 1, s => by
  have := aAg n (f s)
  show (1 - d) * g s + d * fst d g f (n + 1) (f s) = ((1 - d) * g s + d * fst d g f n (f s)) + (1 - d) * d ^ (n + 1) * g (gN f n (f s))
  rw [this, Rat.pow_succ]
  grind
def aLu (N : Nat) (d : Rat) (g : Nat → Rat) (f : Nat → Nat) (s : Nat) : Rat := fst d g f N s + d ^ N * (fst d g f (fac N) (gN f N s) / (1 - d ^ fac N))
theorem aIR (h0 : 0 < d) (h1 : d < 1) (hf : ∀ s, s < N → f s < N) : Sol N d g f (aLu N d g f) := by
 intro s hs
 have hp := far hf hs
 obtain ⟨p1, p2⟩ := kZ h0 h1 (fac N) (aFH N)
 have hne : (1 - d ^ fac N) ≠ 0 := by grind
 have e1 : gN f N (f s) = f (gN f N s) := by
  show gN f (N + 1) s = _
  rw [lD]
  rfl
 have a1 := aAg (d := d) (g := g) (f := f) N s
 have a2 : fst d g f (N + 1) s = (1 - d) * g s + d * fst d g f N (f s) := rfl
 have b1 := aAg (d := d) (g := g) (f := f) (fac N) (gN f N s)
 have b2 : fst d g f (fac N + 1) (gN f N s) = (1 - d) * g (gN f N s) + d * fst d g f (fac N) (f (gN f N s)) := rfl
 rw [hp] at b1
 unfold aLu
 rw [e1]
 generalize fst d g f (fac N) (f (gN f N s)) = T at *
 generalize fst d g f (fac N) (gN f N s) = S at *
 generalize d ^ fac N = p at *
 have e2 : S / (1 - p) = (1 - d) * g (gN f N s) + d * (T / (1 - p)) := by grind
 rw [e2]
 grind
theorem tO (x : Rat) : x * (x.den : Int) = x.num := by
 have h := Rat.num_divInt_den x
 rw [Rat.divInt_eq_div] at h
 have hd : ((x.den : Int) : Rat) ≠ 0 := by
  have := x.den_nz
  intro z
  have z2 : ((x.den : Int) : Rat) = ((0 : Int) : Rat) := z
  rw [Rat.intCast_inj] at z2
  omega
 grind
theorem aJR {x : Rat} {m z : Int} (h : x * m = z) : (x.den : Int) ∣ m := by
 have h1 := tO x
 have h2 : ((z * (x.den : Int) : Int) : Rat) = ((x.num * m : Int) : Rat) := by
  rw [Rat.intCast_mul, Rat.intCast_mul, ← h, ← h1]
  grind
 rw [Rat.intCast_inj] at h2
 have h3 : x.den ∣ x.num.natAbs * m.natAbs := by
  rw [← Int.natAbs_mul, ← h2, Int.natAbs_mul]
  exact Nat.dvd_mul_left _ _
 have h4 := Nat.Coprime.dvd_of_dvd_mul_left x.reduced.symm h3
 exact Int.ofNat_dvd_left.mpr h4
theorem aKW {x : Rat} {m z : Int} (hm : 0 < m) (h : x * m = z) : (x.den : Int) ≤ m := Int.le_of_dvd hm (aJR h)
theorem aCb {p q : Int} (hd : d * q = p) {gz : Nat → Int} (hg : ∀ s, s < N → g s = gz s) (hf : ∀ s, s < N → f s < N) : ∀ (n s : Nat), s < N → ∃ z : Int, fst d g f n s * ((q ^ n : Int) : Rat) = z
 | 0, s, hs => ⟨0, by show (0 : Rat) * _ = _; grind⟩
 | n + 1, s, hs => by
  obtain ⟨z, e⟩ := aCb hd hg hf n (f s) (hf s hs)
  refine ⟨(q - p) * gz s * q ^ n + p * z, ?_⟩
  show ((1 - d) * g s + d * fst d g f n (f s)) * ((q ^ (n + 1) : Int) : Rat) = _
  rw [Int.pow_succ, Rat.intCast_mul, Rat.intCast_add, Rat.intCast_mul, Rat.intCast_mul, Rat.intCast_mul, Rat.intCast_sub, hg s hs]
  generalize ((q ^ n : Int) : Rat) = Q at *
  grind
theorem mM {q : Int} (h : 0 < q) : ∀ n : Nat, 0 < q ^ n
 | 0 => by rw [Int.pow_zero]; decide
 | n + 1 => by rw [Int.pow_succ]; exact Int.mul_pos (mM h n) h
theorem aCc {p q : Int} (h0 : 0 < p) (h : p < q) : ∀ n : Nat, 0 < n → p ^ n < q ^ n
 | 0, z => absurd z (Nat.lt_irrefl 0)
 | 1, _ => by rw [Int.pow_succ, Int.pow_zero, Int.pow_succ, Int.pow_zero]; omega
 | n + 2, _ => by
  have a := aCc h0 h (n + 1) (Nat.succ_pos n)
  rw [Int.pow_succ, Int.pow_succ q]
  have b : p ^ (n + 1) * p < q ^ (n + 1) * p := Int.mul_lt_mul_of_pos_right a h0
  have c : q ^ (n + 1) * p < q ^ (n + 1) * q := Int.mul_lt_mul_of_pos_left h (mM (by omega) _)
  omega
theorem aGS {q : Int} (h : 1 ≤ q) {a b : Nat} (hab : a ≤ b) : q ^ a ≤ q ^ b := by
 obtain ⟨k, rfl⟩ := Nat.le.dest hab
 rw [Int.pow_add]
 have h1 : 0 < q ^ a := mM (by omega) a
 have h2 : 0 < q ^ k := mM (by omega) k
 have := Int.mul_le_mul_of_nonneg_left (show 1 ≤ q ^ k by omega) (Int.le_of_lt h1)
 omega
theorem Sol.den {p q : Int} (hp : 0 < p) (hpq : p < q) (hd : d * q = p) {gz : Nat → Int} (hg : ∀ s, s < N → g s = gz s) (hf : ∀ s, s < N → f s < N) (hW : Sol N d g f W) {s : Nat} (hs : s < N) : ((W s).den : Int) ≤ q ^ N := by
 obtain ⟨i, P, hP, hN, e⟩ := qW hf hs
 have hc := nY hf i s hs
 have a1 := hW.unroll hf P (gN f i s) hc
 have b1 := hW.unroll hf i s hs
 rw [e] at a1
 obtain ⟨z1, e1⟩ := aCb hd hg hf P (gN f i s) hc
 obtain ⟨z2, e2⟩ := aCb hd hg hf i s hs
 have hdp : ∀ n : Nat, d ^ n * ((q ^ n : Int) : Rat) = ((p ^ n : Int) : Rat) := by
  intro n
  induction n with
  | zero => rw [Rat.pow_zero, Int.pow_zero, Int.pow_zero]; grind
  | succ n ih =>
   rw [Rat.pow_succ, Int.pow_succ, Int.pow_succ, Rat.intCast_mul, Rat.intCast_mul]
   grind
 have dP := hdp P
 have di := hdp i
 have hm : 0 < q ^ P - p ^ P := by have := aCc hp hpq P hP; omega
 have hq : 0 < q ^ i := mM (by omega) i
 have key : W s * ((q ^ i * (q ^ P - p ^ P) : Int) : Rat) = ((z2 * (q ^ P - p ^ P) + p ^ i * z1 : Int) : Rat) := by
  rw [Rat.intCast_mul, Rat.intCast_add, Rat.intCast_mul, Rat.intCast_mul, Rat.intCast_sub, b1]
  generalize ((q ^ i : Int) : Rat) = Qi at *
  generalize ((q ^ P : Int) : Rat) = QP at *
  generalize ((p ^ i : Int) : Rat) = pi at *
  generalize ((p ^ P : Int) : Rat) = pP at *
  have k1 : W (gN f i s) * (QP - pP) = z1 := by grind
  grind
 refine Int.le_trans (aKW (Int.mul_pos hq hm) key) ?_
 have l1 : q ^ i * (q ^ P - p ^ P) ≤ q ^ i * q ^ P := Int.mul_le_mul_of_nonneg_left (by have := mM hp P; omega) (Int.le_of_lt hq)
 rw [← Int.pow_add] at l1
 exact Int.le_trans l1 (aGS (by omega) hN)
end
open PySem PySem.Spec PyProof.Rows
@[reducible] def aU (q : Rat) : D := .tup [.int q.num, .int q.den]
def aC5 : D → Option Rat
 | .tup [.int a, .int b] => if 0 < b ∧ Int.gcd a b = 1 then some (Rat.divInt a b) else none
 | _ => none
theorem tZ (q : Rat) : aC5 (aU q) = some q := by
 have h1 : (0 : Int) < (q.den : Int) := by have := q.den_nz; omega
 have h2 : Int.gcd q.num q.den = 1 := q.reduced
 show (if (0 : Int) < (q.den : Int) ∧ Int.gcd q.num q.den = 1 then some (Rat.divInt q.num q.den) else none) = some q
 rw [if_pos ⟨h1, h2⟩, Rat.num_divInt_den]
theorem tP {d : D} {q : Rat} (h : aC5 d = some q) : d = aU q := by
 unfold aC5 at h
 split at h
 ·rename_i a b
  split at h
  ·rename_i hh
   cases h
   have h1 : b.sign = 1 := Int.sign_eq_one_of_pos hh.1
   have h2 : b.gcd a = 1 := by rw [Int.gcd_comm]; exact hh.2
   unfold aU
   rw [Rat.num_divInt, Rat.den_divInt, if_neg (by omega), h1, h2]
   simp
   omega
  ·cases h
 ·cases h
def yS (d : D) (f : Rat → Option D) : Option D := match aC5 d with
 | some q => f q
 | none => none
theorem aId {q : Rat} {f : Rat → Option D} : yS (aU q) f = f q := by
 unfold yS
 rw [tZ]
theorem aDL {m d : D} {f : Rat → Option D} (h : yS m f = some d) : ∃ q, m = aU q ∧ f q = some d := by
 unfold yS at h
 split at h
 ·rename_i q e
  exact ⟨q, tP e, h⟩
 ·cases h
def BdR (k : Nat) (q : Rat) : Prop := Bd k q.num ∧ Bd k (q.den : Int)
theorem tJ (q : Rat) : (0 : Int) < (q.den : Int) := by have := q.den_nz; omega
open Classical in
noncomputable def fA : List D → Option D
 | [a, b] => yS a fun a => yS b fun b => if BdR 1000 a ∧ BdR 1000 b then some (.bl (decide (b < a))) else none
 | _ => none
def aFE (d : D) : Option (List Int × List Int) := match d with
 | .tup [a, b] => match iH a, iH b with
  | some r, some n => some (r, n)
  | _, _ => none
 | _ => none
def rH : List D → Option (List (List Int × List Int))
 | [] => some []
 | d :: ds => match aFE d, rH ds with
  | some s, some ss => some (s :: ss)
  | _, _ => none
def zF : D → Option (List (List Int × List Int))
 | .tup ds => rH ds
 | _ => none
theorem aIK {d : D} {s : List Int × List Int} (h : aFE d = some s) : d = .tup [aF s.1, aF s.2] := by
 unfold aFE at h
 split at h
 ·split at h
  ·rename_i e1 e2
   cases h
   rw [lB e1, lB e2]
  ·cases h
 ·cases h
theorem aAl : ∀ pl : List (List Int × List Int), rH (pl.map fun s => .tup [aF s.1, aF s.2]) = some pl
 | [] => rfl
 | s :: pl => by
  rw [List.map_cons, rH, aAl pl]
  simp only [aFE, cD]
theorem aAa : ∀ {ds : List D} {pl : List (List Int × List Int)}, rH ds = some pl → ds = pl.map fun s => .tup [aF s.1, aF s.2]
 | [], pl, h => by cases h; rfl
 | d :: ds, pl, h => by
  unfold rH at h
  split at h
  ·rename_i s ss e1 e2
   cases h
   rw [aIK e1, aAa e2]
   rfl
  ·cases h
theorem aAM (pl : List (List Int × List Int)) : zF (f8 pl) = some pl := aAl pl
theorem aA0 {d : D} {pl : List (List Int × List Int)} (h : zF d = some pl) : d = f8 pl := by
 unfold zF at h
 split at h
 ·rw [aAa h]
 ·cases h
structure gE (ns : List Int) (pl : List (List Int × List Int)) : Prop where
 few : 1 ≤ pl.length ∧ pl.length ≤ 20
 row : ∀ s ∈ pl, s.1 ∈ aN ns
 nexts : ∀ s ∈ pl, s.2.length = (aN ns).length ∧ ∀ x ∈ s.2, 0 ≤ x ∧ x < pl.length
open Classical in
noncomputable def nX (ns : List Int) (d : D) (f : List (List Int × List Int) → Option D) : Option D := match zF d with
 | some pl => if gE ns pl then f pl else none
 | none => none
theorem mE {ns : List Int} {pl : List (List Int × List Int)} {f : List (List Int × List Int) → Option D} (h : gE ns pl) : nX ns (f8 pl) f = f pl := by
 unfold nX
 rw [aAM]
 exact if_pos h
theorem mH {ns : List Int} {m d : D} {f : List (List Int × List Int) → Option D} (h : nX ns m f = some d) : ∃ pl, m = f8 pl ∧ gE ns pl ∧ f pl = some d := by
 unfold nX at h
 split at h
 ·rename_i pl e
  split at h
  ·rename_i ho
   exact ⟨pl, aA0 e, ho, h⟩
  ·cases h
 ·cases h
def bY (pl : List (List Int × List Int)) (s : Nat) : List Int := (pl.getD s ([], [])).1
def i8 (ns : List Int) (pl : List (List Int × List Int)) (s : Nat) (r : List Int) : Nat := ((pl.getD s ([], [])).2.getD ((aN ns).idxOf r) 0).toNat
def fX (ns : List Int) (pl : List (List Int × List Int)) (s : Nat) : Nat := i8 ns pl s (bY pl s)
noncomputable def cN (ns : List Int) (pay : List (List Int)) (pl : List (List Int × List Int)) (d : Rat) (h s : Nat) : Rat := aLu pl.length d (fun s => (bG ns pay (bY pl s) h : Rat)) (fX ns pl) s
@[reducible] def aMZ (x : Int × Int × Int) : D := .tup [.int x.1, .int x.2.1, .int x.2.2]
structure dA (d : Rat) : Prop where
 pos : 0 < d
 lt : d < 1
 bits : BdR 40 d
open Classical in
noncomputable def lJ (d : D) (f : Rat → Option D) : Option D := match aC5 d with
 | some q => if dA q then f q else none
 | none => none
theorem gU {q : Rat} {f : Rat → Option D} (h : dA q) : lJ (aU q) f = f q := by
 unfold lJ
 rw [tZ]
 exact if_pos h
theorem h9 {m d : D} {f : Rat → Option D} (h : lJ m f = some d) : ∃ q, m = aU q ∧ dA q ∧ f q = some d := by
 unfold lJ at h
 split at h
 ·rename_i q e
  split at h
  ·rename_i ho
   exact ⟨q, tP e, ho, h⟩
  ·cases h
 ·cases h
noncomputable def oV (ns : List Int) (pay : List (List Int)) (pl : List (List Int × List Int)) (d : Rat) : D := .tup ((List.range pl.length).map fun s => .tup ((List.range ns.length).map fun h => aU (cN ns pay pl d h s)))
noncomputable def lR : List D → Option D
 | [m, p, d] => bL m fun ns pay => nX ns p fun pl => lJ d fun d => some (oV ns pay pl d)
 | _ => none
def rT (d : Rat) : List Rat → Rat
 | [] => 0
 | x :: xs => (1 - d) * x + d * rT d xs
def woR (ns : List Int) (pay : List (List Int)) (rows over : List (List Int)) (d : Rat) (h : Nat) : Rat := rT d (rows.map fun r => (bG ns pay r h : Rat)) + d ^ rows.length * (rT d (over.map fun r => (bG ns pay r h : Rat)) / (1 - d ^ over.length))
def sI (ns : List Int) (d : D) (f : List (List Int) → Option D) : Option D := match kD d with
 | some ds => match wI ds with
  | some rs => if rs.length ≤ 20 ∧ ∀ r ∈ rs, r ∈ aN ns then f rs else none
  | none => none
 | none => none
theorem sH {ns : List Int} {d : D} {rs : List (List Int)} {f : List (List Int) → Option D} (hd : kD d = some (rs.map aF)) (h1 : rs.length ≤ 20) (h2 : ∀ r ∈ rs, r ∈ aN ns) : sI ns d f = f rs := by
 unfold sI
 simp only [hd, tU]
 exact if_pos ⟨h1, h2⟩
theorem vN {ns : List Int} {m d : D} {f : List (List Int) → Option D} (h : sI ns m f = some d) : ∃ rs, kD m = some (rs.map aF) ∧ rs.length ≤ 20 ∧ (∀ r ∈ rs, r ∈ aN ns) ∧ f rs = some d := by
 unfold sI at h
 split at h
 ·rename_i ds e0
  split at h
  ·rename_i rs e
   split at h
   ·rename_i ho
    exact ⟨rs, by rw [e0, uX e], ho.1, ho.2, h⟩
   ·cases h
  ·cases h
 ·cases h
noncomputable def iR : List D → Option D
 | [m, rows, over, d] => bL m fun ns pay => sI ns rows fun rows => sI ns over fun over => lJ d fun d => if over = [] then none else some (.tup ((List.range ns.length).map fun h => aU (woR ns pay rows over d h)))
 | _ => none
theorem aGD (l : List D) (n : Nat) (h : n ≤ l.length) : rO l none (some (n : Int)) = l.take n := by
 unfold rO
 rw [HT.sIx_none, HT.sIx_nat, Nat.min_eq_left h, List.drop_zero]
 rfl
theorem aGI (l : List D) (n : Nat) (h : n ≤ l.length) : rO l (some (n : Int)) none = l.drop n := by
 unfold rO
 rw [HT.sIx_none, HT.sIx_nat, Nat.min_eq_left h]
 refine List.take_of_length_le ?_
 rw [List.length_drop]
 omega
section
variable {ns : List Int} {pay : List (List Int)} {pl : List (List Int × List Int)} {d : Rat} {h s : Nat}
theorem aDB (hp : gE ns pl) (hs : s < pl.length) {r : List Int} (hr : r ∈ aN ns) : i8 ns pl s r < pl.length := by
 have hm : pl.getD s ([], []) ∈ pl := by rw [bR hs]; exact List.getElem_mem hs
 obtain ⟨h1, h2⟩ := hp.nexts _ hm
 have hi : (aN ns).idxOf r < (pl.getD s ([], [])).2.length := by
  rw [h1]
  exact List.idxOf_lt_length_of_mem hr
 have := h2 _ (List.getElem_mem hi)
 unfold i8
 rw [bR hi]
 omega
theorem oN (hp : gE ns pl) (hs : s < pl.length) : bY pl s ∈ aN ns := by
 unfold bY
 rw [bR hs]
 exact hp.row _ (List.getElem_mem hs)
theorem zY (hp : gE ns pl) : ∀ s, s < pl.length → fX ns pl s < pl.length := fun s hs => aDB hp hs (oN hp hs)
theorem nL (ho : aX ns pay) {r : List Int} (hr : r ∈ aN ns) : -9 ≤ bG ns pay r h ∧ bG ns pay r h ≤ 9 := by
 unfold bG
 rw [List.getD_eq_getElem?_getD]
 cases e : (j0 ns pay r)[h]? with
 | none => exact ⟨by decide, by decide⟩
 | some x => exact (kH ho hr).2 x (List.mem_of_getElem? e)
theorem qN (hp : gE ns pl) (hd : dA d) : Sol pl.length d (fun s => (bG ns pay (bY pl s) h : Rat)) (fX ns pl) (cN ns pay pl d h) := aIR hd.pos hd.lt (zY hp)
theorem aCF {x : Rat} (h1 : -9 ≤ x) (h2 : x ≤ 9) : x.num.natAbs ≤ 9 * x.den := by
 have a := (Rat.le_iff _ _).mp h1
 have b := (Rat.le_iff _ _).mp h2
 have e1 : (-9 : Rat).num = -9 := rfl
 have e2 : (-9 : Rat).den = 1 := rfl
 have e3 : (9 : Rat).num = 9 := rfl
 have e4 : (9 : Rat).den = 1 := rfl
 rw [e1, e2] at a
 rw [e3, e4] at b
 omega
theorem iQ {a b : Int} (h : a ≤ b) : (a : Rat) ≤ (b : Rat) := Rat.intCast_le_intCast.mpr h
theorem Sol.bd {W : Nat → Rat} (ho : aX ns pay) {N : Nat} (hN : N ≤ 20) {rw : Nat → List Int} (hr : ∀ s, s < N → rw s ∈ aN ns) {f : Nat → Nat} (hf : ∀ s, s < N → f s < N) (hd : dA d) (hW : Sol N d (fun s => (bG ns pay (rw s) h : Rat)) f W) (hs : s < N) : -9 ≤ W s ∧ W s ≤ 9 ∧ BdR 900 (W s) := by
 have l1 : W s ≤ 9 := hW.le hd.pos hd.lt hf (fun s hs => by
  have := iQ (nL (h := h) ho (hr s hs)).2
  exact this) hs
 have l2 : -9 ≤ W s := hW.ge hd.pos hd.lt hf (fun s hs => by
  have := iQ (nL (h := h) ho (hr s hs)).1
  exact this) hs
 have hq : 0 < d.num := by
  have := hd.pos
  rw [Rat.lt_iff] at this
  have e1 : (0 : Rat).num = 0 := rfl
  have e2 : (0 : Rat).den = 1 := rfl
  rw [e1, e2] at this
  omega
 have hpq : d.num < (d.den : Int) := by
  have := hd.lt
  rw [Rat.lt_iff] at this
  have e1 : (1 : Rat).num = 1 := rfl
  have e2 : (1 : Rat).den = 1 := rfl
  rw [e1, e2] at this
  omega
 have dn := hW.den (p := d.num) (q := d.den) (gz := fun s => bG ns pay (rw s) h) hq hpq (tO d) (fun s _ => rfl) hf hs
 have b1 : Bd 841 (((W s).den : Nat) : Int) := by
  refine Bd.of_le (j := (d.den : Int) ^ N) ?_ (by omega) dn
  exact (hd.bits.2.pow N).mono (by omega)
 refine ⟨l2, l1, ?_, b1.mono (by decide)⟩
 have := aCF l2 l1
 have b2 : Bd (841 + 4) ((((W s).den : Nat) : Int) * 9) := b1.mul (show Bd 4 9 by unfold Bd; decide)
 exact (b2.abs (i := (W s).num) (by omega)).mono (by decide)
theorem aEB (hp : gE ns pl) (hd : dA d) (hs : s < pl.length) : cN ns pay pl d h s = (1 - d) * bG ns pay (bY pl s) h + d * cN ns pay pl d h (fX ns pl s) := qN hp hd s hs
theorem zJ {g : Nat → Rat} {f : Nat → Nat} : ∀ (n s : Nat), fst d g f n s = rT d ((List.range n).map fun t => g (gN f t s))
 | 0, s => rfl
 | n + 1, s => by
  rw [List.range_succ_eq_map, List.map_cons, List.map_map]
  show (1 - d) * g s + d * fst d g f n (f s) = (1 - d) * g s + d * rT d _
  rw [zJ n (f s)]
  rfl
theorem aJ5 {U L : Int} (u1 : 0 < U ∧ U < L) (l2 : L ≤ 30) : dA (Rat.divInt U L) := by
 have g0 : 0 < Int.gcd L U := Int.gcd_pos_of_ne_zero_left _ (by omega)
 obtain ⟨a, ha⟩ := Int.gcd_dvd_right L U
 obtain ⟨b, hb⟩ := Int.gcd_dvd_left L U
 have h1 : L.sign = 1 := Int.sign_eq_one_of_pos (by omega)
 have en : (Rat.divInt U L).num = a := by
  rw [Rat.num_divInt, h1, Int.one_mul]
  conv => lhs; lhs; rw [ha]
  exact Int.mul_ediv_cancel_left _ (by omega)
 have ed : ((Rat.divInt U L).den : Int) = b := by
  rw [Rat.den_divInt, if_neg (by omega), Int.natCast_ediv, show ((L.natAbs : Nat) : Int) = L by omega]
  conv => lhs; lhs; rw [hb]
  exact Int.mul_ediv_cancel_left _ (by omega)
 have g0 : (0 : Int) < (Int.gcd L U : Int) := by omega
 generalize (Int.gcd L U : Int) = g at *
 have a0 : 0 < a := by
  apply Int.lt_of_not_ge
  intro z
  have := Int.mul_nonpos_of_nonneg_of_nonpos (show 0 ≤ g by omega) z
  omega
 have ab : a < b := by
  apply Int.lt_of_not_ge
  intro z
  have := Int.mul_le_mul_of_nonneg_left z (show 0 ≤ g by omega)
  omega
 have bl : b ≤ 30 := by
  have : 1 * b ≤ g * b := Int.mul_le_mul_of_nonneg_right (by omega) (by omega)
  omega
 have e40 : (2 : Nat) ^ 40 = 1099511627776 := by decide
 refine ⟨?_, ?_, ?_, ?_⟩
 ·rw [Rat.lt_iff, en, ed]
  show 0 * b < a * 1
  omega
 ·rw [Rat.lt_iff, en, ed]
  show a * 1 < 1 * b
  omega
 ·rw [en]
  unfold Bd
  omega
 ·rw [ed]
  unfold Bd
  omega
theorem aFO (c : Int) : dA (qD c) := by
 have a1 : 0 ≤ pR c 9929 29 := Int.emod_nonneg _ (by decide)
 have a2 : pR c 9929 29 < 29 := Int.emod_lt_of_pos _ (by decide)
 have l1 : 2 ≤ zO c := by unfold zO; omega
 have l2 : zO c ≤ 30 := by unfold zO; omega
 have b1 : 0 ≤ pR c 9923 (zO c - 1) := Int.emod_nonneg _ (by omega)
 have b2 : pR c 9923 (zO c - 1) < zO c - 1 := Int.emod_lt_of_pos _ (by omega)
 refine aJ5 ?_ l2
 unfold aHg
 split <;> omega
end
def fO (ns : List Int) (pay : List (List Int)) (pl : List (List Int × List Int)) (d : Rat) (h : Nat) (W : Nat → Rat) (s : Nat) (k : Int) : Rat := (1 - d) * bG ns pay ((bY pl s).set h k) h + d * W (i8 ns pl s ((bY pl s).set h k))
section
variable {ns : List Int} {pay : List (List Int)} {pl : List (List Int × List Int)} {d : Rat} {h s : Nat} {B C : Nat → Rat}
theorem aHF (hp : gE ns pl) (hs : s < pl.length) {k : Int} (hk : k ∈ aS ns h) : (bY pl s).set h k ∈ aN ns := qQ (oN hp hs) (gG.mp hk).1 (gG.mp hk).2
theorem aKx (hp : gE ns pl) (hs : s < pl.length) {k : Int} (hk : k ∈ aS ns h) : i8 ns pl s ((bY pl s).set h k) < pl.length := aDB hp hs (aHF hp hs hk)
end
noncomputable def xZ (ns : List Int) (pay : List (List Int)) (pl : List (List Int × List Int)) (d : Rat) (s h : Nat) : List (Int × Int × Int) := ((aS ns h).filter fun k => decide (cN ns pay pl d h s < fO ns pay pl d h (cN ns pay pl d h) s k)).map fun k => ((s : Int), (h : Int), k)
noncomputable def nA (ns : List Int) (pay : List (List Int)) (pl : List (List Int × List Int)) (d : Rat) : List (Int × Int × Int) := (List.range pl.length).flatMap fun s => (List.range ns.length).flatMap fun h => xZ ns pay pl d s h
section
variable {ns : List Int} {pay : List (List Int)} {pl : List (List Int × List Int)} {d : Rat} {h s : Nat}
theorem aAS : nA ns pay pl d = [] ↔ ∀ s, s < pl.length → ∀ h, h < ns.length → ∀ k ∈ aS ns h, fO ns pay pl d h (cN ns pay pl d h) s k ≤ cN ns pay pl d h s := by
 unfold nA
 rw [List.flatMap_eq_nil_iff]
 constructor
 ·intro H s hs h hh k hk
  have := H s (List.mem_range.mpr hs)
  rw [List.flatMap_eq_nil_iff] at this
  have := this h (List.mem_range.mpr hh)
  unfold xZ at this
  rw [List.map_eq_nil_iff, List.filter_eq_nil_iff] at this
  have := this k hk
  rw [decide_eq_true_eq] at this
  grind
 ·intro H s hs
  rw [List.flatMap_eq_nil_iff]
  intro h hh
  unfold xZ
  rw [List.map_eq_nil_iff, List.filter_eq_nil_iff]
  intro k hk
  have := H s (List.mem_range.mp hs) h (List.mem_range.mp hh) k hk
  rw [decide_eq_true_eq]
  grind
end
open Classical in
noncomputable def qP (m p d : D) (c : List Int → Prop) (f : List Int → List (List Int) → List (List Int × List Int) → Rat → D → Prop) : Option (D → Prop) := match p5 m, zF p, aC5 d with
 | some (ns, pay), some pl, some q => if aX ns pay ∧ gE ns pl ∧ dA q ∧ c ns then some (f ns pay pl q) else none
 | _, _, _ => none
theorem aEZ {c : List Int → Prop} {ns : List Int} {pay : List (List Int)} {pl : List (List Int × List Int)} {q : Rat} {f : List Int → List (List Int) → List (List Int × List Int) → Rat → D → Prop} (h1 : aX ns pay) (h2 : gE ns pl) (h3 : dA q) (h4 : c ns) : qP (aY ns pay) (f8 pl) (aU q) c f = some (f ns pay pl q) := by
 unfold qP
 rw [qR, aAM, tZ]
 exact if_pos ⟨h1, h2, h3, h4⟩
theorem aEp {m p d : D} {c : List Int → Prop} {f : List Int → List (List Int) → List (List Int × List Int) → Rat → D → Prop} {x : D → Prop} (h : qP m p d c f = some x) : ∃ ns pay pl q, m = aY ns pay ∧ p = f8 pl ∧ d = aU q ∧ aX ns pay ∧ gE ns pl ∧ dA q ∧ c ns ∧ x = f ns pay pl q := by
 unfold qP at h
 split at h
 ·rename_i ns pay pl q e1 e2 e3
  split at h
  ·rename_i ho
   cases h
   exact ⟨ns, pay, pl, q, qZ e1, aA0 e2, tP e3, ho.1, ho.2.1, ho.2.2.1, ho.2.2.2, rfl⟩
  ·cases h
 ·cases h
noncomputable def pU : List D → Option (D → Prop)
 | [m, p, d] => qP m p d (fun _ => True) fun ns pay pl d x => (x = .non ∧ nA ns pay pl d = []) ∨ ∃ y ∈ nA ns pay pl d, x = aMZ y
 | _ => none
noncomputable def nJ : List D → Option D
 | [m, p, d] => bL m fun ns pay => nX ns p fun pl => lJ d fun d => some (.bl (decide (nA ns pay pl d = [])))
 | _ => none
def jB (part r : List Int) : List Nat := (List.range part.length).filter fun h => decide (r.getD h 0 ≠ part.getD h 0)
def lY (k : Nat) (part r : List Int) : Nat := match jB part r with
 | [h] => 1 + h
 | _ => k
def gH (row : List Int) (th : List (List Int)) (k : Nat) : List Int := (row :: th).getD k []
def dY (ns row : List Int) (th : List (List Int)) : List (List Int × List Int) := (List.range (1 + th.length)).map fun k => (gH row th k, (aN ns).map fun r => ((lY k (gH row th k) r : Nat) : Int))
structure iB (ns row : List Int) (th : List (List Int)) : Prop where
 row : row ∈ aN ns
 many : th.length = ns.length
 all : ∀ r ∈ th, r ∈ aN ns
section
variable {ns : List Int} {pay : List (List Int)} {row : List Int} {th : List (List Int)} {d : Rat} {h k : Nat}
theorem oJ (H : iB ns row th) (hk : k < 1 + th.length) : gH row th k ∈ aN ns := by
 unfold gH
 rw [bR (by simp; omega)]
 have := List.getElem_mem (l := row :: th) (n := k) (by simp; omega)
 rcases List.mem_cons.mp this with e | e
 ·rw [e]; exact H.row
 ·exact H.all _ e
theorem aDP {part r : List Int} {j : Nat} (hj : j ∈ jB part r) : j < part.length := List.mem_range.mp (List.mem_filter.mp hj).1
theorem aGJ (H : iB ns row th) (hk : k < 1 + th.length) (r : List Int) : lY k (gH row th k) r < 1 + th.length := by
 unfold lY
 split
 ·rename_i j e
  have hj : j ∈ jB (gH row th k) r := by rw [e]; exact List.mem_cons_self
  have := aDP hj
  rw [e7 (oJ H hk)] at this
  rw [H.many]
  omega
 ·exact hk
theorem iO : (dY ns row th).length = 1 + th.length := by simp [dY]
theorem aAW (hk : k < 1 + th.length) : (dY ns row th).getD k ([], []) = (gH row th k, (aN ns).map fun r => ((lY k (gH row th k) r : Nat) : Int)) := by
 rw [bR (by rw [iO]; exact hk)]
 simp [dY]
theorem qL (ho : aX ns pay) (H : iB ns row th) : gE ns (dY ns row th) := by
 have n3 := (cC ho.ok).1
 refine ⟨⟨by rw [iO]; omega, by rw [iO, H.many]; omega⟩, fun s hs => ?_, fun s hs => ?_⟩
 ·obtain ⟨k, hk, rfl⟩ := List.mem_map.mp hs
  exact oJ H (List.mem_range.mp hk)
 ·obtain ⟨k, hk, rfl⟩ := List.mem_map.mp hs
  refine ⟨by simp, fun x hx => ?_⟩
  obtain ⟨r, hr, rfl⟩ := List.mem_map.mp hx
  have := aGJ H (List.mem_range.mp hk) r
  rw [iO]
  omega
theorem oZ (hk : k < 1 + th.length) : bY (dY ns row th) k = gH row th k := by
 unfold bY
 rw [aAW hk]
theorem pY (hk : k < 1 + th.length) {r : List Int} (hr : r ∈ aN ns) : i8 ns (dY ns row th) k r = lY k (gH row th k) r := by
 unfold i8
 rw [aAW hk]
 have hi := List.idxOf_lt_length_of_mem hr
 rw [bR (by rw [List.length_map]; exact hi), List.getElem_map, List.getElem_idxOf hi]
 rfl
theorem r9 (part : List Int) : jB part part = [] := by
 unfold jB
 rw [List.filter_eq_nil_iff]
 simp
theorem aBO {part : List Int} (hh : h < part.length) {x : Int} (hx : x ≠ part.getD h 0) : jB part (part.set h x) = [h] := by
 unfold jB
 have : (List.range part.length).filter (fun j => decide ((part.set h x).getD j 0 ≠ part.getD j 0)) = (List.range part.length).filter fun j => j == h := by
  refine List.filter_congr fun j hj => ?_
  have hj := List.mem_range.mp hj
  rw [bR (by rw [List.length_set]; exact hj), List.getElem_set]
  by_cases e : h = j
  ·subst e
   rw [if_pos rfl, decide_eq_true hx]
   simp
  ·rw [if_neg e, ← bR hj 0]
   simp
   omega
 rw [this]
 have key : ∀ n, h < n → (List.range n).filter (fun j => j == h) = [h] := by
  intro n
  induction n with
  | zero => intro z; exact absurd z (Nat.not_lt_zero h)
  | succ n ih =>
   intro z
   rw [List.range_succ, List.filter_append]
   by_cases e : h = n
   ·subst e
    have e0 : (List.range h).filter (fun j => j == h) = [] := by
     rw [List.filter_eq_nil_iff]
     intro j hj
     have := List.mem_range.mp hj
     simp
     omega
    rw [e0]
    simp
   ·rw [ih (by omega)]
    have : (n == h) = false := by simp; omega
    simp [List.filter_cons, this]
 exact key _ hh
theorem aF0 (H : iB ns row th) (hk : k < 1 + th.length) : fX ns (dY ns row th) k = k := by
 unfold fX
 rw [oZ hk, pY hk (oJ H hk)]
 unfold lY
 rw [r9]
theorem mB (ho : aX ns pay) (H : iB ns row th) (hd : dA d) (hk : k < 1 + th.length) : cN ns pay (dY ns row th) d h k = bG ns pay (gH row th k) h := by
 have hp := qL ho H
 have W := qN (h := h) (pay := pay) hp hd
 refine W.uniq (V := fun k => (bG ns pay (gH row th k) h : Rat)) hd.pos hd.lt (zY hp) (fun s hs => ?_) (by rw [iO]; exact hk)
 rw [iO] at hs
 show (bG ns pay (gH row th s) h : Rat) = (1 - d) * (bG ns pay (bY (dY ns row th) s) h : Rat) + d * (bG ns pay (gH row th (fX ns (dY ns row th) s)) h : Rat)
 rw [aF0 H hs, oZ hs]
 grind
def aJT (ns : List Int) (pay : List (List Int)) (th : List (List Int)) (d : Rat) (part : List Int) : Prop := ∀ h, h < ns.length → ∀ x ∈ aS ns h, x ≠ part.getD h 0 → (1 - d) * bG ns pay (part.set h x) h + d * bG ns pay (th.getD h []) h ≤ bG ns pay part h
theorem aBG (ho : aX ns pay) (H : iB ns row th) (hd : dA d) : nA ns pay (dY ns row th) d = [] ↔ ∀ part ∈ row :: th, aJT ns pay th d part := by
 have hp := qL ho H
 rw [aAS]
 have step : ∀ k, k < 1 + th.length → ∀ h, h < ns.length → ∀ x ∈ aS ns h, x ≠ (gH row th k).getD h 0 → fO ns pay (dY ns row th) d h (cN ns pay (dY ns row th) d h) k x = (1 - d) * bG ns pay ((gH row th k).set h x) h + d * bG ns pay (th.getD h []) h := by
  intro k hk h hh x hx hne
  have hm := oJ H hk
  have hl : h < (gH row th k).length := by rw [e7 hm]; exact hh
  unfold fO
  rw [oZ hk, pY hk (qQ hm (gG.mp hx).1 (gG.mp hx).2)]
  unfold lY
  rw [aBO hl hne]
  show _ + d * cN ns pay (dY ns row th) d h (1 + h) = _
  rw [mB ho H hd (by rw [H.many]; omega)]
  have e : gH row th (1 + h) = th.getD h [] := by
   unfold gH
   rw [Nat.add_comm]
   rfl
  rw [e]
 constructor
 ·intro G part hpt h hh x hx hne
  obtain ⟨k, hk, rfl⟩ := List.mem_iff_getElem.mp hpt
  have hk' : k < 1 + th.length := by rw [List.length_cons] at hk; omega
  have ep : gH row th k = (row :: th)[k] := bR hk _
  rw [← ep] at hne ⊢
  have := G k (by rw [iO]; exact hk') h hh x hx
  rw [step k hk' h hh x hx hne, mB ho H hd hk'] at this
  exact this
 ·intro G k hk h hh x hx
  rw [iO] at hk
  have hm := oJ H hk
  by_cases hne : x = (gH row th k).getD h 0
  ·have hl : h < (gH row th k).length := by rw [e7 hm]; exact hh
   unfold fO
   rw [oZ hk, hne, uL hl, pY hk hm]
   unfold lY
   rw [r9]
   show _ + d * cN ns pay (dY ns row th) d h k ≤ _
   rw [mB ho H hd hk]
   grind
  ·rw [step k hk h hh x hx hne, mB ho H hd hk]
   have hk' : k < (row :: th).length := by rw [List.length_cons]; omega
   have ep : gH row th k = (row :: th)[k] := bR hk' _
   exact G (gH row th k) (by rw [ep]; exact List.getElem_mem hk') h hh x hx hne
end
def dU : D → Option (List (List Int))
 | .tup ds => wI ds
 | _ => none
theorem iZ (th : List (List Int)) : dU (.tup (th.map aF)) = some th := tU th
theorem hG {d : D} {th : List (List Int)} (h : dU d = some th) : d = .tup (th.map aF) := by
 unfold dU at h
 split at h
 ·rw [uX h]
 ·cases h
open Classical in
noncomputable def mI {α : Type} (m r t : D) (f : List Int → List (List Int) → List Int → List (List Int) → Option α) : Option α := match p5 m, iH r, dU t with
 | some (ns, pay), some row, some th => if aX ns pay ∧ iB ns row th then f ns pay row th else none
 | _, _, _ => none
theorem aBx {α : Type} {ns row : List Int} {pay th : List (List Int)} {f : List Int → List (List Int) → List Int → List (List Int) → Option α} (h1 : aX ns pay) (h2 : iB ns row th) : mI (aY ns pay) (aF row) (.tup (th.map aF)) f = f ns pay row th := by
 unfold mI
 rw [qR, cD, iZ]
 exact if_pos ⟨h1, h2⟩
theorem aB9 {α : Type} {m r t : D} {x : α} {f : List Int → List (List Int) → List Int → List (List Int) → Option α} (h : mI m r t f = some x) : ∃ ns pay row th, m = aY ns pay ∧ r = aF row ∧ t = .tup (th.map aF) ∧ aX ns pay ∧ iB ns row th ∧ f ns pay row th = some x := by
 unfold mI at h
 split at h
 ·rename_i ns pay row th e1 e2 e3
  split at h
  ·rename_i ho
   exact ⟨ns, pay, row, th, qZ e1, lB e2, hG e3, ho.1, ho.2, h⟩
  ·cases h
 ·cases h
noncomputable def lN : List D → Option D
 | [m, r, t] => mI m r t fun ns _ row th => some (f8 (dY ns row th))
 | _ => none
section
variable {ns : List Int} {pay : List (List Int)} {row : List Int} {th : List (List Int)} {d : Rat}
end
def mR (r ns : List Int) : Int := (r.zip ns).foldl (fun p x => p * x.2 + x.1) 0
theorem uY (r : List Int) : ∀ (n s j : Nat), j < n → ((List.range' s n).map fun (k : Nat) => r ++ [(k : Int)]).idxOf (r ++ [((s + j : Nat) : Int)]) = j
 | n + 1, s, 0, _ => by
  rw [List.range'_succ, List.map_cons, List.idxOf_cons, Nat.add_zero]
  simp
 | n + 1, s, j + 1, h => by
  rw [List.range'_succ, List.map_cons, List.idxOf_cons]
  have ne : ((r ++ [(s : Int)]) == (r ++ [((s + (j + 1) : Nat) : Int)])) = false := by
   rw [beq_eq_false_iff_ne]
   intro e
   have := List.append_cancel_left e
   simp at this
   omega
  rw [ne]
  have := uY r n (s + 1) j (by omega)
  rw [show s + (j + 1) = s + 1 + j by omega, this]
  rfl
theorem aC3 (r : List Int) {m : Int} {k : Int} (h0 : 0 ≤ k) (h1 : k < m) : ((List.range m.toNat).map fun (k : Nat) => r ++ [(k : Int)]).idxOf (r ++ [k]) = k.toNat := by
 rw [List.range_eq_range']
 have := uY r m.toNat 0 k.toNat (by omega)
 rw [Nat.zero_add, Int.toNat_of_nonneg h0] at this
 exact this
theorem zA {m k : Int} (h0 : 0 ≤ k) (h1 : k < m) {r : List Int} : ∀ {R : List (List Int)}, r ∈ R → (dB R m).idxOf (r ++ [k]) = R.idxOf r * m.toNat + k.toNat
 | x :: R, h => by
  have e1 : dB (x :: R) m = ((List.range m.toNat).map fun (k : Nat) => x ++ [(k : Int)]) ++ dB R m := by
   unfold dB
   rw [List.flatMap_cons]
  rw [e1, List.idxOf_append, List.idxOf_cons]
  by_cases e : x = r
  ·subst e
   have hm : x ++ [k] ∈ (List.range m.toNat).map fun (k : Nat) => x ++ [(k : Int)] := List.mem_map.mpr ⟨k.toNat, List.mem_range.mpr (by omega), by rw [Int.toNat_of_nonneg h0]⟩
   rw [if_pos hm, aC3 x h0 h1]
   simp
  ·have hm : ¬ r ++ [k] ∈ (List.range m.toNat).map fun (k : Nat) => x ++ [(k : Int)] := by
    intro z
    obtain ⟨j, _, ej⟩ := List.mem_map.mp z
    exact e (List.append_inj_left' ej rfl)
   have hr : r ∈ R := by
    rcases List.mem_cons.mp h with z | z
    ·exact absurd z.symm e
    ·exact z
   rw [if_neg hm, zA h0 h1 hr, List.length_map, List.length_range]
   have eb : (x == r) = false := beq_eq_false_iff_ne.mpr e
   rw [eb]
   simp only [cond_false]
   rw [Nat.succ_mul]
   omega
theorem wA {r ns : List Int} (h : r.length = ns.length) (k m : Int) : mR (r ++ [k]) (ns ++ [m]) = mR r ns * m + k := by
 unfold mR
 rw [List.zip_append h, List.foldl_append]
 rfl
theorem aA3 : ∀ (ms : List Int) (r : List Int), r ∈ aN ms.reverse → mR r ms.reverse = ((aN ms.reverse).idxOf r : Nat)
 | [], r, h => by
  have : r = [] := by simpa [aN] using h
  subst this
  simp [mR, aN]
 | m :: ms, r, h => by
  rw [List.reverse_cons] at h ⊢
  rw [mO] at h ⊢
  have h' := h
  unfold dB at h'
  obtain ⟨r0, hr0, h1⟩ := List.mem_flatMap.mp h'
  obtain ⟨k, hk, rfl⟩ := List.mem_map.mp h1
  have hk' := List.mem_range.mp hk
  rw [wA (e7 hr0), aA3 ms r0 hr0, zA (by omega) (by omega) hr0, Int.natCast_add, Int.natCast_mul, Int.toNat_of_nonneg (by omega : 0 ≤ m)]
  simp
theorem aAG {ns r : List Int} (h : r ∈ aN ns) : mR r ns = ((aN ns).idxOf r : Nat) := by
 have := aA3 ns.reverse r (by rw [List.reverse_reverse]; exact h)
 rwa [List.reverse_reverse] at this
theorem aDW {ns r : List Int} (h : r ∈ aN ns) (i : Nat) : r.take i ∈ aN (ns.take i) := by
 have q := uD h
 refine aHY ⟨by rw [List.length_take, List.length_take, q.1], fun j x n e1 e2 => ?_⟩
 rw [List.getElem?_take] at e1 e2
 split at e1
 ·rename_i hj
  rw [if_pos hj] at e2
  exact q.2 j x n e1 e2
 ·cases e1
theorem aHq {ns r : List Int} (ho : dZ ns = true) (h : r ∈ aN ns) (i : Nat) : 0 ≤ mR (r.take i) (ns.take i) ∧ mR (r.take i) (ns.take i) ≤ 27 := by
 rw [aAG (aDW h i)]
 have := List.idxOf_lt_length_of_mem (aDW h i)
 have := (fN (tG ho i)).2
 omega
theorem aC6 {ns r : List Int} {i : Nat} (h1 : i < r.length) (h2 : i < ns.length) (hl : r.length = ns.length) : mR (r.take (i + 1)) (ns.take (i + 1)) = mR (r.take i) (ns.take i) * ns[i] + r[i] := by
 rw [List.take_succ, List.take_succ, List.getElem?_eq_getElem h1, List.getElem?_eq_getElem h2, Option.toList_some, Option.toList_some, wA (by rw [List.length_take, List.length_take, hl])]
theorem aIu (r ns : List Int) : List.zipWith (fun x y => D.tup [x, y]) (r.map D.int) (ns.map D.int) = (r.zip ns).map fun p => D.tup [.int p.1, .int p.2] := by
 rw [List.zipWith_map_left, List.zipWith_map_right, List.zip, List.map_zipWith]
theorem pD (r : List Int) : p7 (r.map D.int) = (List.range r.length).map fun (k : Nat) => D.tup [.int k, .int (r.getD k 0)] := by
 refine List.ext_getElem? fun i => ?_
 rw [tQ, List.getElem?_map, List.getElem?_map]
 by_cases h : i < r.length
 ·rw [List.getElem?_range h, List.getElem?_eq_getElem h, Option.map_some, Option.map_some, Option.map_some, bR h]
 ·rw [List.getElem?_eq_none (by simpa using h), List.getElem?_eq_none (by simpa using h)]
  rfl
def eC : List D → Option D
 | [r, .tup ds] => match iH r, g6 ds with
  | some r, some ns => if dZ ns = true ∧ r ∈ aN ns then some (.int ((aN ns).idxOf r : Nat)) else none
  | _, _ => none
 | _ => none
def cR : List D → Option D
 | [d, .int h, .int k] => match iH d with
  | some r => if r.length ≤ 1000 ∧ 0 ≤ h ∧ h < r.length then some (aF (r.set h.toNat k)) else none
  | none => none
 | _ => none
noncomputable def cX : List D → Option D
 | [m, h, r] => bL m fun ns pay => i7 ns.length h fun h => p6 ns r fun r => some (.lst (((aS ns h).map fun k => bG ns pay (r.set h k) h).map D.int))
 | _ => none
noncomputable def jV : List D → Option D
 | [m, r] => bL m fun ns pay => p6 ns r fun r => some (.bl (vU ns pay r))
 | _ => none
noncomputable def eZ : List D → Option D
 | [m, h, k] => bL m fun ns pay => i7 ns.length h fun h => i7 (ns.getD h 0).toNat k fun k => some (.int (aB3 ns pay h (k : Int)))
 | _ => none
section
variable {κ : Type} [DecidableEq κ]
def wY (kvs : List (κ × V)) (k : κ) : Option V := (kvs.find? fun kv => decide (kv.1 = k)).map (·.2)
def w8 (kvs : List (κ × V)) (k : κ) (v : V) : List (κ × V) :=
 if (kvs.any fun kv => decide (kv.1 = k)) = true then kvs.map (fun kv => if kv.1 = k then (kv.1, v) else kv) else kvs ++ [(k, v)]
theorem aMf {k : κ} : wY ([] : List (κ × V)) k = none := rfl
theorem uO {p : κ × V} {r : List (κ × V)} {k : κ} (e : p.1 = k) : wY (p :: r) k = some p.2 := by simp [wY, List.find?_cons, e]
theorem tV {p : κ × V} {r : List (κ × V)} {k : κ} (e : ¬ p.1 = k) : wY (p :: r) k = wY r k := by simp [wY, List.find?_cons, e]
theorem aCO (k : κ) : ∀ kvs : List (κ × V), (kvs.any fun kv => decide (kv.1 = k)) = (wY kvs k).isSome
 | [] => rfl
 | p :: r => by
  rw [List.any_cons]
  by_cases e : p.1 = k
  ·simp only [uO e, decide_eq_true e, Bool.true_or, Option.isSome_some]
  ·rw [tV e, decide_eq_false e, Bool.false_or]; exact aCO k r
theorem wJ (kvs : List (κ × V)) (k : κ) (v : V) : (w8 kvs k v).length ≤ kvs.length + 1 := by
 unfold w8
 split
 ·rw [List.length_map]; omega
 ·rw [List.length_append, List.length_cons, List.length_nil]; omega
theorem aAx.isSome_eq {o : Option V} {u : Option Value} (r : aAx o u) : o.isSome = u.isSome := by
 cases o with
 | none => cases u with
  | none => rfl
  | some _ => exact (show False from r).elim
 | some _ => cases u with
  | none => exact (show False from r).elim
  | some _ => rfl
theorem KV.val {kvs : List (κ × V)} {vs : List (κ × Value)} (r : KV kvs vs) (k : κ) : aAx (wY kvs k) (valueAt vs k) := by
 unfold KV at r
 induction r with
 | nil => exact True.intro
 | @cons p q ps qs h t ih =>
  obtain ⟨h1, h2⟩ := h
  by_cases e : p.1 = k
  ·have e' : q.1 = k := h1.symm.trans e
   have b : valueAt (q :: qs) k = some q.2 := by simp [valueAt, List.find?_cons, e']
   rw [uO e, b]; exact h2
  ·have e' : ¬ q.1 = k := fun z => e (h1.trans z)
   have b : valueAt (q :: qs) k = valueAt qs k := by simp [valueAt, List.find?_cons, e']
   rw [tV e, b]; exact ih
theorem KV.any {kvs : List (κ × V)} {vs : List (κ × Value)} (r : KV kvs vs) (k : κ) : (kvs.any fun kv => decide (kv.1 = k)) = vs.any fun kv => decide (kv.1 = k) := by
 unfold KV at r
 induction r with
 | nil => rfl
 | cons h t ih => rw [List.any_cons, List.any_cons, ih, h.1]
theorem KV.repl {kvs : List (κ × V)} {vs : List (κ × Value)} (r : KV kvs vs) (k : κ) {y : V} {u : Value} (ry : dS y u) :
  KV (kvs.map fun kv => if kv.1 = k then (kv.1, y) else kv) (vs.map fun kv => if kv.1 = k then (kv.1, u) else kv) := by
 unfold KV at r ⊢
 induction r with
 | nil => exact .nil
 | @cons p q ps qs h t ih =>
  rw [List.map_cons, List.map_cons]
  refine .cons ?_ ih
  obtain ⟨h1, h2⟩ := h
  by_cases e : p.1 = k
  ·rw [if_pos e, if_pos (h1.symm.trans e)]; exact ⟨h1, ry⟩
  ·rw [if_neg e, if_neg (fun z => e (h1.trans z))]; exact ⟨h1, h2⟩
theorem KV.put {kvs : List (κ × V)} {vs : List (κ × Value)} (r : KV kvs vs) (k : κ) {y : V} {u : Value} (ry : dS y u) : KV (w8 kvs k y) (stored vs k u) := by
 unfold w8 stored
 rw [r.any k]
 by_cases e : (vs.any fun kv => decide (kv.1 = k)) = true
 ·rw [if_pos e, if_pos e]; exact r.repl k ry
 ·rw [if_neg e, if_neg e]; exact Paired.snoc r ⟨rfl, ry⟩
theorem KV.keys {kvs : List (κ × V)} {vs : List (κ × Value)} (r : KV kvs vs) : kvs.map (·.1) = vs.map (·.1) := by
 unfold KV at r
 induction r with
 | nil => rfl
 | cons h t ih => rw [List.map_cons, List.map_cons, ih, h.1]
theorem KV.length {kvs : List (κ × V)} {vs : List (κ × Value)} (r : KV kvs vs) : kvs.length = vs.length := Paired.length r
end
theorem aE3 {P : Program} {w : World} {k : lX} {u : Value} (r : dS (kV k) u) : (gO P w).is k u = true := by
 cases k with
 | inl i => obtain ⟨t, e⟩ := (show ∃ t, u = Value.int i t from r); subst e; exact aDm P w i t
 | inr x => obtain ⟨t, e⟩ := (show ∃ t, u = Value.str x t from r); subst e; exact aCR P w x t
theorem aAJ {P : Program} {w : World} : ∀ {ks : List lX} {us : List Value}, dE (ks.map kV) us → ItemsAre (gO P w) ks us
 | [], _, r => by rw [List.map_nil] at r; cases r; exact .nil
 | k :: ks, _, r => by
  rw [List.map_cons] at r
  cases r with
  | cons h t => exact .cons (aE3 h) (aAJ t)
abbrev KT (H : Hp) : List (List lX × V) → List (List lX × Addr × Value) → Prop := Paired fun p q => p.1 = q.1 ∧ H q.2.1 = some (.tup (p.1.map kV)) ∧ dS p.2 q.2.2
theorem KT.val {H : Hp} {kvs : List (List lX × V)} {xs : List (List lX × Addr × Value)} (r : KT H kvs xs) (k : List lX) : aAx (wY kvs k) ((atKey xs k).map (·.2)) := by
 induction r with
 | nil => exact True.intro
 | @cons p q ps qs h t ih =>
  obtain ⟨h1, _, h2⟩ := h
  by_cases e : p.1 = k
  ·have e' : q.1 = k := h1.symm.trans e
   have b : atKey (q :: qs) k = some q.2 := by simp [atKey, List.find?_cons, e']
   rw [uO e, b]; exact h2
  ·have e' : ¬ q.1 = k := fun z => e (h1.trans z)
   have b : atKey (q :: qs) k = atKey qs k := by simp [atKey, List.find?_cons, e']
   rw [tV e, b]; exact ih
theorem KT.repl {H : Hp} {kvs : List (List lX × V)} {xs : List (List lX × Addr × Value)} (r : KT H kvs xs) (k : List lX) {y : V} {u : Value} (ry : dS y u) :
  KT H (kvs.map fun kv => if kv.1 = k then (kv.1, y) else kv) (xs.map (putAt k u)) := by
 induction r with
 | nil => exact .nil
 | @cons p q ps qs h t ih =>
  rw [List.map_cons, List.map_cons]
  refine .cons ?_ ih
  obtain ⟨h1, h2, h3⟩ := h
  unfold putAt
  by_cases e : p.1 = k
  ·rw [if_pos e, if_pos (h1.symm.trans e)]; exact ⟨h1, h2, ry⟩
  ·rw [if_neg e, if_neg (fun z => e (h1.trans z))]; exact ⟨h1, h2, h3⟩
theorem KT.put {H : Hp} {kvs : List (List lX × V)} {xs : List (List lX × Addr × Value)} (r : KT H kvs xs) (k : List lX) {b : Addr} {y : V} {u : Value} (hb : H b = some (.tup (k.map kV))) (ry : dS y u) :
  KT H (w8 kvs k y) (storedH xs k b u) := by
 have e : (kvs.any fun kv => decide (kv.1 = k)) = (atKey xs k).isSome := by
  rw [aCO, (r.val k).isSome_eq, Option.isSome_map]
 unfold w8 storedH
 rw [e]
 by_cases q : (atKey xs k).isSome = true
 ·rw [if_pos q, if_pos q]; exact r.repl k ry
 ·rw [if_neg q, if_neg q]; exact Paired.snoc r ⟨rfl, hb, ry⟩
theorem KT.keeps {H H' : Hp} {kvs : List (List lX × V)} {xs : List (List lX × Addr × Value)} (r : KT H kvs xs) (ht : ∀ b ys, H b = some (.tup ys) → H' b = some (.tup ys)) : KT H' kvs xs :=
 Paired.mapP r fun _ _ z => ⟨z.1, ht _ _ z.2.1, z.2.2⟩
section
variable {P : Program} {w : World} {H : Hp} {h : Heap} {a : Addr}
theorem aKq {u : HO} (ok : qV P w H h) (e : Rd H a u) : iE P w H h a u := e.ok ok
theorem aCD {kvs : List (lX × V)} (ok : qV P w H h) (e : Rd H a (.dK kvs)) : kvs.length ≤ sizeLine ∧ (a == sysModules) = false ∧ ∃ vs, KV kvs vs ∧ h.DictOf (gO P w) a vs :=
 show iE P w H h a (.dK kvs) from aKq ok e
theorem aMm {kvs : List (lX × V)} (ok : qV P w H h) (e : H a = some (.dK kvs)) : kvs.length ≤ sizeLine ∧ (a == sysModules) = false ∧ ∃ vs, KV kvs vs ∧ h.DictOf (gO P w) a vs := aCD ok (.inl e)
theorem aB7 {ks : List lX} (ok : qV P w H h) (e : H a = some (.tup (ks.map kV))) : (tupleKind (gO P w)).is h ks a := by
 obtain ⟨_, its, r, o, h1, h2, n, h3⟩ := (show iE P w H h a (.tup (ks.map kV)) from ok a _ e)
 exact ⟨o, its.toArray, n, h1, h2, h3, by simpa using aAJ r⟩
theorem aFr {kvs : List (List lX × V)} (ok : qV P w H h) (e : Rd H a (.dT kvs)) : kvs.length ≤ sizeLine ∧ (a == sysModules) = false ∧
  ∃ xs, KT H kvs xs ∧ h.DictOfH (tupleKind (gO P w)) a xs := by
 obtain ⟨z, y, xs, r, o, es, ep, h1, h2, h3, h4, h5⟩ := (show iE P w H h a (.dT kvs) from aKq ok e)
 refine ⟨z, y, xs, r, o, es, ep, h1, h2, h3, h4, fun x hx => ?_, h5⟩
 have all : ∀ {l : List (List lX × V)} {m : List (List lX × Addr × Value)}, KT H l m → ∀ x ∈ m, (tupleKind (gO P w)).is h x.1 x.2.1 := by
  intro l m q
  induction q with
  | nil => intro x hx; exact nomatch hx
  | @cons p q ps qs hq t ih =>
   intro x hx
   rcases List.mem_cons.mp hx with e | hx
   ·subst e
    exact aB7 ok (by rw [← hq.1]; exact hq.2.1)
   ·exact ih x hx
 exact all r x hx
theorem aMv {kvs : List (List lX × V)} (ok : qV P w H h) (e : H a = some (.dT kvs)) : kvs.length ≤ sizeLine ∧ (a == sysModules) = false ∧
  ∃ xs, KT H kvs xs ∧ h.DictOfH (tupleKind (gO P w)) a xs := aFr ok (.inl e)
end
def aGj (H : Hp) (a : Addr) (y : V) (r : Option V) : Prop :=
 (∃ kvs k, Rd H a (.dK kvs) ∧ y = kV k ∧ r = wY kvs k) ∨ ∃ kvs k b, Rd H a (.dT kvs) ∧ y = .ref b ∧ H b = some (.tup (k.map kV)) ∧ r = wY kvs k
def aKU (H : Hp) (a : Addr) (y v : V) (H' : Hp) : Prop :=
 (∃ kvs k, H a = some (.dK kvs) ∧ y = kV k ∧ kvs.length < sizeLine ∧ H' = upd H a (.dK (w8 kvs k v))) ∨
 ∃ kvs k b, H a = some (.dT kvs) ∧ y = .ref b ∧ H b = some (.tup (k.map kV)) ∧ kvs.length < sizeLine ∧ H' = upd H a (.dT (w8 kvs k v))
section
variable {X : Cx} {pins : List (Addr × Obj)} {σ : St} {H : Hp} {s : Shared} {a : Addr} {y v : V} {u r : Value} {o : Option V} {A : Around} {E : Value → Shared → Prop}
theorem bE.big (I : bE X pins σ H s) : sysModules < s.heap.objs.size := by
 have h : mainGlobals < s.heap.objs.size := (I.mod.glob.keeps I.bk).lt
 exact Nat.lt_trans (by decide) h
theorem aGk {Q : Value → Shared → Prop} (hu : A.units + 1 < cLine) (I : bE X pins σ H s) (g : aGj H a y (some v)) (ry : dS y u) (h : ∀ w' s', bE X pins σ H s' → dS v w' → Q w' s') :
  wpAny (model X.prog X.w) A (getItem (.ref a) u) Q E s := by
 rcases g with ⟨kvs, k, e, ey, l⟩ | ⟨kvs, k, b, e, ey, eb, l⟩
 ·subst ey
  obtain ⟨z, hd, vs, rel, dd⟩ := aCD I.hok e
  obtain ⟨w', hw, rw'⟩ := aAx.some_of (v := v) (o := valueAt vs k) (by rw [l]; exact rel.val k)
  exact wpAny_getItem_of (aE3 ry) dd.mapOf hw (h w' _ (I.tok _) rw')
 ·subst ey
  cases (show u = Value.ref b from ry)
  obtain ⟨z, hd, xs, rel, dd⟩ := aFr I.hok e
  obtain ⟨w', hw, rw'⟩ := aAx.some_of (v := v) (o := (atKey xs k).map (·.2)) (by rw [l]; exact rel.val k)
  obtain ⟨p, hp, hp2⟩ := Option.map_eq_some_iff.mp hw
  refine wpAny_getItem_heap (tupleKind_room_in1 hu) (aB7 I.hok eb) dd hp ?_
  rw [hp2]
  exact h w' _ (I.tok _) rw'
theorem aJX {Q : Value → Shared → Prop} (hu : A.units + 1 < cLine) (I : bE X pins σ H s) (g : aGj H a y o) (ry : dS y u) (h : ∀ s', bE X pins σ H s' → Q (.bool (!o.isSome)) s') :
  wpAny (model X.prog X.w) A (compareOp .NotIn u (.ref a)) Q E s := by
 rcases g with ⟨kvs, k, e, ey, l⟩ | ⟨kvs, k, b, e, ey, eb, l⟩
 ·subst ey
  obtain ⟨z, hd, vs, rel, dd⟩ := aCD I.hok e
  refine wpAny_notIn_of (aE3 ry) hd dd.mapOf ?_
  rw [← (rel.val k).isSome_eq, ← l]
  exact h _ (I.tok _)
 ·subst ey
  cases (show u = Value.ref b from ry)
  obtain ⟨z, hd, xs, rel, dd⟩ := aFr I.hok e
  refine wpAny_notIn_heap (tupleKind_room_in1 hu) (aB7 I.hok eb) hd dd ?_
  have q := (rel.val k).isSome_eq
  rw [Option.isSome_map] at q
  rw [← q, ← l]
  exact h _ (I.tok _)
theorem aFu {h' : Heap} {t' : Nat} {ob : HO} (I : bE X pins σ H s) (mu : Mut (H a)) (hs : Heap.SameBut a s.heap h') (he : ∃ q, h'.get? a = some q) (new : iE X.prog X.w (upd H a ob) h' a ob) :
  bE X pins σ (upd H a ob) { s with heap := h', toks := t' } :=
 I.write (x := a) (e := a) mu (.inl rfl) (fun b q hb z => (hs.2 b hb).trans z) he new
theorem aKZ {P : Program} {w : World} {H' : Hp} {h' : Heap} {kvs : List (lX × V)} {vs : List (lX × Value)} (z : kvs.length ≤ sizeLine) (hd : (a == sysModules) = false) (rel : KV kvs vs) (dd : h'.DictOf (gO P w) a vs) :
  iE P w H' h' a (.dK kvs) := ⟨z, hd, vs, rel, dd⟩
theorem aGC {H' : Hp} {Q : Unit → Shared → Prop} (hu : A.units + 1 < cLine) (I : bE X pins σ H s) (g : aKU H a y v H') (ry : dS y u) (rv : dS v r) (h : ∀ s', bE X pins σ H' s' → Q () s') :
  wpAny (model X.prog X.w) A (setItem (.ref a) u r) Q E s := by
 rcases g with ⟨kvs, k, e, ey, l, eH⟩ | ⟨kvs, k, b, e, ey, eb, l, eH⟩
 ·subst ey eH
  obtain ⟨z, hd, vs, rel, dd⟩ := aMm I.hok e
  have hz : vs.length ≤ sizeLine := by rw [← rel.length]; exact z
  have hl : (w8 kvs k v).length ≤ sizeLine := by have := wJ kvs k v; omega
  refine wpAny_setItem_pairs (hsz := hz) (aE3 ry) dd fun h' dd' hs => h _ ?_
  have he : ∃ q, h'.get? a = some q := let ⟨q, _, _, hq, _⟩ := dd'; ⟨q, hq⟩
  exact aFu I (by rw [e]; exact True.intro) hs he (aKZ hl hd (rel.put k rv) dd')
 ·subst ey eH
  cases (show u = Value.ref b from ry)
  obtain ⟨z, hd, xs, rel, dd⟩ := aMv I.hok e
  have hz : xs.length ≤ sizeLine := by rw [← Paired.length rel]; exact z
  have hl : (w8 kvs k v).length ≤ sizeLine := by have := wJ kvs k v; omega
  refine wpAny_setItem_heap (hsz := hz) (tupleKind_room_in1 hu) (aB7 I.hok eb) dd fun h' dd' hs => h _ ?_
  obtain ⟨q, es, ep, hq, h2, h3, h4, _, h5⟩ := dd'
  refine aFu I (by rw [e]; exact True.intro) hs ⟨q, hq⟩ ⟨hl, hd, _, (rel.put k eb rv).keeps fun c ys ec => ?_, q, es, ep, hq, h2, h3, h4, h5⟩
  rw [aV (aCP ec e (fun z => nomatch z))]
  exact ec
end
section
variable {X : Cx} {pins : List (Addr × Obj)} {σ : St} {H : Hp} {s : Shared} {a : Addr} {kvs : List (lX × V)} {k : lX} {u : Value} {A : Around} {E : Value → Shared → Prop}
theorem aMC {Q : Value → Shared → Prop} (I : bE X pins σ H s) (e : Rd H a (.dK kvs)) (h : ∀ t s', bE X pins σ H s' → Q (.int kvs.length t) s') : wpAny (model X.prog X.w) A (call (.builtin "len") [.ref a]) Q E s := by
 obtain ⟨z, hd, vs, rel, dd⟩ := aCD I.hok e
 refine call_len_dict hd dd (by rw [← rel.length]; rw [sizeLine_eq] at z; omega) ?_
 rw [← rel.length]
 exact h _ _ (I.tok _)
end
def aK4 (i : Expr) : Prop := ∀ ov iv, subscripted i false ov iv = operate [ov, iv] (getItem ov iv)
theorem aJN {prog : Program} {w : World} {A : Around} {E : Value → Shared → Prop} {s : Shared} {env : Env} {value slice : Expr} {pos : Pos} {T id : String} {Q : Value → Shared → Prop}
  (hl : typeLookup (.type T) "__getitem__" = pure (some (.builtin id))) (hs : aK4 slice)
  (h : wpAny (model prog w) A (eval value env) (fun o s₁ => wpAny (model prog w) A (eval slice env) (fun i s₂ => s₂.TypeIs o T ∧ wpAny (model prog w) A (getItem o i) Q E s₂) E s₁) E s) :
  wpAny (model prog w) A (eval (.Subscript value slice pos) env) Q E s := by
 refine Subscript_ (wpAny_mono h (fun o s₁ h₁ => wpAny_mono h₁ (fun i s₂ h₂ => ?_) fun _ _ x => x) fun _ _ x => x)
 obtain ⟨hT, h₂⟩ := h₂
 unfold subscriptTail
 refine wpAny_bind ?_
 rw [getitemInPython_of_ne hT.not_modules]
 refine wpAny_bind (wpAny_specialOf hT hl ?_)
 have fin : wpAny (model prog w) A (subscripted slice false o i) (fun r s₃ => wpAny (model prog w) A (letTemporaryGo value o r >>= fun _ => pure r) Q E s₃) E s₂ := by
  rw [hs o i]
  exact wpAny_operating (wpAny_mono h₂ (fun r s₃ h₃ => wpAny_bind (wpAny_letTemporaryGo (wpAny_pure h₃))) fun _ _ x => x)
 first
  | exact wpAny_pure (wpAny_bind fin)
  | exact wpAny_bind (wpAny_pure (wpAny_bind fin))
  | exact wpAny_bind fin
theorem aDn {X : Cx} {pins : List (Addr × Obj)} {σ : St} {H : Hp} {s : Shared} {a : Addr} {y : V} {o : Option V} (I : bE X pins σ H s) (g : aGj H a y o) : s.TypeIs (.ref a) "dict" := by
 rcases g with ⟨kvs, k, e, _, _⟩ | ⟨kvs, k, b, e, _, _, _⟩
 ·obtain ⟨_, _, vs, _, dd⟩ := aCD I.hok e
  exact dd.typeIs
 ·obtain ⟨_, _, xs, _, dd⟩ := aFr I.hok e
  exact dd.typeIs
def aM2 (td ty : TE) : TE := fun σ H Q => td σ H fun x H1 => ty σ H1 fun y H2 => ∃ a v, x = .ref a ∧ aGj H2 a y (some v) ∧ Q v H2
def aIV (ty td : TE) : TE := fun σ H Q => ty σ H fun y H1 => td σ H1 fun x H2 => ∃ a o, x = .ref a ∧ aGj H2 a y o ∧ Q (.bl (!o.isSome)) H2
def aMA (td ty tv : TE) : TS := fun D σ H => tv σ H fun v H1 => td σ H1 fun x H2 => ty σ H2 fun y H3 => ∃ a H4, x = .ref a ∧ aKU H3 a y v H4 ∧ D.nx σ H4
section
variable {X : Cx} {o i e value : Expr} {pos pos' tpos : Pos} {td ty tv : TE}
theorem aJu (hu : X.A.units + 1 < cLine) (ho : PE X o td) (hi : PE X i ty) (hs : aK4 i) : PE X (.Subscript o i pos) (aM2 td ty) := by
 intro pins s σ H Q I h
 refine aJN PySem.F.slot_dict_getitem.lookup hs (gW (ho pins s σ H _ I h) fun u s1 ⟨x, H1, I1, rx, q1⟩ => gW (hi pins s1 σ H1 _ I1 q1) fun iv s2 ⟨y, H2, I2, ry, a, v, ex, g, q2⟩ => ?_)
 subst ex
 obtain rfl : u = Value.ref a := rx
 exact ⟨aDn I2 g, aGk hu I2 g ry fun w' s3 I3 rw' => ⟨v, H2, I3, rw', q2⟩⟩
theorem aGi (hu : X.A.units + 1 < cLine) (hi : PE X i ty) (ho : PE X o td) : PC X .NotIn i o (aIV ty td) := by
 intro pins s σ H Q I h
 refine gW (hi pins s σ H _ I h) fun iv s1 ⟨y, H1, I1, ry, q1⟩ => gW (ho pins s1 σ H1 _ I1 q1) fun u s2 ⟨x, H2, I2, rx, a, ov, ex, g, q2⟩ => ?_
 subst ex
 obtain rfl : u = Value.ref a := rx
 exact aJX hu I2 g ry fun s3 I3 => ⟨.bl (!ov.isSome), H2, I3, rfl, q2⟩
theorem aI7 (hu : X.A.units + 1 < cLine) (ho : PE X o td) (hi : PE X i ty) (hv : PE X value tv) (hs : swapsWith value (some (.Subscript o i pos')) pos.line X.env = pure false) :
  PS X (.Assign [.Subscript o i pos'] value pos) (aMA td ty tv) := by
 intro pins s σ H D I h
 refine wpAny_Assign_Subscript (gW (hv pins s σ H _ I h) fun r s1 ⟨v, H1, I1, rv, q1⟩ => gW (ho pins s1 σ H1 _ I1 q1) fun u s2 ⟨x, H2, I2, rx, q2⟩ => gW (hi pins s2 σ H2 _ I2 q2) fun iv s3 ⟨y, H3, I3, ry, a, H4, ex, g, q3⟩ => ?_) hs
 subst ex
 obtain rfl : u = Value.ref a := rx
 exact aGC hu I3 g ry rv fun s4 I4 => ⟨σ, H4, I4, q3⟩
end
theorem aHI {P : Program} {w : World} {H : Hp} (h : Heap) (hb : sysModules < h.objs.size) : iE P w H (h.push { cls := .type "dict", data := .dict #[] }) h.objs.size (.dK []) :=
 ⟨Nat.zero_le _, beq_eq_false_iff_ne.mpr (Ne.symm (Nat.ne_of_lt hb)), [], .nil, Heap.DictOf.new h⟩
def aLp : TE := fun _ H Q => ∀ p, H p = none → Q (.ref p) (upd H p (.dK []))
section
variable {X : Cx} {pos : Pos}
theorem aHn : PE X (.Dict [] [] pos) aLp := fun pins s σ H Q I h =>
 wpAny_Dict_empty ⟨.ref s.heap.objs.size, _, I.laid (a := s.heap.objs.size) (o := .dK []) (t' := s.toks) (fun _ _ q => Heap.get?_push_of_some _ q) (Nat.le_refl _) (aHI s.heap I.big), rfl, h _ (I.hok.fresh (Nat.le_refl _))⟩
end
section
variable {X : Cx} {pins : List (Addr × Obj)} {σ : St} {H : Hp} {s : Shared} {a : Addr} {y d : V} {u r : Value} {o : Option V} {A : Around} {E : Value → Shared → Prop}
end
section
variable {X : Cx} {o e f : Expr} {apos cpos : Pos} {td ty tx : TE}
end
section
variable {X : Cx} {pins : List (Addr × Obj)} {σ : St} {H : Hp} {s : Shared} {a : Addr} {kvs : List (lX × V)} {A : Around} {E : Value → Shared → Prop}
end
section
variable {X : Cx} {pins : List (Addr × Obj)} {σ : St} {H : Hp} {s : Shared} {a : Addr} {y : V} {u : Value} {A : Around} {E : Value → Shared → Prop}
end
def Itv (K : PySem.W.Frag) (p : Addr) (n : Nat) : It :=
 ⟨fun i H => i < n ∧ ∃ xs x, kK K H p xs ∧ xs[n - 1 - i]? = some x, fun i H x H' => H' = H ∧ ∀ xs, kK K H p xs → xs[n - 1 - i]? = some x, fun i _ => n ≤ i⟩
theorem aIy {P : Program} {w : World} {K : PySem.W.Frag} {tg : Expr} (a it : Addr) (n : Nat) : aB0 P w K tg (Itv K a n) [it] it (fun i h => i ≤ n ∧ h.IsRevIter it a ((n : Int) - 1 - (i : Int))) where
 mem := by simp
 obj := fun i h st b hb => by
  have e : b = it := by simpa using hb
  subst e
  obtain ⟨_, o, e, c, d⟩ := st
  exact ⟨o, e, fun v z => by rw [d] at z; cases z⟩
 keep := fun i h h' st k => ⟨st.1, st.2.at fun o e => k it (by simp) o e⟩
 item := by
  intro X hP hw hK hc i pins s σ H E I hf st hg
  subst hP hw hK
  obtain ⟨hi, xs, x, hq, hx⟩ := hg
  obtain ⟨its, rv, p, hz⟩ := I.list hq
  obtain ⟨u, hu, ru⟩ := rv.get hx
  obtain ⟨f0, f1, f2, f3, f4, f5⟩ := hf it (by simp)
  have hit := st.2
  rw [show (n : Int) - 1 - (i : Int) = ((n - 1 - i : Nat) : Int) by omega] at hit
  refine wpAny_pyNext_rev_item hit p.isList (x := u) (by simpa using hu) fun h' st' sb => ?_
  rw [show ((n - 1 - i : Nat) : Int) - 1 = (n : Int) - 1 - ((i + 1 : Nat) : Int) by omega] at st'
  have I1 : bE X pins σ H { s with heap := h' } := I.turned (t' := s.toks) (fun b o hb e => (sb.2 b hb).trans e) f0 f1 f3 f4 f5
  obtain ⟨o, e, c, d⟩ := id st'
  exact ⟨u, rfl, aDk (s := { s with heap := h' }) e c d (by decide) ⟨x, H, I1, ru, ⟨rfl, fun ys hy => by rw [I.list_inj hy hq]; exact hx⟩, ⟨hi, st'⟩, fun b hb => (hf b hb).1⟩⟩
 done := by
  intro X hP hw hK hc i pins s σ H E I hf st hg
  subst hP hw hK
  obtain ⟨f0, f1, f2, f3, f4, f5⟩ := hf it (by simp)
  have h1 : n ≤ i := hg
  have h2 := st.1
  have hit := st.2
  rw [show (n : Int) - 1 - (i : Int) = -1 by omega] at hit
  exact wpAny_pyNext_rev_end (I.ok.hd hc) hit fun h' eb => ⟨rfl, I.turned (t' := s.toks) (fun b o hb e => eb b o hb e) f0 f1 f3 f4 f5⟩
 self := fun _ _ _ _ _ st h => wpAny_pyIter_revIter st.2 h
section
variable {X : Cx} {tg a : Expr} {ga : GE} {pos : Pos}
def aNu (K : PySem.W.Frag) (ta : TA) : TI := fun σ H R => ta σ H fun vs H1 => ∃ p xs, vs = [.ref p] ∧ kK K H1 p xs ∧ R (Itv K p xs.length) H1
theorem aLc {ta : TA} {p : Pos} (hg : Gl X "reversed") (hm : X.mg "reversed" = none) (hbt : bootBuiltins "reversed" = some (.type "reversed")) (ha : PA X [a] ta) (hs : starEach [a] X.env = [(false, eval a X.env)] := by rfl) :
  PI X tg (.Call (.Name "reversed" p) [a] [] pos) (aNu X.K ta) := by
 intro pins s σ H R I h
 refine Call_ (qK I hg hm hbt (PyProof.Rows.callWith_type1 (gW (ha pos pins s σ H _ I h) fun us s1 ⟨vs, H1, I1, r1, q1⟩ => ?_) (by rw [hs]; rfl) (by rfl)))
 obtain ⟨l, xs, e, hx, q⟩ := q1
 subst e
 obtain ⟨u, rfl, r⟩ := r8 r1
 cases r
 obtain ⟨its, rv, pl, hz⟩ := I1.list hx
 have hl := rv.length
 refine call_reversed_list pl.isList ?_
 have st : (s1.heap.push (revObj l ((its.toArray.size : Int) - 1))).IsRevIter s1.heap.objs.size l ((xs.length : Int) - 1 - ((0 : Nat) : Int)) := ⟨_, Heap.get?_push_size _ rfl, rfl, by simp [revObj, hl]⟩
 refine wpAny_pyIter_revIter st ?_
 refine ⟨s1.heap.objs.size, [s1.heap.objs.size], _, _, H1, rfl, I1.kept (t' := s1.toks) fun b o e => Heap.get?_push_of_some _ e, aIy l _ xs.length, ⟨Nat.zero_le _, st⟩, fun b hb => ?_, q⟩
 have e : b = s1.heap.objs.size := by simpa using hb
 subst e
 exact I1.fpOk (Nat.le_refl _) (I1.hok.fresh (Nat.le_refl _))
def aKK (ga : GE) : GF := fun δ Q => ga δ fun d => match d with
 | .lst ds => Q ds.reverse
 | _ => False
theorem aHL {K : PySem.W.Frag} {C1 : Hp} {p : Addr} {xs : List V} {ds : List D} (hx : kK K C1 p xs) (hd : bZ K C1 xs ds) : aDD K (Itv K p xs.length) ds.reverse C1 := by
 intro C2 H2 c1 c2 i
 have hx2 := c2.seq (c1.seq hx)
 refine ⟨fun d e => ?_, fun hl => ?_⟩
 ·have hi : i < ds.length := by
   have := (List.getElem?_eq_some_iff.mp e).1
   simpa using this
  rw [List.getElem?_reverse hi, ← hd.length] at e
  obtain ⟨v, ev, nv⟩ := hd.get e
  refine ⟨⟨by rw [hd.length]; exact hi, xs, v, hx2, ev⟩, fun x H3 y => ?_⟩
  obtain ⟨rfl, y⟩ := y
  have := y xs hx2
  rw [ev] at this
  cases this
  exact ⟨C2, d7.refl c2, nv.mono c1⟩
 ·show xs.length ≤ i
  rw [List.length_reverse] at hl
  rw [hd.length]
  exact hl
theorem aK7 {p : Pos} (hg : Gl X "reversed") (hm : X.mg "reversed" = none) (hbt : bootBuiltins "reversed" = some (.type "reversed")) (ha : DE X a ga) (hs : starEach [a] X.env = [(false, eval a X.env)] := by rfl) : DI X tg (.Call (.Name "reversed" p) [a] [] pos) (aKK ga) := by
 obtain ⟨t1, p1, h1⟩ := ha
 refine ⟨_, aLc hg hm hbt (e6 p1 i6 hs) hs, fun C0 H0 δ σ C H Q R rp g k => h1 C0 H0 δ σ C H _ _ rp g fun d v C1 H1 q e1 n1 => ?_⟩
 cases d with
 | lst ds =>
  obtain ⟨p, xs, rfl, hx, hd⟩ := cF.mp n1
  exact ⟨p, xs, rfl, e1.ch.seq hx, k _ _ C1 H1 q e1 (aHL hx hd)⟩
 | _ => exact q.elim
end
section
variable {X : Cx} {tg a : Expr} {ga : GE} {pos : Pos}
def aNx (K : PySem.W.Frag) (tl : TE) : TI := fun σ H R => tl σ H fun x H1 => ∃ a, x = .ref a ∧ (((∃ xs, kK K H1 a xs) ∧ R (Itl K a) H1) ∨ ((∃ xs, jN K H1 a xs) ∧ R (Itt K a) H1))
theorem aKM {l : Expr} {tl : TE} (hl : PE X l tl) : PI X tg l (aNx X.K tl) := by
 intro pins s σ H R I h
 refine gW (hl pins s σ H _ I h) fun v s1 ⟨x, H1, I1, r1, q1⟩ => ?_
 obtain ⟨a, e, q1⟩ := q1
 subst e
 cases r1
 rcases q1 with ⟨⟨xs, hq⟩, q⟩ | ⟨⟨xs, hq⟩, q⟩
 ·obtain ⟨its, rv, p, hz⟩ := I1.list hq
  refine wpAny_pyIter_list p.isList ?_
  refine ⟨s1.heap.objs.size, [s1.heap.objs.size], _, _, H1, rfl, I1.kept (t' := s1.toks) fun b o e => Heap.get?_push_of_some _ e, aAV a _, ⟨_, Heap.get?_push_size _ rfl, rfl, rfl⟩, fun b hb => ?_, q⟩
  have e : b = s1.heap.objs.size := by simpa using hb
  subst e
  exact I1.fpOk (Nat.le_refl _) (I1.hok.fresh (Nat.le_refl _))
 ·obtain ⟨its, rv, p, hz⟩ := I1.tuple hq
  refine wpAny_pyIter_tuple (show s1.heap.IsTuple a its.toArray from p) ?_
  refine ⟨s1.heap.objs.size, [s1.heap.objs.size], _, _, H1, rfl, I1.kept (t' := s1.toks) fun b o e => Heap.get?_push_of_some _ e, zV a _, ⟨_, Heap.get?_push_size _ rfl, rfl, rfl⟩, fun b hb => ?_, q⟩
  have e : b = s1.heap.objs.size := by simpa using hb
  subst e
  exact I1.fpOk (Nat.le_refl _) (I1.hok.fresh (Nat.le_refl _))
def gIs (ga : GE) : GF := fun δ Q => ga δ fun d => match kD d with
 | some ds => Q ds
 | none => False
theorem aK3 (ha : DE X a ga) : DI X tg a (gIs ga) := by
 obtain ⟨t, p, h⟩ := ha
 refine ⟨_, aKM p, fun C0 H0 δ σ C H Q R rp g k => h C0 H0 δ σ C H _ _ rp g fun d v C1 H1 q e1 n1 => ?_⟩
 cases d with
 | tup ds =>
  obtain ⟨p, xs, rfl, hx, hd⟩ := bS.mp n1
  exact ⟨p, rfl, .inr ⟨⟨xs, e1.ch.seqT hx⟩, k ds _ C1 H1 q e1 (aDi hx hd fun _ _ _ _ => trivial)⟩⟩
 | lst ds =>
  obtain ⟨p, xs, rfl, hx, hd⟩ := cF.mp n1
  exact ⟨p, rfl, .inl ⟨⟨xs, e1.ch.seq hx⟩, k ds _ C1 H1 q e1 (aDV hx hd)⟩⟩
 | _ => exact q.elim
end
theorem aCB : bootBuiltins "reversed" = some (.type "reversed") := by decide +kernel
section
variable {κ κ' : Type} [DecidableEq κ] [DecidableEq κ']
def qJ (kvs : List (κ × Int)) (k : κ) : Option Int := (kvs.find? fun p => decide (p.1 = k)).map (·.2)
def aGu (kvs : List (κ × Int)) (k : κ) (v : Int) : List (κ × Int) := if (kvs.any fun p => decide (p.1 = k)) = true then kvs.map (fun p => if p.1 = k then (p.1, v) else p) else kvs ++ [(k, v)]
theorem u6 {f : κ → κ'} (hf : ∀ a b, f a = f b → a = b) (k : κ) : ∀ kvs : List (κ × Int), wY (kvs.map fun p => (f p.1, V.int p.2)) (f k) = (qJ kvs k).map V.int
 | [] => rfl
 | p :: r => by
  rw [List.map_cons]
  by_cases e : p.1 = k
  ·rw [uO (by rw [e])]
   simp [qJ, List.find?_cons, e]
  ·rw [tV (fun z => e (hf _ _ z)), u6 hf k r]
   simp [qJ, List.find?_cons, e]
theorem aHz {f : κ → κ'} (hf : ∀ a b, f a = f b → a = b) (k : κ) (kvs : List (κ × Int)) : ((kvs.map fun p => (f p.1, V.int p.2)).any fun kv => decide (kv.1 = f k)) = kvs.any fun p => decide (p.1 = k) := by
 rw [List.any_map]
 congr 1
 funext p
 show decide (f p.1 = f k) = decide (p.1 = k)
 by_cases e : p.1 = k
 ·rw [e]; simp
 ·rw [decide_eq_false e, decide_eq_false fun z => e (hf _ _ z)]
theorem aBd {f : κ → κ'} (hf : ∀ a b, f a = f b → a = b) (k : κ) (v : Int) (kvs : List (κ × Int)) : w8 (kvs.map fun p => (f p.1, V.int p.2)) (f k) (.int v) = (aGu kvs k v).map fun p => (f p.1, V.int p.2) := by
 unfold w8 aGu
 rw [aHz hf]
 split
 ·rw [List.map_map, List.map_map]
  refine List.map_congr_left fun p _ => ?_
  show (if f p.1 = f k then (f p.1, V.int v) else (f p.1, V.int p.2)) = _
  by_cases e : p.1 = k
  ·rw [if_pos (by rw [e])]
   simp [e]
  ·rw [if_neg (fun z => e (hf _ _ z))]
   simp [e]
 ·simp
end
theorem aBI {a b : Int} (h : (Sum.inl a : lX) = Sum.inl b) : a = b := by injection h
theorem yG : ∀ {a b : List Int}, a.map (Sum.inl : Int → lX) = b.map Sum.inl → a = b
 | [], [], _ => rfl
 | [], _ :: _, e => by simp at e
 | _ :: _, [], e => by simp at e
 | x :: xs, y :: ys, e => by
  rw [List.map_cons, List.map_cons] at e
  injection e with e1 e2
  rw [aBI e1, yG e2]
def DM.get : DM → D → Option (Option Int)
 | .k kvs, .int i => some (qJ kvs i)
 | .t kvs, .tup ds => match g6 ds with
  | some r => some (qJ kvs r)
  | none => none
 | _, _ => none
def DM.put : DM → D → Int → Option DM
 | .k kvs, .int i, v => if kvs.length < sizeLine then some (.k (aGu kvs i v)) else none
 | .t kvs, .tup ds, v => match g6 ds with
  | some r => if kvs.length < sizeLine then some (.t (aGu kvs r v)) else none
  | none => none
 | _, _, _ => none
def aLw (H : Hp) (v : V) (d : D) : Prop := (∃ i, d = .int i ∧ v = .int i) ∨ ∃ (r : List Int) (b : Addr), d = .tup (r.map D.int) ∧ v = .ref b ∧ H b = some (.tup (r.map V.int))
theorem aFw (r : List Int) : (r.map (Sum.inl : Int → lX)).map kV = r.map V.int := by
 rw [List.map_map]
 rfl
theorem aFl {H : Hp} {l : Addr} {m : DM} {v : V} {d : D} {o : Option Int} (hr : Rd H l (v7 m)) (hk : aLw H v d) (hg : m.get d = some o) : aGj H l v (o.map V.int) := by
 rcases hk with ⟨i, rfl, rfl⟩ | ⟨r, b, rfl, rfl, hb⟩
 ·cases m with
  | k kvs =>
   cases hg
   exact .inl ⟨_, Sum.inl i, hr, rfl, (u6 (f := (Sum.inl : Int → lX)) (fun _ _ => aBI) i kvs).symm⟩
  | t kvs => cases hg
 ·cases m with
  | k kvs => cases hg
  | t kvs =>
   simp only [DM.get, eW] at hg
   cases hg
   exact .inr ⟨_, r.map Sum.inl, b, hr, rfl, by rw [aFw]; exact hb, (u6 (f := fun r : List Int => r.map (Sum.inl : Int → lX)) (fun _ _ => yG) r kvs).symm⟩
theorem aJw {H : Hp} {l : Addr} {m m' : DM} {v : V} {d : D} {w : Int} (hl : H l = some (v7 m)) (hk : aLw H v d) (hg : m.put d w = some m') : aKU H l v (.int w) (upd H l (v7 m')) := by
 rcases hk with ⟨i, rfl, rfl⟩ | ⟨r, b, rfl, rfl, hb⟩
 ·cases m with
  | k kvs =>
   simp only [DM.put] at hg
   split at hg
   ·rename_i hz
    cases hg
    refine .inl ⟨_, Sum.inl i, hl, rfl, by simpa using hz, ?_⟩
    rw [aBd (f := (Sum.inl : Int → lX)) (fun _ _ => aBI)]
    rfl
   ·cases hg
  | t kvs => cases hg
 ·cases m with
  | k kvs => cases hg
  | t kvs =>
   simp only [DM.put, eW] at hg
   split at hg
   ·rename_i hz
    cases hg
    refine .inr ⟨_, r.map Sum.inl, b, hl, rfl, by rw [aFw]; exact hb, by simpa using hz, ?_⟩
    rw [aBd (f := fun r : List Int => r.map (Sum.inl : Int → lX)) (fun _ _ => yG)]
    rfl
   ·cases hg
section
variable {K : PySem.W.Frag} {C0 H0 C H C1 H1 : Hp} {δ : DS} {σ : St}
def wM (δ : DS) (i : Nat) : Option DM := match δ[i]? with
 | some (.od m) => some m
 | some (.fd m) => some m
 | _ => none
theorem gX.dic (R : gX K C0 H0 δ σ C H) {i : Nat} {m : DM} (h : wM δ i = some m) : ∃ l, σ[i]? = some (some (.ref l)) ∧ Rd H l (v7 m) := by
 unfold wM at h
 split at h
 ·rename_i m' e
  cases h
  obtain ⟨l, a, _, _, d⟩ := R.dc.od i m e
  exact ⟨l, a, .inl d⟩
 ·rename_i m' e
  cases h
  obtain ⟨l, o, a, b⟩ := R.dc.fd i m e
  exact ⟨l, a, .inr ⟨o, R.ch _ _ b⟩⟩
 ·cases h
theorem Rd.same {l : Addr} {u : HO} (h : Rd H l u) (e : cM H H1) : Rd H1 l u := by
 rcases h with h | ⟨o, h⟩
 ·exact .inl (e _ _ h)
 ·exact .inr ⟨o, e _ _ h⟩
theorem gX.setD (R : gX K C0 H0 δ σ C H) {i : Nat} {l : Addr} {m : DM} (h0 : H0 l = none) (hc : C l = none) (hn : ∀ (j : Nat) n, j ≠ i → δ[j]? = some (.od n) → σ[j]? ≠ some (some (.ref l))) (hl : H l = some (v7 m)) :
  gX K C0 H0 (δ.set i (.od m)) (σ.set i (some (.ref l))) C H := by
 refine ⟨R.tb, by simp [R.len], R.ext, fun j e h' => ?_, fun j ds h' => ?_, fun j k ds es l hjk h1 h2 h3 => ?_, fun j n h' => ?_, fun j n h' => ?_, fun j k n n' q hjk h1 h2 h3 => ?_⟩
 ·rcases bC h' with ⟨_, e1, _⟩ | ⟨hj, h'⟩
  ·cases e1
  ·rw [List.getElem?_set_ne (Ne.symm hj)]
   exact R.im j e h'
 ·rcases bC h' with ⟨_, e1, _⟩ | ⟨hj, h'⟩
  ·cases e1
  ·rw [List.getElem?_set_ne (Ne.symm hj)]
   exact R.ow j ds h'
 ·rcases bC h1 with ⟨_, e1, _⟩ | ⟨hj, h1⟩
  ·cases e1
  ·rcases bC h2 with ⟨_, e1, _⟩ | ⟨hk, h2⟩
   ·cases e1
   ·rw [List.getElem?_set_ne (Ne.symm hj)] at h3
    rw [List.getElem?_set_ne (Ne.symm hk)]
    exact R.ap j k ds es l hjk h1 h2 h3
 ·rcases bC h' with ⟨rfl, e1, hl'⟩ | ⟨hj, h'⟩
  ·cases e1
   exact ⟨l, by rw [List.getElem?_set_self (by rw [R.len]; exact hl')], hc, h0, hl⟩
  ·rw [List.getElem?_set_ne (Ne.symm hj)]
   exact R.dc.od j n h'
 ·rcases bC h' with ⟨_, e1, _⟩ | ⟨hj, h'⟩
  ·cases e1
  ·rw [List.getElem?_set_ne (Ne.symm hj)]
   exact R.dc.fd j n h'
 ·rcases bC h1 with ⟨rfl, e1, hl1⟩ | ⟨hj, g1⟩
  ·cases e1
   rw [List.getElem?_set_self (by rw [R.len]; exact hl1)] at h3
   cases h3
   rcases bC h2 with ⟨z, _⟩ | ⟨hk, h2⟩
   ·exact absurd z.symm hjk
   ·rw [List.getElem?_set_ne (Ne.symm hk)]
    exact hn k n' hk h2
  ·rw [List.getElem?_set_ne (Ne.symm hj)] at h3
   rcases bC h2 with ⟨rfl, e1, hl1⟩ | ⟨hk, h2⟩
   ·rw [List.getElem?_set_self (by rw [R.len]; exact hl1)]
    intro z
    cases z
    exact hn j n hj g1 h3
   ·rw [List.getElem?_set_ne (Ne.symm hk)]
    exact R.dc.ap j k n n' q hjk g1 h2 h3
theorem gX.changeD (R : gX K C0 H0 δ σ C H) {i : Nat} {m m' : DM} {l : Addr} (h : δ[i]? = some (.od m)) (hs : σ[i]? = some (some (.ref l))) :
  gX K C0 H0 (δ.set i (.od m')) σ C (upd H l (v7 m')) := by
 obtain ⟨l', a, b, c, d⟩ := R.dc.od i m h
 rw [hs] at a
 cases a
 have ne : ∀ z u, C z = some u → z ≠ l := fun z u e q => by rw [q, b] at e; cases e
 refine ⟨R.tb, by simp [R.len], ⟨fun z u e => ?_, R.ext.cc, fun z u e => ?_, R.ext.ow⟩, fun j e h' => ?_, fun j fs h' => ?_, fun j k fs gs q hjk h1 h2 h3 => ?_, fun j n h' => ?_, fun j n h' => ?_, fun j k n n' q hjk h1 h2 h3 => ?_⟩
 ·rw [aV (bM e c)]; exact R.ext.hh z u e
 ·rw [aV (ne z u e)]; exact R.ch z u e
 ·rcases bC h' with ⟨_, e1, _⟩ | ⟨hj, h'⟩
  ·cases e1
  ·exact R.im j e h'
 ·rcases bC h' with ⟨_, e1, _⟩ | ⟨hj, h'⟩
  ·cases e1
  ·obtain ⟨q, zs, a', b', c', d', f'⟩ := R.ow j fs h'
   refine ⟨q, zs, a', b', c', ?_, f'⟩
   rw [aV (aCP d' d fun z => xQ z.symm)]
   exact d'
 ·rcases bC h1 with ⟨_, e1, _⟩ | ⟨hj, h1⟩
  ·cases e1
  ·rcases bC h2 with ⟨_, e1, _⟩ | ⟨hk, h2⟩
   ·cases e1
   ·exact R.ap j k fs gs q hjk h1 h2 h3
 ·rcases bC h' with ⟨rfl, e1, _⟩ | ⟨hj, h'⟩
  ·cases e1
   exact ⟨l, hs, b, c, bQ⟩
  ·obtain ⟨q, a', b', c', d'⟩ := R.dc.od j n h'
   refine ⟨q, a', b', c', ?_⟩
   rw [aV fun z => ?_]
   ·exact d'
   ·rw [z] at a'
    exact R.dc.ap i j m n l (Ne.symm hj) h h' hs a'
 ·rcases bC h' with ⟨_, e1, _⟩ | ⟨hj, h'⟩
  ·cases e1
  ·exact R.dc.fd j n h'
 ·have g1 : ∃ n, δ[j]? = some (.od n) := by
   rcases bC h1 with ⟨rfl, _, _⟩ | ⟨_, h1⟩
   ·exact ⟨_, h⟩
   ·exact ⟨_, h1⟩
  have g2 : ∃ n, δ[k]? = some (.od n) := by
   rcases bC h2 with ⟨rfl, _, _⟩ | ⟨_, h2⟩
   ·exact ⟨_, h⟩
   ·exact ⟨_, h2⟩
  obtain ⟨_, g1⟩ := g1
  obtain ⟨_, g2⟩ := g2
  exact R.dc.ap j k _ _ q hjk g1 g2 h3
theorem gX.frzD (R : gX K C0 H0 δ σ C H) {i : Nat} {m : DM} {l : Addr} (h : δ[i]? = some (.od m)) (hs : σ[i]? = some (some (.ref l))) (o : Obj) :
  gX K C0 H0 (δ.set i (.fd m)) σ (upd C l (.frz o (v7 m))) (upd H l (.frz o (v7 m))) := by
 obtain ⟨l', a, b, c, d⟩ := R.dc.od i m h
 rw [hs] at a
 cases a
 have up : cM C (upd C l (.frz o (v7 m))) := cM.upd b
 refine ⟨R.tb, by simp [R.len], ⟨fun z u e => ?_, R.ext.cc.trans up, fun z u e => ?_, fun z e n => ?_⟩, fun j e h' => ?_, fun j fs h' => ?_, fun j k fs gs q hjk h1 h2 h3 => ?_, fun j n h' => ?_, fun j n h' => ?_, fun j k n n' q hjk h1 h2 h3 => ?_⟩
 ·rw [aV (bM e c)]; exact R.ext.hh z u e
 ·by_cases hz : z = l
  ·subst hz; rw [bQ] at e ⊢; exact e
  ·rw [aV hz] at e ⊢; exact R.ch z u e
 ·rw [aV (fun q => n (by rw [q]; exact c))]
  exact R.ext.ow z e n
 ·rcases bC h' with ⟨_, e1, _⟩ | ⟨hj, h'⟩
  ·cases e1
  ·obtain ⟨v, ev, nv⟩ := R.im j e h'
   exact ⟨v, ev, nv.mono up⟩
 ·rcases bC h' with ⟨_, e1, _⟩ | ⟨hj, h'⟩
  ·cases e1
  ·obtain ⟨q, zs, a', b', c', d', f'⟩ := R.ow j fs h'
   have hq : q ≠ l := aCP d' d fun z => xQ z.symm
   refine ⟨q, zs, a', ?_, c', ?_, f'.mono up⟩
   ·rw [aV hq]; exact b'
   ·rw [aV hq]; exact d'
 ·rcases bC h1 with ⟨_, e1, _⟩ | ⟨hj, h1⟩
  ·cases e1
  ·rcases bC h2 with ⟨_, e1, _⟩ | ⟨hk, h2⟩
   ·cases e1
   ·exact R.ap j k fs gs q hjk h1 h2 h3
 ·rcases bC h' with ⟨_, e1, _⟩ | ⟨hj, h'⟩
  ·cases e1
  ·obtain ⟨q, a', b', c', d'⟩ := R.dc.od j n h'
   have hq : q ≠ l := fun z => by
    rw [z] at a'
    exact R.dc.ap i j m n l (Ne.symm hj) h h' hs a'
   refine ⟨q, a', ?_, c', ?_⟩
   ·rw [aV hq]; exact b'
   ·rw [aV hq]; exact d'
 ·rcases bC h' with ⟨rfl, e1, _⟩ | ⟨hj, h'⟩
  ·cases e1
   exact ⟨l, o, hs, bQ⟩
  ·obtain ⟨q, o', a', b'⟩ := R.dc.fd j n h'
   exact ⟨q, o', a', up _ _ b'⟩
 ·rcases bC h1 with ⟨_, e1, _⟩ | ⟨hj, h1⟩
  ·cases e1
  ·rcases bC h2 with ⟨_, e1, _⟩ | ⟨hk, h2⟩
   ·cases e1
   ·exact R.dc.ap j k n n' q hjk h1 h2 h3
end
def aIT (X : Cx) (e : Expr) (g : GE) : Prop := ∃ t, PE X e t ∧ ∀ C0 H0 δ σ C H (Q : D → Prop) (R : VK), gX X.K C0 H0 δ σ C H → g δ Q → (∀ d v C1 H1, Q d → d7 C H C1 H1 → aLw H1 v d → R v H1) → t σ H R
section
variable {X : Cx} {a b c e f o : Expr} {es : List Expr} {pos : Pos} {ga gk gd gv : GE} {gA : GF}
def gKI (ga : GE) : GE := fun δ Q => ga δ fun d => match d with
 | .int i => Q (.int i)
 | _ => False
theorem aCd (h : DE X e ga) : aIT X e (gKI ga) := by
 obtain ⟨t, p, h⟩ := h
 refine ⟨t, p, fun C0 H0 δ σ C H Q R rp g k => h C0 H0 δ σ C H _ R rp g fun d v C1 H1 q e1 n1 => ?_⟩
 cases d with
 | int i => exact k (.int i) v C1 H1 q e1 (.inl ⟨i, rfl, bB.mp n1⟩)
 | _ => exact q.elim
def aDt (i : Nat) (gk : GE) : GE := fun δ Q => match wM δ i with
 | some m => gk δ fun d => match m.get d with
  | some (some v) => Q (.int v)
  | _ => False
 | none => False
theorem aFP {i : Nat} {x : Str} {p2 : Pos} (hu : X.A.units + 64 < cLine) (hx : PE X (.Name x p2) (aBQ i)) (hk : aIT X e gk) (hs : aK4 e) : DE X (.Subscript (.Name x p2) e pos) (aDt i gk) := by
 obtain ⟨t, p, h⟩ := hk
 refine ⟨_, aJu (by omega) hx p hs, fun C0 H0 δ σ C H Q R rp g k => ?_⟩
 unfold aDt at g
 split at g
 ·rename_i m em
  obtain ⟨l, hl, hr⟩ := rp.dic em
  refine ⟨.ref l, hl, h C0 H0 δ σ C H _ _ rp g fun d v C1 H1 q e1 kv => ?_⟩
  cases eg : m.get d with
  | none => rw [eg] at q; exact q.elim
  | some r =>
   cases r with
   | none => rw [eg] at q; exact q.elim
   | some w =>
    rw [eg] at q
    exact ⟨l, .int w, rfl, aFl (hr.same e1.hh) kv eg, k (.int w) _ C1 H1 q e1 (bB.mpr rfl)⟩
 ·exact g.elim
def xT (i : Nat) (gk : GE) : GT := fun δ Q => match wM δ i with
 | some m => gk δ fun d => match m.get d with
  | some r => Q (!r.isSome)
  | none => False
 | none => False
theorem aFV {i : Nat} {x : Str} {p2 : Pos} (hu : X.A.units + 64 < cLine) (hx : PE X (.Name x p2) (aBQ i)) (hk : aIT X e gk) : DT X (.Compare e [.NotIn] [.Name x p2] pos) (xT i gk) := by
 obtain ⟨t, p, h⟩ := hk
 refine ⟨_, aLg (aGi (by omega) p hx), fun C0 H0 δ σ C H Q R rp g k => ?_⟩
 unfold xT at g
 split at g
 ·rename_i m em
  refine h C0 H0 δ σ C H _ _ rp g fun d v C1 H1 q e1 kv => ?_
  obtain ⟨l, hl, hr⟩ := (rp.grow e1).dic em
  cases eg : m.get d with
  | none => rw [eg] at q; exact q.elim
  | some r =>
   rw [eg] at q
   refine ⟨.ref l, hl, l, _, rfl, aFl hr kv eg, !r.isSome, by cases r <;> rfl, k _ C1 H1 q e1⟩
 ·exact g.elim
def aFL (i : Nat) : GE := fun δ Q => match wM δ i with
 | some (.k kvs) => Q (.int kvs.length)
 | _ => False
theorem aGg : mT X (.builtin "len") (fun xs H Q => ∃ a kvs, xs = [V.ref a] ∧ Rd H a (.dK kvs) ∧ Q (.int kvs.length) H) := by
 intro pins s σ H xs us Q I r h
 obtain ⟨a, kvs, rfl, ha, q⟩ := h
 obtain ⟨u, rfl, ru⟩ := r8 r
 cases ru
 exact aMC I ha fun t s' I' => ⟨.int kvs.length, H, I', ⟨t, rfl⟩, q⟩
theorem aJf {i : Nat} {t : TE} (h : PE X e t) (ht : t = fun σ H Q => ∃ v, σ[i]? = some (some v) ∧ ∃ a kvs, [v] = [V.ref a] ∧ Rd H a (.dK kvs) ∧ Q (.int kvs.length) H) : DE X e (aFL i) := by
 subst ht
 refine ⟨_, h, fun C0 H0 δ σ C H Q R rp g k => ?_⟩
 unfold aFL at g
 split at g
 ·rename_i kvs em
  obtain ⟨l, hl, hr⟩ := rp.dic em
  refine ⟨.ref l, hl, l, _, rfl, hr, ?_⟩
  rw [List.length_map]
  exact k _ _ C H g (d7.refl rp.ch) (bB.mpr rfl)
 ·exact g.elim
def aH6 (i : Nat) (m : DM) : GS := fun De δ => De.nx (δ.set i (.od m))
theorem gX.newD {K : PySem.W.Frag} {C0 H0 C H : Hp} {δ : DS} {σ : St} (R : gX K C0 H0 δ σ C H) {i : Nat} {p : Addr} {m : DM} (hp : H p = none) : gX K C0 H0 (δ.set i (.od m)) (σ.set i (some (.ref p))) C (upd H p (v7 m)) := by
 refine (R.grow (d7.newO R.ch hp)).setD (R.ext.hh.free hp) (R.ch.free hp) (fun j n hj ho z => ?_) bQ
 obtain ⟨l, a, _, _, d⟩ := R.dc.od j n ho
 rw [z] at a
 cases a
 rw [hp] at d
 cases d
theorem aIN {i : Nat} {st : Stmt} {te : TE} (m : DM) (hp : PS X st (aEH te (wH i))) (ht : te = fun _ H Q => ∀ p, H p = none → Q (.ref p) (upd H p (v7 m))) : DSt X st (aH6 i m) := by
 subst ht
 exact ⟨_, hp, fun C0 H0 δ σ C H De E rp g k p hn => k.nx _ _ C _ (rp.newD hn) g⟩
def aFR (i : Nat) (gk gv : GE) : GS := fun De δ => match δ[i]? with
 | some (.od m) => gv δ fun v => gk δ fun d => match v with
  | .int w => match m.put d w with
   | some m' => De.nx (δ.set i (.od m'))
   | none => False
  | _ => False
 | _ => False
theorem aI1 {i : Nat} {x : Str} {p2 p3 : Pos} (hu : X.A.units + 64 < cLine) (hx : PE X (.Name x p2) (aBQ i)) (hk : aIT X e gk) (hv : DE X f gv) (hs : swapsWith f (some (.Subscript (.Name x p2) e p3)) pos.line X.env = pure false := by rfl) :
  DSt X (.Assign [.Subscript (.Name x p2) e p3] f pos) (aFR i gk gv) := by
 obtain ⟨t, p, h⟩ := hk
 obtain ⟨t2, p2, h2⟩ := hv
 refine ⟨_, aI7 (by omega) hx p p2 hs, fun C0 H0 δ σ C H De E rp g k => ?_⟩
 unfold aFR at g
 split at g
 ·rename_i m em
  refine h2 C0 H0 δ σ C H _ _ rp g fun dv v C1 H1 q e1 n1 => ?_
  obtain ⟨l, hl, _, _, hd⟩ := (rp.grow e1).dc.od i m em
  refine ⟨.ref l, hl, h C0 H0 δ σ C1 H1 _ _ (rp.grow e1) q fun d y C2 H2 q2 e2 kv => ?_⟩
  cases dv with
  | int w =>
   rw [bB.mp n1]
   have q2' : (match m.put d w with
    | some m' => De.nx (δ.set i (.od m'))
    | none => False) := q2
   cases ep : m.put d w with
   | none => rw [ep] at q2'; exact q2'.elim
   | some m' =>
    rw [ep] at q2'
    exact ⟨l, _, rfl, aJw (e2.hh _ _ hd) kv ep, k.nx _ _ C2 _ (((rp.grow e1).grow e2).changeD em hl) q2'⟩
  | _ => exact q2.elim
 ·exact g.elim
end
theorem bE.frzD {X : Cx} {pins : List (Addr × Obj)} {σ : St} {H : Hp} {s : Shared} {l : Addr} {m : DM} (I : bE X pins σ H s) (hl : H l = some (v7 m)) : ∃ o, s.heap.get? l = some o ∧ bE X pins σ (upd H l (.frz o (v7 m))) s := by
 have ok := I.hok l _ hl
 obtain ⟨o, ho⟩ : ∃ o, s.heap.get? l = some o := by
  cases m with
  | k kvs => obtain ⟨_, _, _, _, o, _, _, e, _⟩ := ok; exact ⟨o, e⟩
  | t kvs => obtain ⟨_, _, _, _, o, _, _, e, _⟩ := ok; exact ⟨o, e⟩
 have nt : ∀ b xs, H b = some (.tup xs) → b ≠ l := fun b xs e z => by rw [z, hl] at e; cases m <;> cases e
 have nw : ∀ b y, H b = some (.own y) → b ≠ l := fun b y e z => by rw [z, hl] at e; cases m <;> cases e
 have nf : ∀ b o u, H b = some (.frz o u) → b ≠ l := fun b o u e z => by rw [z, hl] at e; cases m <;> cases e
 have nb : ∀ b ps, H b = some (.tbl ps) → b ≠ l := fun b ps e z => by rw [z, hl] at e; cases m <;> cases e
 have nn : ∀ b, H b = none → b ≠ l := fun b e z => by rw [z, hl] at e; cases e
 have un : Un X.fs [] H (upd H l (.frz o (v7 m))) s.heap s.heap :=
  ⟨fun b u e _ _ _ => e, fun b u e _ _ _ => ⟨u.slots, e⟩, fun b u e n _ => by rw [aV (nn b n)]; exact n, fun b u e _ => ⟨u, e⟩, fun b xs e => by rw [aV (nt b xs e)]; exact e, fun b o u e => by rw [aV (nf b o u e)]; exact e, fun b ps e => ⟨#[], by rw [aV (nb b ps e)]; simpa using e⟩⟩
 have hok : qV X.prog X.w (upd H l (.frz o (v7 m))) s.heap := fun b u e => by
  by_cases hb : b = l
  ·subst hb
   rw [bQ] at e
   cases e
   exact ⟨ho, ok.stay (fun _ _ _ q => q) (fun c q => by rw [aV (nw c _ q)]; exact q) (fun c xs q => by rw [aV (nt c xs q)]; exact q) fun c ob u q => by rw [aV (nf c ob u q)]; exact q⟩
  ·rw [aV hb] at e
   exact (I.hok b u e).stay (fun _ _ _ q => q) (fun c q => by rw [aV (nw c _ q)]; exact q) (fun c xs q => by rw [aV (nt c xs q)]; exact q) fun c ob u q => by rw [aV (nf c ob u q)]; exact q
 exact ⟨o, ho, I.un (t' := s.toks) un hok⟩
section
variable {X : Cx} {sts : List Stmt} {g1 : GS} {tg : Expr} {pos : Pos}
def aE9 (i : Nat) (g : GS) : GS := fun De δ => match δ[i]? with
 | some (.od m) => g De (δ.set i (.fd m))
 | _ => False
theorem aG8 (i : Nat) (h : jA X sts g1) : jA X sts (aE9 i g1) := by
 obtain ⟨t, p, h⟩ := h
 refine ⟨fun E σ H => ∃ l m, H l = some (v7 m) ∧ ∀ o, t E σ (upd H l (.frz o (v7 m))), fun pins s σ H E I q => ?_, fun C0 H0 δ σ C H De E rp g k => ?_⟩
 ·obtain ⟨l, m, hl, q⟩ := q
  obtain ⟨o, _, I1⟩ := I.frzD hl
  exact p pins s σ _ E I1 (q o)
 ·unfold aE9 at g
  split at g
  ·rename_i m em
   obtain ⟨l, hs, _, _, hd⟩ := rp.dc.od i m em
   exact ⟨l, m, hd, fun o => h C0 H0 _ σ _ _ De E (rp.frzD em hs o) g k⟩
  ·exact g.elim
end
theorem aBF {P : Program} {w : World} {H : Hp} {h : Heap} {l : Addr} {o : Obj} {kvs : List (Int × Int)} (ok : qV P w H h) (hl : H l = some (.frz o (v7 (.k kvs)))) :
  (l == sysModules) = false ∧ ∃ vs ep es, o.data = .dict es ep ∧ vs.map (·.1) = kvs.map (fun p => (Sum.inl p.1 : lX)) ∧ h.DictAt (gO P w) l vs ep := by
 obtain ⟨ho, z, hd, vs, rel, o', es, ep, e, r⟩ := (show iE P w H h l (.frz o (.dK (kvs.map fun p => (Sum.inl p.1, .int p.2)))) from ok l _ hl)
 rw [ho] at e
 cases e
 refine ⟨hd, vs, ep, es, r.2.1, ?_, o, es, ho, r⟩
 rw [← rel.keys, List.map_map]
 rfl
theorem aGF {P : Program} {w : World} {K : PySem.W.Frag} {tg : Expr} (d it : Addr) (o : Obj) (kvs : List (Int × Int)) (es : Array DictEntry) (ep : Nat) (hdt : o.data = .dict es ep) :
  aB0 P w K tg ⟨fun i H => i < kvs.length ∧ H d = some (.frz o (v7 (.k kvs))), fun i H x H' => H' = H ∧ ∃ k, (kvs.map (·.1))[i]? = some k ∧ x = .int k, fun i H => kvs.length ≤ i ∧ H d = some (.frz o (v7 (.k kvs)))⟩ [it] it (fun i h => h.IsKeyIter it d i kvs.length ep) where
 mem := by simp
 obj := fun i h st b hb => by
  have e : b = it := by simpa using hb
  subst e
  obtain ⟨o, e, c, d⟩ := st
  exact ⟨o, e, fun v z => by rw [d] at z; cases z⟩
 keep := fun i h h' st k => st.at fun o e => k it (by simp) o e
 item := by
  intro X hP hw hK hc i pins s σ H E I hf st hg
  subst hP hw hK
  obtain ⟨hi, hH⟩ := hg
  obtain ⟨hd, vs, ep', es', hd2, hv, da⟩ := aBF I.hok hH
  rw [hdt] at hd2
  cases hd2
  obtain ⟨f0, f1, f2, f3, f4, f5⟩ := hf it (by simp)
  have hvl : vs.length = kvs.length := by
   have := congrArg List.length hv
   simpa using this
  have hiv : i < vs.length := by omega
  have hx : vs[i]? = some (vs[i].1, vs[i].2) := by rw [List.getElem?_eq_getElem hiv]
  have hk1 : vs[i].1 = Sum.inl kvs[i].1 := by
   have e1 : (vs.map (·.1))[i]? = some vs[i].1 := by rw [List.getElem?_map, List.getElem?_eq_getElem hiv]; rfl
   rw [hv, List.getElem?_map, List.getElem?_eq_getElem hi] at e1
   exact (Option.some.inj e1).symm
  rw [← hvl] at st
  refine wpAny_pyNext_dict_item st da hx fun key h' hkey st' sb => ?_
  rw [hvl] at st'
  rw [hk1] at hkey
  have I1 : bE X pins σ H { s with heap := h' } := I.turned (t' := s.toks) (fun b o hb e => (sb.2 b hb).trans e) f0 f1 f3 f4 f5
  obtain ⟨o2, e2, c2, d2⟩ := id st'
  have hrel : dS (.int kvs[i].1) key := by
   rcases fF (show v8 (Sum.inl kvs[i].1) key = true from hkey) with ⟨j, t, ej, ev⟩ | ⟨x, t, ej, ev⟩
   ·cases ej
    exact ⟨t, ev⟩
   ·cases ej
  exact ⟨key, rfl, aDk (s := { s with heap := h' }) e2 c2 d2 (by decide) ⟨.int kvs[i].1, H, I1, hrel, ⟨rfl, kvs[i].1, by rw [List.getElem?_map, List.getElem?_eq_getElem hi]; rfl, rfl⟩, st', fun b hb => (hf b hb).1⟩⟩
 done := by
  intro X hP hw hK hc i pins s σ H E I hf st hg
  subst hP hw hK
  obtain ⟨hi, hH⟩ := hg
  obtain ⟨hd, vs, ep', es', hd2, hv, da⟩ := aBF I.hok hH
  rw [hdt] at hd2
  cases hd2
  obtain ⟨f0, f1, f2, f3, f4, f5⟩ := hf it (by simp)
  have hvl : vs.length = kvs.length := by
   have := congrArg List.length hv
   simpa using this
  rw [← hvl] at st
  exact wpAny_pyNext_dict_end (I.ok.hd hc) st da (List.getElem?_eq_none (by omega)) fun h' eb => ⟨rfl, I.turned (t' := s.toks) (fun b o hb e => eb b o hb e) f0 f1 f3 f4 f5⟩
 self := fun _ _ _ _ _ st h => wpAny_pyIter_keyiter st h
section
variable {X : Cx} {tg : Expr} {pos : Pos}
def aBp (i : Nat) : GF := fun δ Q => match δ[i]? with
 | some (.fd (.k kvs)) => Q (kvs.map fun p => .int p.1)
 | _ => False
theorem aJ4 {i : Nat} {x : Str} (hx : PE X (.Name x pos) (aBQ i)) : DI X tg (.Name x pos) (aBp i) := by
 refine ⟨fun σ H R => ∃ l o kvs, σ[i]? = some (some (.ref l)) ∧ H l = some (.frz o (v7 (.k kvs))) ∧ R ⟨fun i H => i < kvs.length ∧ H l = some (.frz o (v7 (.k kvs))), fun i H x H' => H' = H ∧ ∃ k, (kvs.map (·.1))[i]? = some k ∧ x = .int k, fun i H => kvs.length ≤ i ∧ H l = some (.frz o (v7 (.k kvs)))⟩ H, fun pins s σ H R I h => ?_, fun C0 H0 δ σ C H Q R rp g k => ?_⟩
 ·obtain ⟨l, o, kvs, hs, hl, q⟩ := h
  refine gW (hx pins s σ H (fun v H1 => v = .ref l ∧ H1 = H) I ⟨.ref l, hs, rfl, rfl⟩) fun v s1 ⟨y, H1, I1, r1, e1, e2⟩ => ?_
  subst e1 e2
  cases r1
  obtain ⟨hd, vs, ep, es, hdt, hv, da⟩ := aBF I1.hok hl
  have hvl : vs.length = kvs.length := by
   have := congrArg List.length hv
   simpa using this
  refine wpAny_pyIter_dict hd da ?_
  refine ⟨s1.heap.objs.size, [s1.heap.objs.size], _, _, H1, rfl, I1.kept (t' := s1.toks) fun b o e => Heap.get?_push_of_some _ e, aGF l _ o kvs es ep hdt, ⟨_, Heap.get?_push_size _ rfl, rfl, by rw [hvl]; rfl⟩, fun b hb => ?_, q⟩
  have e : b = s1.heap.objs.size := by simpa using hb
  subst e
  exact I1.fpOk (Nat.le_refl _) (I1.hok.fresh (Nat.le_refl _))
 ·unfold aBp at g
  split at g
  ·rename_i kvs em
   obtain ⟨l, o, hs, hc⟩ := rp.dc.fd i _ em
   refine ⟨l, o, kvs, hs, rp.ch _ _ hc, k _ _ C H g (d7.refl rp.ch) ?_⟩
   intro C2 H2 c1 c2 j
   have h2 := c2 _ _ (c1 _ _ hc)
   refine ⟨fun d e => ?_, fun hl => ⟨by simpa using hl, h2⟩⟩
   rw [List.getElem?_map] at e
   cases ek : kvs[j]? with
   | none => rw [ek] at e; cases e
   | some p =>
    rw [ek] at e
    cases e
    refine ⟨⟨(List.getElem?_eq_some_iff.mp ek).1, h2⟩, fun x H3 y => ?_⟩
    obtain ⟨rfl, q, eq, rfl⟩ := y
    rw [List.getElem?_map, ek] at eq
    cases eq
    exact ⟨C2, d7.refl c2, bB.mpr rfl⟩
  ·exact g.elim
end
open Classical in
noncomputable def lK : List D → Option D
 | [.int u, .int l] => if 0 < l ∧ Bd 7000 u ∧ Bd 7000 l then some (aU (Rat.divInt u l)) else none
 | _ => none
noncomputable def cY : List D → Option D
 | [m, p, s, r] => bL m fun ns _ => nX ns p fun pl => i7 pl.length s fun s => p6 ns r fun r => some (.int (i8 ns pl s r))
 | _ => none
noncomputable def iS : List D → Option D
 | [m, rs, h] => bL m fun ns pay => sI ns rs fun rs => i7 ns.length h fun h => some (.lst ((rs.map fun r => bG ns pay r h).map D.int))
 | _ => none
def tY (p q : Int) : List Int → Int
 | [] => 0
 | y :: ys => y * q ^ ys.length + p * tY p q ys
def jT (ys : List Int) : Bool := decide (ys.length ≤ 20) && ys.all fun y => decide (-9 ≤ y) && decide (y ≤ 9)
theorem v0 {ys : List Int} (h1 : ys.length ≤ 20) (h2 : ∀ y ∈ ys, -9 ≤ y ∧ y ≤ 9) : jT ys = true := by
 unfold jT
 rw [Bool.and_eq_true, decide_eq_true_eq, List.all_eq_true]
 exact ⟨h1, fun y hy => by simpa using h2 y hy⟩
theorem sB {ys : List Int} (h : jT ys = true) : ys.length ≤ 20 ∧ ∀ y ∈ ys, -9 ≤ y ∧ y ≤ 9 := by
 unfold jT at h
 rw [Bool.and_eq_true, decide_eq_true_eq, List.all_eq_true] at h
 exact ⟨h.1, fun y hy => by simpa using h.2 y hy⟩
noncomputable def gQ : List D → Option D
 | [.lst es, d] => match g6 es with
  | some ys => if jT ys = true then lJ d fun d => some (.int (tY d.num d.den ys)) else none
  | none => none
 | _ => none
def woL (d : Rat) (xs ys : List Int) : Rat := rT d (xs.map fun (x : Int) => (x : Rat)) + d ^ xs.length * (rT d (ys.map fun (x : Int) => (x : Rat)) / (1 - d ^ ys.length))
noncomputable def cE : List D → Option D
 | [.lst as, .lst bs, d] => match g6 as, g6 bs with
  | some xs, some ys => if jT xs = true ∧ jT ys = true ∧ ys ≠ [] then lJ d fun d => some (aU (woL d xs ys)) else none
  | _, _ => none
 | _ => none
noncomputable def fB : List D → Option D
 | [m, p, s, d] => bL m fun ns pay => nX ns p fun pl => i7 pl.length s fun s => lJ d fun d => some (.tup ((List.range ns.length).map fun h => aU (cN ns pay pl d h s)))
 | _ => none
section
variable {d : Rat}
theorem aCH (p q : Int) : ∀ (ys : List Int) (t w : Int), ys.foldl (fun (a : Int × Int) y => (a.1 * q + a.2 * y, a.2 * p)) (t, w) = (t * q ^ ys.length + w * tY p q ys, w * p ^ ys.length)
 | [], t, w => by simp [tY]
 | y :: ys, t, w => by
  rw [List.foldl_cons, aCH p q ys, tY, List.length_cons, Int.pow_succ, Int.pow_succ]
  refine Prod.ext ?_ ?_ <;> simp only <;> grind
theorem aI5 (ys : List Int) : rT d (ys.map fun (x : Int) => (x : Rat)) * (((d.den : Int) ^ ys.length : Int) : Rat) = (((d.den : Int) - d.num : Int) : Rat) * (tY d.num d.den ys : Rat) := by
 induction ys with
 | nil => simp [rT, tY]
 | cons y ys ih =>
  have h1 := tO d
  rw [List.map_cons, List.length_cons, tY, Int.pow_succ, Rat.intCast_mul, Rat.intCast_add, Rat.intCast_mul, Rat.intCast_mul, Rat.intCast_sub]
  show ((1 - d) * (y : Rat) + d * rT d (ys.map fun (x : Int) => (x : Rat))) * _ = _
  rw [Rat.intCast_sub] at ih
  generalize rT d (ys.map fun (x : Int) => (x : Rat)) = F at *
  generalize (((d.den : Int) ^ ys.length : Int) : Rat) = Q at *
  generalize ((d.den : Int) : Rat) = q at *
  generalize ((d.num : Int) : Rat) = p at *
  generalize ((tY d.num d.den ys : Int) : Rat) = W at *
  grind
theorem yL (p q : Int) : ∀ n : Nat, (q - p) * tY p q (List.replicate n 1) = q ^ n - p ^ n
 | 0 => by simp [tY]
 | n + 1 => by
  have ih := yL p q n
  rw [List.replicate_succ, tY, List.length_replicate, Int.pow_succ, Int.pow_succ]
  grind
theorem aB6 (hd : dA d) : 0 < d.num ∧ d.num < (d.den : Int) := by
 have h1 := hd.pos
 have h2 := hd.lt
 rw [Rat.lt_iff] at h1 h2
 have e1 : (0 : Rat).num = 0 := rfl
 have e2 : (0 : Rat).den = 1 := rfl
 have e3 : (1 : Rat).num = 1 := rfl
 have e4 : (1 : Rat).den = 1 := rfl
 rw [e1, e2] at h1
 rw [e3, e4] at h2
 omega
theorem aFg (hd : dA d) {n : Nat} (hn : 0 < n) : 0 < tY d.num d.den (List.replicate n 1) := by
 obtain ⟨h1, h2⟩ := aB6 hd
 have e := yL d.num d.den n
 have h3 := aCc h1 h2 n hn
 apply Int.lt_of_not_ge
 intro z
 have := Int.mul_nonpos_of_nonneg_of_nonpos (show 0 ≤ (d.den : Int) - d.num by omega) z
 omega
theorem aJS (hd : dA d) {ys : List Int} (hy : ys ≠ []) : rT d (ys.map fun (x : Int) => (x : Rat)) / (1 - d ^ ys.length) = Rat.divInt (tY d.num d.den ys) (tY d.num d.den (List.replicate ys.length 1)) := by
 have hn : 0 < ys.length := List.length_pos_iff.mpr hy
 obtain ⟨h1, h2⟩ := aB6 hd
 have a := aI5 (d := d) ys
 have b := congrArg (fun z : Int => (z : Rat)) (yL d.num d.den ys.length)
 simp only [Rat.intCast_mul, Rat.intCast_sub] at b
 have hp := aFg hd hn
 have hdp : ∀ n : Nat, d ^ n * (((d.den : Int) ^ n : Int) : Rat) = ((d.num ^ n : Int) : Rat) := by
  intro n
  induction n with
  | zero => rw [Rat.pow_zero, Int.pow_zero, Int.pow_zero]; grind
  | succ n ih =>
   have := tO d
   rw [Rat.pow_succ, Int.pow_succ, Int.pow_succ, Rat.intCast_mul, Rat.intCast_mul]
   grind
 have c := hdp ys.length
 obtain ⟨p1, p2⟩ := kZ hd.pos hd.lt ys.length hn
 have q0 : (((d.den : Int) ^ ys.length : Int) : Rat) ≠ 0 := by
  have := mM (show (0 : Int) < (d.den : Int) by omega) ys.length
  intro z
  have z2 : (((d.den : Int) ^ ys.length : Int) : Rat) = ((0 : Int) : Rat) := z
  rw [Rat.intCast_inj] at z2
  omega
 have w0 : ((tY d.num d.den (List.replicate ys.length 1) : Int) : Rat) ≠ 0 := by
  intro z
  have z2 : ((tY d.num d.den (List.replicate ys.length 1) : Int) : Rat) = ((0 : Int) : Rat) := z
  rw [Rat.intCast_inj] at z2
  omega
 have k0 : (((d.den : Int) : Rat) - ((d.num : Int) : Rat)) ≠ 0 := by
  intro z
  have z2 : (((d.den : Int) - d.num : Int) : Rat) = ((0 : Int) : Rat) := by rw [Rat.intCast_sub]; exact z
  rw [Rat.intCast_inj] at z2
  omega
 rw [Rat.intCast_sub] at a
 rw [Rat.divInt_eq_div]
 generalize rT d (ys.map fun (x : Int) => (x : Rat)) = F at *
 generalize (((d.den : Int) ^ ys.length : Int) : Rat) = Q at *
 generalize ((d.num ^ ys.length : Int) : Rat) = P at *
 generalize ((tY d.num d.den ys : Int) : Rat) = W at *
 generalize ((tY d.num d.den (List.replicate ys.length 1) : Int) : Rat) = V at *
 generalize d ^ ys.length = D at *
 generalize (((d.den : Int) : Rat) - ((d.num : Int) : Rat)) = k at *
 have e1 : 1 - D ≠ 0 := by grind
 have e2 : (1 - D) * Q = k * V := by grind
 have e3 : F * V = W * (1 - D) := by
  have : F * V * k * Q = W * (1 - D) * k * Q := by grind
  grind
 grind
theorem aCe {p q : Int} (hp : Bd 40 p) (hq : Bd 40 q) : ∀ {ys : List Int}, (∀ y ∈ ys, -9 ≤ y ∧ y ≤ 9) → Bd (46 * ys.length + 1) (tY p q ys)
 | [], _ => show (0 : Int).natAbs < 2 ^ (46 * 0 + 1) by decide
 | y :: ys, h => by
  have ih := aCe hp hq (ys := ys) fun z hz => h z (List.mem_cons_of_mem _ hz)
  have hy := h y List.mem_cons_self
  have b1 : Bd 4 y := by unfold Bd; omega
  have b2 := b1.mul (hq.pow ys.length)
  have b3 := hp.mul ih
  rw [tY, List.length_cons]
  have b4 : Bd (46 * ys.length + 41) (y * q ^ ys.length) := b2.mono (by omega)
  have b5 : Bd (46 * ys.length + 41) (p * tY p q ys) := b3.mono (by omega)
  exact (b4.add b5).mono (by omega)
end
section
variable {ns : List Int} {pay : List (List Int)} {d e : Rat} {S : List (List Int)} {r : List Int} {h : Nat}
def pO (ns : List Int) (pay : List (List Int)) (S : List (List Int)) (h : Nat) : Int := uT (S.map fun r => bG ns pay r h)
structure aAi (ns : List Int) (pay : List (List Int)) (d : Rat) (S : List (List Int)) : Prop where
 rows : ∀ r ∈ S, r ∈ aN ns
 ok : ∀ r ∈ S, ∀ h, h < ns.length → ∀ k ∈ aS ns h, (1 - d) * bG ns pay (r.set h k) h + d * pO ns pay S h ≤ bG ns pay r h
theorem aCf (hr : r ∈ S) : pO ns pay S h ≤ bG ns pay r h := by
 have hm : bG ns pay r h ∈ S.map fun r => bG ns pay r h := List.mem_map.mpr ⟨r, hr, rfl⟩
 exact (mU (List.ne_nil_of_mem hm)).2 _ hm
theorem yH (hS : S ≠ []) (h : Nat) : ∃ r ∈ S, bG ns pay r h = pO ns pay S h := by
 have := (mU (ns := S.map fun r => bG ns pay r h) (by simpa using hS)).1
 obtain ⟨r, hr, e⟩ := List.mem_map.mp this
 exact ⟨r, hr, e⟩
theorem yZ {S' : List (List Int)} (hS : S ≠ []) (sub : ∀ r ∈ S, r ∈ S') : pO ns pay S' h ≤ pO ns pay S h := by
 obtain ⟨r, hr, e⟩ := yH (ns := ns) (pay := pay) hS h
 rw [← e]
 exact aCf (sub r hr)
theorem aAi.more (hg : aAi ns pay d S) (h1 : d ≤ e) (h2 : e < 1) : aAi ns pay e S := by
 refine ⟨hg.rows, fun r hr h hh k hk => ?_⟩
 have a := hg.ok r hr h hh k hk
 have b : ((pO ns pay S h : Int) : Rat) ≤ ((bG ns pay r h : Int) : Rat) := iQ (aCf hr)
 generalize ((pO ns pay S h : Int) : Rat) = F at *
 generalize ((bG ns pay r h : Int) : Rat) = P at *
 generalize ((bG ns pay (r.set h k) h : Int) : Rat) = Q at *
 by_cases c : F ≤ Q
 ·have m : 0 ≤ (e - d) * (Q - F) := Rat.mul_nonneg (by grind) (by grind)
  grind
 ·have m : 0 ≤ (1 - e) * (F - Q) := Rat.mul_nonneg (by grind) (by grind)
  grind
def aKu (ns : List Int) (pay : List (List Int)) (d : Rat) (r : List Int) : Prop := ∃ S, aAi ns pay d S ∧ r ∈ S
open Classical in
noncomputable def bK (ns : List Int) (pay : List (List Int)) (d : Rat) : List (List Int) := (aN ns).filter fun r => decide (aKu ns pay d r)
theorem lM : r ∈ bK ns pay d ↔ aKu ns pay d r := by
 unfold bK
 simp only [List.mem_filter, decide_eq_true_eq]
 exact ⟨fun z => z.2, fun z => ⟨by obtain ⟨S, g, hr⟩ := z; exact g.rows r hr, z⟩⟩
theorem u7 (h0 : 0 < d) : aAi ns pay d (bK ns pay d) := by
 refine ⟨fun r hr => (List.mem_filter.mp hr).1, fun r hr h hh k hk => ?_⟩
 obtain ⟨S, g, hs⟩ := lM.mp hr
 have a := g.ok r hs h hh k hk
 have b : ((pO ns pay (bK ns pay d) h : Int) : Rat) ≤ ((pO ns pay S h : Int) : Rat) := iQ (yZ (List.ne_nil_of_mem hs) fun x hx => lM.mpr ⟨S, g, hx⟩)
 generalize ((pO ns pay S h : Int) : Rat) = F at *
 generalize ((pO ns pay (bK ns pay d) h : Int) : Rat) = F' at *
 have m : 0 ≤ d * (F - F') := Rat.mul_nonneg (by grind) (by grind)
 grind
theorem aF2 (hr : r ∈ bK ns pay d) (h1 : d ≤ e) (h2 : e < 1) : r ∈ bK ns pay e := by
 obtain ⟨S, g, hs⟩ := lM.mp hr
 exact lM.mpr ⟨S, g.more h1 h2, hs⟩
theorem aFT (ho : aX ns pay) (h1 : d < 1) (hr : r ∈ aAI ns pay) : r ∈ bK ns pay d := by
 obtain ⟨hr, hc⟩ := List.mem_filter.mp hr
 refine lM.mpr ⟨[r], ⟨fun x hx => by rw [List.mem_singleton.mp hx]; exact hr, fun x hx h hh k hk => ?_⟩, List.mem_singleton.mpr rfl⟩
 rw [List.mem_singleton.mp hx]
 unfold vU at hc
 have := List.all_eq_true.mp hc h (List.mem_range.mpr hh)
 have hb : r.getD h 0 ∈ wU ns pay h r := by simpa using this
 have e := of_decide_eq_true (List.mem_filter.mp hb).2
 rw [uL (by rw [e7 hr]; exact hh)] at e
 have t := aFf (r := r) ho hh hk
 have f : pO ns pay [r] h = bG ns pay r h := rfl
 rw [f]
 have q : ((bG ns pay (r.set h k) h : Int) : Rat) ≤ ((bG ns pay r h : Int) : Rat) := iQ (by omega)
 generalize ((bG ns pay r h : Int) : Rat) = P at *
 generalize ((bG ns pay (r.set h k) h : Int) : Rat) = Q at *
 have m : 0 ≤ (1 - d) * (P - Q) := Rat.mul_nonneg (by grind) (by grind)
 grind
theorem aDZ (ho : aX ns pay) (h0 : 0 < d) (h1 : d < 1) (hk : bK ns pay d ≠ []) (hh : h < ns.length) : zE ns pay h ≤ pO ns pay (bK ns pay d) h := by
 obtain ⟨r, hr, e⟩ := yH (ns := ns) (pay := pay) hk h
 have g := u7 (ns := ns) (pay := pay) h0
 have rr := g.rows r hr
 have t : vT ns pay h r ≤ pO ns pay (bK ns pay d) h := by
  obtain ⟨k, hk, ek⟩ := aJi (r := r) ho hh
  rw [← ek]
  have a := g.ok r hr h hh k hk
  rw [e] at a
  apply Int.le_of_not_gt
  intro z
  have q : ((pO ns pay (bK ns pay d) h : Int) : Rat) < ((bG ns pay (r.set h k) h : Int) : Rat) := Rat.intCast_lt_intCast.mpr z
  generalize ((pO ns pay (bK ns pay d) h : Int) : Rat) = F at *
  generalize ((bG ns pay (r.set h k) h : Int) : Rat) = Q at *
  have m : 0 < (1 - d) * (Q - F) := Rat.mul_pos (by grind) (by grind)
  grind
 refine Int.le_trans ?_ t
 unfold zE
 exact (mU (by simpa using aBR ho)).2 _ (List.mem_map.mpr ⟨r, rr, rfl⟩)
structure j7 (ns : List Int) (pay : List (List Int)) (d : Rat) (th : List (List Int)) : Prop where
 len : th.length = ns.length
 mem : ∀ h, h < ns.length → th.getD h [] ∈ bK ns pay d ∧ bG ns pay (th.getD h []) h = pO ns pay (bK ns pay d) h
theorem j7.all (H : j7 ns pay d th) {x : List Int} (hx : x ∈ th) : x ∈ bK ns pay d := by
 obtain ⟨i, hi, rfl⟩ := List.mem_iff_getElem.mp hx
 rw [← bR hi []]
 exact (H.mem i (by rw [← H.len]; exact hi)).1
theorem j7.threats (H : j7 ns pay d th) (hr : r ∈ bK ns pay d) : iB ns r th := ⟨(List.mem_filter.mp hr).1, H.len, fun x hx => (List.mem_filter.mp (H.all hx)).1⟩
theorem aAt (ho : aX ns pay) (hd : dA d) (H : j7 ns pay d th) (hr : r ∈ bK ns pay d) : nA ns pay (dY ns r th) d = [] := by
 rw [aBG ho (H.threats hr) hd]
 intro part hp h hh x hx _
 have hk : part ∈ bK ns pay d := by
  rcases List.mem_cons.mp hp with rfl | z
  ·exact hr
  ·exact H.all z
 rw [(H.mem h hh).2]
 exact (u7 hd.pos).ok part hk h hh x hx
noncomputable def iG (ns : List Int) (pay : List (List Int)) (d : Rat) : List Int := (List.range ns.length).map (pO ns pay (bK ns pay d))
end
noncomputable def jP : List D → Option D
 | [m, d] => bL m fun ns pay => lJ d fun d => some (.tup ((bK ns pay d).map aF))
 | _ => none
open Classical in
noncomputable def wW {α : Type} (m d : D) (f : List Int → List (List Int) → Rat → Option α) : Option α := match p5 m, aC5 d with
 | some (ns, pay), some d => if aX ns pay ∧ dA d then f ns pay d else none
 | _, _ => none
theorem uS {α : Type} {ns : List Int} {pay : List (List Int)} {d : Rat} {f : List Int → List (List Int) → Rat → Option α} (h1 : aX ns pay) (h2 : dA d) : wW (aY ns pay) (aU d) f = f ns pay d := by
 unfold wW
 rw [qR, tZ]
 exact if_pos ⟨h1, h2⟩
theorem xR {α : Type} {m x : D} {y : α} {f : List Int → List (List Int) → Rat → Option α} (h : wW m x f = some y) : ∃ ns pay d, m = aY ns pay ∧ x = aU d ∧ aX ns pay ∧ dA d ∧ f ns pay d = some y := by
 unfold wW at h
 split at h
 ·rename_i ns pay d e1 e2
  split at h
  ·rename_i ho
   exact ⟨ns, pay, d, qZ e1, tP e2, ho.1, ho.2, h⟩
  ·cases h
 ·cases h
noncomputable def m7 : List D → Option Out
 | [m, d] => wW m d fun ns pay d => some { ret := fun x => bK ns pay d ≠ [] ∧ x = aF (iG ns pay d), exc := fun c => bK ns pay d = [] ∧ c = "NoPact" }
 | _ => none
noncomputable def i5 : List D → Option Out
 | [m, d] => wW m d fun ns pay d => some { ret := fun x => bK ns pay d ≠ [] ∧ ∃ th, x = .tup (th.map aF) ∧ j7 ns pay d th, exc := fun c => bK ns pay d = [] ∧ c = "NoPact" }
 | _ => none
open Classical in
noncomputable def nU : List D → Option (D → Prop)
 | [m, d] => wW m d fun ns pay d => if bK ns pay d = [] then none else some fun x => ∃ th, x = .tup (th.map aF) ∧ j7 ns pay d th
 | _ => none
theorem yE : ∀ ds p, nU ds = some p → ∃ o, i5 ds = some o ∧ (∀ d, o.ret d → p d) ∧ ∀ c, ¬ o.exc c
 | [m, x], p, h => by
  obtain ⟨ns, pay, d, rfl, rfl, h1, h2, h⟩ := xR (show wW m x _ = some p from h)
  split at h
  ·cases h
  ·rename_i hk
   cases h
   exact ⟨_, uS h1 h2, fun d z => z.2, fun c z => hk z.1⟩
open Classical in
noncomputable def dM : List D → Option D
 | [m, d] => wW m d fun ns pay d => some (if bK ns pay d = [] then .non else aF (iG ns pay d))
 | _ => none
section
variable {ns : List Int} {pay : List (List Int)} {d : Rat} {r : List Int} {h : Nat}
end
section
variable {ns : List Int} {pay : List (List Int)} {d : Rat} {r : List Int} {h : Nat}
def aEa (ns : List Int) (pay : List (List Int)) (d : Rat) (fl : List Int) (r : List Int) (h : Nat) (k : Int) : Prop := k ≠ r.getD h 0 ∧ (bG ns pay r h : Rat) < (1 - d) * bG ns pay (r.set h k) h + d * (fl.getD h 0 : Int)
open Classical in
noncomputable def sL (ns : List Int) (pay : List (List Int)) (d : Rat) (fl : List Int) (r : List Int) : List (Int × Int) := (List.range ns.length).flatMap fun h => ((aS ns h).filter fun k => decide (aEa ns pay d fl r h k)).map fun k => ((h : Int), k)
theorem aAj {fl : List Int} {x : Int × Int} : x ∈ sL ns pay d fl r ↔ ∃ h, h < ns.length ∧ ∃ k ∈ aS ns h, aEa ns pay d fl r h k ∧ x = ((h : Int), k) := by
 unfold sL
 simp only [List.mem_flatMap, List.mem_map, List.mem_filter, List.mem_range, decide_eq_true_eq]
 constructor
 ·rintro ⟨h, hh, k, ⟨hk, g⟩, rfl⟩
  exact ⟨h, hh, k, hk, g, rfl⟩
 ·rintro ⟨h, hh, k, hk, g, rfl⟩
  exact ⟨h, hh, k, ⟨hk, g⟩, rfl⟩
theorem sC {fl : List Int} : sL ns pay d fl r = [] ↔ ∀ h, h < ns.length → ∀ k ∈ aS ns h, ¬ aEa ns pay d fl r h k := by
 constructor
 ·intro e h hh k hk g
  have : ((h : Int), k) ∈ sL ns pay d fl r := aAj.mpr ⟨h, hh, k, hk, g, rfl⟩
  rw [e] at this
  simp at this
 ·intro A
  apply List.eq_nil_iff_forall_not_mem.mpr
  intro x hx
  obtain ⟨h, hh, k, hk, g, _⟩ := aAj.mp hx
  exact A h hh k hk g
theorem aHt {S : List (List Int)} {fl : List Int} (h0 : 0 < d) (rows : ∀ r ∈ S, r ∈ aN ns) (hf : ∀ h, h < ns.length → pO ns pay S h ≤ fl.getD h 0) (hn : ∀ r ∈ S, sL ns pay d fl r = []) : aAi ns pay d S := by
 refine ⟨rows, fun r hr h hh k hk => ?_⟩
 have l1 : ((pO ns pay S h : Int) : Rat) ≤ ((fl.getD h 0 : Int) : Rat) := iQ (hf h hh)
 have l2 : ((pO ns pay S h : Int) : Rat) ≤ ((bG ns pay r h : Int) : Rat) := iQ (aCf hr)
 have A := sC.mp (hn r hr) h hh k hk
 by_cases e : k = r.getD h 0
 ·rw [e, uL (by rw [e7 (rows r hr)]; exact hh)]
  generalize ((bG ns pay r h : Int) : Rat) = P at *
  generalize ((pO ns pay S h : Int) : Rat) = F at *
  have m : 0 ≤ d * (P - F) := Rat.mul_nonneg (by grind) (by grind)
  grind
 ·have B : (1 - d) * bG ns pay (r.set h k) h + d * (fl.getD h 0 : Int) ≤ (bG ns pay r h : Rat) := Rat.not_lt.mp fun z => A ⟨e, z⟩
  generalize ((fl.getD h 0 : Int) : Rat) = G at *
  generalize ((pO ns pay S h : Int) : Rat) = F at *
  have m : 0 ≤ d * (G - F) := Rat.mul_nonneg (by grind) (by grind)
  grind
end
@[reducible] def aNT (x : Int × Int) : D := .tup [.int x.1, .int x.2]
theorem aCX {u l : Int} (hl : 0 < l) : aU (Rat.divInt u l) = .tup [.int (u / (Int.gcd u l : Int)), .int (l / (Int.gcd u l : Int))] := by
 have h1 : l.sign = 1 := Int.sign_eq_one_of_pos hl
 unfold aU
 rw [Rat.num_divInt, Rat.den_divInt, if_neg (by omega), h1, Int.one_mul, Int.gcd_comm l u]
 congr 4
 rw [Int.natCast_ediv, show ((l.natAbs : Nat) : Int) = l by omega]
theorem wV {b : Int} (h : 0 < b) : (0 : Rat) < (b : Rat) := Rat.intCast_pos.mpr h
theorem aDI {a b c e : Int} (hb : 0 < b) (he : 0 < e) : a * e < c * b ↔ Rat.divInt a b < Rat.divInt c e := by
 have hB := wV hb
 have hE := wV he
 have h1 : (a : Rat) = Rat.divInt a b * (b : Rat) := by
  rw [Rat.divInt_eq_div]
  grind
 have h2 : (c : Rat) = Rat.divInt c e * (e : Rat) := by
  rw [Rat.divInt_eq_div]
  grind
 have hp : (0 : Rat) < (b : Rat) * (e : Rat) := Rat.mul_pos hB hE
 have key : a * e < c * b ↔ (a : Rat) * (e : Rat) < (c : Rat) * (b : Rat) := by
  rw [← Rat.intCast_mul, ← Rat.intCast_mul, Rat.intCast_lt_intCast]
 rw [key]
 generalize Rat.divInt a b = x at *
 generalize Rat.divInt c e = y at *
 generalize (a : Rat) = A at *
 generalize (b : Rat) = B at *
 generalize (c : Rat) = C at *
 generalize (e : Rat) = E at *
 subst h1 h2
 constructor
 ·intro h
  apply Classical.byContradiction
  intro z
  have z2 : y ≤ x := by grind
  have := Rat.mul_le_mul_of_nonneg_left z2 (Rat.le_of_lt hp)
  grind
 ·intro h
  apply Classical.byContradiction
  intro z
  have z2 : (B * E) * y ≤ (B * E) * x := by grind
  have := Rat.le_of_mul_le_mul_left z2 hp
  grind
open Classical in
noncomputable def iA : List D → Option D
 | [.tup [.int a, .int b], .tup [.int c, .int e]] => if Bd 3000 a ∧ Bd 3000 b ∧ Bd 3000 c ∧ Bd 3000 e then some (.bl (decide (a * e < c * b))) else none
 | _ => none
open Classical in
noncomputable def bU : List D → Option D
 | [.int x, .tup [.int u, .int l], d] => lJ d fun d => if Bd 40 x ∧ Bd 4000 u ∧ Bd 4000 l then some (.tup [.int (((d.den : Int) - d.num) * x * l + d.num * u), .int ((d.den : Int) * l)]) else none
 | _ => none
theorem aFx {a b c e : Int} (h1 : Bd 3000 a) (h2 : Bd 3000 b) (h3 : Bd 3000 c) (h4 : Bd 3000 e) : iA [.tup [.int a, .int b], .tup [.int c, .int e]] = some (.bl (decide (a * e < c * b))) := if_pos ⟨h1, h2, h3, h4⟩
theorem aKD {x u l : Int} {d : Rat} (hd : dA d) (h1 : Bd 40 x) (h2 : Bd 4000 u) (h3 : Bd 4000 l) : bU [.int x, .tup [.int u, .int l], aU d] = some (.tup [.int (((d.den : Int) - d.num) * x * l + d.num * u), .int ((d.den : Int) * l)]) := by
 simp only [bU, gU hd, if_pos (show Bd 40 x ∧ Bd 4000 u ∧ Bd 4000 l from ⟨h1, h2, h3⟩)]
def hAt (h : Int) : D → D
 | .tup xs => (iC xs h).getD .non
 | _ => .non
open Classical in
noncomputable def cO : List D → Option D
 | [.tup ds, .int h] => if ds.length ≤ 1000 ∧ ∀ d ∈ ds, ∃ xs x, d = .tup xs ∧ iC xs h = some x then some (.tup (ds.map (hAt h))) else none
 | _ => none
def qF (V : Int → Rat) (a : Int × Rat) (k : Int) : Int × Rat := if a.2 < V k then (k, V k) else a
theorem aE4 (V : Int → Rat) : ∀ (ks : List Int) (a : Int × Rat), a.2 ≤ (ks.foldl (qF V) a).2 ∧ ∀ k ∈ ks, V k ≤ (ks.foldl (qF V) a).2
 | [], a => ⟨Rat.le_refl, fun k hk => absurd hk (List.not_mem_nil)⟩
 | k :: ks, a => by
  obtain ⟨h1, h2⟩ := aE4 V ks (qF V a k)
  rw [List.foldl_cons]
  have hb : a.2 ≤ (qF V a k).2 ∧ V k ≤ (qF V a k).2 := by
   unfold qF
   split
   ·rename_i hl
    exact ⟨Rat.le_of_lt hl, Rat.le_refl⟩
   ·rename_i hl
    exact ⟨Rat.le_refl, by grind⟩
  refine ⟨Rat.le_trans hb.1 h1, fun q hq => ?_⟩
  rcases List.mem_cons.mp hq with rfl | hq
  ·exact Rat.le_trans hb.2 h1
  ·exact h2 q hq
theorem aFh (V : Int → Rat) : ∀ (ks : List Int) (a : Int × Rat), ks.foldl (qF V) a = a ∨ ∃ k ∈ ks, ks.foldl (qF V) a = (k, V k) ∧ a.2 < V k
 | [], a => .inl rfl
 | k :: ks, a => by
  rw [List.foldl_cons]
  rcases aFh V ks (qF V a k) with h | ⟨q, hq, h, hl⟩
  ·rw [h]
   by_cases hk : a.2 < V k
   ·exact .inr ⟨k, List.mem_cons_self, by unfold qF; rw [if_pos hk], hk⟩
   ·exact .inl (by unfold qF; rw [if_neg hk])
  ·refine .inr ⟨q, List.mem_cons_of_mem _ hq, h, ?_⟩
   by_cases hk : a.2 < V k
   ·unfold qF at hl
    rw [if_pos hk] at hl
    have hl : V k < V q := hl
    grind
   ·unfold qF at hl
    rw [if_neg hk] at hl
    exact hl
section
variable (ns : List Int) (pay : List (List Int)) (pl : List (List Int × List Int)) (d : Rat) (h : Nat) (W : Nat → Rat) (s : Nat)
def wE (j : Nat) : Int × Rat := ((aS ns h).take j).foldl (qF (fO ns pay pl d h W s)) ((bY pl s).getD h 0, W s)
def kL : Int := (wE ns pay pl d h W s (aS ns h).length).1
end
section
variable {ns : List Int} {pay : List (List Int)} {pl : List (List Int × List Int)} {d : Rat} {h s : Nat} {W : Nat → Rat}
theorem aEF {j : Nat} (hj : j < (aS ns h).length) : wE ns pay pl d h W s (j + 1) = qF (fO ns pay pl d h W s) (wE ns pay pl d h W s j) (aS ns h)[j] := by
 unfold wE
 rw [List.take_succ, List.getElem?_eq_getElem hj, Option.toList_some, List.foldl_append]
 rfl
theorem aIq (hp : gE ns pl) (hh : h < ns.length) (hs : s < pl.length) : (kL ns pay pl d h W s = (bY pl s).getD h 0 ∧ ∀ k ∈ aS ns h, fO ns pay pl d h W s k ≤ W s) ∨ (kL ns pay pl d h W s ∈ aS ns h ∧ W s < fO ns pay pl d h W s (kL ns pay pl d h W s)) := by
 unfold kL wE
 rw [List.take_length]
 have a := aE4 (fO ns pay pl d h W s) (aS ns h) ((bY pl s).getD h 0, W s)
 rcases aFh (fO ns pay pl d h W s) (aS ns h) ((bY pl s).getD h 0, W s) with e | ⟨k, hk, e, hl⟩
 ·rw [e] at a ⊢
  exact .inl ⟨rfl, a.2⟩
 ·rw [e]
  exact .inr ⟨hk, hl⟩
theorem aGK (hp : gE ns pl) (hd : dA d) (hh : h < ns.length) (hs : s < pl.length) : fO ns pay pl d h (cN ns pay pl d h) s ((bY pl s).getD h 0) = cN ns pay pl d h s := by
 unfold fO
 rw [uL (by rw [e7 (oN hp hs)]; exact hh)]
 exact (aEB hp hd hs).symm
theorem wL {V : Nat → Rat} (hp : gE ns pl) (hs : s < pl.length) (hW : ∀ s, s < pl.length → W s = V s) {k : Int} (hk : k ∈ aS ns h) : fO ns pay pl d h W s k = fO ns pay pl d h V s k := by
 unfold fO
 rw [hW _ (aKx hp hs hk)]
theorem aF5 (hp : gE ns pl) (hd : dA d) (hh : h < ns.length) (hs : s < pl.length) (hW : ∀ s, s < pl.length → W s = cN ns pay pl d h s) : (kL ns pay pl d h W s = (bY pl s).getD h 0 ∧ ∀ k ∈ aS ns h, fO ns pay pl d h (cN ns pay pl d h) s k ≤ cN ns pay pl d h s) ∨ (kL ns pay pl d h W s ≠ (bY pl s).getD h 0 ∧ kL ns pay pl d h W s ∈ aS ns h ∧ cN ns pay pl d h s < fO ns pay pl d h (cN ns pay pl d h) s (kL ns pay pl d h W s)) := by
 rcases aIq (pay := pay) (d := d) (W := W) hp hh hs with ⟨h1, h2⟩ | ⟨h1, h2⟩
 ·refine .inl ⟨h1, fun k hk => ?_⟩
  have := h2 k hk
  rw [wL hp hs hW hk, hW s hs] at this
  exact this
 ·rw [wL hp hs hW h1, hW s hs] at h2
  refine .inr ⟨fun z => ?_, h1, h2⟩
  rw [z, aGK hp hd hh hs] at h2
  exact Rat.lt_irrefl h2
theorem aF8 (hs : s < pl.length) (hh : h < ns.length) {k : Int} (hk : k ∈ aS ns h) (hl : cN ns pay pl d h s < fO ns pay pl d h (cN ns pay pl d h) s k) : ((s : Int), (h : Int), k) ∈ nA ns pay pl d := by
 unfold nA
 refine List.mem_flatMap.mpr ⟨s, List.mem_range.mpr hs, List.mem_flatMap.mpr ⟨h, List.mem_range.mpr hh, ?_⟩⟩
 unfold xZ
 exact List.mem_map.mpr ⟨k, List.mem_filter.mpr ⟨hk, decide_eq_true hl⟩, rfl⟩
end
def aAO : List D → Option (List Rat)
 | [] => some []
 | d :: ds => match aC5 d, aAO ds with
  | some q, some qs => some (q :: qs)
  | _, _ => none
theorem aDN : ∀ qs : List Rat, aAO (qs.map aU) = some qs
 | [] => rfl
 | q :: qs => by rw [List.map_cons, aAO, tZ, aDN qs]
theorem aDp : ∀ {ds : List D} {qs : List Rat}, aAO ds = some qs → ds = qs.map aU
 | [], qs, h => by cases h; rfl
 | d :: ds, qs, h => by
  unfold aAO at h
  split at h
  ·rename_i q qs' e1 e2
   cases h
   rw [tP e1, aDp e2]
   rfl
  ·cases h
@[reducible] def wv (qs : List Rat) : Nat → Rat := fun s => qs.getD s 0
open Classical in
noncomputable def onW (n : Nat) (d : D) (f : List Rat → Option D) : Option D := match d with
 | .tup ds => match aAO ds with
  | some qs => if qs.length = n ∧ ∀ q ∈ qs, BdR 900 q then f qs else none
  | none => none
 | _ => none
theorem aHu {n : Nat} {qs : List Rat} {f : List Rat → Option D} (h1 : qs.length = n) (h2 : ∀ q ∈ qs, BdR 900 q) : onW n (.tup (qs.map aU)) f = f qs := by
 unfold onW
 simp only [aDN]
 exact if_pos ⟨h1, h2⟩
theorem aIA {n : Nat} {m d : D} {f : List Rat → Option D} (h : onW n m f = some d) : ∃ qs, m = .tup (qs.map aU) ∧ qs.length = n ∧ (∀ q ∈ qs, BdR 900 q) ∧ f qs = some d := by
 unfold onW at h
 split at h
 ·split at h
  ·rename_i qs e
   split at h
   ·rename_i ho
    exact ⟨qs, by rw [aDp e], ho.1, ho.2, h⟩
   ·cases h
  ·cases h
 ·cases h
noncomputable def fG : List D → Option D
 | [m, p, s, h, w, d] => bL m fun ns pay => nX ns p fun pl => i7 pl.length s fun s => i7 ns.length h fun h => onW pl.length w fun qs => lJ d fun d => some (.int (kL ns pay pl d h (wv qs) s))
 | _ => none
noncomputable def eJ : List D → Option D
 | [m, p, h, w, d] => bL m fun ns pay => nX ns p fun pl => i7 ns.length h fun h => onW pl.length w fun qs => lJ d fun d => some (aF ((List.range pl.length).map fun s => kL ns pay pl d h (wv qs) s))
 | _ => none
noncomputable def jQ (ns : List Int) (pay : List (List Int)) (pl : List (List Int × List Int)) (d : Rat) (h : Nat) : List Rat := (List.range pl.length).map (cN ns pay pl d h)
section
variable {ns : List Int} {pay : List (List Int)} {pl : List (List Int × List Int)} {d : Rat} {h s : Nat}
theorem aGf (hs : s < pl.length) : wv (jQ ns pay pl d h) s = cN ns pay pl d h s := by
 unfold wv jQ
 rw [bR (by simpa using hs), List.getElem_map, List.getElem_range]
theorem aEC : (jQ ns pay pl d h).length = pl.length := by simp [jQ]
theorem aGY (ho : aX ns pay) (hp : gE ns pl) (hd : dA d) : ∀ q ∈ jQ ns pay pl d h, BdR 900 q := fun q hq => by
 obtain ⟨s, hs, rfl⟩ := List.mem_map.mp hq
 exact ((qN (h := h) (pay := pay) hp hd).bd ho hp.few.2 (fun s hs => oN hp hs) (zY hp) hd (List.mem_range.mp hs)).2.2
theorem aH7 (hh : h < ns.length) (hp : gE ns pl) : cO [oV ns pay pl d, .int h] = some (.tup ((jQ ns pay pl d h).map aU)) := by
 have at1 : ∀ s, iC ((List.range ns.length).map fun h => aU (cN ns pay pl d h s)) (h : Int) = some (aU (cN ns pay pl d h s)) := fun s => by
  rw [v5 (by simpa using hh), List.getElem_map, List.getElem_range]
 unfold oV cO
 simp only []
 rw [if_pos]
 ·congr 2
  unfold jQ
  rw [List.map_map, List.map_map]
  refine List.map_congr_left fun s _ => ?_
  show (iC _ _).getD D.non = _
  rw [at1]
  rfl
 ·refine ⟨by have := hp.few.2; simp; omega, fun x hx => ?_⟩
  obtain ⟨s, _, rfl⟩ := List.mem_map.mp hx
  exact ⟨_, _, rfl, at1 s⟩
theorem aIg (ho : aX ns pay) (hp : gE ns pl) (hd : dA d) (hh : h < ns.length) : eJ [aY ns pay, f8 pl, .int h, .tup ((jQ ns pay pl d h).map aU), aU d] = some (aF ((List.range pl.length).map fun s => kL ns pay pl d h (wv (jQ ns pay pl d h)) s)) := by
 simp only [eJ, bT ho, mE hp, fH hh, aHu aEC (aGY ho hp hd), gU hd]
theorem aIS (ho : aX ns pay) (hp : gE ns pl) (hd : dA d) (hh : h < ns.length) (hs : s < pl.length) {qs : List Rat} (h1 : qs.length = pl.length) (h2 : ∀ q ∈ qs, BdR 900 q) : fG [aY ns pay, f8 pl, .int s, .int h, .tup (qs.map aU), aU d] = some (.int (kL ns pay pl d h (wv qs) s)) := by
 simp only [fG, bT ho, mE hp, fH hs, fH hh, aHu h1 h2, gU hd]
theorem aJv (ho : aX ns pay) (hp : gE ns pl) (hd : dA d) : lR [aY ns pay, f8 pl, aU d] = some (oV ns pay pl d) := by
 simp only [lR, bT ho, mE hp, gU hd]
end
section
variable {ns : List Int} {pay : List (List Int)} {pl : List (List Int × List Int)} {d : Rat} {h s : Nat} {ks ks' : Nat → Int} {W : Nat → Rat}
end
@[reducible] def aDa (q : Int × Int) : D := .tup [.int q.1, .int q.2]
def iT (ns r : List Int) : List (Int × Int) := (List.range ns.length).flatMap fun h => ((aS ns h).filter fun k => decide (k ≠ r.getD h 0)).map fun k => ((h : Int), k)
def qX (ns r : List Int) (n : Nat) : List (Int × Int) := (List.range n).flatMap fun h => ((aS ns h).filter fun k => decide (k ≠ r.getD h 0)).map fun k => ((h : Int), k)
theorem sV {ns r : List Int} {q : Int × Int} : q ∈ iT ns r ↔ ∃ h : Nat, h < ns.length ∧ q.1 = (h : Int) ∧ q.2 ∈ aS ns h ∧ q.2 ≠ r.getD h 0 := by
 unfold iT
 constructor
 ·intro z
  obtain ⟨h, hh, z⟩ := List.mem_flatMap.mp z
  obtain ⟨k, hk, rfl⟩ := List.mem_map.mp z
  obtain ⟨k1, k2⟩ := List.mem_filter.mp hk
  exact ⟨h, List.mem_range.mp hh, rfl, k1, of_decide_eq_true k2⟩
 ·rintro ⟨h, hh, e1, h2, h3⟩
  exact List.mem_flatMap.mpr ⟨h, List.mem_range.mpr hh, List.mem_map.mpr ⟨q.2, List.mem_filter.mpr ⟨h2, decide_eq_true h3⟩, Prod.ext e1.symm rfl⟩⟩
theorem tS (ns r : List Int) (n : Nat) : qX ns r (n + 1) = qX ns r n ++ ((aS ns n).filter fun k => decide (k ≠ r.getD n 0)).map fun k => ((n : Int), k) := by
 unfold qX
 rw [List.range_succ, List.flatMap_append]
 simp
theorem wR {ns r : List Int} (ho : dZ ns = true) : ∀ n, n ≤ ns.length → (qX ns r n).length ≤ 3 * n
 | 0, _ => by simp [qX]
 | n + 1, hn => by
  rw [tS, List.length_append, List.length_map]
  have a := wR (r := r) ho n (by omega)
  have b := List.length_filter_le (fun k => decide (k ≠ r.getD n 0)) (aS ns n)
  have c : (aS ns n).length ≤ 3 := by
   have := (cC ho).2 ns[n] (List.getElem_mem (by omega))
   unfold aS
   rw [List.length_map, List.length_range, bR (by omega)]
   omega
  omega
def cU : List D → Option D
 | [r, .tup ds] => match iH r, g6 ds with
  | some r, some ns => if dZ ns = true ∧ r ∈ aN ns then some (.lst ((iT ns r).map aDa)) else none
  | _, _ => none
 | _ => none
theorem aJK {ns r : List Int} (ho : dZ ns = true) (hr : r ∈ aN ns) : cU [aF r, aF ns] = some (.lst ((iT ns r).map aDa)) := by
 simp only [cU, cD, eW]
 exact if_pos ⟨ho, hr⟩
theorem y8 {α : Type} (g : α → D) (l : List α) (x0 : α) : p7 (l.map g) = (List.range l.length).map fun (k : Nat) => D.tup [.int k, g (l.getD k x0)] := by
 refine List.ext_getElem? fun i => ?_
 rw [tQ, List.getElem?_map, List.getElem?_map]
 by_cases h : i < l.length
 ·rw [List.getElem?_range h, List.getElem?_eq_getElem h, Option.map_some, Option.map_some, Option.map_some, bR h]
 ·rw [List.getElem?_eq_none (by simpa using h), List.getElem?_eq_none (by simpa using h)]
  rfl
def i9 (row : List Int) (on thr : Int) (r : List Int) : Int := match jB row r with
 | [h] => thr + (h : Int)
 | _ => on
def aDy (ns row : List Int) (on thr : Int) : List Int := (aN ns).map (i9 row on thr)
noncomputable def fY : List D → Option D
 | [m, r, .int on, .int thr] => bL m fun ns _ => p6 ns r fun row => some (.tup [aF row, aF (aDy ns row on thr)])
 | _ => none
theorem aFA {ns : List Int} {pay : List (List Int)} {row : List Int} (ho : aX ns pay) (hr : row ∈ aN ns) (on thr : Int) : fY [aY ns pay, aF row, .int on, .int thr] = some (.tup [aF row, aF (aDy ns row on thr)]) := by
 simp only [fY, bT ho, mL hr]
structure aEg (ns : List Int) (path th : List (List Int)) : Prop where
 few : 1 ≤ path.length ∧ path.length ≤ 100
 few2 : th.length ≤ 100
 rows : ∀ r ∈ path, r ∈ aN ns
 rows2 : ∀ r ∈ th, r ∈ aN ns
def aAH (ns : List Int) (path th : List (List Int)) : List (List Int × List Int) := ((List.range path.length).map fun (p : Nat) => (path.getD p [], aDy ns (path.getD p []) (((p : Int) + 1) % (path.length : Int)) path.length)) ++ (List.range th.length).map fun (h : Nat) => (th.getD h [], aDy ns (th.getD h []) ((path.length : Int) + h) path.length)
open Classical in
noncomputable def dR : List D → Option D
 | [m, p, t] => bL m fun ns _ => match dU p, dU t with
  | some path, some th => if aEg ns path th then some (f8 (aAH ns path th)) else none
  | _, _ => none
 | _ => none
theorem aKG {ns : List Int} {pay path th : List (List Int)} (ho : aX ns pay) (H : aEg ns path th) : dR [aY ns pay, .tup (path.map aF), .tup (th.map aF)] = some (f8 (aAH ns path th)) := by
 simp only [dR, bT ho, iZ]
 exact if_pos H
theorem aB5 (ns row : List Int) (th : List (List Int)) : aAH ns [row] th = dY ns row th := by
 unfold aAH dY
 rw [show 1 + th.length = th.length + 1 by omega, List.range_succ_eq_map, List.map_cons, List.map_map]
 congr 1
 ·show [(row, _)] ++ _ = _
  rw [List.singleton_append]
  congr 1
  ·unfold gH aDy
   congr 1
   refine List.map_congr_left fun r _ => ?_
   show i9 row _ _ r = ((lY 0 row r : Nat) : Int)
   unfold i9 lY
   split <;> simp_all
  ·refine List.map_congr_left fun h _ => ?_
   show _ = (gH row th (h + 1), _)
   have e : gH row th (h + 1) = th.getD h [] := rfl
   show (th.getD h [], _) = (gH row th (h + 1), (aN ns).map fun r => ((lY (h + 1) (gH row th (h + 1)) r : Nat) : Int))
   rw [e]
   congr 1
   unfold aDy
   refine List.map_congr_left fun r _ => ?_
   unfold i9 lY
   split <;> simp_all <;> omega
open Classical in
noncomputable def bW : List D → Option D
 | [m, t] => bL m fun ns pay => match dU t with
  | some th => if th.length ≤ ns.length ∧ ∀ r ∈ th, r ∈ aN ns then some (aF ((List.range th.length).map fun h => bG ns pay (th.getD h []) h)) else none
  | none => none
 | _ => none
theorem aFp {ns : List Int} {pay th : List (List Int)} (ho : aX ns pay) (h1 : th.length ≤ ns.length) (h2 : ∀ r ∈ th, r ∈ aN ns) : bW [aY ns pay, .tup (th.map aF)] = some (aF ((List.range th.length).map fun h => bG ns pay (th.getD h []) h)) := by
 simp only [bW, bT ho, iZ]
 exact if_pos ⟨h1, h2⟩
section
variable (ns : List Int) (pay : List (List Int)) (d : Rat)
open Classical in
noncomputable def vI (fl r : List Int) (q : Int × Int) : Bool := decide ((bG ns pay r q.1.toNat : Rat) < (1 - d) * bG ns pay (r.set q.1.toNat q.2) q.1.toNat + d * ((fl.getD q.1.toNat 0 : Int) : Rat))
noncomputable def oW (fl r : List Int) : Option (Int × Int) := (iT ns r).find? (vI ns pay d fl r)
noncomputable def zZ (fl r : List Int) : D := match oW ns pay d fl r with
 | some q => aDa q
 | none => .non
def nS (S : List (List Int)) (h : Nat) : List Int := (S.find? fun r => decide (bG ns pay r h = pO ns pay S h)).getD []
def flS (S : List (List Int)) : List Int := (List.range ns.length).map (pO ns pay S)
noncomputable def j3 (S : List (List Int)) : List (List Int) := S.filter fun r => (oW ns pay d (flS ns pay S) r).isNone
end
structure aLe (ns fl : List Int) : Prop where
 len : fl.length = ns.length
 bd : ∀ x ∈ fl, -9 ≤ x ∧ x ≤ 9
structure oD (ns : List Int) (S : List (List Int)) : Prop where
 few : S.length ≤ 100
 rows : ∀ r ∈ S, r ∈ aN ns
open Classical in
noncomputable def cI : List D → Option D
 | [m, r, f, d] => bL m fun ns pay => p6 ns r fun r => match iH f with
  | some fl => if aLe ns fl then lJ d fun d => some (zZ ns pay d fl r) else none
  | none => none
 | _ => none
open Classical in
noncomputable def fE : List D → Option D
 | [m, t, h] => bL m fun ns pay => match dU t with
  | some S => if oD ns S ∧ S ≠ [] then i7 ns.length h fun h => some (aF (nS ns pay S h)) else none
  | none => none
 | _ => none
open Classical in
noncomputable def cJ : List D → Option D
 | [m, t] => bL m fun ns pay => match dU t with
  | some S => if oD ns S ∧ S ≠ [] then some (.tup (((List.range ns.length).map (nS ns pay S)).map aF)) else none
  | none => none
 | _ => none
open Classical in
noncomputable def dC : List D → Option D
 | [m, t, d] => bL m fun ns pay => match dU t with
  | some S => if oD ns S then lJ d fun d => some (.tup ((j3 ns pay d S).map aF)) else none
  | none => none
 | _ => none
section
variable {ns : List Int} {pay : List (List Int)} {d : Rat} {S : List (List Int)} {r fl : List Int} {h : Nat}
theorem aJC (ho : aX ns pay) (hr : r ∈ aN ns) (hf : aLe ns fl) (hd : dA d) : cI [aY ns pay, aF r, aF fl, aU d] = some (zZ ns pay d fl r) := by
 simp only [cI, bT ho, mL hr, cD, if_pos hf, gU hd]
theorem aKI (ho : aX ns pay) (hS : oD ns S) (hn : S ≠ []) (hh : h < ns.length) : fE [aY ns pay, .tup (S.map aF), .int h] = some (aF (nS ns pay S h)) := by
 simp only [fE, bT ho, iZ]
 rw [if_pos ⟨hS, hn⟩, fH hh]
theorem aHk (ho : aX ns pay) (hS : oD ns S) (hn : S ≠ []) : cJ [aY ns pay, .tup (S.map aF)] = some (.tup (((List.range ns.length).map (nS ns pay S)).map aF)) := by
 simp only [cJ, bT ho, iZ]
 rw [if_pos ⟨hS, hn⟩]
theorem aDq (ho : aX ns pay) (hS : oD ns S) (hd : dA d) : dC [aY ns pay, .tup (S.map aF), aU d] = some (.tup ((j3 ns pay d S).map aF)) := by
 simp only [dC, bT ho, iZ]
 rw [if_pos hS, gU hd]
theorem y9 (hn : S ≠ []) (h : Nat) : nS ns pay S h ∈ S ∧ bG ns pay (nS ns pay S h) h = pO ns pay S h := by
 unfold nS
 obtain ⟨r, hr, e⟩ := yH (ns := ns) (pay := pay) hn h
 cases ef : S.find? (fun r => decide (bG ns pay r h = pO ns pay S h)) with
 | none =>
  have := List.find?_eq_none.mp ef r hr
  exact absurd (decide_eq_true e) this
 | some x =>
  have e2 := List.find?_some (p := fun r => decide (bG ns pay r h = pO ns pay S h)) ef
  exact ⟨List.mem_of_find?_eq_some ef, of_decide_eq_true e2⟩
theorem aHX (hh : h < ns.length) : (flS ns pay S).getD h 0 = pO ns pay S h := by
 unfold flS
 rw [bR (by simpa using hh)]
 simp
theorem aLr (ho : aX ns pay) (hS : ∀ r ∈ S, r ∈ aN ns) (hn : S ≠ []) : aLe ns (flS ns pay S) := by
 refine ⟨by simp [flS], fun x hx => ?_⟩
 obtain ⟨h, _, rfl⟩ := List.mem_map.mp hx
 obtain ⟨r, hr, e⟩ := yH (ns := ns) (pay := pay) hn h
 rw [← e]
 exact nL ho (hS r hr)
theorem aDb : oW ns pay d fl r = none ↔ sL ns pay d fl r = [] := by
 unfold oW
 rw [List.find?_eq_none, sC]
 constructor
 ·intro A h hh k hk g
  have := A ((h : Int), k) (sV.mpr ⟨h, hh, rfl, hk, g.1⟩)
  unfold vI at this
  rw [decide_eq_true_eq, Int.toNat_natCast] at this
  exact this g.2
 ·intro A q hq
  obtain ⟨h, hh, e1, h2, h3⟩ := sV.mp hq
  unfold vI
  rw [decide_eq_true_eq, e1, Int.toNat_natCast]
  exact fun z => A h hh q.2 h2 ⟨h3, z⟩
theorem aC8 : r ∈ j3 ns pay d S ↔ r ∈ S ∧ sL ns pay d (flS ns pay S) r = [] := by
 unfold j3
 rw [List.mem_filter, Option.isNone_iff_eq_none, aDb]
theorem aGc (hd : dA d) (hS : ∀ r ∈ S, r ∈ aN ns) (e : j3 ns pay d S = S) : aAi ns pay d S := by
 refine aHt (fl := flS ns pay S) hd.pos hS (fun h hh => by rw [aHX hh]; exact Int.le_refl _) fun r hr => ?_
 rw [← e] at hr
 exact (aC8.mp hr).2
theorem aGe (ho : aX ns pay) (hd : dA d) (sub : ∀ r ∈ bK ns pay d, r ∈ S) : ∀ r ∈ bK ns pay d, r ∈ j3 ns pay d S := by
 intro r hr
 refine aC8.mpr ⟨sub r hr, sC.mpr fun h hh k hk g => ?_⟩
 have hne : bK ns pay d ≠ [] := List.ne_nil_of_mem hr
 have a := (u7 (ns := ns) (pay := pay) hd.pos).ok r hr h hh k hk
 have g2 := g.2
 rw [aHX hh] at g2
 have b : ((pO ns pay S h : Int) : Rat) ≤ ((pO ns pay (bK ns pay d) h : Int) : Rat) := iQ (yZ hne sub)
 generalize ((pO ns pay S h : Int) : Rat) = F at *
 generalize ((pO ns pay (bK ns pay d) h : Int) : Rat) = G at *
 have m : 0 ≤ d * (G - F) := Rat.mul_nonneg (Rat.le_of_lt hd.pos) (by grind)
 grind
open Classical in
theorem aID (ho : aX ns pay) (hd : dA d) {p : List Int → Bool} (eS : S = (aN ns).filter p) (sub : ∀ r ∈ bK ns pay d, r ∈ S) (e : j3 ns pay d S = S) : S = bK ns pay d := by
 have hS : ∀ r ∈ S, r ∈ aN ns := fun r hr => by rw [eS] at hr; exact (List.mem_filter.mp hr).1
 have g := aGc hd hS e
 have sub2 : ∀ r ∈ S, r ∈ bK ns pay d := fun r hr => lM.mpr ⟨S, g, hr⟩
 rw [eS]
 unfold bK
 refine List.filter_congr fun r hr => ?_
 rw [Bool.eq_iff_iff]
 constructor
 ·intro hp
  have := sub2 r (by rw [eS]; exact List.mem_filter.mpr ⟨hr, hp⟩)
  exact decide_eq_true (lM.mp this)
 ·intro hk
  have := sub r (lM.mpr (of_decide_eq_true hk))
  rw [eS] at this
  exact (List.mem_filter.mp this).2
theorem aJW (hne : j3 ns pay d S ≠ S) : (j3 ns pay d S).length < S.length := by
 unfold j3 at *
 apply Nat.lt_of_le_of_ne (List.length_filter_le _ _)
 intro z
 exact hne (List.filter_eq_self.mpr (List.length_filter_eq_length_iff.mp z))
theorem aCK {p : List Int → Bool} (eS : S = (aN ns).filter p) : ∃ p', j3 ns pay d S = (aN ns).filter p' := by
 unfold j3
 generalize (fun r => (oW ns pay d (flS ns pay S) r).isNone) = q
 subst eS
 exact ⟨_, List.filter_filter⟩
theorem aIz : j3 ns pay d [] = [] := rfl
end
section
variable {X : Cx} {a : Addr} {oe : Obj} {C Nn : Addr} {i : Nat} {n y1 y2 : Str} {p1 p2 p3 q1 q2 q3 r1 r2 r3 s1 s2 s3 u pos : Pos}
end
abbrev GFX := DS → (Str → Prop) → (List D → Prop) → Prop
def DAx (X : Cx) (EE : XK) (es : List Expr) (g : GFX) : Prop := ∃ t, PA X es t ∧ ∀ C0 H0 δ σ C H (xc : Str → Prop) (Q : List D → Prop) (R : List V → Hp → Prop), aFG X EE C0 H0 xc → gX X.K C0 H0 δ σ C H → g δ xc Q → (∀ ds vs C1 H1, Q ds → d7 C H C1 H1 → bZ X.K C1 vs ds → R vs H1) → t σ H R
section
variable {X : Cx} {EE : XK} {e : Expr} {es : List Expr} {pos : Pos} {ge : GE} {gx : GEX} {gs : GFX}
def aEi (ge : GE) : GEX := fun δ _ Q => ge δ Q
theorem aIs (h : DE X e ge) : DEx X EE e (aEi ge) := by
 obtain ⟨t, p, h⟩ := h
 exact ⟨t, p, fun C0 H0 δ σ C H xc Q R _ rp g k => h C0 H0 δ σ C H Q R rp g k⟩
def aH1 : GFX := fun _ _ Q => Q []
theorem aKc : DAx X EE [] aH1 := ⟨_, i6, fun C0 H0 δ σ C H xc Q R te rp g k => k [] [] C H g (d7.refl rp.ch) .nil⟩
def aBX (gx : GEX) (gs : GFX) : GFX := fun δ xc Q => gx δ xc fun d => gs δ xc fun ds => Q (d :: ds)
theorem aDf (ha : DEx X EE e gx) (hr : DAx X EE es gs) (hs : starEach (e :: es) X.env = (false, eval e X.env) :: starEach es X.env := by rfl) : DAx X EE (e :: es) (aBX gx gs) := by
 obtain ⟨t1, p1, h1⟩ := ha
 obtain ⟨t2, p2, h2⟩ := hr
 refine ⟨_, e6 p1 p2 hs, fun C0 H0 δ σ C H xc Q R te rp g k => h1 C0 H0 δ σ C H _ _ _ te rp g fun d v C1 H1 q e1 n1 => ?_⟩
 exact h2 C0 H0 δ σ C1 H1 _ _ _ te (rp.grow e1) q fun ds vs C2 H2 q2 e2 n2 => k (d :: ds) (v :: vs) C2 H2 q2 (e1.trans e2) (.cons (n1.mono e2.cc) n2)
def aB8 (F : List D → Option D) (gs : GFX) : GEX := fun δ xc Q => gs δ xc fun ds => zS (F ds) Q
theorem aFY {F : List D → Option D} {k : Nat} {x : Str} {p : Pos} (h : d5 X.prog X.w X.K X.mg X.base k x F) (hr : cB k X.A) (hg : Gl X x) (ha : DAx X EE (e :: es) gs) (hdb : (x == ("__debug__" : Str)) = false := by decide)
  (he : starEach (e :: es) X.env = (false, eval e X.env) :: starEach es X.env := by rfl) (hpl : (backTo pos (starEach es X.env)).any (·.1) = false := by rfl) : DEx X EE (.Call (.Name x p) (e :: es) [] pos) (aB8 F gs) := by
 obtain ⟨f, fd, ps, Fk, hm, hk, hb⟩ := h
 obtain ⟨t, pa, h⟩ := ha
 refine ⟨_, xU Fk hr hg hm hk hb .nil aHW pa hdb he hpl, fun C0 H0 δ σ C H xc Q R te rp g k => h C0 H0 δ σ C H _ _ _ te rp g fun ds vs C1 H1 q e1 n1 => ?_⟩
 cases e2 : F ds with
 | none => rw [e2] at q; exact q.elim
 | some d =>
  rw [e2] at q
  exact ⟨C1, ds, d, e1.ch, rp.tc.mono e1.cc, by rw [List.append_nil]; exact n1, e2, fun v C' H' ex nv => k d v C' H' q (e1.trans ex) nv⟩
end
structure aBi (X : Cx) (c P : Addr) : Prop where
 code : X.env.code = .ref c
 hd : PySem.W.CodeHd X.base c P
 blt : X.base.BuiltinsAt X.mg P
abbrev sW (X : Cx) (q : Str) (params : Arguments) (body : Expr) (sc : Scope) (d : Addr) (ctv : Value) : Obj := PySem.W.kla_obj "<lambda>" q params body sc (n9 X.env sc.names []) ((X.mg "__name__").getD .none) d ctv
def aKL (X : Cx) (pins : List (Addr × Obj)) (σ : St) (H : Hp) (q : Str) (params : Arguments) (body : Expr) (sc : Scope) (u : Value) (s' : Shared) : Prop :=
 ∃ (f d : Addr) (oc : Obj) (w : HO) (vs : Array Value) (t : Tok) (ctv : Value) (H' : Hp), u = .ref f ∧ bE X (pins ++ [(f, sW X q params body sc d ctv)]) σ H' s' ∧ H' d = some (.frz oc w) ∧ oc.data = .fields vs ∧ vs[1]? = some (.str q t) ∧ (H' = H ∨ ∃ o, H d = none ∧ H' = upd H d o)
theorem bE.addPin {X : Cx} {pins : List (Addr × Obj)} {σ : St} {H : Hp} {s : Shared} {f : Addr} {o : Obj} (I : bE X pins σ H s) (e : s.heap.get? f = some o) (n : H f = none) (ne : f ≠ X.env.locals) (nf : f ∉ X.fs) (nc : ∀ v, o.data ≠ .cell v) : bE X (pins ++ [(f, o)]) σ H s := I.pins_of fun p hp => by
 rcases List.mem_append.mp hp with hp | hp
 ·exact I.pin p (List.mem_append_right _ hp)
 ·rw [List.mem_singleton.mp hp]
  exact ⟨e, n, ne, nf, nc⟩
theorem aHy {X : Cx} {pins : List (Addr × Obj)} {σ : St} {H : Hp} {s : Shared} {params : Arguments} {body : Expr} {sc : Scope} {lpos : Pos} {c P : Addr} {Q : Value → Shared → Prop} {E : Value → Shared → Prop} (L : aBi X c P)
  (hcl : ∀ y ∈ sc.names, y.2 = .free → ∃ c, X.env.cells.lookup y.1 = some c) (hdef : defaultsOf params X.env = ([], [])) (I : bE X pins σ H s) (hT : H P = some (.tab (rawInt lpos.line) (rawInt lpos.col) (X.env.qual ++ "<lambda>")))
  (h : ∀ u s', aKL X pins σ H (X.env.qual ++ "<lambda>") params body sc u s' → Q u s') : wpAny (model X.prog X.w) X.A (eval (.Lambda params body sc lpos) X.env) Q E s := by
 refine PySem.W.kla_eval hdef ?_
 obtain ⟨ps, e, z⟩ := I.hok P _ hT
 have hgl : s.heap.Ns mainGlobals X.mg := I.mod.glob.keeps I.bk
 have hb : s.heap.BuiltinsAt X.mg P := by
  obtain ⟨bm, ob, b1, b2, b3, b4, b5, b6⟩ := L.blt
  exact ⟨bm, ob, b1, b2, b3, b4, I.bk _ _ b5, b6⟩
 have gP : mainGlobals ≠ P := fun q => by
  obtain ⟨o, es, ep, eo, _⟩ := I.mod.glob
  have := (I.bs _ _ eo).2
  rw [q, hT] at this
  cases this
 rcases z with rfl | ⟨d, oc, w, vs, t, rfl, hd, hv, hq⟩
 ·refine PySem.W.kla_makeFunction (ps := #[]) (jK hcl) I.ok.glob hgl L.code (L.hd.keeps I.bk) e trivial rfl gP hb fun c' ctv h' tk hx hge hlt hrec htb => ?_
  obtain ⟨c2, oc, vs, t, e2, hoc, hdt, hv⟩ := hrec
  cases e2
  have hfr : H c' = none := I.hok.fresh hge
  generalize hF : PySem.W.kla_obj "<lambda>" (X.env.qual ++ "<lambda>") params body sc (n9 X.env sc.names []) ((X.mg "__name__").getD .none) c' ctv = F
  have kb : ∀ b o, b ≠ P → s.heap.get? b = some o → (h'.push F).get? b = some o := fun b o hb e => Heap.get?_push_of_some _ (hx b o hb e)
  have nP : ∀ b, H b = none → b ≠ P := fun b n z => by rw [z, hT] at n; cases n
  have un : Un X.fs [] H (upd H c' (.frz oc (.own c'))) s.heap (h'.push F) :=
   ⟨fun b o e n _ _ => kb b o (nP b n) e, fun b o e n _ _ => ⟨o.slots, kb b o (nP b n) e⟩, fun b o e n _ => by rw [aV (Nat.ne_of_lt (Nat.lt_of_lt_of_le (Heap.lt_size e) hge))]; exact n,
    fun b o e _ => by
     by_cases hb : b = P
     ·subst hb; exact ⟨_, Heap.get?_push_of_some _ htb⟩
     ·exact ⟨o, kb b o hb e⟩,
    fun b xs e => by rw [aV (bM e hfr)]; exact e, fun b o u e => by rw [aV (bM e hfr)]; exact e, fun b ps e => ⟨#[], by rw [aV (bM e hfr), e]; simp⟩⟩
  have hok' : qV X.prog X.w (upd H c' (.frz oc (.own c'))) (h'.push F) := fun b u q => by
   by_cases hb : b = c'
   ·subst hb
    rw [bQ] at q
    cases q
    exact ⟨Heap.get?_push_of_some _ hoc, oc, Heap.get?_push_of_some _ hoc⟩
   ·rw [aV hb] at q
    by_cases hP : b = P
    ·subst hP
     rw [hT] at q
     cases q
     exact ⟨_, Heap.get?_push_of_some _ htb, .inr ⟨c', oc, .own c', vs, t, by simp, bQ, hdt, hv⟩⟩
    ·refine (I.hok b u q).stay (fun b2 o2 hb2 e2 => kb b2 o2 (fun z => ?_) e2) (fun b2 q2 => by rw [aV (bM q2 hfr)]; exact q2) (fun b2 xs q2 => by rw [aV (bM q2 hfr)]; exact q2) fun b2 o2 u2 q2 => by rw [aV (bM q2 hfr)]; exact q2
     rcases hb2 with hb2 | hb2
     ·exact hP (hb2 ▸ z)
     ·rw [z, hT] at hb2; cases hb2
  have J := I.un (t' := tk) un hok'
  refine h _ _ ⟨h'.objs.size, c', oc, .own c', vs, t, ctv, upd H c' (.frz oc (.own c')), rfl, ?_, bQ, hdt, hv, .inr ⟨_, hfr, rfl⟩⟩
  have hsz : s.heap.objs.size ≤ h'.objs.size := Nat.le_of_lt (Nat.lt_of_le_of_lt hge hlt)
  unfold sW
  rw [hF]
  refine J.addPin (Heap.get?_push_size _ (by rw [← hF]; rfl)) ?_ (Nat.ne_of_gt (Nat.lt_of_lt_of_le I.lt hsz)) (I.nofs hsz) (fun v z => ?_)
  ·rw [aV (Nat.ne_of_gt hlt)]
   exact I.hok.fresh hsz
  ·rw [← hF] at z
   cases z
 ·have hcA : codeAmong lpos (#[rawInt lpos.line, rawInt lpos.col, Value.ref d] : Array Value).toList = some (.ref d) := by
   simp [codeAmong, rawInt]
  refine PySem.W.kla_makeFunctionHit (ps := #[rawInt lpos.line, rawInt lpos.col, .ref d]) (cv := .ref d) (jK hcl) I.ok.glob hgl L.code (L.hd.keeps I.bk) e (by simp [TriplesOk, rawInt]) hcA hb fun ctv h' tk hk hsz => ?_
  generalize hF : ({ cls := .type "function", data := .func (PySem.W.kla_fn "<lambda>" (X.env.qual ++ "<lambda>") params body sc (n9 X.env sc.names []) ((X.mg "__name__").getD .none) (.ref d) ctv) } : Obj) = F
  have J := I.kept (h' := h'.push F) (t' := tk) fun b u e => Heap.get?_push_of_some _ (hk b u e)
  refine h _ _ ⟨h'.objs.size, d, oc, w, vs, t, ctv, H, rfl, ?_, hd, hv, hq, .inl rfl⟩
  unfold sW PySem.W.kla_obj
  rw [hF]
  refine J.addPin (Heap.get?_push_size _ (by rw [← hF]; rfl)) (I.hok.fresh hsz) (Nat.ne_of_gt (Nat.lt_of_lt_of_le I.lt hsz)) (I.nofs hsz) (fun v z => ?_)
  rw [← hF] at z
  cases z
abbrev aCs (X : Cx) (q : Str) (sc : Scope) (L f d : Addr) : Env := PySem.W.envX q sc L f (.ref d) (n9 X.env sc.names [])
def cxL (X : Cx) (q : Str) (sc : Scope) (Nc : List Str) (L f d : Addr) (pins : List (Addr × Obj)) (s3 : Shared) (H3 : Hp) : Cx :=
 { X with N := Nc, A := X.A.in1.deeper (aCs X q sc L f d), s₀ := s3, H₀ := H3, env := aCs X q sc L f d, outer := X.stack, stack := aCs X q sc L f d :: X.stack, ex := [], fn := fun _ => false, pn := X.pn ++ pins, xe := fun _ _ => False }
section
variable {X : Cx} {q : Str} {sc : Scope} {Nc : List Str} {fr : List (Option Nat)} {pins : List (Addr × Obj)} {σ : St} {H : Hp} {s : Shared} {f d : Addr} {x0 : Str} {v : V} {u : Value}
theorem aG1 (ok : mP X.env.scope sc X.N Nc fr) (f0 : fr[0]? = some none) (n0 : Nc[0]? = some x0) (l0 : sc.names.lookup x0 = some .local) (nc : ∀ x ∈ sc.names, x.2 ≠ .cell) (I : bE X pins σ H s) (rv : dS v u) {h1 : Heap} {t' : Nat}
  (hn : h1.Ns s.heap.objs.size (fun y => [(x0, u)].reverse.lookup y)) (up : ∀ b o, s.heap.get? b = some o → h1.get? b = some o) :
  bE (cxL X q sc Nc s.heap.objs.size f d pins s H) [] ((σc fr σ).set 0 (some v)) H { s with heap := h1, toks := t' } := by
 have hcell := kX ok I
 have stk : ∀ b, b ∈ frs X.stack → b ∈ X.env.locals :: X.fs := I.stkSub
 have noA : ∀ b : Addr, b ∉ (cxL X q sc Nc s.heap.objs.size f d pins s H).ex := fun b z => absurd (show b ∈ ([] : List Addr) from z) (by simp)
 refine ⟨⟨I.ok.mod, ok.kind, rfl, rfl, Nat.le_refl _, fun x y c h1 h2 => ?_, fun x hx => ?_, fun x c h e => absurd h (by intro z; cases z), I.ok.hd, Around.frames_deeper (show X.A.in1.frames = some X.stack from I.ok.frames), .inr ⟨rfl, rfl⟩, fun b z => absurd z (noA b), I.bs, Nat.le_trans I.ok.bsz I.sz, fun b _ _ => noA b, fun b z => absurd z (noA b), I.stack, I.stkFree⟩,
  rfl, I.bare, Un.kept up, ⟨_, hn, fun i x v' e1 e2 e3 => ?_⟩, fun x c e => ?_, I.hok.fresh (Nat.le_refl _), fun x c e => ?_, fun p hp => ?_, I.hok.kept up, ?_⟩
 ·exact I.ok.inj x y c (kC hcell h1).2 (kC hcell h2).2
 ·have hx' : sc.names.lookup x = some .cell ∨ sc.names.lookup x = some .free := hx
  rcases hx' with z | z
  ·exact absurd rfl (nc _ (PySem.mem_of_lookup z))
  ·have hm : (x, NameKind.free) ∈ sc.names := PySem.mem_of_lookup z
   obtain ⟨c, e⟩ := hcell _ hm rfl
   exact ⟨c, xY hm e⟩
 ·by_cases hi : i = 0
  ·subst hi
   have ex : x0 = x := by
    have e1' : Nc[0]? = some x := e1
    rw [n0] at e1'
    exact Option.some.inj e1'
   subst ex
   have el : 0 < (σc fr σ).length := by
    unfold σc
    rw [List.length_map]
    exact (List.getElem?_eq_some_iff.mp f0).1
   have e2' : ((σc fr σ).set 0 (some v))[0]? = some (some v') := e2
   rw [List.getElem?_set_self el] at e2'
   cases e2'
   exact ⟨u, rv, .inl ⟨l0, by simp [List.lookup]⟩⟩
  ·have e2' : (σc fr σ)[i]? = some (some v') := by
    have e2'' : ((σc fr σ).set 0 (some v))[i]? = some (some v') := e2
    rwa [List.getElem?_set_ne (by omega)] at e2''
   unfold σc at e2'
   rw [List.getElem?_map] at e2'
   cases ef : fr[i]? with
   | none => rw [ef] at e2'; cases e2'
   | some o =>
    rw [ef] at e2'
    cases o with
    | none => cases e2'
    | some j =>
     obtain ⟨y, a1, a2, a3⟩ := ok.frs i j ef
     have a1' : (cxL X q sc Nc s.heap.objs.size f d pins s H).N[i]? = some y := a1
     rw [a1'] at e1
     obtain rfl : y = x := Option.some.inj e1
     have ej : σ[j]? = some (some v') := by
      have e2'' : (σ[j]?).bind id = some v' := Option.some.inj e2'
      cases es : σ[j]? with
      | none => rw [es] at e2''; cases e2''
      | some z => rw [es] at e2''; cases z with
       | none => cases e2''
       | some z' => exact congrArg some e2''
     have hm : (y, NameKind.free) ∈ sc.names := PySem.mem_of_lookup a3
     have kc := ok.fre _ hm rfl
     obtain ⟨m, hn', hl⟩ := I.loc
     obtain ⟨u', r, l⟩ := hl j y v' a2 ej (.inr kc)
     refine ⟨u', r, .inr ?_⟩
     rcases l with ⟨k, _⟩ | ⟨k, c, e, z⟩
     ·exfalso
      have k' : X.env.scope.names.lookup y = some .local := k
      rcases kc with q | q <;> (rw [q] at k'; cases k')
     ·refine ⟨.inr a3, c, xY hm e, ?_⟩
      obtain ⟨oc, ho, hd⟩ := z
      exact ⟨oc, up _ _ ho, hd⟩
 ·obtain ⟨v2, oc, ho, hd⟩ := I.cell x c (kC hcell e).2
  exact ⟨v2, oc, up _ _ ho, hd⟩
 ·exact I.freeC x c (kC hcell e).2
 ·have hp' : p ∈ X.pn ++ pins := by
   rcases List.mem_append.mp hp with z | z
   ·exact z
   ·exact absurd z (by simp)
  obtain ⟨e, n, ne, nf, dd⟩ := I.pin p hp'
  refine ⟨up _ _ e, n, Nat.ne_of_lt (Heap.lt_size e), fun z => ?_, dd⟩
  rcases List.mem_cons.mp (stk _ z) with z | z
  ·exact ne z
  ·exact nf z
 ·rw [List.length_set]
  unfold σc
  rw [List.length_map]
  exact ok.len
theorem aHP {params : Arguments} {body : Expr} {ctv : Value} {oc : Obj} {w : HO} {vs : Array Value} {t : Tok} {te : TE} {Q : VK} (ok : mP X.env.scope sc X.N Nc fr) (f0 : fr[0]? = some none) (n0 : Nc[0]? = some x0) (l0 : sc.names.lookup x0 = some .local) (nc : ∀ x ∈ sc.names, x.2 ≠ .cell)
  (hco : sc.isCoroutine = false) (hgen : sc.isGenerator = false) (hbind : ∀ (pm cdv ct : Value) (cl : List (Str × Addr)), bindArgs (PySem.W.kla_fn "<lambda>" q params body sc cl pm cdv ct) ⟨[u], []⟩ = pure [(x0, u)]) (hroom : X.A.depth < recursionLimit)
  (hb : ∀ L f d pins s3 H3, PE (cxL X q sc Nc L f d pins s3 H3) body te) (I : bE X pins σ H s) (hp : (f, sW X q params body sc d ctv) ∈ X.pn ++ pins) (hd : H d = some (.frz oc w)) (hv : oc.data = .fields vs) (hq : vs[1]? = some (.str q t))
  (rv : dS v u) (ht : te ((σc fr σ).set 0 (some v)) H Q) : wpAny (model X.prog X.w) X.A.in1 (call (.ref f) [u]) (EP X pins σ Q) (fun _ _ => False) s := by
 refine wpAny_call ?_
 refine PySem.W.kla_callFunE (show X.A.in1.depth < recursionLimit from hroom) (I.pin _ hp).1 rfl hco hgen rfl ⟨d, oc, vs, t, rfl, (I.hok d _ hd).1, hv, hq⟩ ?_
 rw [hbind]
 refine wpAny_pure (wpAny_newFunctionEnv nc (fun y hy => by rw [List.mem_singleton.mp hy]; exact l0) (fun h₁ hns hsb => ⟨I.nolimit.fresh _ hsb, ?_⟩) ok.kind)
 have up : ∀ b o, s.heap.get? b = some o → h₁.get? b = some o := fun b o e => hsb.extBut b o (Nat.ne_of_lt (Heap.lt_size e)) (Heap.get?_push_of_some _ e)
 have J := aG1 (q := q) (f := f) (d := d) ok f0 n0 l0 nc I rv (t' := s.toks + [(x0, u)].length) hns up
 show codeAny _ _ (.expr body (aCs X q sc s.heap.objs.size f d)) _ _
 refine PySem.W.kla_codeExpr (wpAny_mono (hb s.heap.objs.size f d pins s H [] _ _ H Q J ht) (fun r s' hr => ?_) fun _ _ z => z.elim)
 obtain ⟨v', H', J', rv', qv⟩ := hr
 exact ⟨v', H', I.call' (ch := []) J'.os J'.base J'.hok J'.bare (fun b z => absurd z (by simp)), rv', qv⟩
end
structure aFM (X : Cx) (pins : List (Addr × Obj)) (σ : St) (q : Str) (params : Arguments) (body : Expr) (sc : Scope) (Nc : List Str) (fr : List (Option Nat)) (x0 : Str) (f d : Addr) (ctv : Value) (oc : Obj) (w : HO) (vs : Array Value) (t : Tok) (te : TE) (l : Addr) (xs : List V) (kf : Nat → Int) (W : Hp → Prop) : Prop where
 ok : mP X.env.scope sc X.N Nc fr
 f0 : fr[0]? = some none
 n0 : Nc[0]? = some x0
 l0 : sc.names.lookup x0 = some .local
 nc : ∀ x ∈ sc.names, x.2 ≠ .cell
 co : sc.isCoroutine = false
 gen : sc.isGenerator = false
 bind : ∀ (u pm cdv ct : Value) (cl : List (Str × Addr)), bindArgs (PySem.W.kla_fn "<lambda>" q params body sc cl pm cdv ct) ⟨[u], []⟩ = pure [(x0, u)]
 room : X.A.depth < recursionLimit
 bd : ∀ L f d pins s3 H3, PE (cxL X q sc Nc L f d pins s3 H3) body te
 pin : (f, sW X q params body sc d ctv) ∈ X.pn ++ pins
 dt : oc.data = .fields vs
 nm : vs[1]? = some (.str q t)
 wS : ∀ H, W H → jN X.K H l xs
 wD : ∀ H, W H → H d = some (.frz oc w)
 wT : ∀ H i x, W H → xs[i]? = some x → te ((σc fr σ).set 0 (some x)) H fun y H' => y = .int (kf i) ∧ W H'
section
variable {X : Cx} {pins : List (Addr × Obj)} {σ : St} {q : Str} {params : Arguments} {body : Expr} {sc : Scope} {Nc : List Str} {fr : List (Option Nat)} {x0 : Str} {f d : Addr} {ctv : Value} {oc : Obj} {w : HO} {vs : Array Value} {t : Tok} {te : TE} {l : Addr} {xs : List V} {kf : Nat → Int} {W : Hp → Prop}
theorem aC0 (K : aFM X pins σ q params body sc Nc fr x0 f d ctv oc w vs t te l xs kf W) {H : Hp} {s : Shared} {more : List (Addr × Obj)} (I : bE X (pins ++ more) σ H s) (hW : W H) {i : Nat} {x : V} {u : Value} (hx : xs[i]? = some x) (ru : dS x u) {Q : Value → Shared → Prop}
  (h : ∀ t2 H2 s2, bE X (pins ++ more) σ H2 s2 → W H2 → Q (.int (kf i) t2) s2) : wpAny (model X.prog X.w) X.A.in1 (call (.ref f) [u]) Q (fun _ _ => False) s := by
 have hp : (f, sW X q params body sc d ctv) ∈ X.pn ++ (pins ++ more) := by
  rcases List.mem_append.mp K.pin with z | z
  ·exact List.mem_append_left _ z
  ·exact List.mem_append_right _ (List.mem_append_left _ z)
 refine wpAny_mono (aHP (q := q) K.ok K.f0 K.n0 K.l0 K.nc K.co K.gen (K.bind u) K.room K.bd I hp (K.wD H hW) K.dt K.nm ru (K.wT H i x hW hx)) (fun r s' he => ?_) fun _ _ z => z
 obtain ⟨y, H2, I2, ry, rfl, w2⟩ := he
 obtain ⟨t2, rfl⟩ := ry
 exact h t2 H2 s' I2 w2
theorem aHa (K : aFM X pins σ q params body sc Nc fr x0 f d ctv oc w vs t te l xs kf W) (hh : X.A.handled = none) {S I : Addr} (hSI : S ≠ I) {Q : VK}
  (wQ : ∀ H i x, W H → xs[i]? = some x → (∀ j, j < xs.length → kf i ≤ kf j ∧ (j < i → kf i < kf j)) → Q x H) :
  ∀ (r j i : Nat) (s : Shared) (H : Hp) (vb : Value) (tb : Tok) (c : Nat) (xb : V), xs.length - (j + 1) = r → j + 1 ≤ xs.length → bE X pins σ H s → W H → s.heap.get? S = some (seqObj "list" #[vb, .int (kf i) tb] c) → s.heap.IsTupleIter I l (j + 1) → nB X pins H S → nB X pins H I →
   xs[i]? = some xb → dS xb vb → i ≤ j → (∀ j', j' ≤ j → kf i ≤ kf j' ∧ (j' < i → kf i < kf j')) →
   codeAny (model X.prog X.w) X.A (.builtin "min.loop" ⟨[.ref I, .ref f, .ref S], []⟩) (fun r s' => match r with
    | .ok (.ret u) => EP X pins σ Q u s'
    | _ => False) s := by
 have hname : (toString "min" ++ toString ".loop" : String) = "min.loop" := by decide
 intro r
 induction r with
 | zero =>
  intro j i s H vb tb c xb hr hj I0 hW hS hit fS fI hxb rb hij hbest
  have hin : j + 1 = xs.length := by omega
  obtain ⟨its, rv, p, hz⟩ := I0.tuple (K.wS H hW)
  have hl := rv.length
  refine codeAny_builtin PySem.F.entry_min_loop ?_
  rw [Around.under_plainId PySem.F.plain_min_loop _]
  show wpAny _ X.A.in1 (seqItems? (.ref S) >>= _) _ _ _
  refine wpAny_bind (wpAny_seqItems hS rfl ?_)
  show wpAny _ X.A.in1 (tryCatch (pyNext (.ref I)) _ >>= _) _ _ _
  refine wpAny_bind (wpAny_tryCatch (wpAny_pyNext_tuple_end hh hit (show s.heap.IsTuple l its.toArray from p) (by simp; omega) fun h' eb => ?_))
  have I1 : bE X pins σ H { s with heap := h' } := I0.turned (t' := s.toks) (fun b o hb e => eb b o hb e) fI.1 fI.2.1 fI.2.2.2.1 fI.2.2.2.2.1 fI.2.2.2.2.2
  have hS' := eb S _ hSI hS
  have s1 := Heap.SameBut.update h' S (Obj.mapSeq fun _ => (#[] : Array Value))
  show wpAny _ X.A.in1 (updateSeq S (fun _ => #[]) >>= _) _ _ _
  refine wpAny_bind ?_
  refine wpAny_updateSeq hS' rfl (wpAny_bind (wpAny_letGo (wpAny_pure ?_)))
  have I2 := I1.turned (t' := s.toks) (h' := h'.update S (Obj.mapSeq fun _ => (#[] : Array Value))) (fun b o hb e => (s1.2 b hb).trans e) fS.1 fS.2.1 fS.2.2.2.1 fS.2.2.2.2.1 fS.2.2.2.2.2
  exact ⟨xb, H, I2, rb, wQ H i xb hW hxb fun j' hj' => hbest j' (by omega)⟩
 | succ r ih =>
  intro j i s H vb tb c xb hr hj I0 hW hS hit fS fI hxb rb hij hbest
  have hlt : j + 1 < xs.length := by omega
  obtain ⟨its, rv, p, hz⟩ := I0.tuple (K.wS H hW)
  have hl := rv.length
  have hx : xs[j + 1]? = some xs[j + 1] := List.getElem?_eq_getElem hlt
  generalize xs[j + 1] = x at hx
  obtain ⟨v, hv, ru⟩ := rv.get hx
  refine codeAny_builtin PySem.F.entry_min_loop ?_
  rw [Around.under_plainId PySem.F.plain_min_loop _]
  show wpAny _ X.A.in1 (seqItems? (.ref S) >>= _) _ _ _
  refine wpAny_bind (wpAny_seqItems hS rfl ?_)
  show wpAny _ X.A.in1 (tryCatch (pyNext (.ref I)) _ >>= _) _ _ _
  refine wpAny_bind (wpAny_tryCatch (wpAny_pyNext_tuple_item hit (show s.heap.IsTuple l its.toArray from p) (x := v) (by simpa using hv) fun h' hit' sb => ?_))
  have I1 : bE X pins σ H { s with heap := h' } := I0.turned (t' := s.toks) (fun b o hb e => (sb.2 b hb).trans e) fI.1 fI.2.1 fI.2.2.2.1 fI.2.2.2.2.1 fI.2.2.2.2.2
  have hS1 : h'.get? S = some (seqObj "list" #[vb, .int (kf i) tb] c) := (sb.2 S hSI).trans hS
  obtain ⟨oI, hoI, hoc, hod⟩ := id hit'
  have I2 := (I1.addPin (f := S) (o := seqObj "list" #[vb, .int (kf i) tb] c) hS1 fS.1 fS.2.1 fS.2.2.1 (fun v z => by cases z)).addPin (f := I) (o := oI) hoI fI.1 fI.2.1 fI.2.2.1 (fun v z => by rw [hod] at z; cases z)
  rw [List.append_assoc] at I2
  show wpAny _ X.A.in1 (tryCatch (holding [v] (call (.ref f) [v])) _ >>= _) _ _ _
  refine wpAny_bind (wpAny_tryCatch (wpAny_holding (wpAny_mono (aC0 K I2 hW hx ru (Q := fun u s2 => ∃ t2 H2, u = .int (kf (j + 1)) t2 ∧ bE X (pins ++ ([(S, seqObj "list" #[vb, .int (kf i) tb] c)] ++ [(I, oI)])) σ H2 s2 ∧ W H2) fun t2 H2 s2 J hw => ⟨t2, H2, rfl, J, hw⟩) (fun x2 s2 he => ?_) fun _ _ hF => hF.elim)))
  obtain ⟨t2, H2, rfl, J, w2⟩ := he
  have pS := J.pin (S, seqObj "list" #[vb, .int (kf i) tb] c) (List.mem_append_right _ (List.mem_append_right _ (List.mem_append_left _ (List.mem_singleton.mpr rfl))))
  have pI := J.pin (I, oI) (List.mem_append_right _ (List.mem_append_right _ (List.mem_append_right _ (List.mem_singleton.mpr rfl))))
  have J0 := J.unpinned
  have fS2 : nB X pins H2 S := ⟨pS.2.1, fS.2⟩
  have fI2 : nB X pins H2 I := ⟨pI.2.1, fI.2⟩
  have hit2 : s2.heap.IsTupleIter I l (j + 1 + 1) := ⟨oI, pI.1, hoc, hod⟩
  show wpAny _ X.A.in1 (tryCatch (holding [v, .int (kf (j + 1)) t2] (richCompare .Lt (.int (kf (j + 1)) t2) (.int (kf i) tb) >>= _)) _ >>= _) _ _ _
  refine wpAny_bind (wpAny_tryCatch (wpAny_holding (wpAny_bind (CmpOf.ints_lt (prog := X.prog) (w := X.w) (A := X.A.in1) (P := fun i v => ∃ t, v = .int (kf i) t) kf (fun i v h => h) (j + 1) i _ _ _ _ _ ⟨t2, rfl⟩ ⟨tb, rfl⟩ ?_))))
  refine wpAny_bind (wpAny_holding (wpAny_truthy_bool ?_))
  refine wpAny_bind (wpAny_letGo (wpAny_pure ?_))
  by_cases hb' : kf (j + 1) < kf i
  ·have s1 := Heap.SameBut.update s2.heap S (Obj.mapSeq fun _ => #[v, .int (kf (j + 1)) t2])
   obtain ⟨c2, hc2⟩ : ∃ c2, (s2.heap.update S (Obj.mapSeq fun _ => #[v, .int (kf (j + 1)) t2])).get? S = some (seqObj "list" #[v, .int (kf (j + 1)) t2] c2) := ⟨_, get?_update_seq pS.1 fun _ => #[v, .int (kf (j + 1)) t2]⟩
   simp only [hb', decide_true, if_true]
   refine wpAny_bind ?_
   refine wpAny_updateSeq pS.1 rfl (wpAny_bind (wpAny_letGo ?_))
   rw [hname]
   have J1 := J0.turned (t' := s2.toks) (h' := s2.heap.update S (Obj.mapSeq fun _ => #[v, .int (kf (j + 1)) t2])) (fun b o hb e => (s1.2 b hb).trans e) fS2.1 fS2.2.1 fS2.2.2.2.1 fS2.2.2.2.2.1 fS2.2.2.2.2.2
   refine wpAny_pure ⟨plainId_quiet PySem.F.plain_min_loop _, ih (j + 1) (j + 1) _ H2 v t2 c2 x (by omega) hlt J1 w2 hc2 ⟨oI, (s1.2 I hSI.symm).trans pI.1, hoc, hod⟩ fS2 fI2 hx ru (Nat.le_refl _) fun j' hj' => ?_⟩
   by_cases e : j' = j + 1
   ·subst e
    exact ⟨Int.le_refl _, fun z => absurd z (Nat.lt_irrefl _)⟩
   ·have hb1 := hbest j' (by omega)
    have hb2 := hb1.1
    exact ⟨by omega, fun _ => by omega⟩
  ·simp only [hb', decide_false, Bool.false_eq_true, if_false]
   refine wpAny_bind (wpAny_letGo ?_)
   rw [hname]
   refine wpAny_pure ⟨plainId_quiet PySem.F.plain_min_loop _, ih (j + 1) i s2 H2 vb tb c xb (by omega) hlt J0 w2 pS.1 hit2 fS2 fI2 hxb rb (by omega) fun j' hj' => ?_⟩
   by_cases e : j' = j + 1
   ·subst e
    exact ⟨by omega, fun _ => by omega⟩
   ·exact hbest j' (by omega)
theorem aI6 (K : aFM X pins σ q params body sc Nc fr x0 f d ctv oc w vs t te l xs kf W) (hh : X.A.handled = none) {Q : VK} {H : Hp} {s : Shared} {E : Value → Shared → Prop} (I0 : bE X pins σ H s) (hW : W H) (hne : 0 < xs.length)
  (wQ : ∀ H i x, W H → xs[i]? = some x → (∀ j, j < xs.length → kf i ≤ kf j ∧ (j < i → kf i < kf j)) → Q x H) :
  wpAny (model X.prog X.w) X.A (call (.builtin "min") [.ref l] [(Str.ofString "key", .ref f)]) (EP X pins σ Q) E s := by
 have hname : (toString "min" ++ toString ".loop" : String) = "min.loop" := by decide
 obtain ⟨its, rv, p, hz⟩ := I0.tuple (K.wS H hW)
 have hl := rv.length
 have ht : s.heap.IsTuple l its.toArray := p
 have hx : xs[0]? = some xs[0] := List.getElem?_eq_getElem hne
 generalize xs[0] = x at hx
 obtain ⟨v, hv, ru⟩ := rv.get hx
 refine kmk_tree PySem.F.kind_min PySem.F.plain_min PySem.F.entry_min (kmk_min_key _ _) ?_
 show wpAny _ X.A.in1 (Builtin.Builtins.bindParams "min" ["key", "default"] 0 ⟨[], [(Str.ofString "key", .ref f)]⟩ >>= _) _ _ s
 refine wpAny_bind (wpAny_of_eq (show Builtin.Builtins.bindParams "min" ["key", "default"] 0 ⟨[], [(Str.ofString "key", .ref f)]⟩ = pure [some (.ref f), none] from rfl) ?_)
 refine wpAny_bind (wpAny_pure ?_)
 refine wpAny_bind (wpAny_pyIter_tuple ht ?_)
 refine wpAny_bind (wpAny_newList ?_ (Nat.zero_le _))
 rw [hname]
 generalize hS0 : (s.heap.push { cls := .type "tuple_iterator", data := .fields #[.ref l, .int 0 0] }) = g1
 have hsz1 : g1.objs.size = s.heap.objs.size + 1 := by rw [← hS0]; exact size_push' ..
 have gI1 : g1.get? s.heap.objs.size = some { cls := .type "tuple_iterator", data := .fields #[.ref l, .int 0 0] } := by rw [← hS0]; exact Heap.get?_push_size _ rfl
 have k1 : ∀ b o, s.heap.get? b = some o → g1.get? b = some o := fun b o e => by rw [← hS0]; exact Heap.get?_push_of_some _ e
 have hSI : g1.objs.size ≠ s.heap.objs.size := by omega
 have k2 : ∀ b o, s.heap.get? b = some o → (g1.push (seqObj "list" #[] 0)).get? b = some o := fun b o e => Heap.get?_push_of_some _ (k1 b o e)
 have gI : (g1.push (seqObj "list" #[] 0)).get? s.heap.objs.size = some { cls := .type "tuple_iterator", data := .fields #[.ref l, .int 0 0] } := Heap.get?_push_of_some _ gI1
 have gS : (g1.push (seqObj "list" #[] 0)).get? g1.objs.size = some (seqObj "list" #[] 0) := Heap.get?_push_size _ rfl
 have I1 : bE X pins σ H { s with heap := g1.push (seqObj "list" #[] 0) } := I0.kept (t' := s.toks) k2
 have fI : nB X pins H s.heap.objs.size := I0.fpOk (Nat.le_refl _) I0.fresh
 have fS : nB X pins H g1.objs.size := I0.fpOk (by omega) (I0.hok.fresh (by omega))
 refine wpAny_pure ⟨plainId_quiet PySem.F.plain_min_loop _, ?_⟩
 refine codeAny_builtin PySem.F.entry_min_loop ?_
 rw [Around.under_plainId PySem.F.plain_min_loop _]
 show wpAny _ X.A.in1 (seqItems? (.ref g1.objs.size) >>= _) _ _ _
 refine wpAny_bind (wpAny_seqItems gS rfl ?_)
 show wpAny _ X.A.in1 (tryCatch (pyNext (.ref s.heap.objs.size)) _ >>= _) _ _ _
 have p1 : (g1.push (seqObj "list" #[] 0)).IsTuple l its.toArray := by
  obtain ⟨o, e, r⟩ := ht
  exact ⟨o, k2 _ _ e, r⟩
 refine wpAny_bind (wpAny_tryCatch (wpAny_pyNext_tuple_item (s := { s with heap := g1.push (seqObj "list" #[] 0) }) (it := s.heap.objs.size) (t := l) (i := 0) ⟨_, gI, rfl, rfl⟩ p1 (x := v) (by simpa using hv) fun h' hit' sb => ?_))
 have I2 : bE X pins σ H { s with heap := h' } := I1.turned (t' := s.toks) (fun b o hb e => (sb.2 b hb).trans e) fI.1 fI.2.1 fI.2.2.2.1 fI.2.2.2.2.1 fI.2.2.2.2.2
 have hS1 : h'.get? g1.objs.size = some (seqObj "list" #[] 0) := (sb.2 _ hSI).trans gS
 obtain ⟨oI, hoI, hoc, hod⟩ := id hit'
 have I3 := (I2.addPin (f := g1.objs.size) (o := seqObj "list" #[] 0) hS1 fS.1 fS.2.1 fS.2.2.1 (fun v z => by cases z)).addPin (f := s.heap.objs.size) (o := oI) hoI fI.1 fI.2.1 fI.2.2.1 (fun v z => by rw [hod] at z; cases z)
 rw [List.append_assoc] at I3
 show wpAny _ X.A.in1 (tryCatch (holding [v] (call (.ref f) [v])) _ >>= _) _ _ _
 refine wpAny_bind (wpAny_tryCatch (wpAny_holding (wpAny_mono (aC0 K I3 hW hx ru (Q := fun u s2 => ∃ t2 H2, u = .int (kf 0) t2 ∧ bE X (pins ++ ([(g1.objs.size, seqObj "list" #[] 0)] ++ [(s.heap.objs.size, oI)])) σ H2 s2 ∧ W H2) fun t2 H2 s2 J hw => ⟨t2, H2, rfl, J, hw⟩) (fun x2 s2 he => ?_) fun _ _ hF => hF.elim)))
 obtain ⟨t2, H2, rfl, J, w2⟩ := he
 have pS := J.pin (g1.objs.size, seqObj "list" #[] 0) (List.mem_append_right _ (List.mem_append_right _ (List.mem_append_left _ (List.mem_singleton.mpr rfl))))
 have pI := J.pin (s.heap.objs.size, oI) (List.mem_append_right _ (List.mem_append_right _ (List.mem_append_right _ (List.mem_singleton.mpr rfl))))
 have J0 := J.unpinned
 have fS2 : nB X pins H2 g1.objs.size := ⟨pS.2.1, fS.2⟩
 have fI2 : nB X pins H2 s.heap.objs.size := ⟨pI.2.1, fI.2⟩
 have s1 := Heap.SameBut.update s2.heap g1.objs.size (Obj.mapSeq fun _ => #[v, .int (kf 0) t2])
 obtain ⟨c2, hc2⟩ : ∃ c2, (s2.heap.update g1.objs.size (Obj.mapSeq fun _ => #[v, .int (kf 0) t2])).get? g1.objs.size = some (seqObj "list" #[v, .int (kf 0) t2] c2) := ⟨_, get?_update_seq pS.1 fun _ => #[v, .int (kf 0) t2]⟩
 show wpAny _ X.A.in1 (updateSeq g1.objs.size (fun _ => #[v, .int (kf 0) t2]) >>= _) _ _ _
 refine wpAny_bind ?_
 refine wpAny_updateSeq pS.1 rfl ?_
 rw [hname]
 have J1 := J0.turned (t' := s2.toks) (h' := s2.heap.update g1.objs.size (Obj.mapSeq fun _ => #[v, .int (kf 0) t2])) (fun b o hb e => (s1.2 b hb).trans e) fS2.1 fS2.2.1 fS2.2.2.2.1 fS2.2.2.2.2.1 fS2.2.2.2.2.2
 refine wpAny_pure ⟨plainId_quiet PySem.F.plain_min_loop _, codeAny_mono (aHa K hh hSI wQ _ 0 0 _ H2 v t2 c2 x rfl (by omega) J1 w2 hc2 ⟨oI, (s1.2 _ hSI.symm).trans pI.1, hoc, hod⟩ fS2 fI2 hx ru (Nat.le_refl _) fun j' hj' => ?_) fun r s' hr => ?_⟩
 ·have e : j' = 0 := by omega
  subst e
  exact ⟨Int.le_refl _, fun z => absurd z (Nat.lt_irrefl _)⟩
 ·cases r with
  | error e => exact hr.elim
  | ok fl => cases fl <;> first | exact hr | exact hr.elim
end
theorem aBv {α : Type} {l : List α} {i : Nat} (h : i < l.length) (d : α) : l.getD i d = l[i] := by
 rw [List.getD_eq_getElem?_getD, List.getElem?_eq_getElem h]
 rfl
def aBJ (fr : List (Option Nat)) (ga gb : GE) : GE := fun δ Q => ga δ fun d => match d with
 | .tup ds => ds ≠ [] ∧ ∃ kf : D → Int, (∀ x ∈ ds, gb ((δc fr δ).set 0 (.im x)) fun y => y = .int (kf x)) ∧ ∀ (i : Nat) x, ds[i]? = some x → (∀ (j : Nat) y, ds[j]? = some y → kf x ≤ kf y ∧ (j < i → kf x < kf y)) → Q x
 | _ => False
def aMt (K : PySem.W.Frag) (P : Addr) (ln cl : Value) (nm : Str) (fr : List (Option Nat)) (tb : TE) (σ : St) (Q : VK) (v : V) (H1 : Hp) : Prop := ∃ l xs, v = .ref l ∧ 0 < xs.length ∧ H1 P = some (.tab ln cl nm) ∧
 ∀ d oc wo H2, (H2 = H1 ∨ ∃ o, H1 d = none ∧ H2 = upd H1 d o) → H2 d = some (.frz oc wo) → ∃ (W : Hp → Prop) (kf : Nat → Int), W H2 ∧ (∀ H, W H → jN K H l xs) ∧ (∀ H, W H → H d = some (.frz oc wo)) ∧
  (∀ H (i : Nat) x, W H → xs[i]? = some x → tb ((σc fr σ).set 0 (some x)) H fun y H' => y = .int (kf i) ∧ W H') ∧ ∀ H (i : Nat) x, W H → xs[i]? = some x → (∀ j, j < xs.length → kf i ≤ kf j ∧ (j < i → kf i < kf j)) → Q x H
def aIU (K : PySem.W.Frag) (P : Addr) (ln cl : Value) (nm : Str) (fr : List (Option Nat)) (t1 tb : TE) : TE := fun σ H Q => t1 σ H (aMt K P ln cl nm fr tb σ Q)
def aKh (K : PySem.W.Frag) (P : Addr) (ln cl : Value) (nm : Str) (fr : List (Option Nat)) (tb : TE) (σ : St) (Q : VK) (vs : List V) (H1 : Hp) : Prop := match vs with
 | [v] => aMt K P ln cl nm fr tb σ Q v H1
 | _ => False
section
variable {X : Cx} {sc : Scope} {Nc : List Str} {fr : List (Option Nat)} {x0 : Str} {params : Arguments} {body e : Expr} {lpos np kp pos : Pos} {c P : Addr} {t1 tb : TE} {ga gb : GE}
theorem aGP (hc : X.calm = true) (L : aBi X c P) (hg : Gl X "min") (hm : X.mg "min" = none) (ok : lZ X.env.scope sc X.N Nc fr = true) (f0 : fr[0]? = some none) (n0 : Nc[0]? = some x0) (l0 : sc.names.lookup x0 = some .local) (nc : ∀ x ∈ sc.names, x.2 ≠ .cell)
  (hco : sc.isCoroutine = false) (hgen : sc.isGenerator = false) (hbind : ∀ (u pm cdv ct : Value) (cl : List (Str × Addr)), bindArgs (PySem.W.kla_fn "<lambda>" (X.env.qual ++ "<lambda>") params body sc cl pm cdv ct) ⟨[u], []⟩ = pure [(x0, u)]) (hdef : defaultsOf params X.env = ([], [])) (hroom : X.A.depth < recursionLimit)
  (ha : PE X e t1) (hb : ∀ L f d pins s3 H3, PE (cxL X (X.env.qual ++ "<lambda>") sc Nc L f d pins s3 H3) body tb) (hst : starEach [e] X.env = (false, eval e X.env) :: starEach [] X.env := by rfl)
  (he : backTo pos (starEach [e] X.env) = (false, eval e X.env) :: backTo pos (starEach [] X.env)) (hpl : (backTo pos (starEach [e] X.env)).any (·.1) = false := by rfl) (hv : bootBuiltins "min" = some (.builtin "min") := by decide +kernel) :
  PE X (.Call (.Name "min" np) [e] [⟨some "key", .Lambda params body sc lpos, kp⟩] pos) (aIU X.K P (rawInt lpos.line) (rawInt lpos.col) (X.env.qual ++ "<lambda>") fr t1 tb) := by
 intro pins s σ H Q I h
 have ok := mP.of ok
 refine wpAny_Call_Name_kw (qK I hg hm hv ?_ (by decide) (by decide))
 refine callWith_kw ?_ he hpl
 have pa : PA X [e] (aFF t1 aJ2) := e6 ha i6 hst
 refine gW (pa pos pins s σ H (aKh X.K P (rawInt lpos.line) (rawInt lpos.col) (X.env.qual ++ "<lambda>") fr tb σ Q) I h) fun us s1 h1 => ?_
 obtain ⟨vs, H1, I1, r1, q1⟩ := h1
 unfold aKh at q1
 split at q1
 ·rename_i v
  obtain ⟨l, xs, rfl, hne, hT, key⟩ := q1
  obtain ⟨u, us', rfl, hu, hr⟩ : ∃ u us', us = u :: us' ∧ dS (.ref l) u ∧ us' = [] := by
   cases us with
   | nil => exact absurd r1.length (by simp)
   | cons u us' =>
    cases r1 with
    | cons a b => exact ⟨u, us', rfl, a, by cases b; rfl⟩
  subst hr
  obtain rfl : u = .ref l := hu
  refine kws_cons (aHy L (kX ok I1) hdef I1 hT fun u2 s2 hl => kws_nil ?_)
  obtain ⟨f, d, oc, w, vs, t, ctv, H2, rfl, I2, hd, hdt, hnm, hH⟩ := hl
  obtain ⟨W, kf, w0, wS, wD, wT, wQ⟩ := key d oc w H2 hH hd
  have KO : aFM X (pins ++ [(f, sW X (X.env.qual ++ "<lambda>") params body sc d ctv)]) σ (X.env.qual ++ "<lambda>") params body sc Nc fr x0 f d ctv oc w vs t tb l xs kf W :=
   ⟨ok, f0, n0, l0, nc, hco, hgen, hbind, hroom, hb, List.mem_append_right _ (List.mem_append_right _ (List.mem_singleton.mpr rfl)), hdt, hnm, wS, wD, wT⟩
  refine wpAny_mono (aI6 KO (I1.ok.hd hc) I2 w0 hne wQ) (fun r s' hr => ?_) fun _ _ z => z
  obtain ⟨v', H', J, rv', qv⟩ := hr
  exact ⟨v', H', J.unpinned, rv', qv⟩
 ·exact q1.elim
theorem aGX (hc : X.calm = true) (L : aBi X c P) (htab : zW X.K = some (P, rawInt lpos.line, rawInt lpos.col, X.env.qual ++ "<lambda>")) (hg : Gl X "min") (hm : X.mg "min" = none) (ok : lZ X.env.scope sc X.N Nc fr = true) (f0 : fr[0]? = some none) (n0 : Nc[0]? = some x0) (l0 : sc.names.lookup x0 = some .local) (nc : ∀ x ∈ sc.names, x.2 ≠ .cell)
  (hco : sc.isCoroutine = false) (hgen : sc.isGenerator = false) (hbind : ∀ (u pm cdv ct : Value) (cl : List (Str × Addr)), bindArgs (PySem.W.kla_fn "<lambda>" (X.env.qual ++ "<lambda>") params body sc cl pm cdv ct) ⟨[u], []⟩ = pure [(x0, u)]) (hdef : defaultsOf params X.env = ([], [])) (hroom : X.A.depth < recursionLimit)
  (ha : DE X e ga) (hb : ∀ L f d pins s3 H3, DE (cxL X (X.env.qual ++ "<lambda>") sc Nc L f d pins s3 H3) body gb) (hst : starEach [e] X.env = (false, eval e X.env) :: starEach [] X.env := by rfl)
  (he : backTo pos (starEach [e] X.env) = (false, eval e X.env) :: backTo pos (starEach [] X.env) := by rfl) (hpl : (backTo pos (starEach [e] X.env)).any (·.1) = false := by rfl) :
  DE X (.Call (.Name "min" np) [e] [⟨some "key", .Lambda params body sc lpos, kp⟩] pos) (aBJ fr ga gb) := by
 obtain ⟨t1, p1, h1⟩ := ha
 refine ⟨_, aGP (tb := tDE X.K gb) hc L hg hm ok f0 n0 l0 nc hco hgen hbind hdef hroom p1 (fun L f d pins s3 H3 => (hb L f d pins s3 H3).can) hst he hpl, fun C0 H0 δ σ C H Q R rp g k => h1 C0 H0 δ σ C H _ _ rp g fun dd v C1 H1 q e1 n1 => ?_⟩
 cases dd with
 | tup ds =>
  obtain ⟨hne, kf, hk, hQ⟩ := q
  obtain ⟨p, xs, rfl, hsq, hd⟩ := bS.mp n1
  have hl := hd.length
  have hlen : 0 < ds.length := List.length_pos_iff.mpr hne
  refine ⟨p, xs, rfl, by omega, e1.ch _ _ ((rp.grow e1).tc _ _ _ _ htab), fun d oc wo H2 hH hf => ?_⟩
  have x2 : d7 C1 H1 C1 H2 := by
   rcases hH with rfl | ⟨o, hn, rfl⟩
   ·exact d7.refl e1.ch
   ·exact d7.newO e1.ch hn
  refine ⟨fun H' => ∃ C', d7 C1 H2 C' H', fun i => kf (ds.getD i .non), ⟨C1, d7.refl x2.ch⟩, fun H' ⟨C', x⟩ => x.ch.seqT (x.cc.seqT hsq), fun H' ⟨C', x⟩ => x.hh _ _ hf, fun H' i x ⟨C', ex⟩ hx => ?_, fun H' i x ⟨C', ex⟩ hx hb => ?_⟩
  ·have hi : i < ds.length := by
    have := (List.getElem?_eq_some_iff.mp hx).1
    omega
   have ei : ds[i]? = some ds[i] := List.getElem?_eq_getElem hi
   obtain ⟨x', ex', nx⟩ := hd.get ei
   rw [hx] at ex'
   cases ex'
   have rc := (rp.comp fr ((e1.cc.trans x2.cc).trans ex.cc) ex.ch).setI (i := 0) (nx.mono ex.cc)
   refine ⟨C', H', _, C', fun y => y = .int (kf ds[i]), rc, hk ds[i] (List.getElem_mem hi), fun y vv C2 H3 hy ey ny => ?_⟩
   subst hy
   show vv = V.int (kf (ds.getD i D.non)) ∧ _
   rw [aBv hi]
   exact ⟨bB.mp ny, C2, ex.trans ey⟩
  ·have hi : i < ds.length := by
    have := (List.getElem?_eq_some_iff.mp hx).1
    omega
   have ei : ds[i]? = some ds[i] := List.getElem?_eq_getElem hi
   obtain ⟨x', ex', nx⟩ := hd.get ei
   rw [hx] at ex'
   cases ex'
   refine k ds[i] x C' H' (hQ i ds[i] ei fun j y ej => ?_) ((e1.trans x2).trans ex) (nx.mono ex.cc)
   obtain ⟨hj, rfl⟩ := List.getElem?_eq_some_iff.mp ej
   have hb2 : kf (ds.getD i D.non) ≤ kf (ds.getD j D.non) ∧ (j < i → kf (ds.getD i D.non) < kf (ds.getD j D.non)) := hb j (by omega)
   rw [aBv hi, aBv hj] at hb2
   exact hb2
 | _ => exact q.elim
end
noncomputable def mW : GS := (bI (o5 (eM (bP oNe (aE 3) (gC (.int 0)))) (bI (cA (bP aAF (aE 2) (aE 3)) (dH 4)) (bI (cA (aE 3) (dH 2)) (cA (aE 4) (dH 3))))) (cT (aE 2)))
noncomputable def mZ : GS := (bI (cA (bV aBU (aC (aE 1) aJ)) (dH 3)) mW)
noncomputable def iU : GS := (bI (cA (bV aBU (aC (aE 0) aJ)) (dH 2)) mZ)
noncomputable def qS : GS := (cT (bP oLt (bP oQ (bP gM (aE 0) (gC (.int 0))) (bP gM (aE 1) (gC (.int 1)))) (bP oQ (bP gM (aE 1) (gC (.int 0))) (bP gM (aE 0) (gC (.int 1))))))
noncomputable def wC : GS := (bI (gR (gIt (aE 0)) (dH 2) (bI (kM 3 (rM aJ)) (bI (gR (gIl (aE 1)) (dH 4) (gR (h8 (aE 2)) (dH 5) (aAu 3 (bP kA (aE 4) (fU (aC (aE 5) aJ)))))) (rQ 3 (cA (aE 3) (dH 1)))))) (cT (bV gJ (aC (aE 1) aJ))))
noncomputable def rK : GS := (bI (cA (gF (rM (aC (fU aJ) aJ))) (dH 1)) wC)
noncomputable def t6 : GS := (bI (gR (aG0 (aE 0) (aE 1)) (pE 3 4) (cA (bP kA (bP rR (aE 2) (aE 4)) (aE 3)) (dH 2))) (cT (aE 2)))
noncomputable def oX : GS := (bI (cA (gC (.int 0)) (dH 2)) t6)
noncomputable def nR : GS := (cT (bP kA (bP kA (aEN (aE 0) aBH (tN (aE 1))) (fU (aC (aE 2) aJ))) (aEN (aE 0) (tN (bP kA (aE 1) (gC (.int 1)))) aBH)))
noncomputable def pM : GS := (bI (gR (l3 (aE 1)) (pE 3 4) (cA (gF (zM (aE 2) (gF (dO [none, some 3, some 0] (h8 (aE 4)) (dH 0) (eM (bP oNe (aE 0) (bP gM (aE 2) (aE 1)))) (fU (aC (aE 1) (aC (aE 0) aJ))))))) (dH 2))) (cT (aE 2)))
noncomputable def lC : GS := (bI (cA (gF (rM aJ)) (dH 2)) pM)
noncomputable def nO : GS := (cT (fU (aC (aE 3) (aC (bP oQ (bP gM (aE 2) (gC (.int 1))) (bP gM (aE 1) (gC (.int 1)))) aJ))))
noncomputable def jH : GS := (bI (cA (bP kA (bP oQ (bP oQ (bP aD7 (bP gM (aE 2) (gC (.int 1))) (bP gM (aE 2) (gC (.int 0)))) (aE 0)) (bP gM (aE 1) (gC (.int 1)))) (bP oQ (bP gM (aE 2) (gC (.int 0))) (bP gM (aE 1) (gC (.int 0))))) (dH 3)) nO)
noncomputable def wF : GS := (bI (gR (gIl (aE 0)) (dH 4) (bI (cA (bP kA (bP oQ (aE 2) (bP gM (aE 1) (gC (.int 1)))) (bP oQ (aE 3) (aE 4))) (dH 2)) (cA (bP oQ (aE 3) (bP gM (aE 1) (gC (.int 0)))) (dH 3)))) (cT (aE 2)))
noncomputable def qU : GS := (bI (cA (gC (.int 0)) (dH 2)) (bI (cA (gC (.int 1)) (dH 3)) wF))
noncomputable def iV : GS := (cT (bV gJ (aC (gF (eF [none, some 1] (gIt (aE 0)) (dH 0) (bP gM (aE 0) (aE 1)))) aJ)))
noncomputable def nI : GS := (bI (j6 (eM (bP oLt (aE 1) (bV n4 (aC (aE 0) aJ)))) (cT (bP gM (aE 0) (aE 1))) fR) (cT (gC (.int 0))))
noncomputable def o8 : GS := (cT (bP aAF (bP aAF (bP rR (aE 0) (gC (.int 48271))) (aE 1)) (aE 2)))
noncomputable def r4 : GS := (bI (gR (gIt (aE 0)) (dH 2) (bI (kM 3 (rM aJ)) (bI (gR (gIl (aE 1)) (dH 4) (aET 3 (eF [none, some 4] (h8 (aE 2)) (dH 0) (bP kA (aE 1) (fU (aC (aE 0) aJ)))))) (rQ 3 (cA (aE 3) (dH 1)))))) (cT (aE 1)))
noncomputable def nF : GS := (bI (cA (gF (rM (aC (fU aJ) aJ))) (dH 1)) r4)
noncomputable def nT : GS := (cT (bP oGt (bP oQ (bP gM (aE 0) (gC (.int 0))) (bP gM (aE 1) (gC (.int 1)))) (bP oQ (bP gM (aE 1) (gC (.int 0))) (bP gM (aE 0) (gC (.int 1))))))
noncomputable def zG : GS := (cT (fU (aC (bP aFq (aE 0) (aE 3)) (aC (bP aFq (aE 1) (aE 3)) aJ))))
noncomputable def zH : GS := (bI (cA (bP oQ (aE 2) (aQ d8 (aC (aE 0) (aC (aE 1) aJ)))) (dH 3)) zG)
noncomputable def uB : GS := (bI (cA (bP aFq (aE 1) (bV aBU (aC (aE 1) aJ))) (dH 2)) zH)
noncomputable def pB : GS := (cT (aQ kU (aC (bP gM (aE 0) (gC (.int 0))) aJ)))
noncomputable def aBu : GS := (cT (bP gM (bP gM (aE 0) (gC (.int 1))) (aQ eC (aC (aE 1) (aC (bP gM (aE 0) (gC (.int 0))) aJ)))))
noncomputable def kG : GS := (cT (bP gM (bP gM (bP gM (aE 1) (aE 2)) (gC (.int 1))) (aQ eC (aC (aE 3) (aC (bP gM (aE 0) (gC (.int 0))) aJ)))))
noncomputable def kQ : GS := (rQ 3 (cT (fU (aC (aE 1) (aC (bV gJ (aC (aE 3) aJ)) aJ)))))
noncomputable def kS : GS := (bI (j6 (eM (bP oEq (bP aAF (aE 0) (gC (.int 9))) (gC (.int 0)))) (bI (cA (gF (vR xS (aC (gF (eF [none, some 0] (h8 (gC (.int 4))) (dH 0) (bP aD7 (aQ dN (aC (bP kA (aE 1) (aE 0)) (aC (gC (.int 9931)) (aC (gC (.int 19)) aJ)))) (gC (.int 9))))) aJ))) (dH 7)) (kM 3 (rM (aC (fU (aC (bP gM (aE 7) (gC (.int 2))) (aC (bP gM (aE 7) (gC (.int 2))) aJ))) (aC (fU (aC (bP gM (aE 7) (gC (.int 0))) (aC (bP gM (aE 7) (gC (.int 3))) aJ))) (aC (fU (aC (bP gM (aE 7) (gC (.int 3))) (aC (bP gM (aE 7) (gC (.int 0))) aJ))) (aC (fU (aC (bP gM (aE 7) (gC (.int 1))) (aC (bP gM (aE 7) (gC (.int 1))) aJ))) aJ))))))) fR) kQ)
noncomputable def oP : GS := (bI (gR (h8 (bV n4 (aC (aQ iM (aC (aE 1) aJ)) aJ))) (dH 4) (bI (cA (bP kA (aE 0) (bP rR (gC (.int 13)) (aE 4))) (dH 5)) (bI (kM 6 (eF [none, some 2, some 5] (h8 (bV n4 (aC (aE 1) aJ))) (dH 0) (bP aD7 (bP kA (aQ dN (aC (bP kA (aE 2) (bP rR (gC (.int 5)) (aE 0))) (aC (gC (.int 9941)) (aC (bP aD7 (bP rR (gC (.int 2)) (aE 1)) (gC (.int 1))) aJ)))) (gC (.int 1))) (aE 1)))) (rQ 6 (aAu 3 (bV gJ (aC (aE 6) aJ))))))) kS)
noncomputable def kT : GS := (bI (cA (bP gM (gF (rM (aC (gC (.int 2)) (aC (gC (.int 5)) (aC (gC (.int 10)) aJ))))) (aQ dN (aC (aE 0) (aC (gC (.int 9949)) (aC (gC (.int 3)) aJ))))) (dH 2)) (bI (kM 3 (rM aJ)) oP))
noncomputable def oG : GS := (bI (j6 (eM (bP oEq (bP aAF (aE 0) (gC (.int 3))) (gC (.int 0)))) (cA (fU (aC (gC (.int 2)) (aC (gC (.int 2)) aJ))) (dH 1)) fR) kT)
noncomputable def j9 : GS := (bI (cA (bV gJ (aC (gF (eF [none, some 0] (h8 (bP kA (gC (.int 2)) (bP aJo (aQ dN (aC (aE 0) (aC (gC (.int 9967)) (aC (gC (.int 4)) aJ)))) (gC (.int 3))))) (dH 0) (bP kA (gC (.int 1)) (aQ dN (aC (bP kA (aE 1) (bP rR (gC (.int 7)) (aE 0))) (aC (gC (.int 9973)) (aC (gC (.int 3)) aJ))))))) aJ)) (dH 1)) oG)
noncomputable def iD : GS := (bI (gR (aAT (gC (.int 2)) (gC (.int 30))) (dH 3) (o5 (aGo (eM (bP oEq (bP aAF (aE 2) (aE 3)) (gC (.int 0)))) (eM (bP oEq (bP aAF (aE 1) (aE 3)) (gC (.int 0))))) (bI (cA (bP aJo (aE 2) (aE 3)) (dH 2)) (cA (bP aJo (aE 1) (aE 3)) (dH 1))))) (cT (fU (aC (aE 2) (aC (aE 1) aJ)))))
noncomputable def nE : GS := (bI (j6 (eM (bP oEq (bP aAF (aE 0) (gC (.int 4))) (gC (.int 0)))) (cA (bP aD7 (aE 1) (gC (.int 1))) (dH 2)) fR) iD)
noncomputable def nK : GS := (bI (cA (bP kA (gC (.int 1)) (aQ dN (aC (aE 0) (aC (gC (.int 9923)) (aC (bP aD7 (aE 1) (gC (.int 1))) aJ))))) (dH 2)) nE)
noncomputable def jD : GS := (bI (cA (bP kA (gC (.int 2)) (aQ dN (aC (aE 0) (aC (gC (.int 9929)) (aC (gC (.int 29)) aJ))))) (dH 1)) nK)
noncomputable def kJ : GS := (cT (gF (eF [none, some 1, some 0, some 2] (h8 (bP gM (bP gM (aE 0) (gC (.int 0))) (aE 1))) (dH 0) (bP gM (aQ fW (aC (aE 2) (aC (aQ cR (aC (aE 3) (aC (aE 1) (aC (aE 0) aJ)))) aJ))) (aE 1)))))
noncomputable def l9 : GS := (cT (bV aLD (aC (gF (dO [none, some 1, some 0, some 2] (gIt (aQ cQ (aC (aE 0) aJ))) (dH 0) (eM (bP oEq (bP gM (aE 0) (aE 1)) (aE 3))) (bP gM (aQ fW (aC (aE 2) (aC (aE 0) aJ))) (aE 1)))) aJ)))
noncomputable def rD : GS := (cT (gF (eF [none, some 2, some 0] (gIs (aE 1)) (dH 0) (bP gM (aQ fW (aC (aE 2) (aC (aE 0) aJ))) (aE 1)))))
noncomputable def nM : GS := (cT (aQ lK (aC (bP gM (aE 3) (gC (.int 0))) (aC (bP gM (aE 3) (gC (.int 1))) aJ))))
noncomputable def nD : GS := (bI (gR (aKK (aE 0)) (dH 4) (cA (aQ bU (aC (aE 4) (aC (aE 3) (aC (aE 2) aJ)))) (dH 3))) nM)
noncomputable def jC : GS := (bI (cA (fU (aC (aQ gQ (aC (aE 1) (aC (aE 2) aJ))) (aC (aQ gQ (aC (gF (aHG (rM (aC (gC (.int 1)) aJ)) (bV n4 (aC (aE 1) aJ)))) (aC (aE 2) aJ))) aJ))) (dH 3)) nD)
noncomputable def r6 : GS := (rQ 4 (cT (fU (aC (aE 1) (aC (bV gJ (aC (aE 4) aJ)) aJ)))))
noncomputable def rZ : GS := (bI (gR (gIt (aQ cQ (aC (aE 0) aJ))) (dH 5) (bI (kM 6 (dO [none, none, some 5] (l3 (aE 1)) (pE 0 1) (eM (bP oNe (bP gM (aE 2) (aE 0)) (aE 1))) (aE 0))) (rQ 6 (aAu 4 (aGm (eM (bP oEq (bV n4 (aC (aE 6) aJ)) (gC (.int 1)))) (bP kA (aE 3) (bP gM (aE 6) (gC (.int 0)))) (aE 2)))))) r6)
noncomputable def nG : GS := (bI (kM 4 (rM aJ)) rZ)
noncomputable def iF : GS := (cT (bV gJ (aC (gF (eF [none, none, some 0] (l3 (aE 1)) (pE 0 1) (bP gM (aQ fW (aC (aE 2) (aC (aE 1) aJ))) (aE 0)))) aJ)))
noncomputable def lS : GS := (bI (gR (gIl (aQ cU (aC (aE 1) (aC (bP gM (aE 0) (gC (.int 0))) aJ)))) (pE 5 6) (bI (cA (bP gM (aQ fW (aC (aE 0) (aC (aQ cR (aC (aE 1) (aC (aE 5) (aC (aE 6) aJ)))) aJ))) (aE 5)) (dH 7)) (j6 (o4 (aQ iA (aC (fU (aC (bP gM (aE 4) (aE 5)) (aC (gC (.int 1)) aJ))) (aC (aQ bU (aC (aE 7) (aC (fU (aC (bP gM (aE 2) (aE 5)) (aC (gC (.int 1)) aJ))) (aC (aE 3) aJ)))) aJ)))) (cT (fU (aC (aE 5) (aC (aE 6) aJ)))) fR))) (cT (gC .non)))
noncomputable def hJ : GS := (bI (cA (aQ fW (aC (aE 0) (aC (aE 1) aJ))) (dH 4)) lS)
noncomputable def pL : GS := (bI (gR (h8 (bP gM (bP gM (aE 0) (gC (.int 0))) (aE 3))) (dH 9) (bI (cA (aQ cR (aC (aE 6) (aC (aE 3) (aC (aE 9) aJ)))) (dH 10)) (bI (cA (bP gM (aE 4) (aQ cY (aC (aE 0) (aC (aE 1) (aC (aE 2) (aC (aE 10) aJ)))))) (dH 11)) (bI (cA (aQ bU (aC (bP gM (aQ fW (aC (aE 0) (aC (aE 10) aJ))) (aE 3)) (aC (aE 11) (aC (aE 5) aJ)))) (dH 12)) (j6 (o4 (aQ iA (aC (aE 8) (aC (aE 12) aJ)))) (bI (cA (aE 9) (dH 7)) (cA (aE 12) (dH 8))) fR))))) (cT (aE 7)))
noncomputable def pK : GS := (bI (cA (bP gM (aE 4) (aE 2)) (dH 8)) pL)
noncomputable def pN : GS := (bI (cA (bP gM (aE 6) (aE 3)) (dH 7)) pK)
noncomputable def lI : GS := (bI (cA (bP gM (bP gM (aE 1) (aE 2)) (gC (.int 0))) (dH 6)) pN)
noncomputable def qI : GS := (cT (bV gJ (aC (gF (dO [none, none, some 4] (vM (aE 3)) (pE 0 1) (eM (bP oEq (aE 1) (aE 2))) (aE 0))) aJ)))
noncomputable def qM : GS := (bI (cA (bV aJD (aC (aE 3) aJ)) (dH 4)) qI)
noncomputable def l8 : GS := (bI (cA (aQ cX (aC (aE 0) (aC (aE 1) (aC (aE 2) aJ)))) (dH 3)) qM)
noncomputable def qY : GS := (cT (bV aLD (aC (gF (eF [none, some 0, some 1] (gIt (aQ cQ (aC (aE 0) aJ))) (dH 0) (bV aJD (aC (aQ cX (aC (aE 1) (aC (aE 2) (aC (aE 0) aJ)))) aJ)))) aJ)))
noncomputable def aCk : GS := (cT (bV aJD (aC (gF (eF [none, some 0, some 1] (h8 (bP gM (bP gM (aE 0) (gC (.int 0))) (aE 1))) (dH 0) (aQ eZ (aC (aE 1) (aC (aE 2) (aC (aE 0) aJ)))))) aJ)))
noncomputable def uC : GS := (bI (gR (h8 (bV n4 (aC (bP gM (aE 0) (gC (.int 0))) aJ))) (dH 5) (bI (cA (aQ iS (aC (aE 0) (aC (aE 1) (aC (aE 5) aJ)))) (dH 6)) (bI (cA (aQ iS (aC (aE 0) (aC (aE 2) (aC (aE 5) aJ)))) (dH 7)) (aAu 4 (aQ cE (aC (aE 6) (aC (aE 7) (aC (aE 3) aJ)))))))) (rQ 4 (cT (bV gJ (aC (aE 4) aJ)))))
noncomputable def pF : GS := (bI (kM 4 (rM aJ)) uC)
noncomputable def oK : GS := (rQ 5 (cT (bV gJ (aC (gF (zM (aE 4) (aE 5))) aJ))))
noncomputable def oO : GS := (rQ 4 (bI (kM 5 (eF [none, none, some 0, some 3] (l3 (aE 2)) (pE 0 1) (aQ fY (aC (aE 2) (aC (aE 1) (aC (bP kA (aE 3) (aE 0)) (aC (aE 3) aJ))))))) oK))
noncomputable def oF : GS := (bI (kM 4 (eF [none, none, some 0, some 3] (l3 (aE 1)) (pE 0 1) (aQ fY (aC (aE 2) (aC (aE 1) (aC (bP aAF (bP kA (aE 0) (gC (.int 1))) (aE 3)) (aC (aE 3) aJ))))))) oO)
noncomputable def kI : GS := (bI (cA (bV n4 (aC (aE 1) aJ)) (dH 3)) oF)
noncomputable def kF : GS := (cT (bV gJ (aC (gF (eF [none, some 0, some 1, some 2, some 3, some 4] (h8 (bV n4 (aC (aE 1) aJ))) (dH 0) (aQ fG (aC (aE 1) (aC (aE 2) (aC (aE 0) (aC (aE 3) (aC (aE 4) (aC (aE 5) aJ))))))))) aJ)))
noncomputable def rE : GS := (cT (bV aD3 (aC (gF (eF [none, none, some 0, some 1] (l3 (aE 1)) (pE 0 1) (bP oIn (aE 1) (aQ f9 (aC (aE 2) (aC (aE 0) (aC (aE 3) aJ))))))) aJ)))
noncomputable def l5 : GS := (rQ 6 (cT (aQ iR (aC (aE 0) (aC (gF (aJx (aE 6) aBH (tN (aDt 4 (gKI (aE 5)))))) (aC (gF (aJx (aE 6) (tN (aDt 4 (gKI (aE 5)))) aBH)) (aC (aE 3) aJ)))))))
noncomputable def l4 : GS := (aE9 4 (bI (kM 6 (eF [none, some 1] (aBp 4) (dH 0) (bP gM (bP gM (aE 1) (aE 0)) (gC (.int 0))))) l5))
noncomputable def l6 : GS := (bI (o5 (xT 4 (gKI (aE 5))) (bI (aFR 4 (gKI (aE 5)) (aFL 4)) (cA (aQ cY (aC (aE 0) (aC (aE 1) (aC (aE 5) (aC (bP gM (bP gM (aE 1) (aE 5)) (gC (.int 0))) aJ))))) (dH 5)))) l4)
noncomputable def k7 : GS := (bI (aH6 4 (.k [])) (bI (cA (aE 2) (dH 5)) l6))
noncomputable def uM : GS := (cT (aQ dR (aC (aE 0) (aC (fU (aC (aE 1) aJ)) (aC (aE 2) aJ)))))
noncomputable def lE : GS := (cT (aBJ [none, some 2, some 0] (aE 1) (bP gM (aQ fW (aC (aE 2) (aC (aE 0) aJ))) (aE 1))))
noncomputable def aBM : GS := (cT (bV gJ (aC (gF (dO [none, some 0] (gIt (aQ cQ (aC (aE 0) aJ))) (dH 0) (o4 (aQ jV (aC (aE 1) (aC (aE 0) aJ)))) (aE 0))) aJ)))
noncomputable def t7 : GS := (cT (bV gJ (aC (gF (eF [none, some 0, some 1, some 2] (h8 (bV n4 (aC (aE 1) aJ))) (dH 0) (aQ fB (aC (aE 1) (aC (aE 2) (aC (aE 0) (aC (aE 3) aJ))))))) aJ)))
noncomputable def jG : GS := (cT (bV gJ (aC (gF (eF [none, some 0, some 1] (h8 (bV n4 (aC (bP gM (aE 0) (gC (.int 0))) aJ))) (dH 0) (aQ fE (aC (aE 1) (aC (aE 2) (aC (aE 0) aJ)))))) aJ)))
noncomputable def nN : GS := (cT (bV gJ (aC (gF (dO [none, some 0, some 3, some 2] (gIt (aE 1)) (dH 0) (eM (bP aBl (aQ cI (aC (aE 1) (aC (aE 0) (aC (aE 2) (aC (aE 3) aJ))))) (gC .non))) (aE 0))) aJ)))
noncomputable def nV : GS := (bI (cA (aQ bW (aC (aE 0) (aC (aQ cJ (aC (aE 0) (aC (aE 1) aJ))) aJ))) (dH 3)) nN)
noncomputable def jJ : GS := (bI (j6 (eM (bP oEq (aE 1) (fU aJ))) (cT (fU aJ)) fR) nV)
noncomputable def aCT : GS := (bI (gR (h8 (bV n4 (aC (bP gM (aE 0) (gC (.int 0))) aJ))) (dH 4) (bI (cA (aQ eJ (aC (aE 0) (aC (aE 1) (aC (aE 4) (aC (aQ cO (aC (aE 3) (aC (aE 4) aJ))) (aC (aE 2) aJ)))))) (dH 5)) (gR (l3 (aE 5)) (pE 6 7) (j6 (eM (bP oNe (aE 7) (bP gM (bP gM (bP gM (aE 1) (aE 6)) (gC (.int 0))) (aE 4)))) (cT (fU (aC (aE 6) (aC (aE 4) (aC (aE 7) aJ))))) fR)))) (cT (gC .non)))
noncomputable def aCt : GS := (bI (cA (aQ lR (aC (aE 0) (aC (aE 1) (aC (aE 2) aJ)))) (dH 3)) aCT)
noncomputable def aDl : GS := (bI (o5 (eM (bP oNe (aE 3) (aE 2))) (bI (cA (aE 3) (dH 2)) (cA (aQ dC (aC (aE 0) (aC (aE 2) (aC (aE 1) aJ)))) (dH 3)))) (cT (aE 2)))
noncomputable def aCL : GS := (bI (cA (aQ dC (aC (aE 0) (aC (aE 2) (aC (aE 1) aJ)))) (dH 3)) aDl)
noncomputable def aBs : GS := (bI (cA (aQ cQ (aC (aE 0) aJ)) (dH 2)) aCL)
noncomputable def yB : GS := (cT (bP aBl (oC pU (aC (aE 0) (aC (aE 1) (aC (aE 2) aJ)))) (gC .non)))
noncomputable def wG : GX := (aA2 (cT (aQ cJ (aC (aE 0) (aC (aE 2) aJ)))))
noncomputable def v6 : GX := (aFS (aKP (eM (bP oEq (aE 2) (fU aJ))) (aEv "NoPact" (aC (gC (.str (PySem.Str.ofString "no row is kept"))) aJ)) (aA2 fR)) wG)
noncomputable def rJ : GX := (aFS (aA2 (cA (aQ jP (aC (aE 0) (aC (aE 1) aJ))) (dH 2))) v6)
noncomputable def uF : GX := (aIj (aB8 bW (aBX (aEi (aE 0)) (aBX (yI i5 (aC (aE 0) (aC (aE 1) aJ))) aH1))))
noncomputable def pQ : GS := (bI (aKX 3 (fun c => c = "NoPact") (aHj (yI m7 (aC (aE 0) (aC (aE 1) aJ))) (dH 2)) (cA (gC .non) (dH 2))) (cT (aE 2)))
noncomputable def lH : GS := (bI (cA (gC .non) (dH 2)) pQ)
noncomputable def tF : GS := (j6 (aGM (o4 (aQ nJ (aC (aE 2) (aC (aQ lN (aC (aE 2) (aC (aE 11) (aC (aE 10) aJ)))) (aC (aE 4) aJ)))))) (cT (gC (.bl false))) fR)
noncomputable def yR : GS := (j6 (gOr (eM (bP oLt (bP gM (aE 7) (aE 8)) (aQ jZ (aC (aE 2) (aC (aE 8) aJ))))) (eM (bP oLt (bP gM (aE 7) (aE 8)) (aQ pX (aC (aE 2) (aC (aE 8) aJ)))))) (cT (gC (.bl false))) fR)
noncomputable def aDw : GS := (bI (cA (oC eG (aC (aQ dG (aC (aE 0) (aC (bP rR (gC (.int 3)) (aE 1)) aJ))) aJ)) (dH 2)) (bI (cA (aQ cK (aC (aQ dG (aC (aE 0) (aC (bP kA (bP rR (gC (.int 3)) (aE 1)) (gC (.int 1))) aJ))) aJ)) (dH 3)) (bI (cA (aQ cK (aC (aQ dG (aC (aE 0) (aC (bP kA (bP rR (gC (.int 3)) (aE 1)) (gC (.int 2))) aJ))) aJ)) (dH 4)) (bI (j6 (o4 (aQ fA (aC (aE 3) (aC (aE 4) aJ)))) (aD0 3 4 (aE 4) (aE 3)) fR) (bI (cA (aQ jP (aC (aE 2) (aC (aE 3) aJ))) (dH 5)) (bI (cA (aQ jP (aC (aE 2) (aC (aE 4) aJ))) (dH 6)) (bI (j6 (o4 (gF (dO [none, some 6] (gIt (aE 5)) (dH 0) (eM (bP qH (aE 0) (aE 1))) (aE 0)))) (cT (gC (.bl false))) fR) (bI (j6 (o4 (gF (dO [none, some 5] (gIt (aQ pG (aC (aE 2) aJ))) (dH 0) (eM (bP qH (aE 0) (aE 1))) (aE 0)))) (cT (gC (.bl false))) fR) (bI (cA (aQ dM (aC (aE 2) (aC (aE 4) aJ))) (dH 7)) (bI (j6 (eM (bP oNe (bP aBl (aE 7) (gC .non)) (yD (aE 6)))) (cT (gC (.bl false))) fR) (j6 (eM (bP t5 (aE 7) (gC .non))) (bI (gR (h8 (bV n4 (aC (bP gM (aE 2) (gC (.int 0))) aJ))) (dH 8) yR) (bI (j6 (o4 (aE 5)) (bI (cA (aQ dM (aC (aE 2) (aC (aE 3) aJ))) (dH 9)) (j6 (o4 (gF (dO [none, some 7, some 9] (h8 (bV n4 (aC (aE 7) aJ))) (dH 0) (eM (bP oGt (bP gM (aE 1) (aE 0)) (bP gM (aE 2) (aE 0)))) (aE 0)))) (cT (gC (.bl false))) fR)) fR) (bI (cA (oC nU (aC (aE 2) (aC (aE 4) aJ))) (dH 10)) (gR (gIt (aE 6)) (dH 11) tF)))) fR)))))))))))
noncomputable def aFz : GS := (bI (gR (h8 (gC (.int 3))) (dH 1) aDw) (cT (gC (.bl true))))
theorem bX {n : Nat} (h : n ≤ 1000) : n ≤ sizeLine := Nat.le_of_lt (mG h)
theorem rA (d : D) : aFj (tyD d) "int" = (match d with
 | .int _ => true
 | .bl _ => true
 | _ => false) := by cases d <;> rfl
theorem o9 (d : D) : aFj (tyD d) "bool" = (match d with
 | .bl _ => true
 | _ => false) := by cases d <;> rfl
theorem nH (d : D) : aFj (tyD d) "tuple" = (match d with
 | .tup _ => true
 | _ => false) := by cases d <;> rfl
theorem aKk {i j : Int} {Q : D → Prop} : rR (.int i) (.int j) Q = (aGO i j ∧ Q (.int (i * j))) := rfl
end L2
local macro_rules | `(tactic| simp_all_arith! [$x:term]) => do
 let i : Lean.TSyntax `ident := ⟨x.raw⟩
 `(tactic| (intro ds d h; unfold $i:ident at h; split at h; all_goals first | rfl | cases h))
local macro_rules | `(tactic| simp_all_arith!) => `(tactic| exact ⟨rfl, rfl, rfl, by decide +kernel, rfl, by decide +kernel, by decide +kernel⟩)
local macro_rules | `(tactic| simp_arith! only [$as,*]) => `(tactic| simp only [L2.cT, L2.aFJ, L2.aIZ, L2.aFN, L2.aFs, L2.rA, L2.o9, L2.nH, L2.aE, L2.bI, L2.cA, L2.dH, L2.gC, L2.gF, L2.rM, L2.aC, L2.aJ, L2.fU, L2.bV, L2.vR, L2.aQ, L2.oC, L2.zS, L2.aCJ, L2.n4, L2.aBU, L2.aD3, L2.gJ, L2.aFt, L2.bP, L2.aBL, L2.t9, L2.kA, L2.aKk, L2.oNe, L2.oEq, L2.oIs, L2.aBA, L2.x9, L2.rY, L2.gM, L2.aCp, L2.x6, L2.eM, L2.xI, L2.j6, L2.gIt, L2.gIl, L2.h8, L2.aAT, L2.aAu, L2.aET, L2.rQ, L2.kM, L2.fR, L2.o4, L2.aGM, L2.aGo, L2.gOr, L2.tN, L2.aBH, L2.aEN, L2.zM, L2.aJ3, L2.pE, L2.aG0, L2.yD, L2.aHN, L2.aE6, L2.aBV, L2.aBw, L2.l3, L2.vM, L2.aJb, L2.aD0, L2.aGm, eq_self, if_true, ↓reduceIte, Bool.false_eq_true, if_false, List.getElem?_cons_zero, List.getElem?_cons_succ, List.set_cons_zero, List.set_cons_succ, $as,*])
local macro_rules | `(tactic| simp_arith only [$as,*]) => `(tactic| simp only [L2.cT, L2.aFJ, L2.aIZ, L2.aFN, L2.aFs, L2.rA, L2.o9, L2.nH, L2.aE, L2.bI, L2.cA, L2.dH, L2.gC, L2.gF, L2.rM, L2.aC, L2.aJ, L2.fU, L2.bV, L2.vR, L2.aQ, L2.oC, L2.zS, L2.aCJ, L2.n4, L2.aBU, L2.aD3, L2.gJ, L2.aFt, L2.bP, L2.aBL, L2.t9, L2.kA, L2.rR, L2.oNe, L2.oEq, L2.oIs, L2.aBA, L2.oA, L2.rY, L2.gM, L2.aCp, L2.x6, L2.eM, L2.xI, L2.j6, L2.gIt, L2.gIl, L2.h8, L2.aAT, L2.aAu, L2.aET, L2.rQ, L2.kM, L2.fR, L2.o4, L2.aGM, L2.aGo, L2.gOr, L2.tN, L2.aBH, L2.aEN, L2.zM, L2.aJ3, L2.pE, L2.aG0, L2.yD, L2.aHN, L2.aE6, L2.aBV, L2.aBw, L2.l3, L2.vM, L2.aJb, L2.aD0, L2.aGm, eq_self, if_true, ↓reduceIte, Bool.false_eq_true, if_false, List.getElem?_cons_zero, List.getElem?_cons_succ, List.set_cons_zero, List.set_cons_succ, $as,*])
namespace L2
open PySem PySem.Spec PyProof.Rows
abbrev gD (d : D) : DEnds := { nx := fun _ => d = .non, rt := fun r => r = d }
theorem uP (R : List (List Int)) (n : Int) (j : Nat) (h : j < R.length) : dB (R.take (j + 1)) n = dB (R.take j) n ++ (List.range n.toNat).map fun (k : Nat) => R[j] ++ [(k : Int)] := by
 rw [List.take_succ, List.getElem?_eq_getElem h, Option.toList_some, yF, aDe]
theorem zU (ns : List Int) (i : Nat) (h : i < ns.length) : aN (ns.take (i + 1)) = dB (aN (ns.take i)) ns[i] := by
 rw [List.take_succ, List.getElem?_eq_getElem h, Option.toList_some, mO]
theorem cW {α β : Type} {f : α → β} {l : List α} {i : Nat} {d : β} (e : (l.map f)[i]? = some d) : ∃ h : i < l.length, d = f l[i] := by
 rw [List.getElem?_map] at e
 cases e2 : l[i]? with
 | none => rw [e2] at e; cases e
 | some x =>
  rw [e2] at e
  obtain ⟨h, e3⟩ := List.getElem?_eq_some_iff.mp e2
  cases e
  exact ⟨h, by rw [e3]⟩
theorem aAL {ns : List Int} (ho : dZ ns = true) {i : Nat} (hi : i < ns.length) : 1 ≤ ns[i] ∧ ns[i] ≤ 3 ∧ (aN (ns.take i)).length ≤ 27 ∧ ∀ r ∈ aN (ns.take i), r.length ≤ 3 := by
 obtain ⟨m1, m2⟩ := cC ho
 have h1 := m2 ns[i] (List.getElem_mem hi)
 refine ⟨h1.1, h1.2, (fN (tG ho i)).2, fun r hr => ?_⟩
 rw [(uD hr).1, List.length_take]
 omega
abbrev aGz (p : D → Prop) : DEnds := { nx := fun _ => p .non, rt := p }
theorem sQ {c p m : Int} (h : 0 < m) : 0 ≤ pR c p m := Int.emod_nonneg _ (by omega)
theorem sX {c p m : Int} (h : 0 < m) : pR c p m < m := Int.emod_lt_of_pos _ h
theorem aEM {c p m : Int} (hp : 0 < p) (hm : 0 < m) : dN [.int c, .int p, .int m] = some (.int (pR c p m)) := if_pos ⟨hp, hm⟩
theorem okD {ns : List Int} (h1 : ns.length ≤ 3) (h2 : ∀ n ∈ ns, 1 ≤ n ∧ n ≤ 3) : dZ ns = true := by
 unfold dZ
 rw [Bool.and_eq_true, decide_eq_true_eq, List.all_eq_true]
 exact ⟨h1, fun n hn => by simpa using h2 n hn⟩
abbrev aHZ (c : Int) : D → Prop := fun d => ∃ ns pay, d = aY ns pay ∧ aX ns pay ∧ (c % 3 = 0 → ns = [2, 2])
theorem hZ (a : Int) (n : Nat) : (b9 a n).length = n := by simp [b9]
theorem aMq {ns : List Int} (ho : dZ ns = true) : iM [aF ns] = some (.lst ((aN ns).map aF)) := o6 _ ho
theorem aKC (q : Rat) : ((q.den : Int) : Rat) ≠ 0 := by
 intro z
 have z2 : ((q.den : Int) : Rat) = ((0 : Int) : Rat) := z
 rw [Rat.intCast_inj] at z2
 have := q.den_nz
 omega
theorem aIP (r : List Int) (h : Nat) (k : Int) (hh : h < r.length) : r.take h ++ [k] ++ r.drop (h + 1) = r.set h k := by
 rw [List.set_eq_take_append_cons_drop, if_pos hh]
 simp
theorem aKd (r : List Int) (h : Nat) (hh : h < r.length) : rO (r.map D.int) none (some (h : Int)) = (r.take h).map D.int := by
 unfold rO
 rw [HT.sIx_none, HT.sIx_nat, List.length_map, Nat.min_eq_left (by omega), List.drop_zero, List.map_take]
 rfl
theorem aGU (r : List Int) (h : Nat) (hh : h ≤ r.length) : rO (r.map D.int) (some (h : Int)) none = (r.drop h).map D.int := by
 unfold rO
 rw [HT.sIx_none, HT.sIx_nat, List.length_map, Nat.min_eq_left hh, List.map_drop]
 refine List.take_of_length_le ?_
 rw [List.length_drop, List.length_map]
 omega
theorem aBy : ∀ ds d, dG ds = some d → nI (gD d) (bD ["_law_script", "_law_k"] ds)
 | [.lst xs, .int k], d, h => by
  have h : (match g6 xs with
   | some ns => if 0 ≤ k then some (D.int (ns.getD k.toNat 0)) else none
   | none => none) = some d := h
  split at h
  ·rename_i ns e
   split at h
   ·rename_i hk
    cases h
    rw [jF e]
    show nI _ [.im (.lst (ns.map D.int)), .im (.int k)]
    simp_arith only [nI, List.getElem?_cons_zero, List.getElem?_cons_succ, List.length_map]
    by_cases hl : k < (ns.length : Int)
    ·have hl' : k.toNat < ns.length := by omega
     simp [hl, iC, ixN, hk, hl']
    ·have hl' : ns.length ≤ k.toNat := by omega
     simp [hl, hl']
   ·cases h
  ·cases h
theorem aCA : ∀ ds d, dN ds = some d → o8 (gD d) (bD ["_law_cell_here", "_law_prime", "_law_many"] ds)
 | [.int c, .int p, .int m], d, h => by
  have h : (if 0 < p ∧ 0 < m then some (D.int (pR c p m)) else none) = some d := h
  split at h
  ·rename_i hp
   cases h
   show o8 _ [.im (.int c), .im (.int p), .im (.int m)]
   simp_arith only [o8, List.getElem?_cons_zero, List.getElem?_cons_succ, pR]
   exact ⟨Or.inr ⟨by decide, by decide⟩, hp.1, hp.2, trivial⟩
  ·cases h
theorem aBP : ∀ ds d, iM ds = some d → nF (gD d) (bD ["_law_deeds", "_law_found", "_law_many", "_law_more_here", "_law_row"] ds)
 | [.tup es], d, h => by
  obtain ⟨ns, rfl, ho, rfl⟩ := sN (show k9 es (fun ns => D.lst ((aN ns).map aF)) = some d from h)
  show nF _ [.im (.tup (ns.map D.int)), .un, .un, .un, .un]
  simp_arith only [nF, r4, gR]
  refine ⟨by decide, by decide, fun i δ => ∃ a b c, δ = [.im (.tup (ns.map D.int)), .im (.lst ((aN (ns.take i)).map aF)), a, b, c], ⟨.un, .un, .un, rfl⟩, ?_, ?_⟩
  ·rintro i d δ ed ⟨a, b, c, rfl⟩
   obtain ⟨hi, rfl⟩ := cW ed
   obtain ⟨f1, f2, f3, f4⟩ := aAL ho hi
   generalize hR : aN (ns.take i) = R at *
   generalize hn : ns[i] = n at *
   simp_arith only []
   refine ⟨by decide, fun j δ => ∃ c, δ = [.im (.tup (ns.map D.int)), .im (.lst (R.map aF)), .im (.int n), .ow ((dB (R.take j) n).map aF), c], ⟨c, rfl⟩, ?_, ?_⟩
   ·rintro j d δ ed ⟨c, rfl⟩
    obtain ⟨hj, rfl⟩ := cW ed
    have fr := f4 R[j] (List.getElem_mem hj)
    have hl : (dB (R.take j) n).length ≤ 81 := by
     rw [mX, List.length_take]
     exact Nat.le_trans (Nat.mul_le_mul (Nat.le_trans (Nat.min_le_right _ _) f3) (show n.toNat ≤ 3 by omega)) (by decide)
    simp_arith only [eF]
    refine ⟨by omega, ?_, fun d => match d with
     | .int k => aF (R[j] ++ [k])
     | _ => .non, fun d hd => ?_, ?_, ?_⟩
    ·unfold b9
     rw [List.length_map, List.length_range]
     exact bX (by omega)
    ·unfold b9 at hd
     obtain ⟨k, hk, rfl⟩ := List.mem_map.mp hd
     simp_arith only [δc, List.map_cons, List.map_nil, aF, List.length_cons, List.length_nil, List.length_map]
     exact ⟨by decide, bX (by omega), by rw [List.map_append]; rfl⟩
    ·unfold b9
     simp only [List.length_map, List.length_range]
     exact bX (by omega)
    ·refine ⟨.im (aF R[j]), ?_⟩
     rw [uP R n j hj, List.map_append, List.map_map]
     simp [b9, Function.comp_def]
   ·rintro δ ⟨c, rfl⟩
    simp_arith only []
    rw [zU ns i hi, hR, hn, List.length_map, List.take_length]
    exact ⟨_, _, _, rfl⟩
  ·rintro δ ⟨a, b, c, rfl⟩
   simp_arith only []
   rw [List.length_map, List.take_length]
theorem aHD (c : Int) (ns : List Int) (hns : ns.length ≤ 3) (h2 : 2 ≤ ns.length) (ho : dZ ns = true) (h3 : c % 3 = 0 → ns = [2, 2]) (w : Sl) (pay : List (List Int)) (hp : aX ns pay) (a b d e : Sl) :
  kS (aGz (aHZ c)) [.im (.int c), .im (aF ns), w, .ow (pay.map aF), a, b, d, e] := by
 obtain ⟨l1, l2⟩ := fN ho
 have fin : ∀ (pay : List (List Int)) (a b d e : Sl), aX ns pay → kQ (aGz (aHZ c)) [.im (.int c), .im (aF ns), w, .ow (pay.map aF), a, b, d, e] := by
  intro pay a b d e hp
  simp_arith only [kQ, List.length_cons, List.length_nil]
  exact ⟨by decide, ns, pay, rfl, hp, h3⟩
 simp_arith only [kS]
 refine ⟨by decide, by decide, ?_⟩
 by_cases e9 : c % 9 = 0
 ·have e9' : (c % 9 == 0) = true := by simpa using e9
  simp_arith only [e9', eF]
  have e3 : ns = [2, 2] := h3 (by omega)
  refine ⟨by decide, by decide, fun x => match x with
   | .int k => .int (pR (c + k) 9931 19 - 9)
   | _ => .non, fun x hx => ?_, ?_⟩
  ·unfold b9 at hx
   obtain ⟨k, hk, rfl⟩ := List.mem_map.mp hx
   simp_arith only [δc, List.map_cons, List.map_nil, aEM (show (0 : Int) < 9931 by decide) (show (0 : Int) < 19 by decide)]
  ·have em : (b9 0 (4 : Int).toNat).map (fun x => match x with
     | .int k => D.int (pR (c + k) 9931 19 - 9)
     | _ => .non) = ((List.range 4).map fun (k : Nat) => pR (c + (0 + (k : Int))) 9931 19 - 9).map D.int := by
    simp [b9, Function.comp_def]
   rw [em]
   simp only [xS, eW]
   refine ⟨by simp, fun ms hpm hso => ?_⟩
   have hlen : ms.length = 4 := by rw [hpm.length_eq]; simp
   have hb : ∀ x ∈ ms, -9 ≤ x ∧ x ≤ 9 := by
    intro x hx
    have hx' := hpm.mem_iff.mp hx
    obtain ⟨k, hk, rfl⟩ := List.mem_map.mp hx'
    have := sQ (c := c + (0 + (k : Int))) (p := 9931) (show (0 : Int) < 19 by decide)
    have := sX (c := c + (0 + (k : Int))) (p := 9931) (show (0 : Int) < 19 by decide)
    omega
   match ms, hlen, hb with
   | [m0, m1, m2, m3], _, hb =>
    have i0 : iC ([m0, m1, m2, m3].map D.int) 0 = some (.int m0) := rfl
    have i1 : iC ([m0, m1, m2, m3].map D.int) 1 = some (.int m1) := rfl
    have i2 : iC ([m0, m1, m2, m3].map D.int) 2 = some (.int m2) := rfl
    have i3 : iC ([m0, m1, m2, m3].map D.int) 3 = some (.int m3) := rfl
    simp_arith only [i0, i1, i2, i3, List.length_cons, List.length_nil]
    refine ⟨by decide, by decide, by decide, by decide, by decide, ?_⟩
    have b0 := hb m0 (by simp)
    have b1 := hb m1 (by simp)
    have b2 := hb m2 (by simp)
    have b3 := hb m3 (by simp)
    refine fin [[m2, m2], [m0, m3], [m3, m0], [m1, m1]] _ _ _ _ ⟨h2, ho, ?_, ?_⟩
    ·rw [e3]; rfl
    ·intro r hr
     rw [e3]
     simp only [List.mem_cons, List.not_mem_nil, or_false] at hr
     rcases hr with rfl | rfl | rfl | rfl <;> refine ⟨rfl, fun x hx => ?_⟩ <;> simp only [List.mem_cons, List.not_mem_nil, or_false] at hx <;> rcases hx with rfl | rfl <;> assumption
 ·have e9' : (c % 9 == 0) = false := by simpa using e9
  simp_arith only [e9']
  exact fin pay a b d e hp
theorem aBg (c : Int) (ns : List Int) (hns : ns.length ≤ 3) (h2 : 2 ≤ ns.length) (ho : dZ ns = true) (h3 : c % 3 = 0 → ns = [2, 2]) :
  kT (aGz (aHZ c)) [.im (.int c), .im (aF ns), .un, .un, .un, .un, .un, .un] := by
 obtain ⟨l1, l2⟩ := fN ho
 have w0 := sQ (c := c) (p := 9949) (show (0 : Int) < 3 by decide)
 have w1 := sX (c := c) (p := 9949) (show (0 : Int) < 3 by decide)
 have hw : ∃ wd : Int, iC [D.int 2, .int 5, .int 10] (pR c 9949 3) = some (.int wd) ∧ 2 ≤ wd ∧ wd ≤ 10 := by
  have : pR c 9949 3 = 0 ∨ pR c 9949 3 = 1 ∨ pR c 9949 3 = 2 := by omega
  rcases this with e | e | e <;> rw [e]
  ·exact ⟨2, rfl, by decide, by decide⟩
  ·exact ⟨5, rfl, by decide, by decide⟩
  ·exact ⟨10, rfl, by decide, by decide⟩
 obtain ⟨wd, ew, wd1, wd2⟩ := hw
 simp_arith only [kT, oP, aEM (show (0 : Int) < 9949 by decide) (show (0 : Int) < 3 by decide), ew, aMq ho, gR, List.length_cons, List.length_nil]
 refine ⟨by decide, by decide, ⟨by omega, by rw [List.length_map]; omega⟩, fun i δ => ∃ a b d e, ∃ pay : List (List Int), δ = [.im (.int c), .im (aF ns), .im (.int wd), .ow (pay.map aF), a, b, d, e] ∧ pay.length = i ∧ i ≤ (aN ns).length ∧ ∀ r ∈ pay, r.length = ns.length ∧ ∀ x ∈ r, -9 ≤ x ∧ x ≤ 9, ⟨.un, .un, .un, .un, [], rfl, rfl, Nat.zero_le _, fun r hr => by simp at hr⟩, ?_, ?_⟩
 ·rintro i x δ ed ⟨a, b, d, e, pay, rfl, hpl, hil, hpb⟩
  unfold b9 at ed
  obtain ⟨hi, rfl⟩ := cW ed
  rw [List.length_range, List.length_map] at hi
  have hi' : i < (aN ns).length := by omega
  simp_arith only [eF, aF, List.length_map, List.getElem_range]
  generalize hsd : c + 13 * (0 + (i : Int)) = sd
  have m1 : 0 < 2 * wd - 1 := by omega
  refine ⟨Or.inl ⟨by decide, by decide⟩, ⟨by omega, by omega⟩, by rw [hZ]; exact bX (by omega), fun y => match y with
   | .int k => .int (pR (sd + 5 * k) 9941 (2 * wd - 1) + 1 - wd)
   | _ => .non, fun y hy => ?_, ?_⟩
  ·unfold b9 at hy
   obtain ⟨k, hk, rfl⟩ := List.mem_map.mp hy
   simp_arith only [δc, List.map_cons, List.map_nil, aEM (show (0 : Int) < 9941 by decide) m1]
   exact ⟨Or.inl ⟨by decide, by decide⟩, Or.inl ⟨by decide, by decide⟩, trivial⟩
  ·have em : (b9 0 (ns.length : Int).toNat).map (fun y => match y with
     | .int k => D.int (pR (sd + 5 * k) 9941 (2 * wd - 1) + 1 - wd)
     | _ => .non) = ((List.range ns.length).map fun (k : Nat) => pR (sd + 5 * (0 + (k : Int))) 9941 (2 * wd - 1) + 1 - wd).map D.int := by
    simp [b9, Function.comp_def]
   rw [em]
   have hrow : ∀ x ∈ (List.range ns.length).map fun (k : Nat) => pR (sd + 5 * (0 + (k : Int))) 9941 (2 * wd - 1) + 1 - wd, -9 ≤ x ∧ x ≤ 9 := by
    intro x hx
    obtain ⟨k, hk, rfl⟩ := List.mem_map.mp hx
    have := sQ (c := sd + 5 * (0 + (k : Int))) (p := 9941) m1
    have := sX (c := sd + 5 * (0 + (k : Int))) (p := 9941) m1
    omega
   have hrl : ((List.range ns.length).map fun (k : Nat) => pR (sd + 5 * (0 + (k : Int))) 9941 (2 * wd - 1) + 1 - wd).length = ns.length := by simp
   generalize ((List.range ns.length).map fun (k : Nat) => pR (sd + 5 * (0 + (k : Int))) 9941 (2 * wd - 1) + 1 - wd) = row at hrow hrl
   have e5 : pay.map aF ++ [D.tup (row.map D.int)] = (pay ++ [row]).map aF := by
    rw [List.map_append]
    rfl
   rw [e5]
   refine ⟨mG (by omega), _, _, _, _, _, rfl, by simp [hpl], hi', fun r hr => ?_⟩
   rcases List.mem_append.mp hr with hr | hr
   ·exact hpb r hr
   ·obtain rfl := List.mem_singleton.mp hr
    exact ⟨hrl, hrow⟩
 ·rintro δ ⟨a, b, d, e, pay, rfl, hpl, hil, hpb⟩
  rw [hZ, List.length_map] at hpl
  exact aHD c ns hns h2 ho h3 _ pay ⟨h2, ho, by omega, hpb⟩ a b d e
theorem xF : ∀ ds p, eG ds = some p → j9 (aGz p) (bD ["_law_cell_here", "_law_deeds", "_law_wide", "_law_pay", "_law_k", "_law_seed", "_law_one", "_law_few"] ds)
 | [.int c], p, h => by
  cases h
  show j9 _ [.im (.int c), .un, .un, .un, .un, .un, .un, .un]
  have a0 := sQ (c := c) (p := 9967) (show (0 : Int) < 4 by decide)
  have a1 := sX (c := c) (p := 9967) (show (0 : Int) < 4 by decide)
  unfold j9 oG
  simp_arith only [aEM (show (0 : Int) < 9967 by decide) (show (0 : Int) < 4 by decide), eF]
  have n1 : 2 ≤ 2 + pR c 9967 4 / 3 := by omega
  have n2 : 2 + pR c 9967 4 / 3 ≤ 3 := by omega
  generalize hn : 2 + pR c 9967 4 / 3 = n at *
  refine ⟨⟨by decide, by decide⟩, ⟨by omega, by omega⟩, by rw [hZ]; exact bX (by omega), fun y => match y with
   | .int k => .int (1 + pR (c + 7 * k) 9973 3)
   | _ => .non, fun y hy => ?_, ?_⟩
  ·unfold b9 at hy
   obtain ⟨k, hk, rfl⟩ := List.mem_map.mp hy
   simp_arith only [δc, List.map_cons, List.map_nil, aEM (show (0 : Int) < 9973 by decide) (show (0 : Int) < 3 by decide)]
   exact ⟨Or.inl ⟨by decide, by decide⟩, trivial⟩
  ·have em : (b9 0 n.toNat).map (fun y => match y with
     | .int k => D.int (1 + pR (c + 7 * k) 9973 3)
     | _ => .non) = ((List.range n.toNat).map fun (k : Nat) => 1 + pR (c + 7 * (0 + (k : Int))) 9973 3).map D.int := by
    simp [b9, Function.comp_def]
   rw [em]
   refine ⟨by decide, by decide, ?_⟩
   by_cases e3 : c % 3 = 0
   ·have e3' : (c % 3 == 0) = true := by simpa using e3
    simp_arith only [e3', List.length_cons, List.length_nil]
    exact ⟨by decide, aBg c [2, 2] (by decide) (by decide) (by decide) fun _ => rfl⟩
   ·have e3' : (c % 3 == 0) = false := by simpa using e3
    simp_arith only [e3']
    have hl : ((List.range n.toNat).map fun (k : Nat) => 1 + pR (c + 7 * (0 + (k : Int))) 9973 3).length = n.toNat := by simp
    refine aBg c _ (by omega) (by omega) (okD (by omega) fun x hx => ?_) fun z => absurd z e3
    obtain ⟨k, hk, rfl⟩ := List.mem_map.mp hx
    have := sQ (c := c + 7 * (0 + (k : Int))) (p := 9973) (show (0 : Int) < 3 by decide)
    have := sX (c := c + 7 * (0 + (k : Int))) (p := 9973) (show (0 : Int) < 3 by decide)
    omega
theorem aJZ {u l U L : Int} (hl : 0 < l) (hL : 0 < L) (hg : Int.gcd u l = 1) (h : u * L = U * l) : D.tup [.int u, .int l] = .tup [.int (Rat.divInt U L).num, .int ((Rat.divInt U L).den : Int)] := by
 have e : Rat.divInt U L = Rat.divInt u l := by
  rw [Rat.divInt_eq_divInt_iff (by omega) (by omega)]
  exact h.symm
 have h1 : l.sign = 1 := Int.sign_eq_one_of_pos hl
 have h2 : l.gcd u = 1 := by rw [Int.gcd_comm]; exact hg
 rw [e, Rat.num_divInt, Rat.den_divInt, if_neg (by omega), h1, h2]
 simp
 omega
theorem v4 : ∀ ds p, cK ds = some p → jD (gD p) (bD ["_law_cell_here", "_law_lower", "_law_upper", "_law_by"] ds)
 | [.int c], p, h => by
  cases h
  show jD _ [.im (.int c), .un, .un, .un]
  have a1 : 0 ≤ pR c 9929 29 := sQ (by decide)
  have a2 : pR c 9929 29 < 29 := sX (by decide)
  simp_arith only [jD, iD, nE, nK, aEM (show (0 : Int) < 9929 by decide) (show (0 : Int) < 29 by decide)]
  generalize hl : 2 + pR c 9929 29 = l
  have hpl : zO c = l := hl
  have l1 : 2 ≤ l := by omega
  have l2 : l ≤ 30 := by omega
  have m1 : 0 < l - 1 := by omega
  simp only [aEM (show (0 : Int) < 9923 by decide) m1]
  have b1 : 0 ≤ pR c 9923 (l - 1) := sQ m1
  have b2 : pR c 9923 (l - 1) < l - 1 := sX m1
  have key : ∀ u : Int, 0 < u → u < l → aHg c = u → iD (gD (.tup [.int (qD c).num, .int ((qD c).den : Int)])) [.im (.int c), .im (.int l), .im (.int u), .un] := by
   intro U u1 u2 hU
   have hR : qD c = Rat.divInt U l := by unfold qD; rw [hU, hpl]
   rw [hR]
   have hL : 0 < l := by omega
   generalize hLL : l = L at hL hR ⊢
   rw [hLL] at u2 l2
   simp_arith only [iD, gR, o5]
   refine ⟨by decide, fun i δ => ∃ (u l : Int) (z : Sl), δ = [.im (.int c), .im (.int l), .im (.int u), z] ∧ u * L = U * l ∧ 0 < u ∧ u < l ∧ l ≤ 30 ∧ ∀ d : Int, 2 ≤ d → d < 2 + i → d ∣ u → d ∣ l → False, ⟨U, L, .un, rfl, rfl, u1, u2, l2, fun d h1 h2 => by omega⟩, ?_, ?_⟩
   ·rintro i d δ ed ⟨u, l, z, rfl, hul, u1, u2, l2, hd⟩
    unfold b9 at ed
    obtain ⟨hi, rfl⟩ := cW ed
    rw [List.length_range] at hi
    simp_arith only [List.getElem_range]
    generalize hb : (2 : Int) + (i : Int) = b at *
    have b1 : 0 < b := by omega
    refine ⟨fun n δ => ∃ u l : Int, δ = [.im (.int c), .im (.int l), .im (.int u), .im (.int b)] ∧ n = u.toNat ∧ u * L = U * l ∧ 0 < u ∧ u < l ∧ l ≤ 30 ∧ ∀ d : Int, 2 ≤ d → d < b → d ∣ u → d ∣ l → False, ⟨_, u, l, rfl, rfl, hul, u1, u2, l2, fun d h1 h2 => hd d h1 (by omega)⟩, ?_⟩
    rintro n δ ⟨u, l, rfl, rfl, hul, u1, u2, l2, hd⟩
    simp_arith only []
    refine ⟨b1, by decide, ?_⟩
    by_cases e1 : u % b = 0
    ·have e1' : (u % b == 0) = true := by simpa using e1
     simp_arith only [e1']
     refine ⟨b1, by decide, ?_⟩
     by_cases e2 : l % b = 0
     ·have e2' : (l % b == 0) = true := by simpa using e2
      simp_arith only [e2']
      have hb2 : 2 ≤ b := by omega
      have hb3 : b < 1073741824 := by omega
      obtain ⟨q, hq⟩ := Int.dvd_of_emod_eq_zero e1
      obtain ⟨r, hr⟩ := Int.dvd_of_emod_eq_zero e2
      have eq1 : u / b = q := by rw [hq]; exact Int.mul_ediv_cancel_left _ (by omega)
      have er1 : l / b = r := by rw [hr]; exact Int.mul_ediv_cancel_left _ (by omega)
      rw [eq1, er1]
      have q0 : 0 < q := by
       by_cases z : 0 < q
       ·exact z
       ·have := Int.mul_nonpos_of_nonneg_of_nonpos (show 0 ≤ b by omega) (show q ≤ 0 by omega)
        omega
      have qr : q < r := by
       by_cases z : q < r
       ·exact z
       ·have := Int.mul_le_mul_of_nonneg_left (show r ≤ q by omega) (show 0 ≤ b by omega)
        omega
      have qu : q < u := by
       have : 2 * q ≤ b * q := Int.mul_le_mul_of_nonneg_right hb2 (by omega)
       omega
      have rl : r ≤ l := by
       have : 1 * r ≤ b * r := Int.mul_le_mul_of_nonneg_right (by omega) (by omega)
       omega
      have hqr : q * L = U * r := by
       have h5 : b * (q * L) = b * (U * r) := by
        rw [← Int.mul_assoc, ← hq, hul, hr, ← Int.mul_assoc, ← Int.mul_assoc, Int.mul_comm U b]
       exact Int.eq_of_mul_eq_mul_left (by omega) h5
      refine ⟨⟨b1, hb3⟩, ⟨b1, hb3⟩, q.toNat, by omega, q, r, rfl, rfl, hqr, q0, qr, by omega, fun d h1 h2 h3 h4 => hd d h1 h2 ?_ ?_⟩
      ·rw [hq]; exact Int.dvd_trans h3 (Int.dvd_mul_left _ _)
      ·rw [hr]; exact Int.dvd_trans h4 (Int.dvd_mul_left _ _)
     ·have e2' : (l % b == 0) = false := by simpa using e2
      simp_arith only [e2']
      refine ⟨u, l, _, rfl, hul, u1, u2, l2, fun d h1 h2 h3 h4 => ?_⟩
      by_cases hdb : d = b
      ·subst hdb; exact e2 (Int.emod_eq_zero_of_dvd h4)
      ·exact hd d h1 (by omega) h3 h4
    ·have e1' : (u % b == 0) = false := by simpa using e1
     simp_arith only [e1']
     refine ⟨u, l, _, rfl, hul, u1, u2, l2, fun d h1 h2 h3 h4 => ?_⟩
     by_cases hdb : d = b
     ·subst hdb; exact e1 (Int.emod_eq_zero_of_dvd h3)
     ·exact hd d h1 (by omega) h3 h4
   ·rintro δ ⟨u, l, z, rfl, hul, u1, u2, l2, hd⟩
    simp_arith only []
    refine ⟨bX (by simp), aJZ (by omega) hL ?_ hul⟩
    rw [show (b9 2 ((30 : Int) - 2).toNat).length = 28 from by simp [b9]] at hd
    have g1 : (Int.gcd u l : Int) ∣ u := Int.gcd_dvd_left ..
    have g2 : (Int.gcd u l : Int) ∣ l := Int.gcd_dvd_right ..
    have g3 : (Int.gcd u l : Int) ≤ u := Int.le_of_dvd u1 g1
    have g4 : 0 < Int.gcd u l := Int.gcd_pos_of_ne_zero_left _ (by omega)
    by_cases g5 : Int.gcd u l = 1
    ·exact g5
    ·exact (hd (Int.gcd u l) (by omega) (by omega) g1 g2).elim
  refine ⟨by decide, by decide, ?_⟩
  by_cases e1 : c % 4 = 0
  ·have e1' : (c % 4 == 0) = true := by simpa using e1
   simp_arith only [e1']
   exact key _ (by omega) (by omega) (by unfold aHg; rw [if_pos e1, hpl])
  ·have e1' : (c % 4 == 0) = false := by simpa using e1
   simp_arith only [e1']
   exact key _ (by omega) (by omega) (by unfold aHg; rw [if_neg e1, hpl])
theorem aMV {a b : Rat} (h1 : BdR 1000 a) (h2 : BdR 1000 b) : fA [aU a, aU b] = some (.bl (decide (b < a))) := by
 simp only [fA, aId]
 exact if_pos ⟨h1, h2⟩
theorem aB4 : ∀ ds d, fA ds = some d → nT (gD d) (bD ["_law_one", "_law_other"] ds)
 | [x, y], r, h => by
  obtain ⟨a, rfl, h1⟩ := aDL (show yS x _ = some r from h)
  obtain ⟨b, rfl, h2⟩ := aDL h1
  clear h h1
  split at h2
  ·rename_i hh
   obtain ⟨⟨b1, b2⟩, b3, b4⟩ := hh
   cases h2
   show nT _ [.im (aU a), .im (aU b)]
   have e0 : ∀ w : Rat, iC [D.int w.num, D.int w.den] 0 = some (.int w.num) := fun _ => rfl
   have e1 : ∀ w : Rat, iC [D.int w.num, D.int w.den] 1 = some (.int w.den) := fun _ => rfl
   simp_arith only [nT, e0, e1]
   refine ⟨.inr ⟨b1.mono (by decide), b4.mono (by decide)⟩, .inr ⟨b3.mono (by decide), b2.mono (by decide)⟩, ?_⟩
   congr 1
   exact decide_eq_decide.mpr (Rat.lt_iff b a).symm
  ·cases h2
theorem yN : ∀ ds d, dM ds = some d → lH (gD d) (bD ["_law_meeting_here", "_law_patience_here", "_law_found"] ds)
 | [m, x], r, h => by
  obtain ⟨ns, pay, d, rfl, rfl, ho, hd, h⟩ := xR (show wW m x _ = some r from h)
  cases h
  show lH _ [.im (aY ns pay), .im (aU d), .un]
  simp_arith only [lH, pQ, aKX, aHj, yI, m7, uS ho hd]
  refine ⟨fun c hc => ⟨hc.2, ?_⟩, fun y hy => ?_⟩
  ·simp_arith only [hc.1, List.replicate]
  ·rw [hy.2]
   simp_arith only [hy.1]
theorem zL {ns : List Int} {pay : List (List Int)} {d : Rat} (ho : aX ns pay) (hd : dA d) : dM [aY ns pay, aU d] = some (if bK ns pay d = [] then .non else aF (iG ns pay d)) := uS ho hd
section
variable {ns0 : List Int}
theorem aIm {k : Int} (hk : 0 ≤ k) : dG [.lst (ns0.map D.int), .int k] = some (.int (ns0.getD k.toNat 0)) := by
 unfold dG
 simp only [eW, if_pos hk]
end
noncomputable def aEz : GS := (bI (cA (aQ jP (aC (aE 2) (aC (aE 3) aJ))) (dH 5)) (bI (cA (aQ jP (aC (aE 2) (aC (aE 4) aJ))) (dH 6)) (bI (j6 (o4 (gF (dO [none, some 6] (gIt (aE 5)) (dH 0) (eM (bP qH (aE 0) (aE 1))) (aE 0)))) (cT (gC (.bl false))) fR) (bI (j6 (o4 (gF (dO [none, some 5] (gIt (aQ pG (aC (aE 2) aJ))) (dH 0) (eM (bP qH (aE 0) (aE 1))) (aE 0)))) (cT (gC (.bl false))) fR) (bI (cA (aQ dM (aC (aE 2) (aC (aE 4) aJ))) (dH 7)) (bI (j6 (eM (bP oNe (bP aBl (aE 7) (gC .non)) (yD (aE 6)))) (cT (gC (.bl false))) fR) (j6 (eM (bP t5 (aE 7) (gC .non))) (bI (gR (h8 (bV n4 (aC (bP gM (aE 2) (gC (.int 0))) aJ))) (dH 8) yR) (bI (j6 (o4 (aE 5)) (bI (cA (aQ dM (aC (aE 2) (aC (aE 3) aJ))) (dH 9)) (j6 (o4 (gF (dO [none, some 7, some 9] (h8 (bV n4 (aC (aE 7) aJ))) (dH 0) (eM (bP oGt (bP gM (aE 1) (aE 0)) (bP gM (aE 2) (aE 0)))) (aE 0)))) (cT (gC (.bl false))) fR)) fR) (bI (cA (oC nU (aC (aE 2) (aC (aE 4) aJ))) (dH 10)) (gR (gIt (aE 6)) (dH 11) tF)))) fR)))))))
section
variable {ns : List Int} {pay : List (List Int)} {a b d : Rat} {h : Nat} {r : List Int}
theorem aKt (ho : aX ns pay) (hd : dA d) : jP [aY ns pay, aU d] = some (.tup ((bK ns pay d).map aF)) := by
 simp only [jP, bT ho, gU hd]
theorem aMe (ho : aX ns pay) : pG [aY ns pay] = some (.tup ((aAI ns pay).map aF)) := by
 simp only [pG, bT ho]
theorem aMX (ho : aX ns pay) (hh : h < ns.length) : jZ [aY ns pay, .int h] = some (.int (zE ns pay h)) := by
 simp only [jZ, bT ho, fH hh]
theorem aMM (ho : aX ns pay) (hh : h < ns.length) : pX [aY ns pay, .int h] = some (.int (aDR ns pay h)) := by
 simp only [pX, bT ho, fH hh]
theorem aC7 (r : List Int) (l : List (List Int)) : (l.map fun x => x == r).any id = l.contains r := by
 induction l with
 | nil => rfl
 | cons x l ih => rw [List.map_cons, List.any_cons, ih, List.contains_cons, id]; rw [Bool.beq_comm]
theorem yW {xs ys : List (List Int)} (sub : ∀ r ∈ xs, r ∈ ys) : (xs.map aF).filter (fun x => match iH x with
  | some r => !ys.contains r
  | none => false) = [] := by
 rw [List.filter_eq_nil_iff]
 intro x hx
 obtain ⟨r, hr, rfl⟩ := List.mem_map.mp hx
 simp only [cD]
 simp [sub r hr]
theorem aDz (ho : aX ns pay) : (bK ns pay d).length ≤ 27 := Nat.le_trans (List.length_filter_le _ _) (fN ho.ok).2
theorem zQ (hh : h < ns.length) : iC ((iG ns pay d).map D.int) (h : Int) = some (.int (pO ns pay (bK ns pay d) h)) := by
 unfold iG
 rw [List.map_map, v5 (by simpa using hh)]
 simp
theorem aFd (ho : aX ns pay) (ha : dA a) (hb : dA b) (hab : a ≤ b) {De : DEnds} {a0 a1 a5 a6 a7 a8 a9 a10 a11 : Sl}
  (hn : ∀ a5 a6 a7 a8 a9 a10 a11, De.nx [a0, a1, .im (aY ns pay), .im (aU a), .im (aU b), a5, a6, a7, a8, a9, a10, a11]) :
  aEz De [a0, a1, .im (aY ns pay), .im (aU a), .im (aU b), a5, a6, a7, a8, a9, a10, a11] := by
 have sub1 : ∀ r ∈ bK ns pay a, r ∈ bK ns pay b := fun r hr => aF2 hr hab hb.lt
 have sub2 : ∀ r ∈ aAI ns pay, r ∈ bK ns pay a := fun r hr => aFT ho ha.lt hr
 have few := aDz (d := a) ho
 have many := aDz (d := b) ho
 have cl : (aAI ns pay).length ≤ 27 := Nat.le_trans (List.length_filter_le _ _) (fN ho.ok).2
 have n3 := (cC ho.ok).1
 have e0 : iC [aF ns, D.tup (pay.map aF)] 0 = some (aF ns) := rfl
 simp_arith! only [aEz, aKt ho ha, aKt ho hb, aMe ho, zL ho hb, dO]
 refine ⟨by rw [List.length_map]; exact bX (by omega), fun x => match iH x with
  | some r => !(bK ns pay b).contains r
  | none => false, fun x => x, fun x hx => ?_, ?_⟩
 ·obtain ⟨r, hr, rfl⟩ := List.mem_map.mp hx
  simp_arith! only [δc, List.map_cons, List.map_nil, qH, kD, vP, aC7, cD]
  exact ⟨Nat.le_trans (rL _) (by decide), trivial, fun _ => trivial⟩
 rw [yW sub1]
 simp_arith! only [List.map_nil, List.isEmpty_nil, Bool.not_true]
 refine ⟨by rw [List.length_map]; exact bX (by omega), fun x => match iH x with
  | some r => !(bK ns pay a).contains r
  | none => false, fun x => x, fun x hx => ?_, ?_⟩
 ·obtain ⟨r, hr, rfl⟩ := List.mem_map.mp hx
  simp_arith! only [δc, List.map_cons, List.map_nil, qH, kD, vP, aC7, cD]
  exact ⟨Nat.le_trans (rL _) (by decide), trivial, fun _ => trivial⟩
 rw [yW sub2]
 simp_arith! only [List.map_nil, List.isEmpty_nil, Bool.not_true]
 by_cases hk : bK ns pay b = []
 ·rw [if_pos hk, hk]
  simp_arith! only [aBl, t5, aCV, List.map_nil, List.isEmpty_nil, Bool.not_true, Bool.not_false]
  refine ⟨by decide, ?_⟩
  first
   | exact hn _ _ _ _ _ _ _
   | (simp_arith! only [BEq.rfl, Bool.not_true]; exact hn _ _ _ _ _ _ _)
 ·rw [if_neg hk]
  have he : ((bK ns pay b).map aF).isEmpty = false := by
   cases e : bK ns pay b with
   | nil => exact absurd e hk
   | cons x l => rfl
  have fl : (iG ns pay b).length = ns.length := by simp [iG]
  simp_arith! only [aBl, t5, aCV, he, Bool.not_true, Bool.not_false]
  refine ⟨by decide, ?_⟩
  simp_arith! only [BEq.rfl, Bool.not_true, e0, List.length_map, gR]
  refine ⟨⟨by omega, by omega⟩, fun i δ => ∃ a8, δ = [a0, a1, .im (aY ns pay), .im (aU a), .im (aU b), .im (.tup ((bK ns pay a).map aF)), .im (.tup ((bK ns pay b).map aF)), .im (aF (iG ns pay b)), a8, a9, a10, a11], ⟨_, rfl⟩, ?_, ?_⟩
  ·rintro i x δ ed ⟨a8, rfl⟩
   unfold b9 at ed
   obtain ⟨hi, rfl⟩ := cW ed
   rw [List.length_range] at hi
   have hi' : i < ns.length := by omega
   have f1 := aDZ (h := i) ho hb.pos hb.lt hk hi'
   have f2 := aIY (pay := pay) ho hi'
   have d1 : decide (pO ns pay (bK ns pay b) i < zE ns pay i) = false := decide_eq_false (by omega)
   have d2 : decide (pO ns pay (bK ns pay b) i < aDR ns pay i) = false := decide_eq_false (by omega)
   rw [List.getElem_range, Int.zero_add]
   simp_arith! only [yR, zQ hi', aMX ho hi', aMM ho hi', d1, d2]
   exact ⟨_, rfl⟩
  ·rintro δ ⟨a8, rfl⟩
   have tail : ∀ a9, ∀ x, (∃ th, x = D.tup (th.map aF) ∧ j7 ns pay b th) → gR (gIt (aE 6)) (dH 11) tF De [a0, a1, .im (aY ns pay), .im (aU a), .im (aU b), .im (.tup ((bK ns pay a).map aF)), .im (.tup ((bK ns pay b).map aF)), .im (aF (iG ns pay b)), a8, a9, .im x, a11] := by
    rintro a9 x ⟨th, rfl, H⟩
    simp_arith! only [gR]
    refine ⟨fun i δ => ∃ a11, δ = [a0, a1, .im (aY ns pay), .im (aU a), .im (aU b), .im (.tup ((bK ns pay a).map aF)), .im (.tup ((bK ns pay b).map aF)), .im (aF (iG ns pay b)), a8, a9, .im (.tup (th.map aF)), a11], ⟨_, rfl⟩, ?_, ?_⟩
    ·rintro i y δ ed ⟨a11, rfl⟩
     obtain ⟨hi, rfl⟩ := cW ed
     have hr : (bK ns pay b)[i] ∈ bK ns pay b := List.getElem_mem hi
     have ht := H.threats hr
     have f1 : lN [aY ns pay, aF (bK ns pay b)[i], .tup (th.map aF)] = some (f8 (dY ns (bK ns pay b)[i] th)) := by
      simp only [lN, aBx ho ht]
     have f2 : nJ [aY ns pay, f8 (dY ns (bK ns pay b)[i] th), aU b] = some (.bl true) := by
      simp only [nJ, bT ho, mE (qL ho ht), gU hb, aAt ho hb H hr, decide_true]
     simp_arith! only [tF, f1, f2, Bool.not_true]
     exact ⟨_, rfl⟩
    ·rintro δ ⟨a11, rfl⟩
     exact hn _ _ _ _ _ _ _
   have hc : nU [aY ns pay, aU b] = some fun x => ∃ th, x = D.tup (th.map aF) ∧ j7 ns pay b th := (uS ho hb).trans (if_neg hk)
   by_cases hk2 : bK ns pay a = []
   ·have he2 : ((bK ns pay a).map aF).isEmpty = true := by rw [hk2]; rfl
    simp_arith! only [he2, Bool.not_true, hc]
    exact fun x hx => tail _ x hx
   ·have he2 : ((bK ns pay a).map aF).isEmpty = false := by
     cases e : bK ns pay a with
     | nil => exact absurd e hk2
     | cons x l => rfl
    have fl2 : ((iG ns pay b).map D.int).length = ns.length := by rw [List.length_map, fl]
    simp_arith! only [he2, Bool.not_false, zL ho ha, if_neg hk2, List.length_map, fl, dO]
    refine ⟨⟨by omega, by omega⟩, by rw [hZ]; exact bX (by omega), fun _ => false, fun x => x, fun x hx => ?_, ?_⟩
    ·unfold b9 at hx
     obtain ⟨k, hkk, rfl⟩ := List.mem_map.mp hx
     have hk' : k < ns.length := by
      have := List.mem_range.mp hkk
      omega
     have le := yZ (ns := ns) (pay := pay) (h := k) hk2 sub1
     simp_arith! only [δc, List.map_cons, List.map_nil, Int.zero_add, zQ hk']
     exact ⟨decide_eq_false (by omega), fun z => by
      rw [decide_eq_false (by omega)] at z
      cases z⟩
    ·have ef : ∀ l : List D, (l.filter fun _ => false) = [] := fun l => by
      rw [List.filter_eq_nil_iff]
      simp
     rw [ef]
     simp_arith! only [List.map_nil, List.isEmpty_nil, Bool.not_true, hc]
     intro x hx
     have t := tail (.im (aF (iG ns pay a))) x hx
     simp only [gR, cT , aFJ, aIZ, aFN, aFs, rA, o9, nH, aE, bI, cA, dH, gC, gF, rM, aC, aJ, fU, bV, vR, aQ, oC, zS, aCJ, n4, aBU, aD3, gJ, aFt, bP, aBL, t9, kA, aKk, oNe, oEq, oIs, aBA, x9, rY, gM, aCp, x6, eM, xI, j6, gIt, gIl, h8, aAT, aAu, aET, rQ, kM, fR, o4, aGM, aGo, gOr, tN, aBH, aEN, zM, aJ3, pE, aG0, yD, aHN, aE6, aBV, aBw, l3, vM, aJb, aD0, aGm, eq_self, if_true, ↓reduceIte, Bool.false_eq_true, if_false, List.getElem?_cons_zero, List.getElem?_cons_succ, List.set_cons_zero, List.set_cons_succ, List.length_map] at t
     exact t
end
theorem aLd : ∀ ds p, wK ds = some p → aFz (aGz p) (bD ["_law_script", "_law_k", "_law_meeting_here", "_law_one", "_law_other", "_law_few", "_law_many", "_law_low", "_law_hand", "_law_high", "_law_threats", "_law_row"] ds)
 | [.lst xs], p, h => by
  have h' : (match g6 xs with
   | some _ => some (fun d => d = D.bl true)
   | none => none) = some p := h
  clear h
  split at h'
  ·rename_i ns0 e
   cases h'
   rw [jF e]
   clear e
   show aFz _ [.im (.lst (ns0.map D.int)), .un, .un, .un, .un, .un, .un, .un, .un, .un, .un, .un]
   unfold aFz
   simp_arith! only [gR]
   refine ⟨⟨by decide, by decide⟩, fun i δ => ∃ (a1 a2 a3 a4 a5 a6 a7 a8 a9 a10 a11 : Sl), δ = [.im (.lst (ns0.map D.int)), a1, a2, a3, a4, a5, a6, a7, a8, a9, a10, a11], ⟨_, _, _, _, _, _, _, _, _, _, _, rfl⟩, ?_, ?_⟩
   ·rintro i x δ ed ⟨a1, a2, a3, a4, a5, a6, a7, a8, a9, a10, a11, rfl⟩
    unfold b9 at ed
    obtain ⟨hi, rfl⟩ := cW ed
    rw [List.getElem_range, Int.zero_add]
    have k0 : (0 : Int) ≤ 3 * (i : Int) := by omega
    have k1 : (0 : Int) ≤ 3 * (i : Int) + 1 := by omega
    have k2 : (0 : Int) ≤ 3 * (i : Int) + 2 := by omega
    rw [show aDw = bI (cA (oC eG (aC (aQ dG (aC (aE 0) (aC (bP rR (gC (.int 3)) (aE 1)) aJ))) aJ)) (dH 2)) (bI (cA (aQ cK (aC (aQ dG (aC (aE 0) (aC (bP kA (bP rR (gC (.int 3)) (aE 1)) (gC (.int 1))) aJ))) aJ)) (dH 3)) (bI (cA (aQ cK (aC (aQ dG (aC (aE 0) (aC (bP kA (bP rR (gC (.int 3)) (aE 1)) (gC (.int 2))) aJ))) aJ)) (dH 4)) (bI (j6 (o4 (aQ fA (aC (aE 3) (aC (aE 4) aJ)))) (aD0 3 4 (aE 4) (aE 3)) fR) aEz))) from rfl]
    simp_arith! only [aIm k0, aIm k1, aIm k2, eG, cK]
    refine ⟨.inl ⟨by decide, by decide⟩, ?_⟩
    rintro m ⟨ns, pay, rfl, ho, _⟩
    generalize ns0.getD (3 * (i : Int) + 1).toNat 0 = c1
    generalize ns0.getD (3 * (i : Int) + 2).toNat 0 = c2
    have p1 := aFO c1
    have p2 := aFO c2
    have b1 : BdR 1000 (qD c1) := ⟨p1.bits.1.mono (by decide), p1.bits.2.mono (by decide)⟩
    have b2 : BdR 1000 (qD c2) := ⟨p2.bits.1.mono (by decide), p2.bits.2.mono (by decide)⟩
    refine ⟨.inl ⟨by decide, by decide⟩, .inl ⟨by decide, by decide⟩, ?_⟩
    have fm : fA [.tup [.int (qD c1).num, .int (qD c1).den], .tup [.int (qD c2).num, .int (qD c2).den]] = some (.bl (decide (qD c2 < qD c1))) := aMV b1 b2
    simp_arith! only [fm]
    by_cases hlt : qD c2 < qD c1
    ·simp_arith! only [hlt, decide_true]
     exact aFd ho p2 p1 (Rat.le_of_lt hlt) fun _ _ _ _ _ _ _ => ⟨_, _, _, _, _, _, _, _, _, _, _, rfl⟩
    ·simp_arith! only [hlt, decide_false]
     exact aFd ho p1 p2 (Rat.not_lt.mp hlt) fun _ _ _ _ _ _ _ => ⟨_, _, _, _, _, _, _, _, _, _, _, rfl⟩
   ·rintro δ ⟨a1, a2, a3, a4, a5, a6, a7, a8, a9, a10, a11, rfl⟩
    trivial
  ·cases h'
section
variable {ns : List Int} {pay : List (List Int)} {pl : List (List Int × List Int)} {s : Nat} {r : List Int}
theorem qB (hs : s < pl.length) : iC (pl.map fun s => D.tup [aF s.1, aF s.2]) (s : Int) = some (.tup [aF (bY pl s), aF (pl.getD s ([], [])).2]) := by
 rw [v5 (by rw [List.length_map]; exact hs), List.getElem_map]
 unfold bY
 rw [bR hs]
theorem aI3 (hp : gE ns pl) (hs : s < pl.length) (hr : r ∈ aN ns) : (pl.getD s ([], [])).2.getD ((aN ns).idxOf r) 0 = (i8 ns pl s r : Int) ∧ i8 ns pl s r < pl.length ∧ (aN ns).idxOf r < (pl.getD s ([], [])).2.length := by
 have hm : pl.getD s ([], []) ∈ pl := by rw [bR hs]; exact List.getElem_mem hs
 obtain ⟨h1, h2⟩ := hp.nexts _ hm
 have hi : (aN ns).idxOf r < (pl.getD s ([], [])).2.length := by
  rw [h1]
  exact List.idxOf_lt_length_of_mem hr
 have := h2 _ (List.getElem_mem hi)
 unfold i8
 rw [bR hi]
 omega
theorem aAN (hp : gE ns pl) (hs : s < pl.length) : bY pl s ∈ aN ns := by
 unfold bY
 rw [bR hs]
 exact hp.row _ (List.getElem_mem hs)
end
theorem aIa {ns r : List Int} (ho : dZ ns = true) (hr : r ∈ aN ns) : eC [aF r, aF ns] = some (.int ((aN ns).idxOf r : Nat)) := by
 simp only [eC, cD, eW]
 rw [if_pos ⟨ho, hr⟩]
theorem aC2 : ∀ ds d, eC ds = some d → oX (gD d) (bD ["row", "deeds", "place", "deed", "many"] ds)
 | [x, .tup es], d, h => by
  cases e1 : iH x with
  | none => simp [eC, e1] at h
  | some r =>
   cases e2 : g6 es with
   | none => simp [eC, e1, e2] at h
   | some ns =>
    simp only [eC, e1, e2] at h
    rw [lB e1, jF e2]
    split at h
    ·rename_i hc
     obtain ⟨ho, hr⟩ := hc
     cases h
     have rl := e7 hr
     show oX _ [.im (aF r), .im (.tup (ns.map D.int)), .un, .un, .un]
     simp_arith! only [oX, t6, aF, aIu, gR]
     refine ⟨fun i δ => ∃ a b, δ = [.im (.tup (r.map D.int)), .im (.tup (ns.map D.int)), .im (.int (mR (r.take i) (ns.take i))), a, b], ⟨.un, .un, rfl⟩, ?_, ?_⟩
     ·rintro i d δ ed ⟨a, b, rfl⟩
      obtain ⟨hi, rfl⟩ := cW ed
      rw [List.length_zip] at hi
      have h1 : i < r.length := by omega
      have h2 : i < ns.length := by omega
      have bd := aHq ho hr i
      simp_arith! only [List.getElem_zip]
      refine ⟨.inl ⟨by omega, by omega⟩, .im (.int r[i]), .im (.int ns[i]), ?_⟩
      rw [aC6 h1 h2 rl]
     ·rintro δ ⟨a, b, rfl⟩
      simp_arith! only []
      rw [List.length_map, List.length_zip, rl, Nat.min_self, List.take_length, ← rl, List.take_length, aAG hr]
    ·cases h
theorem aII {r : List Int} {h : Nat} {k : Int} (hl : r.length ≤ 1000) (hh : h < r.length) : cR [aF r, .int h, .int k] = some (aF (r.set h k)) := by
 simp only [cR, cD]
 rw [if_pos ⟨hl, by omega, by omega⟩]
 rfl
theorem aBK : ∀ ds d, cR ds = some d → nR (gD d) (bD ["row", "hand", "deed"] ds)
 | [x, .int i, .int k], d, h => by
  cases e : iH x with
  | none => simp [cR, e] at h
  | some r =>
   simp only [cR, e] at h
   rw [lB e]
   split at h
   ·rename_i hc
    cases h
    obtain ⟨n, rfl⟩ : ∃ n : Nat, i = n := ⟨i.toNat, by omega⟩
    show nR _ [.im (aF r), .im (.int n), .im (.int k)]
    have hn : n < r.length := by omega
    have e3 : ((n : Int) + 1) = ((n + 1 : Nat) : Int) := by omega
    simp_arith only [nR, aF, e3, aKd r n hn, aGU r (n + 1) hn, List.length_append, List.length_map, List.length_cons, List.length_nil, List.length_take, List.length_drop]
    refine ⟨by decide, bX (by omega), bX (by omega), ?_⟩
    rw [Int.toNat_natCast, ← aIP r n k hn]
    simp
   ·cases h
theorem qG {ns : List Int} {pay : List (List Int)} {r : List Int} (ho : aX ns pay) (hr : r ∈ aN ns) : fW [aY ns pay, aF r] = some (aF (j0 ns pay r)) := by
 simp only [fW, bT ho, mL hr]
theorem aJz : ∀ ds d, fW ds = some d → aBu (gD d) (bD ["meeting", "row"] ds)
 | [m, x], d, h => by
  obtain ⟨ns, pay, rfl, ho, h⟩ := b8 (show bL m _ = some d from h)
  obtain ⟨r, rfl, hr, h⟩ := mJ h
  cases h
  show aBu _ [.im (aY ns pay), .im (aF r)]
  have e0 : iC [aF ns, D.tup (pay.map aF)] 0 = some (aF ns) := rfl
  have e1 : iC [aF ns, D.tup (pay.map aF)] 1 = some (D.tup (pay.map aF)) := rfl
  have e2 : iC (pay.map aF) ((aN ns).idxOf r : Nat) = some (aF (j0 ns pay r)) := aHo (aCY ho hr)
  simp_arith only [aBu, aY, e0, e1, aIa ho.ok hr, e2]
theorem uK : ∀ ds d, d8 ds = some d → iU (gD d) (bD ["one", "other", "greater", "smaller", "rest"] ds)
 | [.int a, .int b], d, h => by
  cases h
  show iU _ [.im (.int a), .im (.int b), .un, .un, .un]
  simp_arith only [iU, mW, mZ, o5]
  have ea : ∀ a : Int, (if a < 0 then -a else a) = (a.natAbs : Int) := fun a => by split <;> omega
  refine ⟨fun n δ => ∃ (x y : Nat) (z : Sl), δ = [.im (.int a), .im (.int b), .im (.int x), .im (.int y), z] ∧ n = y ∧ Nat.gcd x y = Int.gcd a b, ⟨b.natAbs, a.natAbs, b.natAbs, .un, by rw [ea, ea], rfl, rfl⟩, ?_⟩
  rintro n δ ⟨x, y, z, rfl, rfl, hg⟩
  simp_arith only []
  refine ⟨by decide, ?_⟩
  cases n with
  | zero =>
   simp
   rw [← hg]
   simp
  | succ y =>
   have e : ((((y + 1 : Nat) : Int)) == 0) = false := by simp; omega
   simp_arith only [e, Bool.not_false]
   refine ⟨by omega, (x % (y + 1) : Nat), Nat.mod_lt _ (Nat.succ_pos _), y + 1, x % (y + 1), _, rfl, rfl, ?_⟩
   rw [← hg, Nat.gcd_comm x, Nat.gcd_rec (y + 1) x, Nat.gcd_comm]
theorem aJr {u l : Int} (hl : 0 < l) (h1 : Bd 7000 u) (h2 : Bd 7000 l) : lK [.int u, .int l] = some (aU (Rat.divInt u l)) := if_pos ⟨hl, h1, h2⟩
theorem aF3 : ∀ ds d, lK ds = some d → uB (gD d) (bD ["upper", "lower", "sign", "divisor"] ds)
 | [.int u, .int l], d, h => by
  simp only [lK] at h
  split at h
  ·rename_i hh
   obtain ⟨hl, b1, b2⟩ := hh
   cases h
   show uB _ [.im (.int u), .im (.int l), .un, .un]
   have ea : (if l < 0 then -l else l) = l := if_neg (by omega)
   have ed : l / l = 1 := Int.ediv_self (by omega)
   have gd : (Int.gcd u l) ∣ l.natAbs := Int.gcd_dvd_natAbs_right u l
   have gle : Int.gcd u l ≤ l.natAbs := Nat.le_of_dvd (by omega) gd
   have gpos : 0 < Int.gcd u l := Nat.pos_of_dvd_of_pos gd (by omega)
   have bx : Bd 8000 ((Int.gcd u l : Nat) : Int) := (b2.of_le (i := (Int.gcd u l : Nat)) (by omega) (by omega)).mono (by decide)
   have bl : Bd 8000 l := b2.mono (by decide)
   simp_arith only [uB, zG, zH, ea, ed, d8, Int.one_mul, aCX hl, List.length_cons, List.length_nil]
   exact ⟨⟨hl, bl⟩, .inl (.inl ⟨by decide, by decide⟩), ⟨by omega, bx⟩, ⟨by omega, bx⟩, by decide, trivial⟩
  ·cases h
theorem aFy {ns : List Int} {pay : List (List Int)} {pl : List (List Int × List Int)} {s : Nat} {r : List Int} (ho : aX ns pay) (hp : gE ns pl) (hs : s < pl.length) (hr : r ∈ aN ns) : cY [aY ns pay, f8 pl, .int s, aF r] = some (.int (i8 ns pl s r)) := by
 simp only [cY, bT ho, mE hp, fH hs, mL hr]
theorem wX : ∀ ds d, cY ds = some d → kG (gD d) (bD ["meeting", "plan", "state", "row"] ds)
 | [m, p, x, y], d, h => by
  obtain ⟨ns, pay, rfl, ho, h⟩ := b8 (show bL m _ = some d from h)
  obtain ⟨pl, rfl, hp, h⟩ := mH h
  obtain ⟨s, rfl, hs, h⟩ := fJ h
  obtain ⟨r, rfl, hr, h⟩ := mJ h
  cases h
  show kG _ [.im (aY ns pay), .im (.tup (pl.map fun s => D.tup [aF s.1, aF s.2])), .im (.int s), .im (aF r)]
  have e0 : iC [aF ns, D.tup (pay.map aF)] 0 = some (aF ns) := rfl
  have e1 : iC [aF (bY pl s), aF (pl.getD s ([], [])).2] 1 = some (aF (pl.getD s ([], [])).2) := rfl
  obtain ⟨n1, n2, n3⟩ := aI3 hp hs hr
  have e2 : iC ((pl.getD s ([], [])).2.map D.int) ((aN ns).idxOf r : Nat) = some (.int (i8 ns pl s r)) := by rw [d0 n3, n1]
  simp_arith only [kG, e0, e1, qB hs, aIa ho.ok hr, e2]
theorem aFI {ns : List Int} {pay : List (List Int)} {rs : List (List Int)} {x : D} {h : Nat} (ho : aX ns pay) (hx : kD x = some (rs.map aF)) (h1 : rs.length ≤ 20) (h2 : ∀ r ∈ rs, r ∈ aN ns) (hh : h < ns.length) :
  iS [aY ns pay, x, .int h] = some (.lst ((rs.map fun r => bG ns pay r h).map D.int)) := by
 simp only [iS, bT ho, sH hx h1 h2, fH hh]
theorem aEw : ∀ ds d, iS ds = some d → rD (gD d) (bD ["meeting", "rows", "hand"] ds)
 | [m, x, y], d, h => by
  obtain ⟨ns, pay, rfl, ho, h⟩ := b8 (show bL m _ = some d from h)
  obtain ⟨rs, hx, h1, h2, h⟩ := vN h
  obtain ⟨i, rfl, hi, h⟩ := fJ h
  cases h
  show rD _ [.im (aY ns pay), .im x, .im (.int i)]
  simp_arith only [rD, gIs, hx, eF]
  refine ⟨by rw [List.length_map]; exact bX (by omega), fun x => match iH x with
   | some r => .int (bG ns pay r i)
   | none => .non, fun x hx => ?_, ?_⟩
  ·obtain ⟨r, hr, rfl⟩ := List.mem_map.mp hx
   have hr := h2 r hr
   have hp : i < (j0 ns pay r).length := by rw [(kH ho hr).1]; exact hi
   have ei : iC ((j0 ns pay r).map D.int) (i : Nat) = some (.int (bG ns pay r i)) := d0 hp
   simp_arith only [δc, List.map_cons, List.map_nil, qG ho hr, ei, cD]
  ·rw [List.map_map, List.map_map]
   congr 1
   refine List.map_congr_left fun r _ => ?_
   simp only [Function.comp, cD]
theorem aCN {ys : List Int} {d : Rat} (hy : jT ys = true) (hd : dA d) : gQ [.lst (ys.map D.int), aU d] = some (.int (tY d.num d.den ys)) := by
 simp only [gQ, eW, if_pos hy, gU hd]
theorem aHr (p q : Int) (ys : List Int) {i : Nat} (hi : i < ys.length) : ((ys.take (i + 1)).foldl (fun (a : Int × Int) y => (a.1 * q + a.2 * y, a.2 * p)) (0, 1)) = (((ys.take i).foldl (fun (a : Int × Int) y => (a.1 * q + a.2 * y, a.2 * p)) (0, 1)).1 * q + ((ys.take i).foldl (fun (a : Int × Int) y => (a.1 * q + a.2 * y, a.2 * p)) (0, 1)).2 * ys[i], ((ys.take i).foldl (fun (a : Int × Int) y => (a.1 * q + a.2 * y, a.2 * p)) (0, 1)).2 * p) := by
 rw [List.take_succ, List.getElem?_eq_getElem hi, Option.toList_some, List.foldl_append]
 rfl
theorem aEQ : ∀ ds d, gQ ds = some d → qU (gD d) (bD ["pays", "patience", "total", "weight", "pay"] ds)
 | [.lst es, x], r, h => by
  cases ei : g6 es with
  | none => simp [gQ, ei] at h
  | some ys =>
   simp only [gQ, ei] at h
   split at h
   ·rename_i hy
    obtain ⟨d, rfl, hd, h⟩ := h9 h
    cases h
    rw [jF ei]
    obtain ⟨y1, y2⟩ := sB hy
    show qU _ [.im (.lst (ys.map D.int)), .im (aU d), .un, .un, .un]
    have e0 : iC [D.int d.num, D.int d.den] 0 = some (.int d.num) := rfl
    have e1 : iC [D.int d.num, D.int d.den] 1 = some (.int d.den) := rfl
    have bp : Bd 40 d.num := hd.bits.1
    have bq : Bd 40 (d.den : Int) := hd.bits.2
    have key : ∀ i, (ys.take i).foldl (fun (a : Int × Int) y => (a.1 * (d.den : Int) + a.2 * y, a.2 * d.num)) (0, 1) = (tY d.num d.den (ys.take i), d.num ^ (ys.take i).length) := by
     intro i
     rw [aCH]
     simp
    simp_arith only [qU, wF, gR]
    refine ⟨fun i δ => ∃ a4, δ = [.im (.lst (ys.map D.int)), .im (aU d), .im (.int (tY d.num d.den (ys.take i))), .im (.int (d.num ^ (ys.take i).length)), a4], ⟨.un, by simp [tY]⟩, ?_, ?_⟩
    ·rintro i x δ ed ⟨a4, rfl⟩
     obtain ⟨hi, rfl⟩ := cW ed
     have k1 := key i
     have k2 := aHr d.num d.den ys hi
     rw [key (i + 1), k1] at k2
     have hl : (ys.take i).length ≤ 20 := by rw [List.length_take]; omega
     have b1 : Bd 8000 (tY d.num d.den (ys.take i)) := (aCe bp bq (ys := ys.take i) fun y hy => y2 y (List.mem_of_mem_take hy)).mono (by omega)
     have b2 : Bd 8000 (d.num ^ (ys.take i).length) := (bp.pow _).mono (by omega)
     have b3 : Bd 8000 ys[i] := by
      have := y2 ys[i] (List.getElem_mem hi)
      have b : Bd 4 ys[i] := by unfold Bd; omega
      exact b.mono (by decide)
     simp_arith only [e0, e1]
     refine ⟨.inr ⟨b1, bq.mono (by decide)⟩, .inr ⟨b2, b3⟩, .inr ⟨b2, bp.mono (by decide)⟩, .im (.int ys[i]), ?_⟩
     have k3 := congrArg Prod.fst k2
     have k4 := congrArg Prod.snd k2
     simp only at k3 k4
     rw [k3, k4]
    ·rintro δ ⟨a4, rfl⟩
     simp_arith only []
     rw [List.length_map, List.take_length]
   ·cases h
theorem aMw (a b : Int) : iC [D.int a, D.int b] 0 = some (.int a) := rfl
theorem aMJ (a b : Int) : iC [D.int a, D.int b] 1 = some (.int b) := rfl
theorem aEV : ∀ ds d, iA ds = some d → qS (gD d) (bD ["one", "other"] ds)
 | [.tup [.int a, .int b], .tup [.int c, .int e]], r, h => by
  simp only [iA] at h
  split at h
  ·rename_i hh
   obtain ⟨h1, h2, h3, h4⟩ := hh
   cases h
   show qS _ [.im (.tup [.int a, .int b]), .im (.tup [.int c, .int e])]
   simp_arith only [qS, aMw, aMJ]
   exact ⟨.inr ⟨h1.mono (by decide), h4.mono (by decide)⟩, .inr ⟨h3.mono (by decide), h2.mono (by decide)⟩, trivial⟩
  ·cases h
theorem aL9 (a b : Int) : iC [D.int a, D.int b] 0 = some (.int a) := rfl
theorem aMc (a b : Int) : iC [D.int a, D.int b] 1 = some (.int b) := rfl
theorem vZ : ∀ ds d, bU ds = some d → jH (gD d) (bD ["pay", "later", "patience", "upper"] ds)
 | [.int x, .tup [.int u, .int l], y], r, h => by
  obtain ⟨d, rfl, hd, h1⟩ := h9 (show lJ y _ = some r from h)
  clear h
  split at h1
  ·rename_i hh
   obtain ⟨b1, b2, b3⟩ := hh
   cases h1
   show jH _ [.im (.int x), .im (.tup [.int u, .int l]), .im (aU d), .un]
   have c1 := hd.bits.2.sub hd.bits.1
   have c2 := c1.mul b1
   simp_arith only [jH, nO, aL9, aMc, List.length_cons, List.length_nil]
   exact ⟨.inr ⟨c1.mono (by decide), b1.mono (by decide)⟩, .inr ⟨c2.mono (by decide), b3.mono (by decide)⟩, .inr ⟨hd.bits.1.mono (by decide), b2.mono (by decide)⟩, .inr ⟨hd.bits.2.mono (by decide), b3.mono (by decide)⟩, by decide, trivial⟩
  ·cases h1
theorem aJe {xs ys : List Int} {d : Rat} (hx : jT xs = true) (hy : jT ys = true) (hn : ys ≠ []) (hd : dA d) : cE [.lst (xs.map D.int), .lst (ys.map D.int), aU d] = some (aU (woL d xs ys)) := by
 simp only [cE, eW, if_pos (show jT xs = true ∧ jT ys = true ∧ ys ≠ [] from ⟨hx, hy, hn⟩), gU hd]
theorem aHh (d : Rat) (x : Int) (xs ys : List Int) : woL d (x :: xs) ys = (1 - d) * x + d * woL d xs ys := by
 unfold woL
 rw [List.map_cons, List.length_cons, Rat.pow_succ]
 show (1 - d) * (x : Rat) + d * rT d (xs.map fun (x : Int) => (x : Rat)) + _ = _
 grind
theorem aBn {d : Rat} (x u l : Int) (hl : 0 < l) : Rat.divInt (((d.den : Int) - d.num) * x * l + d.num * u) ((d.den : Int) * l) = (1 - d) * x + d * Rat.divInt u l := by
 have h1 := tO d
 have n1 := aKC d
 have n2 : ((l : Int) : Rat) ≠ 0 := by
  intro z
  have z2 : ((l : Int) : Rat) = ((0 : Int) : Rat) := z
  rw [Rat.intCast_inj] at z2
  omega
 rw [Rat.divInt_eq_div, Rat.divInt_eq_div, Rat.intCast_add, Rat.intCast_mul, Rat.intCast_mul, Rat.intCast_mul, Rat.intCast_mul, Rat.intCast_sub]
 generalize ((d.den : Int) : Rat) = a at *
 generalize ((d.num : Int) : Rat) = p at *
 generalize ((l : Int) : Rat) = b at *
 generalize ((u : Int) : Rat) = y at *
 grind
theorem vL : ∀ ds d, cE ds = some d → jC (gD d) (bD ["before", "again", "patience", "worth", "pay"] ds)
 | [.lst as, .lst bs, x], r, h => by
  cases ea : g6 as with
  | none => simp [cE, ea] at h
  | some xs =>
   cases eb : g6 bs with
   | none => simp [cE, ea, eb] at h
   | some ys =>
    simp only [cE, ea, eb] at h
    split at h
    ·rename_i hc
     obtain ⟨hx, hy, hn⟩ := hc
     obtain ⟨d, rfl, hd, h⟩ := h9 h
     cases h
     rw [jF ea, jF eb]
     obtain ⟨x1, x2⟩ := sB hx
     obtain ⟨y1, y2⟩ := sB hy
     have hyl : 0 < ys.length := List.length_pos_iff.mpr hn
     show jC _ [.im (.lst (xs.map D.int)), .im (.lst (ys.map D.int)), .im (aU d), .un, .un]
     have e0 : ∀ a b : Int, iC [D.int a, D.int b] 0 = some (.int a) := fun _ _ => rfl
     have e1 : ∀ a b : Int, iC [D.int a, D.int b] 1 = some (.int b) := fun _ _ => rfl
     have bp : Bd 40 d.num := hd.bits.1
     have bq : Bd 40 (d.den : Int) := hd.bits.2
     have o1 : jT (List.replicate ys.length 1) = true := v0 (by simpa using y1) fun y hy => by rw [List.eq_of_mem_replicate hy]; decide
     have er : (List.replicate (ys.length : Int).toNat [D.int 1]).flatten = (List.replicate ys.length (1 : Int)).map D.int := by
      rw [Int.toNat_natCast]
      generalize ys.length = n
      induction n with
      | zero => rfl
      | succ n ih => rw [List.replicate_succ, List.flatten_cons, ih, List.replicate_succ]; rfl
     have b1 : Bd 1000 (tY d.num d.den ys) := (aCe bp bq y2).mono (by omega)
     have b2 : Bd 1000 (tY d.num d.den (List.replicate ys.length 1)) := (aCe bp bq (ys := List.replicate ys.length 1) fun y hy => by rw [List.eq_of_mem_replicate hy]; decide).mono (by rw [List.length_replicate]; omega)
     obtain ⟨pn1, pn2⟩ := aB6 hd
     have b3 : Bd 41 ((d.den : Int) - d.num) := bq.sub bp
     simp_arith only [jC, nM, nD, aCN hy hd, aHG, List.length_map, List.length_cons, List.length_nil, er, aCN o1 hd, aKK, gR]
     refine ⟨by decide, ⟨by omega, by omega, bX (by omega)⟩, by decide, fun i δ => ∃ (u l : Int) (a4 : Sl), δ = [.im (.lst (xs.map D.int)), .im (.lst (ys.map D.int)), .im (aU d), .im (.tup [.int u, .int l]), a4] ∧ 0 < l ∧ Bd (50 * i + 1000) u ∧ Bd (50 * i + 1000) l ∧ Rat.divInt u l = woL d (xs.drop (xs.length - i)) ys, ⟨_, _, .un, rfl, aFg hd hyl, b1, b2, ?_⟩, ?_, ?_⟩
     ·rw [Nat.sub_zero, List.drop_length, ← aJS hd hn]
      show _ = (0 : Rat) + d ^ 0 * _
      rw [Rat.pow_zero]
      grind
     ·rintro i x δ ed ⟨u, l, a4, rfl, hl, bu, bl, ew⟩
      have hi : i < xs.length := by
       have := (List.getElem?_eq_some_iff.mp ed).1
       simpa using this
      rw [List.getElem?_reverse (by simpa using hi), List.length_map] at ed
      obtain ⟨hj, rfl⟩ := cW ed
      have bx : Bd 4 xs[xs.length - 1 - i] := by
       have := x2 _ (List.getElem_mem hj)
       unfold Bd
       omega
      have c1 := b3.mul bx
      have c2 := c1.mul bl
      have c3 := bp.mul bu
      have c4 := bq.mul bl
      have c5 : Bd (50 * i + 1045 + 1) (((d.den : Int) - d.num) * xs[xs.length - 1 - i] * l + d.num * u) := (c2.mono (by omega)).add (c3.mono (by omega))
      simp_arith only [aKD hd (bx.mono (by decide)) (bu.mono (by omega)) (bl.mono (by omega))]
      refine ⟨_, _, _, rfl, Int.mul_pos (by omega) hl, c5.mono (by omega), c4.mono (by omega), ?_⟩
      rw [aBn _ u l hl, ew, show xs.length - (i + 1) = xs.length - 1 - i by omega, List.drop_eq_getElem_cons hj, aHh, show xs.length - 1 - i + 1 = xs.length - i by omega]
     ·rintro δ ⟨u, l, a4, rfl, hl, bu, bl, ew⟩
      rw [List.length_reverse, List.length_map] at bu bl ew
      rw [Nat.sub_self, List.drop_zero] at ew
      simp_arith only [e0, e1, aJr hl (bu.mono (by omega)) (bl.mono (by omega)), ew]
    ·cases h
theorem aNC {ns : List Int} {pay : List (List Int)} {d : Rat} (ho : aX ns pay) (hd : dA d) {x y : D} {rows over : List (List Int)} (hx : kD x = some (rows.map aF)) (hy : kD y = some (over.map aF)) (h1 : rows.length ≤ 20) (h2 : ∀ r ∈ rows, r ∈ aN ns) (h3 : over.length ≤ 20) (h4 : ∀ r ∈ over, r ∈ aN ns) (h5 : over ≠ []) :
  iR [aY ns pay, x, y, aU d] = some (.tup ((List.range ns.length).map fun h => aU (woR ns pay rows over d h))) := by
 simp only [iR, bT ho, sH hx h1 h2, sH hy h3 h4, gU hd, if_neg h5]
theorem aMO {ns : List Int} {pay : List (List Int)} {d : Rat} (rows over : List (List Int)) (h : Nat) : woL d (rows.map fun r => bG ns pay r h) (over.map fun r => bG ns pay r h) = woR ns pay rows over d h := by
 unfold woL woR
 rw [List.map_map, List.map_map, List.length_map, List.length_map]
 rfl
theorem aDO : ∀ ds d, iR ds = some d → pF (gD d) (bD ["meeting", "rows", "over", "patience", "told", "hand", "before", "again"] ds)
 | [m, x, y, z], r, h => by
  obtain ⟨ns, pay, rfl, ho, h⟩ := b8 (show bL m _ = some r from h)
  obtain ⟨rows, hx, h1, h2, h⟩ := vN h
  obtain ⟨over, hy, h3, h4, h⟩ := vN h
  obtain ⟨d, rfl, hd, h⟩ := h9 h
  split at h
  ·cases h
  ·rename_i h5
   cases h
   show pF _ [.im (aY ns pay), .im x, .im y, .im (aU d), .un, .un, .un, .un]
   have e0 : iC [aF ns, D.tup (pay.map aF)] 0 = some (aF ns) := rfl
   have n3 := (cC ho.ok).1
   simp_arith only [pF, uC, e0, gR, List.length_nil, List.length_map]
   refine ⟨by decide, ⟨by omega, by omega⟩, fun i δ => ∃ a5 a6 a7, δ = [.im (aY ns pay), .im x, .im y, .im (aU d), .ow ((List.range i).map fun h => aU (woR ns pay rows over d h)), a5, a6, a7], ⟨_, _, _, rfl⟩, ?_, ?_⟩
   ·rintro i w δ ed ⟨a5, a6, a7, rfl⟩
    unfold b9 at ed
    obtain ⟨hi, rfl⟩ := cW ed
    rw [List.length_range] at hi
    have hi' : i < ns.length := by omega
    rw [List.getElem_range, Int.zero_add]
    have o1 : jT (rows.map fun r => bG ns pay r i) = true := v0 (by simpa using h1) fun w hw => by
     obtain ⟨r, hr, rfl⟩ := List.mem_map.mp hw
     exact nL ho (h2 r hr)
    have o2 : jT (over.map fun r => bG ns pay r i) = true := v0 (by simpa using h3) fun w hw => by
     obtain ⟨r, hr, rfl⟩ := List.mem_map.mp hw
     exact nL ho (h4 r hr)
    have o3 : (over.map fun r => bG ns pay r i) ≠ [] := by simpa using h5
    simp_arith only [aFI ho hx h1 h2 hi', aFI ho hy h3 h4 hi', aJe o1 o2 o3 hd, aMO, List.length_map, List.length_range]
    refine ⟨mG (by omega), ?_⟩
    rw [show (List.range (i + 1)).map (fun h => aU (woR ns pay rows over d h)) = (List.range i).map (fun h => aU (woR ns pay rows over d h)) ++ [aU (woR ns pay rows over d i)] by rw [List.range_succ, List.map_append]; rfl]
    exact ⟨_, _, _, rfl⟩
   ·rintro δ ⟨a5, a6, a7, rfl⟩
    simp_arith only []
    rw [hZ, Int.toNat_natCast]
section
variable {ns : List Int} {pay : List (List Int)} {pl : List (List Int × List Int)} {d : Rat} {h s : Nat}
theorem aCW (hp : gE ns pl) (hd : dA d) (hs : s < pl.length) {n i : Nat} (hi : i < n) (e : gN (fX ns pl) n s = gN (fX ns pl) i s) : cN ns pay pl d h s = woR ns pay (((List.range n).map fun t => bY pl (gN (fX ns pl) t s)).take i) (((List.range n).map fun t => bY pl (gN (fX ns pl) t s)).drop i) d h := by
 have W := qN (h := h) (pay := pay) hp hd
 have hf := zY hp
 have a := W.unroll hf i s hs
 have hc := nY hf i s hs
 have b := W.unroll hf (n - i) (gN (fX ns pl) i s) hc
 rw [← lD, show i + (n - i) = n by omega, e] at b
 unfold woR
 have l1 : rT d ((((List.range n).map fun t => bY pl (gN (fX ns pl) t s)).take i).map (fun r => (bG ns pay r h : Rat))) = fst d (fun s => (bG ns pay (bY pl s) h : Rat)) (fX ns pl) i s := by
  rw [zJ, ← List.map_take, List.map_map, List.take_range, Nat.min_eq_left (by omega)]
  rfl
 have l2 : rT d ((((List.range n).map fun t => bY pl (gN (fX ns pl) t s)).drop i).map (fun r => (bG ns pay r h : Rat))) = fst d (fun s => (bG ns pay (bY pl s) h : Rat)) (fX ns pl) (n - i) (gN (fX ns pl) i s) := by
  rw [zJ, ← List.map_drop, List.map_map]
  congr 1
  refine List.ext_getElem (by simp) fun k h1 h2 => ?_
  simp only [List.getElem_map, List.getElem_drop, List.getElem_range, Function.comp]
  rw [← lD]
 rw [l1, l2, List.length_take, List.length_drop, List.length_map, List.length_range, Nat.min_eq_left (by omega), a]
 obtain ⟨p1, p2⟩ := kZ hd.pos hd.lt (n - i) (by omega)
 have hne : (1 - d ^ (n - i)) ≠ 0 := by grind
 have k : cN ns pay pl d h (gN (fX ns pl) i s) = fst d (fun s => (bG ns pay (bY pl s) h : Rat)) (fX ns pl) (n - i) (gN (fX ns pl) i s) / (1 - d ^ (n - i)) := by grind
 rw [k]
def lV (f : Nat → Nat) (t : Nat) : List (Int × Int) := (List.range t).map fun (k : Nat) => ((f k : Int), (k : Int))
theorem aF1 {f : Nat → Nat} {t : Nat} {x i : Int} (e : qJ (lV f t) x = some i) : ∃ k, k < t ∧ i = (k : Int) ∧ (f k : Int) = x := by
 unfold qJ at e
 obtain ⟨p, hp, e2⟩ := Option.map_eq_some_iff.mp e
 have h1 := List.mem_of_find?_eq_some hp
 have h2 := List.find?_some hp
 unfold lV at h1
 obtain ⟨k, hk, rfl⟩ := List.mem_map.mp h1
 exact ⟨k, List.mem_range.mp hk, e2.symm, of_decide_eq_true h2⟩
theorem aAK {f : Nat → Nat} {t : Nat} {x : Int} (e : qJ (lV f t) x = none) : ∀ k, k < t → (f k : Int) ≠ x := by
 intro k hk z
 unfold qJ at e
 have e2 := Option.map_eq_none_iff.mp e
 have := List.find?_eq_none.mp e2 ((f k : Int), (k : Int)) (List.mem_map.mpr ⟨k, List.mem_range.mpr hk, rfl⟩)
 exact this (decide_eq_true z)
theorem aJY {f : Nat → Nat} {t : Nat} {x : Int} (hx : (f t : Int) = x) (e : qJ (lV f t) x = none) : aGu (lV f t) x t = lV f (t + 1) := by
 unfold aGu
 have hn : ¬ ((lV f t).any fun p => decide (p.1 = x)) = true := by
  intro z
  obtain ⟨p, hp, hq⟩ := List.any_eq_true.mp z
  unfold lV at hp
  obtain ⟨k, hk, rfl⟩ := List.mem_map.mp hp
  exact aAK e k (List.mem_range.mp hk) (of_decide_eq_true hq)
 rw [if_neg hn]
 unfold lV
 rw [List.range_succ, List.map_append, ← hx]
 rfl
theorem aIb (ho : aX ns pay) (hp : gE ns pl) (hs : s < pl.length) (hd : dA d) : fB [aY ns pay, f8 pl, .int s, aU d] = some (.tup ((List.range ns.length).map fun h => aU (cN ns pay pl d h s))) := by
 simp only [fB, bT ho, mE hp, fH hs, gU hd]
end
theorem aAd : ∀ ds d, fB ds = some d → k7 (gD d) (bD ["meeting", "plan", "start", "patience", "came", "state", "rows"] ds)
 | [m, p, x, z], r, h => by
  obtain ⟨ns, pay, rfl, ho, h⟩ := b8 (show bL m _ = some r from h)
  obtain ⟨pl, rfl, hp, h⟩ := mH h
  obtain ⟨s, rfl, hs, h⟩ := fJ h
  obtain ⟨d, rfl, hd, h⟩ := h9 h
  cases h
  show k7 _ [.im (aY ns pay), .im (f8 pl), .im (.int s), .im (aU d), .un, .un, .un]
  have hf := zY hp
  have h20 := hp.few.2
  simp_arith only [k7, l5, l4, l6, l6, aH6, o5]
  refine ⟨fun n δ => ∃ t : Nat, δ = [.im (aY ns pay), .im (f8 pl), .im (.int s), .im (aU d), .od (.k (lV (fun k => gN (fX ns pl) k s) t)), .im (.int (gN (fX ns pl) t s)), .un] ∧ n = pl.length - t ∧ t ≤ pl.length ∧ ∀ i j, i < j → j < t → gN (fX ns pl) i s ≠ gN (fX ns pl) j s, ⟨pl.length, 0, rfl, rfl, Nat.zero_le _, fun i j _ hj => absurd hj (Nat.not_lt_zero j)⟩, ?_⟩
  rintro n δ ⟨t, rfl, rfl, ht, hdis⟩
  have hst := nY hf t s hs
  simp_arith only [xT, wM, gKI, DM.get]
  cases el : qJ (lV (fun k => gN (fX ns pl) k s) t) (gN (fX ns pl) t s : Int) with
  | none =>
   have hnew := aAK el
   have hdis' : ∀ i j, i < j → j < t + 1 → gN (fX ns pl) i s ≠ gN (fX ns pl) j s := by
    intro i j hij hj z
    by_cases hjt : j = t
    ·subst hjt
     exact hnew i hij (by rw [z])
    ·exact hdis i j hij (by omega) z
   have htl : t < pl.length := by
    apply Nat.lt_of_not_le
    intro z
    have e : t = pl.length := by omega
    obtain ⟨i, j, hij, hj, ez⟩ := vY pl.length (fun k => gN (fX ns pl) k s) fun k _ => nY hf k s hs
    exact hdis' i j hij (by omega) ez
   have e0 : iC [aF (bY pl (gN (fX ns pl) t s)), aF (pl.getD (gN (fX ns pl) t s) ([], [])).2] 0 = some (aF (bY pl (gN (fX ns pl) t s))) := rfl
   have hlen : (lV (fun k => gN (fX ns pl) k s) t).length = t := by simp [lV]
   have hz : t < sizeLine := mG (by omega)
   have hstep : i8 ns pl (gN (fX ns pl) t s) (bY pl (gN (fX ns pl) t s)) = gN (fX ns pl) (t + 1) s := by
    rw [lD]
    rfl
   simp_arith only [Option.isSome_none, Bool.not_false, aFR, aFL, wM, gKI, DM.put, hlen, hz, qB hst, e0, aFy ho hp hst (aAN hp hst), hstep]
   refine ⟨pl.length - (t + 1), by omega, t + 1, ?_, rfl, htl, hdis'⟩
   rw [aJY (f := fun k => gN (fX ns pl) k s) rfl el]
  | some i0 =>
   obtain ⟨i, hi, rfl, hii⟩ := aF1 el
   have hii : gN (fX ns pl) i s = gN (fX ns pl) t s := by omega
   simp_arith only [Option.isSome_some, Bool.not_true, l4, l5, aE9, aBp, eF]
   refine ⟨by simp only [List.length_map, lV, List.length_range]; exact bX (by omega), fun x => match x with
    | .int k => aF (bY pl k.toNat)
    | _ => .non, fun x hx => ?_, ?_⟩
   ·obtain ⟨q, hq, rfl⟩ := List.mem_map.mp hx
    unfold lV at hq
    obtain ⟨k, hk, rfl⟩ := List.mem_map.mp hq
    have hsk := nY hf k s hs
    have e0 : iC [aF (bY pl (gN (fX ns pl) k s)), aF (pl.getD (gN (fX ns pl) k s) ([], [])).2] 0 = some (aF (bY pl (gN (fX ns pl) k s))) := rfl
    simp_arith only [δc, List.map_cons, List.map_nil, qB hsk, e0, Int.toNat_natCast]
   ·have em : ((lV (fun k => gN (fX ns pl) k s) t).map fun p => D.int p.1).map (fun x => match x with
     | .int k => aF (bY pl k.toNat)
     | _ => .non) = ((List.range t).map fun k => bY pl (gN (fX ns pl) k s)).map aF := by
     unfold lV
     rw [List.map_map, List.map_map, List.map_map]
     refine List.map_congr_left fun k _ => ?_
     simp
    rw [em]
    generalize hR : ((List.range t).map fun k => bY pl (gN (fX ns pl) k s)) = R
    have hl : R.length = t := by rw [← hR]; simp
    have hm : ∀ r ∈ R, r ∈ aN ns := by
     intro r hr
     rw [← hR] at hr
     obtain ⟨k, _, rfl⟩ := List.mem_map.mp hr
     exact aAN hp (nY hf k s hs)
    have c1 : rO (R.map aF) none (some (i : Int)) = (R.take i).map aF := by rw [aGD _ _ (by rw [List.length_map]; omega), List.map_take]
    have c2 : rO (R.map aF) (some (i : Int)) none = (R.drop i).map aF := by rw [aGI _ _ (by rw [List.length_map]; omega), List.map_drop]
    have fw := aNC (pay := pay) ho hd (x := .lst ((R.take i).map aF)) (y := .lst ((R.drop i).map aF)) (rows := R.take i) (over := R.drop i) rfl rfl (by rw [List.length_take]; omega) (fun r hr => hm r (List.mem_of_mem_take hr)) (by rw [List.length_drop]; omega) (fun r hr => hm r (List.mem_of_mem_drop hr)) (by
     intro z
     have := congrArg List.length z
     rw [List.length_drop] at this
     simp at this
     omega)
    simp_arith only [aJx, aDt, wM, gKI, DM.get, el, c1, c2, fw]
    congr 1
    refine List.map_congr_left fun h _ => ?_
    rw [← hR, aCW hp hd hs hi hii.symm]
theorem aGs : ∀ ds d, lR ds = some d → t7 (gD d) (bD ["meeting", "plan", "patience"] ds)
 | [m, p, z], r, h => by
  obtain ⟨ns, pay, rfl, ho, h⟩ := b8 (show bL m _ = some r from h)
  obtain ⟨pl, rfl, hp, h⟩ := mH h
  obtain ⟨d, rfl, hd, h⟩ := h9 h
  cases h
  show t7 _ [.im (aY ns pay), .im (f8 pl), .im (aU d)]
  have h20 := hp.few.2
  simp_arith only [t7, eF, List.length_map]
  refine ⟨⟨by omega, by omega⟩, by rw [hZ]; exact bX (by omega), fun x => match x with
   | .int s => .tup ((List.range ns.length).map fun h => aU (cN ns pay pl d h s.toNat))
   | _ => .non, fun x hx => ?_, ?_⟩
  ·unfold b9 at hx
   obtain ⟨s, hs, rfl⟩ := List.mem_map.mp hx
   have hs' : s < pl.length := by
    have := List.mem_range.mp hs
    omega
   simp_arith only [δc, List.map_cons, List.map_nil, Int.zero_add, aIb ho hp hs' hd, Int.toNat_natCast]
  ·unfold b9 oV
   rw [List.map_map, Int.toNat_natCast]
   congr 1
   refine List.map_congr_left fun s _ => ?_
   simp
theorem uJ : ∀ ds d, cO ds = some d → iV (gD d) (bD ["told", "hand"] ds)
 | [.tup ds, .int h], r, hF => by
  simp only [cO] at hF
  split at hF
  ·rename_i hh
   obtain ⟨h1, h2⟩ := hh
   cases hF
   show iV _ [.im (.tup ds), .im (.int h)]
   simp_arith only [iV, eF]
   refine ⟨bX h1, hAt h, fun x hx => ?_, ?_⟩
   ·obtain ⟨xs, y, rfl, e⟩ := h2 x hx
    simp_arith only [δc, List.map_cons, List.map_nil, hAt, e, Option.getD_some]
   ·first | trivial | rfl
  ·cases hF
theorem yP : ∀ ds d, fG ds = some d → lI (gD d) (bD ["meeting", "plan", "state", "hand", "own", "patience", "row", "best", "most", "deed", "done", "later", "worth"] ds)
 | [m, p, x, y, w, z], r, hF => by
  obtain ⟨ns, pay, rfl, ho, h1⟩ := b8 (show bL m _ = some r from hF)
  obtain ⟨pl, rfl, hp, h2⟩ := mH h1
  obtain ⟨s, rfl, hs, h3⟩ := fJ h2
  obtain ⟨h, rfl, hh, h4⟩ := fJ h3
  obtain ⟨qs, rfl, q1, q2, h5⟩ := aIA h4
  obtain ⟨d, rfl, hd, h6⟩ := h9 h5
  cases h6
  clear hF h1 h2 h3 h4 h5
  show lI _ [.im (aY ns pay), .im (f8 pl), .im (.int s), .im (.int h), .im (.tup (qs.map aU)), .im (aU d), .un, .un, .un, .un, .un, .un, .un]
  have hr := oN hp hs
  have rl := e7 hr
  have n3 := (cC ho.ok).1
  have d3 := qE ho hh
  have e0 : iC [aF (bY pl s), aF (pl.getD s ([], [])).2] 0 = some (aF (bY pl s)) := rfl
  have e2 : iC [aF ns, D.tup (pay.map aF)] 0 = some (aF ns) := rfl
  have at_w : ∀ t, t < pl.length → iC (qs.map aU) (t : Int) = some (aU (wv qs t)) := fun t ht => by
   rw [v5 (by rw [List.length_map, q1]; exact ht), List.getElem_map]
   show _ = some (aU (qs.getD t 0))
   rw [bR (by omega)]
  have bd_w : ∀ t, t < pl.length → BdR 900 (wv qs t) := fun t ht => by
   show BdR 900 (qs.getD t 0)
   rw [bR (by omega)]
   exact q2 _ (List.getElem_mem _)
  simp_arith only [lI, pL, pK, pN, qB hs, e0, e2, d0 (show h < (bY pl s).length by omega), d0 hh, at_w s hs, gR]
  refine ⟨⟨by omega, by omega⟩, fun j δ => ∃ (u l : Int) (a9 a10 a11 a12 : Sl), δ = [.im (aY ns pay), .im (f8 pl), .im (.int s), .im (.int h), .im (.tup (qs.map aU)), .im (aU d), .im (aF (bY pl s)), .im (.int (wE ns pay pl d h (wv qs) s j).1), .im (.tup [.int u, .int l]), a9, a10, a11, a12] ∧ 0 < l ∧ Bd 1000 u ∧ Bd 1000 l ∧ Rat.divInt u l = (wE ns pay pl d h (wv qs) s j).2, ⟨_, _, _, _, _, _, rfl, tJ _, (bd_w s hs).1.mono (by decide), (bd_w s hs).2.mono (by decide), Rat.num_divInt_den _⟩, ?_, ?_⟩
  ·rintro j x δ ed ⟨u, l, a9, a10, a11, a12, rfl, hl, bu, bl, ev⟩
   rw [fZ] at ed
   obtain ⟨hj, rfl⟩ := cW ed
   have hk : (aS ns h)[j] ∈ aS ns h := List.getElem_mem hj
   have hm := aHF hp hs hk
   have hn := aKx hp hs hk
   have es := aEF (pay := pay) (pl := pl) (d := d) (W := wv qs) (s := s) hj
   have hv : fO ns pay pl d h (wv qs) s (aS ns h)[j] = (1 - d) * bG ns pay ((bY pl s).set h (aS ns h)[j]) h + d * wv qs (i8 ns pl s ((bY pl s).set h (aS ns h)[j])) := rfl
   have fw := aII (r := bY pl s) (h := h) (k := (aS ns h)[j]) (by omega) (by omega)
   have e3 : iC ((j0 ns pay ((bY pl s).set h (aS ns h)[j])).map D.int) (h : Int) = some (.int (bG ns pay ((bY pl s).set h (aS ns h)[j]) h)) := d0 (by rw [(kH ho hm).1]; exact hh)
   have bx : Bd 4 (bG ns pay ((bY pl s).set h (aS ns h)[j]) h) := by
    have := nL (h := h) ho hm
    unfold Bd
    omega
   have bw := bd_w _ hn
   have fb := aFy ho hp hs hm
   have fp := qG ho hm
   have aw := at_w _ hn
   generalize (aS ns h)[j] = k at *
   generalize (bY pl s).set h k = row at *
   generalize i8 ns pl s row = t at *
   generalize bG ns pay row h = X at *
   have sq := aBn (d := d) X (wv qs t).num (wv qs t).den (tJ _)
   rw [Rat.num_divInt_den, ← hv] at sq
   have fl : bU [.int X, aU (wv qs t), aU d] = _ := aKD hd (bx.mono (by decide)) (bw.1.mono (by decide)) (bw.2.mono (by decide))
   have c1 := ((hd.bits.2.sub hd.bits.1).mul bx).mul bw.2
   have c2 := hd.bits.1.mul bw.1
   have c3 := c1.add (c2.mono (by decide))
   have c4 := hd.bits.2.mul bw.2
   have hL : 0 < (d.den : Int) * ((wv qs t).den : Int) := Int.mul_pos (tJ d) (tJ _)
   generalize ((d.den : Int) - d.num) * X * ((wv qs t).den : Int) + d.num * (wv qs t).num = U at *
   generalize (d.den : Int) * ((wv qs t).den : Int) = L at *
   have c5 : Bd 1000 U := c3.mono (by decide)
   have c6 : Bd 1000 L := c4.mono (by decide)
   have fi := aFx (bu.mono (by decide)) (bl.mono (by decide)) (c5.mono (by decide) : Bd 3000 U) (c6.mono (by decide) : Bd 3000 L)
   have key := aDI (a := u) (c := U) hl hL
   rw [ev, sq] at key
   simp_arith only [fw, fb, aw, fp, e3, fl, fi]
   by_cases hc : (wE ns pay pl d h (wv qs) s j).2 < fO ns pay pl d h (wv qs) s k
   ·rw [decide_eq_true (key.mpr hc)]
    unfold qF at es
    rw [if_pos hc] at es
    rw [es]
    simp_arith only []
    exact ⟨U, L, _, _, _, _, rfl, hL, c5, c6, sq⟩
   ·rw [decide_eq_false (fun z => hc (key.mp z))]
    unfold qF at es
    rw [if_neg hc] at es
    rw [es]
    simp_arith only []
    exact ⟨u, l, _, _, _, _, rfl, hl, bu, bl, ev⟩
  ·rintro δ ⟨u, l, a9, a10, a11, a12, rfl, hl, bu, bl, ev⟩
   rw [fZ, List.length_map]
   simp_arith only []
   first | done | rfl
theorem xN : ∀ ds d, eJ ds = some d → kF (gD d) (bD ["meeting", "plan", "hand", "own", "patience"] ds)
 | [m, p, y, w, z], r, hF => by
  obtain ⟨ns, pay, rfl, ho, h1⟩ := b8 (show bL m _ = some r from hF)
  obtain ⟨pl, rfl, hp, h2⟩ := mH h1
  obtain ⟨h, rfl, hh, h4⟩ := fJ h2
  obtain ⟨qs, rfl, q1, q2, h5⟩ := aIA h4
  obtain ⟨d, rfl, hd, h6⟩ := h9 h5
  cases h6
  clear hF h1 h2 h4 h5
  show kF _ [.im (aY ns pay), .im (f8 pl), .im (.int h), .im (.tup (qs.map aU)), .im (aU d)]
  have h20 := hp.few.2
  simp_arith only [kF, eF, List.length_map]
  refine ⟨⟨by omega, by omega⟩, by rw [hZ]; exact bX (by omega), fun x => match x with
   | .int s => .int (kL ns pay pl d h (wv qs) s.toNat)
   | _ => .non, fun x hx => ?_, ?_⟩
  ·unfold b9 at hx
   obtain ⟨s, hs, rfl⟩ := List.mem_map.mp hx
   have hs' : s < pl.length := by
    have := List.mem_range.mp hs
    omega
   simp_arith only [δc, List.map_cons, List.map_nil, Int.zero_add, aIS ho hp hd hh hs' q1 q2, Int.toNat_natCast]
  ·unfold b9 aF
   rw [List.map_map, Int.toNat_natCast, List.map_map]
   congr 1
   refine List.map_congr_left fun s _ => ?_
   simp
theorem aI9 : ∀ ds p, pU ds = some p → aCt (aGz p) (bD ["meeting", "plan", "patience", "told", "hand", "better", "state", "deed"] ds)
 | [m, q, z], P, hF => by
  obtain ⟨ns, pay, pl, d, rfl, rfl, rfl, ho, hp, hd, -, rfl⟩ := aEp (show qP m q z _ _ = some P from hF)
  clear hF
  show aCt _ [.im (aY ns pay), .im (f8 pl), .im (aU d), .un, .un, .un, .un, .un]
  have n3 := (cC ho.ok).1
  have h20 := hp.few.2
  have e2 : iC [aF ns, D.tup (pay.map aF)] 0 = some (aF ns) := rfl
  simp_arith only [aCt, aCT, aJv ho hp hd, e2, gR, List.length_map]
  refine ⟨⟨by omega, by omega⟩, fun i δ => ∃ a4 a5 a6 a7, δ = [.im (aY ns pay), .im (f8 pl), .im (aU d), .im (oV ns pay pl d), a4, a5, a6, a7] ∧ ∀ h, h < i → ∀ s, s < pl.length → ∀ k ∈ aS ns h, fO ns pay pl d h (cN ns pay pl d h) s k ≤ cN ns pay pl d h s, ⟨_, _, _, _, rfl, fun h hh => absurd hh (Nat.not_lt_zero h)⟩, ?_, ?_⟩
  ·rintro h x δ ed ⟨a4, a5, a6, a7, rfl, hno⟩
   unfold b9 at ed
   obtain ⟨hh, rfl⟩ := cW ed
   rw [List.length_range] at hh
   have hh : h < ns.length := by omega
   rw [List.getElem_range, Int.zero_add]
   simp_arith only [aH7 hh hp, aIg ho hp hd hh]
   refine ⟨fun j δ => ∃ a6 a7, δ = [.im (aY ns pay), .im (f8 pl), .im (aU d), .im (oV ns pay pl d), .im (.int h), .im (aF ((List.range pl.length).map fun s => kL ns pay pl d h (wv (jQ ns pay pl d h)) s)), a6, a7] ∧ ∀ s, s < j → s < pl.length → ∀ k ∈ aS ns h, fO ns pay pl d h (cN ns pay pl d h) s k ≤ cN ns pay pl d h s, ⟨_, _, rfl, fun s hs => absurd hs (Nat.not_lt_zero s)⟩, ?_, ?_⟩
   ·rintro s x δ ed ⟨a6, a7, rfl, hno2⟩
    rw [pD] at ed
    obtain ⟨hs, rfl⟩ := cW ed
    rw [List.length_range, List.length_map, List.length_range] at hs
    rw [List.getElem_range]
    have eb : ((List.range pl.length).map fun s => kL ns pay pl d h (wv (jQ ns pay pl d h)) s).getD s 0 = kL ns pay pl d h (wv (jQ ns pay pl d h)) s := by rw [bR (by simpa using hs), List.getElem_map, List.getElem_range]
    have e0 : iC [aF (bY pl s), aF (pl.getD s ([], [])).2] 0 = some (aF (bY pl s)) := rfl
    have e3 : iC ((bY pl s).map D.int) (h : Int) = some (.int ((bY pl s).getD h 0)) := d0 (by rw [e7 (oN hp hs)]; exact hh)
    simp_arith! only [eb, qB hs, e0, e3]
    refine ⟨by simp [rY], ?_⟩
    rcases aF5 (pay := pay) hp hd hh hs (W := wv (jQ ns pay pl d h)) (fun s hs => aGf hs) with ⟨h1, h2⟩ | ⟨h1, h2, h3⟩
    ·rw [show (kL ns pay pl d h (wv (jQ ns pay pl d h)) s == (bY pl s).getD h 0) = true from beq_iff_eq.mpr h1]
     simp_arith! only [Bool.not_true]
     refine ⟨_, _, rfl, fun t ht htl => ?_⟩
     by_cases e : t = s
     ·rw [e]; exact h2
     ·exact hno2 t (by omega) htl
    ·rw [show (kL ns pay pl d h (wv (jQ ns pay pl d h)) s == (bY pl s).getD h 0) = false from beq_eq_false_iff_ne.mpr h1]
     simp_arith! only [Bool.not_false, List.length_cons, List.length_nil]
     exact ⟨by decide, .inr ⟨_, aF8 hs hh h2 h3, rfl⟩⟩
   ·rintro δ ⟨a6, a7, rfl, hno2⟩
    rw [pA, List.length_map, List.length_map, List.length_range] at hno2
    refine ⟨_, _, _, _, rfl, fun h' hh' s hs => ?_⟩
    by_cases e : h' = h
    ·rw [e]; exact hno2 s hs hs
    ·exact hno h' (by omega) s hs
  ·rintro δ ⟨a4, a5, a6, a7, rfl, hno⟩
   rw [hZ, Int.toNat_natCast] at hno
   exact .inl ⟨trivial, aAS.mpr fun s hs h hh k hk => hno h hh s hs k hk⟩
theorem aLh {ns : List Int} {pay : List (List Int)} {pl : List (List Int × List Int)} {d : Rat} (ho : aX ns pay) (hp : gE ns pl) (hd : dA d) : pU [aY ns pay, f8 pl, aU d] = some fun x => (x = .non ∧ nA ns pay pl d = []) ∨ ∃ y ∈ nA ns pay pl d, x = aMZ y := by
 simp only [pU]
 exact aEZ ho hp hd trivial
theorem aHb : ∀ ds d, nJ ds = some d → yB (gD d) (bD ["meeting", "plan", "patience"] ds)
 | [m, q, z], r, hF => by
  obtain ⟨ns, pay, rfl, ho, h1⟩ := b8 (show bL m _ = some r from hF)
  obtain ⟨pl, rfl, hp, h2⟩ := mH h1
  obtain ⟨d, rfl, hd, h3⟩ := h9 h2
  cases h3
  clear hF h1 h2
  show yB _ [.im (aY ns pay), .im (f8 pl), .im (aU d)]
  simp_arith only [yB, aLh ho hp hd, aBl]
  rintro x (⟨rfl, hg⟩ | ⟨y, hy, rfl⟩)
  ·rw [decide_eq_true hg]
   rfl
  ·rw [decide_eq_false (fun z => by rw [z] at hy; exact absurd hy List.not_mem_nil)]
   rfl
theorem aEG : ∀ ds d, kU ds = some d → rK (gD d) (bD ["deeds", "rows", "many", "longer", "row", "deed"] ds)
 | [.tup es], d, h => by
  obtain ⟨ns, rfl, ho, rfl⟩ := sN (show k9 es (fun ns => D.tup ((aN ns).map aF)) = some d from h)
  show rK _ [.im (.tup (ns.map D.int)), .un, .un, .un, .un, .un]
  simp_arith only [rK, wC, gR]
  refine ⟨by decide, by decide, fun i δ => ∃ a b c e, δ = [.im (.tup (ns.map D.int)), .im (.lst ((aN (ns.take i)).map aF)), a, b, c, e], ⟨.un, .un, .un, .un, rfl⟩, ?_, ?_⟩
  ·rintro i d δ ed ⟨a, b, c, e, rfl⟩
   obtain ⟨hi, rfl⟩ := cW ed
   obtain ⟨f1, f2, f3, f4⟩ := aAL ho hi
   generalize hR : aN (ns.take i) = R at *
   generalize hn : ns[i] = n at *
   simp_arith only []
   refine ⟨by decide, fun j δ => ∃ c e, δ = [.im (.tup (ns.map D.int)), .im (.lst (R.map aF)), .im (.int n), .ow ((dB (R.take j) n).map aF), c, e], ⟨c, e, rfl⟩, ?_, ?_⟩
   ·rintro j d δ ed ⟨c, e, rfl⟩
    obtain ⟨hj, rfl⟩ := cW ed
    have fr := f4 R[j] (List.getElem_mem hj)
    simp_arith only []
    refine ⟨by omega, fun k δ => ∃ e, δ = [.im (.tup (ns.map D.int)), .im (.lst (R.map aF)), .im (.int n), .ow ((dB (R.take j) n).map aF ++ ((List.range k).map fun (m : Nat) => aF (R[j] ++ [(m : Int)]))), .im (aF R[j]), e], ⟨e, by simp⟩, ?_, ?_⟩
    ·rintro k d δ ed ⟨e, rfl⟩
     unfold b9 at ed
     obtain ⟨hk, rfl⟩ := cW ed
     rw [List.length_range] at hk
     simp_arith only [aF, List.getElem_range, Int.zero_add]
     have hl : (dB (R.take j) n).length ≤ 81 := by
      rw [mX, List.length_take]
      exact Nat.le_trans (Nat.mul_le_mul (Nat.le_trans (Nat.min_le_right _ _) f3) (show n.toNat ≤ 3 by omega)) (by decide)
     refine ⟨bX (by simp), by simp; exact bX (by omega), ?_, ?_⟩
     ·refine mG ?_
      simp
      omega
     ·refine ⟨.im (.int (k : Int)), ?_⟩
      rw [List.range_succ, List.map_append, ← List.append_assoc]
      simp only [List.map_cons, List.map_nil, List.map_append, aF]
    ·rintro δ ⟨e, rfl⟩
     refine ⟨.im (aF R[j]), e, ?_⟩
     rw [uP R n j hj, List.map_append, List.map_map]
     simp [b9, Function.comp_def]
   ·rintro δ ⟨c, e, rfl⟩
    simp_arith only []
    rw [zU ns i hi, hR, hn, List.length_map, List.take_length]
    exact ⟨_, _, _, _, rfl⟩
  ·rintro δ ⟨a, b, c, e, rfl⟩
   simp_arith only []
   rw [List.length_map, List.take_length]
theorem aDj : ∀ ds d, cQ ds = some d → pB (gD d) (bD ["meeting"] ds)
 | [.tup [.tup es, p]], d, h => by
  obtain ⟨ns, rfl, ho, rfl⟩ := sN (show k9 es (fun ns => D.tup ((aN ns).map aF)) = some d from h)
  show pB _ [.im (.tup [.tup (ns.map D.int), p])]
  simp [pB, cT , aFJ, aIZ, aFN, aFs, rA, o9, nH, aE, bI, cA, dH, gC, gF, rM, aC, aJ, fU, bV, vR, aQ, oC, zS, aCJ, n4, aBU, aD3, gJ, aFt, bP, aBL, t9, kA, rR, oNe, oEq, oIs, aBA, oA, rY, gM, aCp, x6, eM, xI, j6, gIt, gIl, h8, aAT, aAu, aET, rQ, kM, fR, o4, aGM, aGo, gOr, tN, aBH, aEN, zM, aJ3, pE, aG0, yD, aHN, aE6, aBV, aBw, l3, vM, aJb, aD0, aGm, eq_self, if_true, ↓reduceIte, Bool.false_eq_true, if_false, List.getElem?_cons_zero, List.getElem?_cons_succ, List.set_cons_zero, List.set_cons_succ, iC, ixN, kU, o6 _ ho]
theorem aKw {ns : List Int} {pay : List (List Int)} {r : List Int} {h : Nat} (ho : aX ns pay) (hh : h < ns.length) (hr : r ∈ aN ns) : cX [aY ns pay, .int h, aF r] = some (.lst (((aS ns h).map fun k => bG ns pay (r.set h k) h).map D.int)) := by
 simp only [cX, bT ho, fH hh, mL hr]
theorem sM {ns : List Int} {pay : List (List Int)} {h : Nat} (ho : aX ns pay) (hh : h < ns.length) : (aS ns h).length ≤ 3 := by
 have := qE ho hh
 unfold aS
 simp only [List.length_map, List.length_range]
 omega
theorem xG : ∀ ds d, cX ds = some d → kJ (gD d) (bD ["meeting", "hand", "row"] ds)
 | [m, y, x], d, h => by
  obtain ⟨ns, pay, rfl, ho, h⟩ := b8 (show bL m _ = some d from h)
  obtain ⟨i, rfl, hi, h⟩ := fJ h
  obtain ⟨r, rfl, hr, h⟩ := mJ h
  cases h
  show kJ _ [.im (aY ns pay), .im (.int i), .im (aF r)]
  have e0 : iC [aF ns, D.tup (pay.map aF)] 0 = some (aF ns) := rfl
  have e1 : iC (ns.map D.int) (i : Nat) = some (.int (ns.getD i 0)) := d0 hi
  have d3 := qE ho hi
  have n3 := (cC ho.ok).1
  have hd := sM ho hi
  have rl := e7 hr
  simp_arith only [kJ, aY, e0, eF]
  simp only [e1]
  refine ⟨⟨by omega, by omega⟩, ?_, fun x => match x with
   | .int k => .int (bG ns pay (r.set i k) i)
   | _ => .non, fun x hx => ?_, ?_⟩
  ·rw [fZ, List.length_map]
   exact bX (by omega)
  ·rw [fZ] at hx
   obtain ⟨k, hk, rfl⟩ := List.mem_map.mp hx
   have hk' := gG.mp hk
   have hs := qQ hr hk'.1 hk'.2
   have ep : fW [.tup [.tup (ns.map D.int), .tup (pay.map aF)], aF (r.set i k)] = some (aF (j0 ns pay (r.set i k))) := qG ho hs
   have ei : iC ((j0 ns pay (r.set i k)).map D.int) (i : Nat) = some (.int (bG ns pay (r.set i k) i)) := d0 (by rw [(kH ho hs).1]; exact hi)
   simp_arith only [δc, List.map_cons, List.map_nil, aII (show r.length ≤ 1000 by omega) (show i < r.length by omega), ep]
   simp only [ei]
  ·rw [fZ, List.map_map, List.map_map]
   rfl
theorem aK6 {ns : List Int} {pay : List (List Int)} {r : List Int} {h : Nat} (ho : aX ns pay) (hh : h < ns.length) (hr : r ∈ aN ns) : f9 [aY ns pay, .int h, aF r] = some (aF (wU ns pay h r)) := by
 simp only [f9, bT ho, fH hh, mL hr]
theorem aG5 (f : Nat → Int) (n : Nat) : p7 (((List.range n).map f).map D.int) = (List.range n).map fun (k : Nat) => D.tup [.int (k : Int), .int (f k)] := by
 refine List.ext_getElem? fun i => ?_
 rw [tQ, List.getElem?_map, List.getElem?_map, List.getElem?_map]
 by_cases h : i < n
 ·rw [List.getElem?_range h]
  rfl
 ·rw [List.getElem?_eq_none (by simpa using h)]
  rfl
theorem aAm : ∀ ds d, f9 ds = some d → l8 (gD d) (bD ["meeting", "hand", "row", "pays", "most"] ds)
 | [m, y, x], d, h => by
  obtain ⟨ns, pay, rfl, ho, h⟩ := b8 (show bL m _ = some d from h)
  obtain ⟨i, rfl, hi, h⟩ := fJ h
  obtain ⟨r, rfl, hr, h⟩ := mJ h
  cases h
  show l8 _ [.im (aY ns pay), .im (.int i), .im (aF r), .un, .un]
  have hd := sM ho hi
  have hne : (aS ns i).map (fun k => bG ns pay (r.set i k) i) ≠ [] := by simpa using mD ho hi
  have hl : (((aS ns i).map fun k => bG ns pay (r.set i k) i).map D.int).length ≤ 3 := by simpa using hd
  have et : tI ((aS ns i).map fun k => bG ns pay (r.set i k) i) = vT ns pay i r := rfl
  have en : p7 (((aS ns i).map fun k => bG ns pay (r.set i k) i).map D.int) = (aS ns i).map fun k => D.tup [.int k, .int (bG ns pay (r.set i k) i)] := by
   have e1 : ((aS ns i).map fun k => bG ns pay (r.set i k) i) = (List.range (ns.getD i 0).toNat).map fun (k : Nat) => bG ns pay (r.set i (k : Int)) i := by
    unfold aS
    rw [List.map_map]
    rfl
   rw [e1, aG5]
   unfold aS
   rw [List.map_map]
   rfl
  simp_arith! only [l8, qI, qM, aKw ho hi hr, uI, kD, eW]
  refine ⟨hne, ?_⟩
  simp_arith! only [et, en, dO]
  refine ⟨by rw [List.length_map]; exact bX (by omega), fun x => match x with
   | .tup [_, .int p] => decide (p = vT ns pay i r)
   | _ => false, fun x => match x with
   | .tup [k, _] => k
   | _ => .non, fun x hx => ?_, ?_⟩
  ·obtain ⟨k, hk, rfl⟩ := List.mem_map.mp hx
   simp_arith! only [δc, List.map_cons, List.map_nil]
   refine ⟨by decide, ?_, fun _ => trivial⟩
   rw [Bool.eq_iff_iff]
   simp
  ·rw [List.filter_map, List.map_map]
   rfl
theorem aJM {ns : List Int} {pay : List (List Int)} {r : List Int} (ho : aX ns pay) (hr : r ∈ aN ns) : jV [aY ns pay, aF r] = some (.bl (vU ns pay r)) := by
 simp only [jV, bT ho, mL hr]
theorem aEP : ∀ ds d, jV ds = some d → rE (gD d) (bD ["meeting", "row"] ds)
 | [m, x], d, h => by
  obtain ⟨ns, pay, rfl, ho, h⟩ := b8 (show bL m _ = some d from h)
  obtain ⟨r, rfl, hr, h⟩ := mJ h
  cases h
  show rE _ [.im (aY ns pay), .im (aF r)]
  have rl := e7 hr
  have n3 := (cC ho.ok).1
  simp_arith only [rE, pD, eF]
  refine ⟨by simp only [List.length_map, List.length_range]; exact bX (by omega), fun x => match x with
   | .tup [.int k, .int y] => .bl ((wU ns pay k.toNat r).contains y)
   | _ => .non, fun x hx => ?_, ?_⟩
  ·obtain ⟨k, hk, rfl⟩ := List.mem_map.mp hx
   have hk' := List.mem_range.mp hk
   simp_arith only [δc, List.map_cons, List.map_nil, aK6 ho (show k < ns.length by omega) hr, oIn, kD, aBc, vS, aI0, Int.toNat_natCast]
   exact ⟨by decide, trivial⟩
  ·have em : ((List.range r.length).map fun (k : Nat) => D.tup [.int k, .int (r.getD k 0)]).map (fun x => match x with
     | .tup [.int k, .int y] => D.bl ((wU ns pay k.toNat r).contains y)
     | _ => .non) = ((List.range r.length).map fun k => (wU ns pay k r).contains (r.getD k 0)).map D.bl := by
    rw [List.map_map, List.map_map]
    rfl
   rw [em, aGt]
   show D.bl (((List.range r.length).map fun k => (wU ns pay k r).contains (r.getD k 0)).all id) = _
   unfold vU
   rw [rl, List.all_map]
   rfl
theorem zI {ns : List Int} {pay : List (List Int)} (ho : aX ns pay) : cQ [aY ns pay] = some (.tup ((aN ns).map aF)) := o6 _ ho.ok
theorem aJB : ∀ ds d, pG ds = some d → aBM (gD d) (bD ["meeting"] ds)
 | [m], d, h => by
  obtain ⟨ns, pay, rfl, ho, h⟩ := b8 (show bL m _ = some d from h)
  cases h
  show aBM _ [.im (aY ns pay)]
  have l2 := (fN ho.ok).2
  simp_arith only [aBM, zI ho, dO]
  refine ⟨by rw [List.length_map]; exact bX (by omega), fun x => match iH x with
   | some r => vU ns pay r
   | none => false, fun x => x, fun x hx => ?_, ?_⟩
  ·obtain ⟨r, hr, rfl⟩ := List.mem_map.mp hx
   simp_arith only [δc, List.map_cons, List.map_nil, aJM ho hr, cD]
   exact ⟨trivial, fun _ => trivial⟩
  ·rw [List.filter_map, List.map_id']
   unfold aAI
   congr 2
   congr 1
   funext r
   simp only [Function.comp, cD]
theorem aJj {ns : List Int} {pay : List (List Int)} {h : Nat} {k : Int} (ho : aX ns pay) (hh : h < ns.length) (hk : k ∈ aS ns h) : eZ [aY ns pay, .int h, .int k] = some (.int (aB3 ns pay h k)) := by
 have := gG.mp hk
 obtain ⟨j, rfl⟩ : ∃ j : Nat, k = j := ⟨k.toNat, by omega⟩
 simp only [eZ, bT ho, fH hh, fH (show j < (ns.getD h 0).toNat by omega)]
theorem aAo : ∀ ds d, eZ ds = some d → l9 (gD d) (bD ["meeting", "hand", "deed"] ds)
 | [m, y, x], d, e => by
  obtain ⟨ns, pay, rfl, ho, e⟩ := b8 (show bL m _ = some d from e)
  obtain ⟨h, rfl, hh, e⟩ := fJ e
  obtain ⟨j, rfl, hj, e⟩ := fJ e
  cases e
  have hk : (j : Int) ∈ aS ns h := gG.mpr ⟨by omega, by omega⟩
  generalize (j : Int) = k at *
  show l9 _ [.im (aY ns pay), .im (.int h), .im (.int k)]
  have l2 := (fN ho.ok).2
  simp_arith! only [l9, zI ho, dO]
  refine ⟨by rw [List.length_map]; exact bX (by omega), fun x => match iH x with
   | some r => decide (r.getD h 0 = k)
   | none => false, fun x => match iH x with
   | some r => .int (bG ns pay r h)
   | none => .non, fun x hx => ?_, ?_⟩
  ·obtain ⟨r, hr, rfl⟩ := List.mem_map.mp hx
   have hl : h < r.length := by rw [e7 hr]; exact hh
   have hp : h < (j0 ns pay r).length := by rw [(kH ho hr).1]; exact hh
   have ei : iC ((j0 ns pay r).map D.int) (h : Nat) = some (.int (bG ns pay r h)) := d0 hp
   simp_arith! only [δc, List.map_cons, List.map_nil, d0 hl, qG ho hr, ei, cD]
   refine ⟨by decide, ?_, fun _ => trivial⟩
   rw [Bool.eq_iff_iff]
   simp
  ·have em : (((aN ns).map aF).filter fun x => match iH x with
     | some r => decide (r.getD h 0 = k)
     | none => false).map (fun x => match iH x with
     | some r => D.int (bG ns pay r h)
     | none => .non) = (((aN ns).filter fun r => decide (r.getD h 0 = k)).map fun r => bG ns pay r h).map D.int := by
    rw [List.filter_map, List.map_map, List.map_map]
    have e1 : (fun x => match iH x with
     | some r => decide (r.getD h 0 = k)
     | none => false) ∘ aF = fun r => decide (r.getD h 0 = k) := by
     funext r
     simp only [Function.comp, cD]
    rw [e1]
    refine List.map_congr_left fun r _ => ?_
    simp only [Function.comp, cD]
   rw [em]
   simp only [uI, kD, eW]
   refine ⟨?_, rfl⟩
   have hr := List.getElem_mem (l := aN ns) (n := 0) (by have := (fN ho.ok).1; omega)
   generalize (aN ns)[0]'(by have := (fN ho.ok).1; omega) = r at hr
   have hq := qQ hr (gG.mp hk).1 (gG.mp hk).2
   have hl : h < (r.set h k).length := by rw [List.length_set, e7 hr]; exact hh
   refine List.ne_nil_of_mem (List.mem_map.mpr ⟨r.set h k, List.mem_filter.mpr ⟨hq, ?_⟩, rfl⟩)
   rw [bR hl]
   simp
theorem aEe : ∀ ds d, jZ ds = some d → qY (gD d) (bD ["meeting", "hand"] ds)
 | [m, y], d, e => by
  obtain ⟨ns, pay, rfl, ho, e⟩ := b8 (show bL m _ = some d from e)
  obtain ⟨h, rfl, hh, e⟩ := fJ e
  cases e
  show qY _ [.im (aY ns pay), .im (.int h)]
  have l2 := (fN ho.ok).2
  simp_arith only [qY, zI ho, eF]
  refine ⟨by rw [List.length_map]; exact bX (by omega), fun x => match iH x with
   | some r => .int (vT ns pay h r)
   | none => .non, fun x hx => ?_, ?_⟩
  ·obtain ⟨r, hr, rfl⟩ := List.mem_map.mp hx
   have hne : (aS ns h).map (fun k => bG ns pay (r.set h k) h) ≠ [] := by simpa using mD ho hh
   simp_arith only [δc, List.map_cons, List.map_nil, aKw ho hh hr, uI, kD, eW, cD]
   exact ⟨hne, rfl⟩
  ·have em : ((aN ns).map aF).map (fun x => match iH x with
     | some r => D.int (vT ns pay h r)
     | none => .non) = ((aN ns).map (vT ns pay h)).map D.int := by
    rw [List.map_map, List.map_map]
    refine List.map_congr_left fun r _ => ?_
    simp only [Function.comp, cD]
   rw [em]
   simp only [uI, kD, eW]
   exact ⟨by simpa using aBR ho, rfl⟩
theorem aJh : ∀ ds d, pX ds = some d → aCk (gD d) (bD ["meeting", "hand"] ds)
 | [m, y], d, e => by
  obtain ⟨ns, pay, rfl, ho, e⟩ := b8 (show bL m _ = some d from e)
  obtain ⟨h, rfl, hh, e⟩ := fJ e
  cases e
  show aCk _ [.im (aY ns pay), .im (.int h)]
  have e0 : iC [aF ns, D.tup (pay.map aF)] 0 = some (aF ns) := rfl
  have e1 : iC (ns.map D.int) (h : Nat) = some (.int (ns.getD h 0)) := d0 hh
  have d3 := qE ho hh
  have hd := sM ho hh
  simp_arith only [aCk, aY, e0, eF]
  simp only [e1]
  refine ⟨⟨by omega, by omega⟩, ?_, fun x => match x with
   | .int k => .int (aB3 ns pay h k)
   | _ => .non, fun x hx => ?_, ?_⟩
  ·rw [fZ, List.length_map]
   exact bX (by omega)
  ·rw [fZ] at hx
   obtain ⟨k, hk, rfl⟩ := List.mem_map.mp hx
   have ep : eZ [.tup [.tup (ns.map D.int), .tup (pay.map aF)], .int h, .int k] = some (.int (aB3 ns pay h k)) := aJj ho hh hk
   simp_arith only [δc, List.map_cons, List.map_nil, ep]
  ·have em : ((aS ns h).map D.int).map (fun x => match x with
     | .int k => D.int (aB3 ns pay h k)
     | _ => .non) = ((aS ns h).map (aB3 ns pay h)).map D.int := by
    rw [List.map_map, List.map_map]
    rfl
   rw [fZ, em]
   simp only [uI, kD, eW]
   exact ⟨by simpa using mD ho hh, rfl⟩
theorem y6 : ∀ ds d, cU ds = some d → lC (gD d) (bD ["row", "deeds", "strays", "hand", "many"] ds)
 | [x, .tup ds], d, h => by
  cases e1 : iH x with
  | none => simp [cU, e1] at h
  | some r =>
   cases e2 : g6 ds with
   | none => simp [cU, e1, e2] at h
   | some ns =>
    simp only [cU, e1, e2] at h
    rw [lB e1, jF e2]
    split at h
    ·rename_i hc
     obtain ⟨ho, hr⟩ := hc
     cases h
     show lC _ [.im (aF r), .im (.tup (ns.map D.int)), .un, .un, .un]
     have rl := e7 hr
     obtain ⟨m1, m2⟩ := cC ho
     simp_arith only [lC, pM, gR, List.length_nil]
     refine ⟨by decide, fun i δ => ∃ a3 a4, δ = [.im (aF r), .im (.tup (ns.map D.int)), .im (.lst ((qX ns r i).map aDa)), a3, a4], ⟨_, _, rfl⟩, ?_, ?_⟩
     ·rintro i x δ ed ⟨a3, a4, rfl⟩
      rw [pD] at ed
      obtain ⟨hi, rfl⟩ := cW ed
      rw [List.length_range] at hi
      rw [List.getElem_range]
      have hm := m2 ns[i] (List.getElem_mem hi)
      rw [← bR hi 0] at hm
      have at1 : iC (r.map D.int) (i : Int) = some (.int (r.getD i 0)) := d0 (by omega)
      have hl := wR (r := r) ho i (by omega)
      simp_arith! only [dO, fZ, List.length_map]
      have dl : (aS ns i).length ≤ 3 := by
       unfold aS
       simp only [List.length_map, List.length_range]
       omega
      refine ⟨⟨by omega, by omega⟩, bX (by omega), fun x => match x with
       | .int k => decide (k ≠ r.getD i 0)
       | _ => false, fun x => .tup [.int i, x], fun x hx => ?_, ?_⟩
      ·obtain ⟨k, hk, rfl⟩ := List.mem_map.mp hx
       simp_arith! only [δc, List.map_cons, List.map_nil, at1, List.length_cons, List.length_nil]
       refine ⟨by simp [rY], ?_, fun _ => ⟨by decide, trivial⟩⟩
       rw [Bool.eq_iff_iff]
       simp
      ·have ef : ((((aS ns i).map D.int).filter fun x => match x with
        | .int k => decide (k ≠ r.getD i 0)
        | _ => false).map fun x => D.tup [.int i, x]) = (((aS ns i).filter fun k => decide (k ≠ r.getD i 0)).map fun k => ((i : Int), k)).map aDa := by
        rw [List.filter_map, List.map_map, List.map_map]
        rfl
       have fl := List.length_filter_le (fun x => match x with
        | .int k => decide (k ≠ r.getD i 0)
        | _ => false) ((aS ns i).map D.int)
       rw [List.length_map] at fl
       refine ⟨bX (by omega), ?_⟩
       rw [ef, ← List.map_append, ← tS]
       exact ⟨_, _, rfl⟩
     ·rintro δ ⟨a3, a4, rfl⟩
      rw [pA, List.length_map]
      simp_arith only []
      rfl
    ·cases h
theorem aKn {ns : List Int} {pay : List (List Int)} (ho : aX ns pay) : cQ [aY ns pay] = some (.tup ((aN ns).map aF)) := o6 _ ho.ok
theorem aCm : ∀ ds d, fY ds = some d → nG (gD d) (bD ["meeting", "row", "onward", "threatening", "nexts", "done", "strayed"] ds)
 | [m, x, .int on, .int thr], r, hF => by
  obtain ⟨ns, pay, rfl, ho, h1⟩ := b8 (show bL m _ = some r from hF)
  obtain ⟨row, rfl, hr, h2⟩ := mJ h1
  cases h2
  clear hF h1
  show nG _ [.im (aY ns pay), .im (aF row), .im (.int on), .im (.int thr), .un, .un, .un]
  have rl := e7 hr
  have n3 := (cC ho.ok).1
  have r27 := (fN ho.ok).2
  simp_arith only [nG, r6, rZ, aKn ho, gR, List.length_nil]
  refine ⟨by decide, fun i δ => ∃ a5 a6, δ = [.im (aY ns pay), .im (aF row), .im (.int on), .im (.int thr), .ow ((((aN ns).take i).map (i9 row on thr)).map D.int), a5, a6], ⟨_, _, rfl⟩, ?_, ?_⟩
  ·rintro i x δ ed ⟨a5, a6, rfl⟩
   obtain ⟨hi, rfl⟩ := cW ed
   have hm : (aN ns)[i] ∈ aN ns := List.getElem_mem hi
   have hl := e7 hm
   have e5 : ((aN ns).take (i + 1)).map (i9 row on thr) = ((aN ns).take i).map (i9 row on thr) ++ [i9 row on thr (aN ns)[i]] := by
    rw [List.take_succ, List.getElem?_eq_getElem hi, Option.toList_some, List.map_append]
    rfl
   generalize (aN ns)[i] = r at *
   have lt : (((aN ns).take i).map (i9 row on thr)).length ≤ 27 := by rw [List.length_map, List.length_take]; omega
   simp_arith! only [dO, pD]
   refine ⟨by rw [List.length_map, List.length_range]; exact bX (by omega), fun x => match x with
    | .tup [.int k, .int v] => decide (r.getD k.toNat 0 ≠ v)
    | _ => false, fun x => match x with
    | .tup [.int k, _] => .int k
    | _ => .non, fun x hx => ?_, ?_⟩
   ·obtain ⟨k, hk, rfl⟩ := List.mem_map.mp hx
    have hk := List.mem_range.mp hk
    have at1 : iC (r.map D.int) (k : Int) = some (.int (r.getD k 0)) := d0 (by omega)
    simp_arith! only [δc, List.map_cons, List.map_nil, at1, Int.toNat_natCast]
    refine ⟨by simp [rY], ?_, fun _ => trivial⟩
    rw [Bool.eq_iff_iff]
    simp
   ·have ef : ((((List.range row.length).map fun (k : Nat) => D.tup [.int k, .int (row.getD k 0)]).filter fun x => match x with
     | .tup [.int k, .int v] => decide (r.getD k.toNat 0 ≠ v)
     | _ => false).map fun x => match x with
     | .tup [.int k, _] => .int k
     | _ => .non) = (jB row r).map fun (h : Nat) => D.int h := by
     rw [List.filter_map, List.map_map]
     rfl
    rw [ef]
    have small : (((aN ns).take i).map (i9 row on thr)).length < sizeLine := mG (by omega)
    cases es : jB row r with
    | nil =>
     simp_arith! only [List.map_nil, List.length_nil, List.length_map]
     refine ⟨by simp [rY], ?_⟩
     rw [show (((0 : Nat) : Int) == 1) = false by decide]
     simp_arith! only []
     have ea : i9 row on thr r = on := by unfold i9; rw [es]
     rw [e5, ea, List.map_append]
     exact ⟨by simpa using small, _, _, rfl⟩
    | cons h t =>
     cases t with
     | nil =>
      have at1 : iC [D.int (h : Int)] 0 = some (.int h) := rfl
      simp_arith! only [List.map_cons, List.map_nil, List.length_cons, List.length_nil, List.length_map]
      refine ⟨by simp [rY], ?_⟩
      rw [show (((0 + 1 : Nat) : Int) == 1) = true by decide]
      simp_arith! only [at1]
      have ea : i9 row on thr r = thr + (h : Int) := by unfold i9; rw [es]
      rw [e5, ea, List.map_append]
      exact ⟨by simpa using small, _, _, rfl⟩
     | cons h2 t =>
      simp_arith! only [List.map_cons, List.length_cons, List.length_map]
      refine ⟨by simp [rY], ?_⟩
      rw [show (((t.length + 1 + 1 : Nat) : Int) == 1) = false by rw [beq_eq_false_iff_ne]; omega]
      simp_arith! only []
      have ea : i9 row on thr r = on := by unfold i9; rw [es]
      rw [e5, ea, List.map_append]
      exact ⟨by simpa using small, _, _, rfl⟩
  ·rintro δ ⟨a5, a6, rfl⟩
   rw [List.length_map, List.take_length]
   simp_arith only [List.length_cons, List.length_nil]
   exact ⟨by decide, rfl⟩
theorem xD : ∀ ds d, dR ds = some d → kI (gD d) (bD ["meeting", "path", "threats", "many", "first", "behind"] ds)
 | [m, x, y], r, hF => by
  obtain ⟨ns, pay, rfl, ho, h1⟩ := b8 (show bL m _ = some r from hF)
  clear hF
  cases e1 : dU x with
  | none => simp [e1] at h1
  | some path =>
   cases e2 : dU y with
   | none => simp [e1, e2] at h1
   | some th =>
    simp only [e1, e2] at h1
    split at h1
    ·rename_i H
     cases h1
     rw [hG e1, hG e2]
     clear e1 e2
     show kI _ [.im (aY ns pay), .im (.tup (path.map aF)), .im (.tup (th.map aF)), .un, .un, .un]
     have p1 := H.few.1
     have p2 := H.few.2
     have t2 := H.few2
     simp_arith only [kI, oK, oO, oF, y8 aF _ [], eF, List.length_map, List.length_range]
     refine ⟨bX (by omega), fun x => match x with
      | .tup [.int p, r] => match iH r with
       | some r => .tup [aF r, aF (aDy ns r ((p + 1) % (path.length : Int)) path.length)]
       | none => .non
      | _ => .non, fun x hx => ?_, bX (by omega), fun x => match x with
      | .tup [.int p, r] => match iH r with
       | some r => .tup [aF r, aF (aDy ns r ((path.length : Int) + p) path.length)]
       | none => .non
      | _ => .non, fun x hx => ?_, ?_⟩
     ·obtain ⟨p, hp, rfl⟩ := List.mem_map.mp hx
      have hp := List.mem_range.mp hp
      have hm : path.getD p [] ∈ aN ns := by rw [bR hp]; exact H.rows _ (List.getElem_mem hp)
      simp_arith only [δc, List.map_cons, List.map_nil, cD, aFA ho hm]
      first | exact ⟨by omega, trivial⟩ | exact ⟨⟨by omega, by omega⟩, trivial⟩ | trivial
     ·obtain ⟨p, hp, rfl⟩ := List.mem_map.mp hx
      have hp := List.mem_range.mp hp
      have hm : th.getD p [] ∈ aN ns := by rw [bR hp]; exact H.rows2 _ (List.getElem_mem hp)
      simp_arith only [δc, List.map_cons, List.map_nil, cD, aFA ho hm]
     ·refine ⟨bX (by omega), ?_⟩
      unfold f8 aAH
      rw [List.map_append, List.map_map, List.map_map, List.map_map, List.map_map]
      congr 1
      congr 1
      ·refine List.map_congr_left fun p _ => ?_
       simp only [Function.comp, cD]
      ·refine List.map_congr_left fun p _ => ?_
       simp only [Function.comp, cD]
    ·cases h1
theorem sP : ∀ ds d, bW ds = some d → iF (gD d) (bD ["meeting", "threats"] ds)
 | [m, y], r, hF => by
  obtain ⟨ns, pay, rfl, ho, h1⟩ := b8 (show bL m _ = some r from hF)
  clear hF
  cases e2 : dU y with
  | none => simp [e2] at h1
  | some th =>
   simp only [e2] at h1
   split at h1
   ·rename_i H
    cases h1
    rw [hG e2]
    clear e2
    show iF _ [.im (aY ns pay), .im (.tup (th.map aF))]
    have n3 := (cC ho.ok).1
    have t2 := H.1
    simp_arith only [iF, y8 aF _ [], eF, List.length_map, List.length_range]
    refine ⟨bX (by omega), fun x => match x with
     | .tup [.int p, r] => match iH r with
      | some r => .int (bG ns pay r p.toNat)
      | none => .non
     | _ => .non, fun x hx => ?_, ?_⟩
    ·obtain ⟨p, hp, rfl⟩ := List.mem_map.mp hx
     have hp := List.mem_range.mp hp
     have hm : th.getD p [] ∈ aN ns := by rw [bR hp]; exact H.2 _ (List.getElem_mem hp)
     have at1 : iC ((j0 ns pay (th.getD p [])).map D.int) (p : Int) = some (.int (bG ns pay (th.getD p []) p)) := d0 (by rw [(kH ho hm).1]; omega)
     simp_arith only [δc, List.map_cons, List.map_nil, cD, qG ho hm, at1, Int.toNat_natCast]
    ·unfold aF
     rw [List.map_map, List.map_map]
     congr 1
     refine List.map_congr_left fun p _ => ?_
     have e : iH (.tup ((th.getD p []).map D.int)) = some (th.getD p []) := cD _
     simp only [Function.comp, e, Int.toNat_natCast]
   ·cases h1
theorem aGq : ∀ ds d, lN ds = some d → uM (gD d) (bD ["meeting", "row", "threats"] ds)
 | [m, x, y], r, hF => by
  obtain ⟨ns, pay, row, th, rfl, rfl, rfl, ho, H, h1⟩ := aB9 (show mI m x y _ = some r from hF)
  cases h1
  clear hF
  show uM _ [.im (aY ns pay), .im (aF row), .im (.tup (th.map aF))]
  have n3 := (cC ho.ok).1
  have hw : aEg ns [row] th := ⟨⟨by simp, by simp⟩, by rw [H.many]; omega, fun r hr => by rw [List.mem_singleton.mp hr]; exact H.row, H.all⟩
  have fw : dR [aY ns pay, .tup [aF row], .tup (th.map aF)] = some (f8 (aAH ns [row] th)) := aKG ho hw
  rw [aB5] at fw
  simp_arith only [uM, fw, List.length_cons, List.length_nil]
  exact ⟨by decide, trivial⟩
theorem u8 {α : Type} (p : α → Bool) : ∀ (l : List α) (i : Nat) (h : i < l.length), (∀ x ∈ l.take i, p x = false) → p l[i] = true → l.find? p = some l[i]
 | x :: l, 0, _, _, h2 => by rw [List.find?_cons]; simp only [List.getElem_cons_zero] at h2 ⊢; rw [h2]
 | x :: l, i + 1, h, h1, h2 => by
  rw [List.find?_cons, h1 x (by simp)]
  simp only [List.getElem_cons_succ] at h2 ⊢
  exact u8 p l i (by simpa using h) (fun y hy => h1 y (by rw [List.take_succ_cons]; exact List.mem_cons_of_mem _ hy)) h2
theorem aFk (P : Int) : Rat.divInt P 1 = (P : Rat) := by rw [Rat.divInt_eq_div]; grind
theorem rV : ∀ ds d, cI ds = some d → hJ (gD d) (bD ["meeting", "row", "after", "patience", "pays", "hand", "deed", "now"] ds)
 | [m, x, y, z], r, hF => by
  obtain ⟨ns, pay, rfl, ho, h1⟩ := b8 (show bL m _ = some r from hF)
  obtain ⟨row, rfl, hr, h2⟩ := mJ h1
  clear hF h1
  cases e1 : iH y with
  | none => simp [e1] at h2
  | some fl =>
   simp only [e1] at h2
   split at h2
   ·rename_i hf
    obtain ⟨d, rfl, hd, h3⟩ := h9 h2
    cases h3
    rw [lB e1]
    clear e1 h2
    show hJ _ [.im (aY ns pay), .im (aF row), .im (aF fl), .im (aU d), .un, .un, .un, .un]
    have e2 : iC [aF ns, D.tup (pay.map aF)] 0 = some (aF ns) := rfl
    have rl := e7 hr
    have n3 := (cC ho.ok).1
    simp_arith only [hJ, lS, qG ho hr, e2, aJK ho.ok hr, gR]
    refine ⟨fun i δ => ∃ a5 a6 a7, δ = [.im (aY ns pay), .im (aF row), .im (aF fl), .im (aU d), .im (aF (j0 ns pay row)), a5, a6, a7] ∧ ∀ q ∈ (iT ns row).take i, vI ns pay d fl row q = false, ⟨_, _, _, rfl, fun q hq => absurd hq (by simp)⟩, ?_, ?_⟩
    ·rintro i x δ ed ⟨a5, a6, a7, rfl, hno⟩
     obtain ⟨hi, rfl⟩ := cW ed
     have hq : (iT ns row)[i] ∈ iT ns row := List.getElem_mem hi
     have fnd := u8 (vI ns pay d fl row) (iT ns row) i hi hno
     have et : (iT ns row).take (i + 1) = (iT ns row).take i ++ [(iT ns row)[i]] := by rw [List.take_succ, List.getElem?_eq_getElem hi, Option.toList_some]
     obtain ⟨h, hh, e1, h2, h3⟩ := sV.mp hq
     generalize (iT ns row)[i] = q at *
     obtain ⟨q1, k⟩ := q
     simp only at e1 h2 h3
     subst e1
     have hsm := qQ (k := k) (i := h) hr (gG.mp h2).1 (gG.mp h2).2
     have hfl : h < fl.length := by rw [hf.len]; exact hh
     have fw := aII (r := row) (h := h) (k := k) (by omega) (by omega)
     have at1 : iC ((j0 ns pay row).map D.int) (h : Int) = some (.int (bG ns pay row h)) := d0 (by rw [(kH ho hr).1]; exact hh)
     have at2 : iC ((j0 ns pay (row.set h k)).map D.int) (h : Int) = some (.int (bG ns pay (row.set h k) h)) := d0 (by rw [(kH ho hsm).1]; exact hh)
     have at3 : iC (fl.map D.int) (h : Int) = some (.int (fl.getD h 0)) := d0 hfl
     have b1 := nL (h := h) ho hr
     have b2 := nL (h := h) ho hsm
     have b3 : -9 ≤ fl.getD h 0 ∧ fl.getD h 0 ≤ 9 := by rw [bR hfl]; exact hf.bd _ (List.getElem_mem hfl)
     have gq : vI ns pay d fl row ((h : Int), k) = decide ((bG ns pay row h : Rat) < (1 - d) * bG ns pay (row.set h k) h + d * ((fl.getD h 0 : Int) : Rat)) := rfl
     have c1 : Bd 10 (bG ns pay row h) := by unfold Bd; omega
     have c2 : Bd 10 (bG ns pay (row.set h k) h) := by unfold Bd; omega
     have c3 : Bd 10 (fl.getD h 0) := by unfold Bd; omega
     have c4 : Bd 10 (1 : Int) := by unfold Bd; decide
     generalize bG ns pay row h = P at *
     generalize bG ns pay (row.set h k) h = Q at *
     generalize fl.getD h 0 = G at *
     have fl' := aKD hd (c2.mono (by decide)) (c3.mono (by decide)) (c4.mono (by decide) : Bd 4000 (1 : Int))
     have d1 := ((hd.bits.2.sub hd.bits.1).mul c2).mul c4
     have d2 := hd.bits.1.mul c3
     have d3 := d1.add (d2.mono (by decide))
     have d4 := hd.bits.2.mul c4
     have sq := aBn (d := d) Q G 1 (by decide)
     have hL : 0 < (d.den : Int) * 1 := by have := tJ d; omega
     generalize ((d.den : Int) - d.num) * Q * 1 + d.num * G = U at *
     generalize (d.den : Int) * 1 = L at *
     have fi := aFx (c1.mono (by decide) : Bd 3000 P) (c4.mono (by decide) : Bd 3000 (1 : Int)) (d3.mono (by decide) : Bd 3000 U) (d4.mono (by decide) : Bd 3000 L)
     have key := aDI (a := P) (b := 1) (c := U) (by decide) hL
     rw [sq, aFk, aFk] at key
     simp_arith only [fw, qG ho hsm, at1, at2, at3, List.length_cons, List.length_nil, fl', fi]
     refine ⟨by decide, by decide, ?_⟩
     by_cases hc : (P : Rat) < (1 - d) * Q + d * G
     ·rw [decide_eq_true (key.mpr hc)]
      simp_arith only [List.length_cons, List.length_nil]
      refine ⟨by decide, ?_⟩
      unfold zZ oW
      rw [fnd (by rw [gq]; exact decide_eq_true hc)]
     ·rw [decide_eq_false (fun z => hc (key.mp z))]
      simp_arith only []
      refine ⟨_, _, _, rfl, fun q hq => ?_⟩
      rcases List.mem_append.mp (by rw [← et]; exact hq) with hq | hq
      ·exact hno q hq
      ·rw [List.mem_singleton.mp hq, gq]
       exact decide_eq_false hc
    ·rintro δ ⟨a5, a6, a7, rfl, hno⟩
     rw [List.length_map, List.take_length] at hno
     unfold zZ oW
     rw [List.find?_eq_none.mpr fun q hq => by rw [hno q hq]; simp]
   ·cases h2
theorem yT : ∀ ds d, fE ds = some d → lE (gD d) (bD ["meeting", "rows", "hand"] ds)
 | [m, t, y], r, hF => by
  obtain ⟨ns, pay, rfl, ho, h1⟩ := b8 (show bL m _ = some r from hF)
  clear hF
  cases e1 : dU t with
  | none => simp [e1] at h1
  | some S =>
   simp only [e1] at h1
   split at h1
   ·rename_i hS
    obtain ⟨h, rfl, hh, h2⟩ := fJ h1
    cases h2
    rw [hG e1]
    clear e1 h1
    show lE _ [.im (aY ns pay), .im (.tup (S.map aF)), .im (.int h)]
    simp_arith only [lE, aBJ]
    refine ⟨by simpa using hS.2, fun x => match iH x with
     | some r => bG ns pay r h
     | none => 0, fun x hx => ?_, fun i x ex hb => ?_⟩
    ·obtain ⟨r, hr, rfl⟩ := List.mem_map.mp hx
     have at1 : iC ((j0 ns pay r).map D.int) (h : Int) = some (.int (bG ns pay r h)) := d0 (by rw [(kH ho (hS.1.rows r hr)).1]; exact hh)
     simp_arith only [δc, List.map_cons, List.map_nil, qG ho (hS.1.rows r hr), at1, cD]
    ·obtain ⟨hi, rfl⟩ := cW ex
     have hmin : ∀ j (hj : j < S.length), bG ns pay S[i] h ≤ bG ns pay S[j] h ∧ (j < i → bG ns pay S[i] h < bG ns pay S[j] h) := fun j hj => by
      have := hb j (aF S[j]) (by simp [hj])
      simpa only [cD] using this
     have ef : bG ns pay S[i] h = pO ns pay S h := by
      have a := aCf (ns := ns) (pay := pay) (h := h) (List.getElem_mem hi)
      obtain ⟨r, hr, e⟩ := yH (ns := ns) (pay := pay) hS.2 h
      obtain ⟨j, hj, rfl⟩ := List.mem_iff_getElem.mp hr
      have b := (hmin j hj).1
      omega
     have ft := u8 (fun r => decide (bG ns pay r h = pO ns pay S h)) S i hi (fun x hx => by
      obtain ⟨j, hj, rfl⟩ := List.mem_iff_getElem.mp hx
      rw [List.length_take] at hj
      rw [List.getElem_take]
      have b := (hmin j (by omega)).2 (by omega)
      exact decide_eq_false (by omega)) (decide_eq_true ef)
     show aF S[i] = aF (nS ns pay S h)
     unfold nS
     rw [ft]
     rfl
   ·cases h1
theorem z9 : ∀ a b : List (List Int), nZ (a.map aF) (b.map aF) = some ((a.zip b).all fun p => p.1 == p.2)
 | [], b => by cases b <;> simp [nZ]
 | x :: a, [] => by simp [nZ]
 | x :: a, y :: b => by
  rw [List.map_cons, List.map_cons, nZ, aBh, z9 a b]
  rfl
theorem v9 : ∀ a b : List (List Int), (((a.zip b).all fun p => p.1 == p.2) && a.length == b.length) = (a == b)
 | [], [] => rfl
 | [], y :: b => by simp
 | x :: a, [] => by simp
 | x :: a, y :: b => by
  have ih := v9 a b
  rw [List.zip_cons_cons, List.all_cons, List.length_cons, List.length_cons, List.cons_beq_cons, ← ih, Bool.and_assoc]
  congr 2
  simp
theorem vF (a b : List (List Int)) : oA (.tup (a.map aF)) (.tup (b.map aF)) = some (a == b) := by
 unfold oA
 rw [z9, List.length_map, List.length_map, Option.map_some, v9]
theorem vA (a : List (List Int)) : rY (.tup (a.map aF)) ≤ 32 := by
 have := rL a
 rw [rY]
 omega
theorem aER {ns : List Int} {pay : List (List Int)} (ho : aX ns pay) : oD ns (aN ns) := ⟨by have := (fN ho.ok).2; omega, fun _ h => h⟩
theorem aAe {ns : List Int} {pay : List (List Int)} (ho : aX ns pay) {S : List (List Int)} {p : List Int → Bool} (e : S = (aN ns).filter p) : oD ns S := by
 subst e
 refine ⟨?_, fun r hr => (List.mem_filter.mp hr).1⟩
 have := (fN ho.ok).2
 have := List.length_filter_le p (aN ns)
 omega
theorem aJ6 : ∀ ds d, jP ds = some d → aBs (gD d) (bD ["meeting", "patience", "rows", "left"] ds)
 | [m, z], r, hF => by
  obtain ⟨ns, pay, rfl, ho, h1⟩ := b8 (show bL m _ = some r from hF)
  obtain ⟨d, rfl, hd, h2⟩ := h9 h1
  cases h2
  clear hF h1
  show aBs _ [.im (aY ns pay), .im (aU d), .un, .un]
  simp_arith! only [aBs, aDl, aCL, aKn ho, aDq ho (aER ho) hd, o5]
  refine ⟨fun n δ => ∃ (S : List (List Int)) (p : List Int → Bool), δ = [.im (aY ns pay), .im (aU d), .im (.tup (S.map aF)), .im (.tup ((j3 ns pay d S).map aF))] ∧ n = S.length ∧ S = (aN ns).filter p ∧ ∀ r ∈ bK ns pay d, r ∈ S, ⟨_, aN ns, fun _ => true, rfl, rfl, (List.filter_eq_self.mpr fun _ _ => rfl).symm, fun r hr => (List.mem_filter.mp hr).1⟩, ?_⟩
  rintro n δ ⟨S, p, rfl, rfl, eS, sub⟩
  simp_arith! only [vF]
  refine ⟨vA _, ?_⟩
  by_cases e : j3 ns pay d S = S
  ·rw [show (j3 ns pay d S == S) = true from beq_iff_eq.mpr e]
   simp_arith! only [Bool.not_true]
   rw [aID ho hd eS sub e]
  ·rw [show (j3 ns pay d S == S) = false from beq_eq_false_iff_ne.mpr e]
   obtain ⟨p', e2⟩ := aCK (pay := pay) (d := d) eS
   simp_arith! only [Bool.not_false, aDq ho (aAe ho e2) hd]
   exact ⟨_, aJW e, j3 ns pay d S, p', rfl, rfl, e2, aGe ho hd sub⟩
theorem aHf {ns : List Int} {pay : List (List Int)} {S : List (List Int)} (hn : S ≠ []) : (List.range ((List.range ns.length).map (nS ns pay S)).length).map (fun h => bG ns pay (((List.range ns.length).map (nS ns pay S)).getD h []) h) = flS ns pay S := by
 unfold flS
 rw [List.length_map, List.length_range]
 refine List.map_congr_left fun h hh => ?_
 have hh := List.mem_range.mp hh
 rw [bR (by simpa using hh), List.getElem_map, List.getElem_range, (y9 hn h).2]
theorem aMU {ns : List Int} {pay : List (List Int)} {S : List (List Int)} (ho : aX ns pay) (hS : oD ns S) (hn : S ≠ []) : bW [aY ns pay, .tup (((List.range ns.length).map (nS ns pay S)).map aF)] = some (aF (flS ns pay S)) := by
 rw [aFp ho (by simp) (fun r hr => by
  obtain ⟨h, _, rfl⟩ := List.mem_map.mp hr
  exact hS.rows _ (y9 hn h).1), aHf hn]
theorem u9 : ∀ ds d, dC ds = some d → jJ (gD d) (bD ["meeting", "rows", "patience", "after"] ds)
 | [m, x, z], r, hF => by
  obtain ⟨ns, pay, rfl, ho, h1⟩ := b8 (show bL m _ = some r from hF)
  clear hF
  cases e1 : dU x with
  | none => simp [e1] at h1
  | some S =>
   simp only [e1] at h1
   split at h1
   ·rename_i hS
    obtain ⟨d, rfl, hd, h2⟩ := h9 h1
    cases h2
    rw [hG e1]
    clear e1 h1
    show jJ _ [.im (aY ns pay), .im (.tup (S.map aF)), .im (aU d), .un]
    have eE : oA (.tup (S.map aF)) (.tup []) = some (S == []) := vF S []
    have few := hS.few
    simp_arith! only [jJ, nN, nV, eE, List.length_nil]
    refine ⟨by decide, vA _, ?_⟩
    by_cases hn : S = []
    ·subst hn
     simp_arith! only [BEq.rfl, List.length_nil, aIz, List.map_nil]
     first | exact ⟨by decide, trivial⟩ | trivial
    ·rw [show (S == []) = false from beq_eq_false_iff_ne.mpr hn]
     simp_arith! only [aHk ho hS hn, aMU ho hS hn, dO, List.length_map]
     refine ⟨bX (by omega), fun x => match iH x with
      | some r => (oW ns pay d (flS ns pay S) r).isNone
      | none => false, fun x => x, fun x hx => ?_, ?_⟩
     ·obtain ⟨r, hr, rfl⟩ := List.mem_map.mp hx
      simp_arith! only [δc, List.map_cons, List.map_nil, aJC ho (hS.rows r hr) (aLr ho hS.rows hn) hd, cD, aBl]
      refine ⟨?_, fun _ => trivial⟩
      unfold zZ
      cases oW ns pay d (flS ns pay S) r <;> rfl
     ·rw [List.filter_map, List.map_id']
      unfold j3
      congr 2
      congr 1
      funext r
      simp only [Function.comp, cD]
   ·cases h1
theorem vW : ∀ ds d, cJ ds = some d → jG (gD d) (bD ["meeting", "rows"] ds)
 | [m, x], r, hF => by
  obtain ⟨ns, pay, rfl, ho, h1⟩ := b8 (show bL m _ = some r from hF)
  clear hF
  cases e1 : dU x with
  | none => simp [e1] at h1
  | some S =>
   simp only [e1] at h1
   split at h1
   ·rename_i hS
    cases h1
    rw [hG e1]
    clear e1
    show jG _ [.im (aY ns pay), .im (.tup (S.map aF))]
    have n3 := (cC ho.ok).1
    have e2 : iC [aF ns, D.tup (pay.map aF)] 0 = some (aF ns) := rfl
    simp_arith only [jG, e2, eF, List.length_map]
    refine ⟨⟨by omega, by omega⟩, by rw [hZ]; exact bX (by omega), fun x => match x with
     | .int h => aF (nS ns pay S h.toNat)
     | _ => .non, fun x hx => ?_, ?_⟩
    ·unfold b9 at hx
     obtain ⟨h, hh, rfl⟩ := List.mem_map.mp hx
     have hh : h < ns.length := by
      have := List.mem_range.mp hh
      omega
     simp_arith only [δc, List.map_cons, List.map_nil, Int.zero_add, aKI ho hS.1 hS.2 hh, Int.toNat_natCast]
    ·unfold b9
     rw [List.map_map, Int.toNat_natCast, List.map_map]
     congr 1
     refine List.map_congr_left fun h _ => ?_
     simp
   ·cases h1
abbrev aMj (o : Out) : DEX := { nx := fun _ => o.ret .non, rt := o.ret, xc := o.exc }
theorem aLG {ns : List Int} {pay : List (List Int)} {d : Rat} (ho : aX ns pay) (hd : dA d) : jP [aY ns pay, aU d] = some (.tup ((bK ns pay d).map aF)) := by
 simp only [jP, bT ho, gU hd]
theorem aJt {ns : List Int} {pay : List (List Int)} {d : Rat} (hk : bK ns pay d ≠ []) : j7 ns pay d ((List.range ns.length).map (nS ns pay (bK ns pay d))) := by
 refine ⟨by simp, fun h hh => ?_⟩
 rw [bR (by simpa using hh), List.getElem_map, List.getElem_range]
 exact y9 hk h
theorem aEr : ∀ ds o, i5 ds = some o → rJ (aMj o) (bD ["meeting", "patience", "rows"] ds)
 | [m, z], o, hF => by
  obtain ⟨ns, pay, d, rfl, rfl, ho, hd, h1⟩ := xR (show wW m z _ = some o from hF)
  cases h1
  clear hF
  show rJ _ [.im (aY ns pay), .im (aU d), .un]
  have eE : oA (.tup ((bK ns pay d).map aF)) (.tup []) = some (bK ns pay d == []) := vF _ []
  have hS : oD ns (bK ns pay d) := aAe ho rfl
  simp_arith! only [rJ, wG, v6, aFS, aA2, aKP, aEv, aLG ho hd, eE, List.length_nil]
  refine ⟨by decide, vA _, ?_⟩
  by_cases hk : bK ns pay d = []
  ·rw [show (bK ns pay d == []) = true from beq_iff_eq.mpr hk]
   simp_arith! only [List.length_cons, List.length_nil]
   exact ⟨by decide, hk, trivial⟩
  ·rw [show (bK ns pay d == []) = false from beq_eq_false_iff_ne.mpr hk]
   simp_arith! only [aHk ho hS hk]
   exact ⟨hk, _, rfl, aJt hk⟩
theorem aCS {ns : List Int} {pay : List (List Int)} {d : Rat} {th : List (List Int)} (H : j7 ns pay d th) : (List.range th.length).map (fun h => bG ns pay (th.getD h []) h) = iG ns pay d := by
 unfold iG
 rw [H.len]
 exact List.map_congr_left fun h hh => (H.mem h (List.mem_range.mp hh)).2
theorem aGA : ∀ ds o, m7 ds = some o → uF (aMj o) (bD ["meeting", "patience"] ds)
 | [m, z], o, hF => by
  obtain ⟨ns, pay, d, rfl, rfl, ho, hd, h1⟩ := xR (show wW m z _ = some o from hF)
  cases h1
  clear hF
  show uF _ [.im (aY ns pay), .im (aU d)]
  have fh : i5 [aY ns pay, aU d] = _ := uS ho hd
  simp_arith only [uF, aIj, aB8, aBX, aEi, yI, aH1, fh]
  refine ⟨fun c z => z, ?_⟩
  rintro x ⟨hk, th, rfl, H⟩
  have ft := aFp (pay := pay) (th := th) ho (by rw [H.len]; exact Nat.le_refl _) fun r hr => (List.mem_filter.mp (H.all hr)).1
  rw [aCS H] at ft
  simp_arith only [ft]
  exact ⟨hk, trivial⟩
def mF (i : Nat) : Stmt := PySem.Challenge.pw_pactkeep_k07_whole_more_patience.main.body.getD i (.Pass ⟨0, 0, 0, 0⟩)
abbrev d6 : Stmt := mF 4
abbrev m8 : Stmt := mF 5
abbrev kO : Stmt := mF 6
abbrev jS : Stmt := mF 8
abbrev kN : Stmt := mF 9
abbrev jM : Stmt := mF 10
abbrev iN : Stmt := mF 11
abbrev fD : Stmt := mF 12
abbrev sS : Stmt := mF 14
abbrev f6 : Stmt := mF 15
abbrev p4 : Stmt := mF 16
abbrev jY : Stmt := mF 17
abbrev p8 : Stmt := mF 18
abbrev eI : Stmt := mF 19
abbrev j2 : Stmt := mF 20
abbrev f7 : Stmt := mF 21
abbrev lO : Stmt := mF 23
abbrev jO : Stmt := mF 24
abbrev e8 : Stmt := mF 25
abbrev fK : Stmt := mF 26
abbrev j1 : Stmt := mF 27
abbrev eR : Stmt := mF 28
abbrev eV : Stmt := mF 29
abbrev kW : Stmt := mF 30
abbrev dQ : Stmt := mF 32
abbrev gZ : Stmt := mF 33
abbrev cS : Stmt := mF 34
abbrev mY : Stmt := mF 36
abbrev sR : Stmt := mF 37
abbrev mK : Stmt := mF 38
abbrev kR : Stmt := mF 39
abbrev dX : Stmt := mF 40
abbrev dW : Stmt := mF 41
abbrev cG : Stmt := mF 42
abbrev dD : Stmt := mF 43
abbrev sD : Stmt := mF 45
abbrev oU : Stmt := mF 46
abbrev eL : Stmt := mF 47
abbrev gL : Stmt := mF 48
abbrev dF : Stmt := mF 49
abbrev iJ : Stmt := mF 51
abbrev jR : Stmt := mF 52
abbrev gY : Stmt := mF 53
abbrev cV : Stmt := mF 54
abbrev eQ : Stmt := mF 55
abbrev iK : Stmt := mF 58
abbrev gK : Stmt := mF 59
abbrev m4 : Stmt := mF 60
structure lW (K : PySem.W.Frag) (mg : Str → Option Value) : Prop where
 n_abs : mg "abs" = none
 n_all : mg "all" = none
 n_enumerate : mg "enumerate" = none
 n_len : mg "len" = none
 n_max : mg "max" = none
 n_min : mg "min" = none
 n_range : mg "range" = none
 n_reversed : mg "reversed" = none
 n_sorted : mg "sorted" = none
 n_tuple : mg "tuple" = none
 n_zip : mg "zip" = none
 x_NoPact : aIo K mg "NoPact"
 e_NoPact : ∃ cl, mg "NoPact" = some cl ∧ ∀ (c : Str) cls, (c = "NoPact") → mg c = some cls → PySem.W.exmOne K cls cl = some true
section
variable {P : Program} {w : World} {K : PySem.W.Frag} {mg : Str → Option Value} {base : Heap}
section
set_option maxHeartbeats 8000000
variable {f : Addr} {cdv : Value} {A : Around} {outer : List Env} {s : Shared} {H : Hp} {E : XK}
theorem eN : aW ["one", "other", "greater", "smaller", "rest"] ["one", "other"] (aD d6) := by simp_all_arith!
theorem rN (T : lW K mg) (hr : cB 0 (A.deeper (envOfC "common_divisor" (aD d6) s.heap.objs.size f cdv))) :
  jA (dL jE P w K mg base ["one", "other", "greater", "smaller", "rest"] "common_divisor" (aD d6) f cdv A outer s H E).nox (aR d6) iU := by
 have hu := hr.units
 exact (aI (bA (bJ aD9 (aB (aA (pv 0)) aG) (fun h1 h2 => cH h1 rfl T.n_abs aEJ h2)) (aK (aH (i := 2) eN.nd rfl (Or.inl rfl))) (fun h1 h2 => aZ h1 h2)) (aI (bA (bJ aD9 (aB (aA (pv 1)) aG) (fun h1 h2 => cH h1 rfl T.n_abs aEJ h2)) (aK (aH (i := 3) eN.nd rfl (Or.inl rfl))) (fun h1 h2 => aZ h1 h2)) (aI (uG PassesOwn.never (eY (aA1 hu) (aA (pv 3)) aO) (aI (bA (bO pC (aA (pv 2)) (aA (pv 3))) (aK (aH (i := 4) eN.nd rfl (Or.inl rfl))) (fun h1 h2 => aZ h1 h2)) (aI (bA (aA (pv 3)) (aK (aH (i := 2) eN.nd rfl (Or.inl rfl))) (fun h1 h2 => aZ h1 h2)) (aL (bA (aA (pv 4)) (aK (aH (i := 3) eN.nd rfl (Or.inl rfl))) (fun h1 h2 => aZ h1 h2)))))) (aL (bH (aA (pv 2)))))))
theorem aD8 : aW ["one", "other"] ["one", "other"] (aD kO) := by simp_all_arith!
theorem aB2 (T : lW K mg) (hr : cB 0 (A.deeper (envOfC "is_less" (aD kO) s.heap.objs.size f cdv))) :
  jA (dL jE P w K mg base ["one", "other"] "is_less" (aD kO) f cdv A outer s H E).nox (aR kO) qS := by
 have hu := hr.units
 exact (aL (bH (zR aFQ (bO jL (bF (aA (pv 0)) aO (fun _ _ => rfl)) (bF (aA (pv 1)) aO (fun _ _ => rfl))) (bO jL (bF (aA (pv 1)) aO (fun _ _ => rfl)) (bF (aA (pv 0)) aO (fun _ _ => rfl))))))
theorem jU : aW ["deeds", "rows", "many", "longer", "row", "deed"] ["deeds"] (aD kN) := by simp_all_arith!
theorem aCn (T : lW K mg) (hr : cB 0 (A.deeper (envOfC "rows_of" (aD kN) s.heap.objs.size f cdv))) :
  jA (dL jE P w K mg base ["deeds", "rows", "many", "longer", "row", "deed"] "rows_of" (aD kN) f cdv A outer s H E).nox (aR kN) rK := by
 have hu := hr.units
 exact (aI (bA (DF.toE (m9 (aB (eU aG) aG))) (aK (aH (i := 1) jU.nd rfl (Or.inl rfl))) (fun h1 h2 => aZ h1 h2)) (aI (gT rfl PassesOwn.never (mQ (aA (pv 0))) (aK (aH (i := 2) jU.nd rfl (Or.inl rfl))) (aI (rC (i := 3) (m9 aG) (fun h => sF (i := 3) jU.nd rfl (Or.inl rfl) h)) (aI (gT rfl PassesOwn.never (aBD (aA (pv 1))) (aK (aH (i := 4) jU.nd rfl (Or.inl rfl))) (aL (gT rfl PassesOwn.never (fQ rfl T.n_range (aA (pv 2))) (aK (aH (i := 5) jU.nd rfl (Or.inl rfl))) (aL (aCg (i := 3) (bO fV (aA (pv 4)) (eU (aB (aA (pv 5)) aG))) (fun h => uA (aC9 PySem.F.plainAttrs_list PySem.F.slot_list_append PySem.F.type_list_append oS (pv 3) (e6 h i6)))))))) (lG 3 (aL (bA (aA (pv 3)) (aK (aH (i := 1) jU.nd rfl (Or.inl rfl))) (fun h1 h2 => aZ h1 h2))))))) (aL (bH (bJ fM (aB (aA (pv 1)) aG) (fun h1 h2 => d9 h1 rfl T.n_tuple fL h2))))))
theorem lU : aW ["row", "deeds", "place", "deed", "many"] ["row", "deeds"] (aD jM) := by simp_all_arith!
theorem aAy (T : lW K mg) (hr : cB 0 (A.deeper (envOfC "place_of" (aD jM) s.heap.objs.size f cdv))) :
  jA (dL jE P w K mg base ["row", "deeds", "place", "deed", "many"] "place_of" (aD jM) f cdv A outer s H E).nox (aR jM) oX := by
 have hu := hr.units
 exact (aI (bA aO (aK (aH (i := 2) lU.nd rfl (Or.inl rfl))) (fun h1 h2 => aZ h1 h2)) (aI (gT rfl PassesOwn.never (aLS rfl T.n_zip aLJ (aA (pv 0)) (aA (pv 1))) (oB (aH (i := 3) lU.nd rfl (Or.inl rfl)) (aH (i := 4) lU.nd rfl (Or.inl rfl)) (fun h1 h2 => n6 rfl (dI h1 (dI h2 k8)))) (aL (bA (bO fV (bO pJ (aA (pv 2)) (aA (pv 4))) (aA (pv 3))) (aK (aH (i := 2) lU.nd rfl (Or.inl rfl))) (fun h1 h2 => aZ h1 h2)))) (aL (bH (aA (pv 2))))))
theorem aCj : aW ["row", "hand", "deed"] ["row", "hand", "deed"] (aD iN) := by simp_all_arith!
theorem yM (T : lW K mg) (hr : cB 0 (A.deeper (envOfC "with_deed" (aD iN) s.heap.objs.size f cdv))) :
  jA (dL jE P w K mg base ["row", "hand", "deed"] "with_deed" (aD iN) f cdv A outer s H E).nox (aR iN) nR := by
 have hu := hr.units
 exact (aL (bH (bO fV (bO fV (aIG (aA (pv 0)) x8 (xP (aA (pv 1)))) (eU (aB (aA (pv 2)) aG))) (aIG (aA (pv 0)) (xP (bO fV (aA (pv 1)) aO)) x8))))
theorem iI : aW ["row", "deeds", "strays", "hand", "many"] ["row", "deeds"] (aD fD) := by simp_all_arith!
theorem vH (T : lW K mg) (hr : cB 0 (A.deeper (envOfC "strays_from" (aD fD) s.heap.objs.size f cdv))) :
  jA (dL jE P w K mg base ["row", "deeds", "strays", "hand", "many"] "strays_from" (aD fD) f cdv A outer s H E).nox (aR fD) lC := by
 have hu := hr.units
 exact (aI (bA (DF.toE (m9 aG)) (aK (aH (i := 2) iI.nd rfl (Or.inl rfl))) (fun h1 h2 => aZ h1 h2)) (aI (gT rfl PassesOwn.never (mV rfl T.n_enumerate gB (aA (pv 1))) (oB (aH (i := 3) iI.nd rfl (Or.inr rfl)) (aH (i := 4) iI.nd rfl (Or.inl rfl)) (fun h1 h2 => n6 rfl (dI h1 (dI h2 k8)))) (aL (bA (DF.toE (aHH (aA (pv 2)) (DF.toE (jW (ifs := [_]) (Nc := ["deed", "hand", "row"]) (fr := [none, some 3, some 0]) (ss := [0]) (bN (sc := (aD fD)) (N := ["row", "deeds", "strays", "hand", "many"]) rfl rfl (by decide +kernel)) (by decide) rfl (fQ rfl T.n_range (aA (pv 4))) (fun Cc pins fp s3 H3 => aK (aH (i := 0) (show (["deed", "hand", "row"] : List Str).Nodup by decide +kernel) rfl (Or.inl rfl))) (fun Cc pins fp s3 H3 => j5 (eY (aA1 hu) (aA (pv 0)) (bF (aA (pv 2)) (aA (pv 1)) (fun _ _ => rfl)))) (fun Cc pins fp s3 H3 => (eU (aB (aA (pv 1)) (aB (aA (pv 0)) aG)))))))) (aK (aH (i := 2) iI.nd rfl (Or.inl rfl))) (fun h1 h2 => aZ h1 h2)))) (aL (bH (aA (pv 2))))))
theorem oR : aW ["pay", "later", "patience", "upper"] ["pay", "later", "patience"] (aD eV) := by simp_all_arith!
theorem sA (T : lW K mg) (hr : cB 0 (A.deeper (envOfC "now_and_later" (aD eV) s.heap.objs.size f cdv))) :
  jA (dL jE P w K mg base ["pay", "later", "patience", "upper"] "now_and_later" (aD eV) f cdv A outer s H E).nox (aR eV) jH := by
 have hu := hr.units
 exact (aI (bA (bO fV (bO jL (bO jL (bO vK (bF (aA (pv 2)) aO (fun _ _ => rfl)) (bF (aA (pv 2)) aO (fun _ _ => rfl))) (aA (pv 0))) (bF (aA (pv 1)) aO (fun _ _ => rfl))) (bO jL (bF (aA (pv 2)) aO (fun _ _ => rfl)) (bF (aA (pv 1)) aO (fun _ _ => rfl)))) (aK (aH (i := 3) oR.nd rfl (Or.inl rfl))) (fun h1 h2 => aZ h1 h2)) (aL (bH (eU (aB (aA (pv 3)) (aB (bO jL (bF (aA (pv 2)) aO (fun _ _ => rfl)) (bF (aA (pv 1)) aO (fun _ _ => rfl))) aG))))))
theorem kY : aW ["pays", "patience", "total", "weight", "pay"] ["pays", "patience"] (aD kW) := by simp_all_arith!
theorem aB1 (T : lW K mg) (hr : cB 0 (A.deeper (envOfC "weighed" (aD kW) s.heap.objs.size f cdv))) :
  jA (dL jE P w K mg base ["pays", "patience", "total", "weight", "pay"] "weighed" (aD kW) f cdv A outer s H E).nox (aR kW) qU := by
 have hu := hr.units
 exact (aI (bA aO (aK (aH (i := 2) kY.nd rfl (Or.inl rfl))) (fun h1 h2 => aZ h1 h2)) (aI (bA aO (aK (aH (i := 3) kY.nd rfl (Or.inl rfl))) (fun h1 h2 => aZ h1 h2)) (aI (gT rfl PassesOwn.never (aBD (aA (pv 0))) (aK (aH (i := 4) kY.nd rfl (Or.inl rfl))) (aI (bA (bO fV (bO jL (aA (pv 2)) (bF (aA (pv 1)) aO (fun _ _ => rfl))) (bO jL (aA (pv 3)) (aA (pv 4)))) (aK (aH (i := 2) kY.nd rfl (Or.inl rfl))) (fun h1 h2 => aZ h1 h2)) (aL (bA (bO jL (aA (pv 3)) (bF (aA (pv 1)) aO (fun _ _ => rfl))) (aK (aH (i := 3) kY.nd rfl (Or.inl rfl))) (fun h1 h2 => aZ h1 h2))))) (aL (bH (aA (pv 2)))))))
theorem uH : aW ["told", "hand"] ["told", "hand"] (aD dF) := by simp_all_arith!
theorem rU (T : lW K mg) (hr : cB 0 (A.deeper (envOfC "worths_of_hand" (aD dF) s.heap.objs.size f cdv))) :
  jA (dL jE P w K mg base ["told", "hand"] "worths_of_hand" (aD dF) f cdv A outer s H E).nox (aR dF) iV := by
 have hu := hr.units
 exact (aL (bH (bJ fM (aB (DF.toE (iW (Nc := ["of_hands", "hand"]) (fr := [none, some 1]) (ss := [0]) (bN (sc := (aD dF)) (N := ["told", "hand"]) rfl rfl (by decide +kernel)) (by decide) rfl (mQ (aA (pv 0))) (fun Cc pins fp s3 H3 => aK (aH (i := 0) (show (["of_hands", "hand"] : List Str).Nodup by decide +kernel) rfl (Or.inl rfl))) (fun Cc pins fp s3 H3 => (bF (aA (pv 0)) (aA (pv 1)) (fun _ _ => rfl))) iY)) aG) (fun h1 h2 => d9 h1 rfl T.n_tuple fL h2))))
theorem aBZ : aW ["_law_script", "_law_k"] ["_law_script", "_law_k"] (aD iJ) := by simp_all_arith!
theorem aAb (T : lW K mg) (hr : cB 0 (A.deeper (envOfC "_law_cell" (aD iJ) s.heap.objs.size f cdv))) :
  jA (dL jE P w K mg base ["_law_script", "_law_k"] "_law_cell" (aD iJ) f cdv A outer s H E).nox (aR iJ) nI := by
 have hu := hr.units
 exact (aI (lT (eY aFQ (aA (pv 1)) (bJ k6 (aB (aA (pv 0)) aG) (fun h1 h2 => cH h1 rfl T.n_len kE h2))) (aL (bH (bF (aA (pv 0)) (aA (pv 1)) (fun _ _ => rfl)))) fP) (aL (bH aO)))
theorem aDU : aW ["_law_cell_here", "_law_prime", "_law_many"] ["_law_cell_here", "_law_prime", "_law_many"] (aD jR) := by simp_all_arith!
theorem aAD (T : lW K mg) (hr : cB 0 (A.deeper (envOfC "_law_mix" (aD jR) s.heap.objs.size f cdv))) :
  jA (dL jE P w K mg base ["_law_cell_here", "_law_prime", "_law_many"] "_law_mix" (aD jR) f cdv A outer s H E).nox (aR jR) o8 := by
 have hu := hr.units
 exact (aL (bH (bO pC (bO pC (bO pJ (aA (pv 0)) aO) (aA (pv 1))) (aA (pv 2)))))
theorem i4 : aW ["_law_deeds", "_law_found", "_law_many", "_law_more_here", "_law_row"] ["_law_deeds"] (aD gY) := by simp_all_arith!
theorem y0 (T : lW K mg) (hr : cB 0 (A.deeper (envOfC "_law_rows" (aD gY) s.heap.objs.size f cdv))) :
  jA (dL jE P w K mg base ["_law_deeds", "_law_found", "_law_many", "_law_more_here", "_law_row"] "_law_rows" (aD gY) f cdv A outer s H E).nox (aR gY) nF := by
 have hu := hr.units
 exact (aI (bA (DF.toE (m9 (aB (eU aG) aG))) (aK (aH (i := 1) i4.nd rfl (Or.inl rfl))) (fun h1 h2 => aZ h1 h2)) (aI (gT rfl PassesOwn.never (mQ (aA (pv 0))) (aK (aH (i := 2) i4.nd rfl (Or.inl rfl))) (aI (rC (i := 3) (m9 aG) (fun h => sF (i := 3) i4.nd rfl (Or.inl rfl) h)) (aI (gT rfl PassesOwn.never (aBD (aA (pv 1))) (aK (aH (i := 4) i4.nd rfl (Or.inr rfl))) (aL (aKJ (i := 3) (iW (Nc := ["_law_deed", "_law_row"]) (fr := [none, some 4]) (ss := [0]) (bN (sc := (aD gY)) (N := ["_law_deeds", "_law_found", "_law_many", "_law_more_here", "_law_row"]) rfl rfl (by decide +kernel)) (by decide) rfl (fQ rfl T.n_range (aA (pv 2))) (fun Cc pins fp s3 H3 => aK (aH (i := 0) (show (["_law_deed", "_law_row"] : List Str).Nodup by decide +kernel) rfl (Or.inl rfl))) (fun Cc pins fp s3 H3 => (bO fV (aA (pv 1)) (eU (aB (aA (pv 0)) aG)))) iY) (fun h => uA (aC9 PySem.F.plainAttrs_list PySem.F.slot_list_extend PySem.F.type_list_extend aGG (pv 3) (e6 h i6)))))) (lG 3 (aL (bA (aA (pv 3)) (aK (aH (i := 1) i4.nd rfl (Or.inl rfl))) (fun h1 h2 => aZ h1 h2))))))) (aL (bH (aA (pv 1))))))
theorem aBo : aW ["_law_one", "_law_other"] ["_law_one", "_law_other"] (aD iK) := by simp_all_arith!
theorem zB (T : lW K mg) (hr : cB 0 (A.deeper (envOfC "_law_more" (aD iK) s.heap.objs.size f cdv))) :
  jA (dL jE P w K mg base ["_law_one", "_law_other"] "_law_more" (aD iK) f cdv A outer s H E).nox (aR iK) nT := by
 have hu := hr.units
 exact (aL (bH (zR aKv (bO jL (bF (aA (pv 0)) aO (fun _ _ => rfl)) (bF (aA (pv 1)) aO (fun _ _ => rfl))) (bO jL (bF (aA (pv 1)) aO (fun _ _ => rfl)) (bF (aA (pv 0)) aO (fun _ _ => rfl))))))
theorem vO : aW ["upper", "lower", "sign", "divisor"] ["upper", "lower"] (aD m8) := by simp_all_arith!
theorem aDS (T : lW K mg) (h_common_divisor : d5 P w K mg base 1 "common_divisor" d8) (hr : cB 1 (A.deeper (envOfC "lowest" (aD m8) s.heap.objs.size f cdv))) :
  jA (dL jE P w K mg base ["upper", "lower", "sign", "divisor"] "lowest" (aD m8) f cdv A outer s H E).nox (aR m8) uB := by
 have hu := hr.units
 exact (aI (bA (bO aBz (aA (pv 1)) (bJ aD9 (aB (aA (pv 1)) aG) (fun h1 h2 => cH h1 rfl T.n_abs aEJ h2))) (aK (aH (i := 2) vO.nd rfl (Or.inl rfl))) (fun h1 h2 => aZ h1 h2)) (aI (bA (bO jL (aA (pv 2)) (aP h_common_divisor (hr.mono (by decide)) rfl (aB (aA (pv 0)) (aB (aA (pv 1)) aG)))) (aK (aH (i := 3) vO.nd rfl (Or.inl rfl))) (fun h1 h2 => aZ h1 h2)) (aL (bH (eU (aB (bO aBz (aA (pv 0)) (aA (pv 3))) (aB (bO aBz (aA (pv 1)) (aA (pv 3))) aG)))))))
theorem aDK : aW ["meeting"] ["meeting"] (aD jS) := by simp_all_arith!
theorem aAz (T : lW K mg) (h_rows_of : d5 P w K mg base 1 "rows_of" kU) (hr : cB 1 (A.deeper (envOfC "all_rows" (aD jS) s.heap.objs.size f cdv))) :
  jA (dL jE P w K mg base ["meeting"] "all_rows" (aD jS) f cdv A outer s H E).nox (aR jS) pB := by
 have hu := hr.units
 exact (aL (bH (aP h_rows_of (hr.mono (by decide)) rfl (aB (bF (aA (pv 0)) aO (fun _ _ => rfl)) aG))))
theorem aJL : aW ["meeting", "row"] ["meeting", "row"] (aD sS) := by simp_all_arith!
theorem aGl (T : lW K mg) (h_place_of : d5 P w K mg base 1 "place_of" eC) (hr : cB 1 (A.deeper (envOfC "paid" (aD sS) s.heap.objs.size f cdv))) :
  jA (dL jE P w K mg base ["meeting", "row"] "paid" (aD sS) f cdv A outer s H E).nox (aR sS) aBu := by
 have hu := hr.units
 exact (aL (bH (bF (bF (aA (pv 0)) aO (fun _ _ => rfl)) (aP h_place_of (hr.mono (by decide)) rfl (aB (aA (pv 1)) (aB (bF (aA (pv 0)) aO (fun _ _ => rfl)) aG))) (fun _ _ => rfl))))
theorem xC : aW ["meeting", "plan", "state", "row"] ["meeting", "plan", "state", "row"] (aD fK) := by simp_all_arith!
theorem uU (T : lW K mg) (h_place_of : d5 P w K mg base 1 "place_of" eC) (hr : cB 1 (A.deeper (envOfC "state_behind" (aD fK) s.heap.objs.size f cdv))) :
  jA (dL jE P w K mg base ["meeting", "plan", "state", "row"] "state_behind" (aD fK) f cdv A outer s H E).nox (aR fK) kG := by
 have hu := hr.units
 exact (aL (bH (bF (bF (bF (aA (pv 1)) (aA (pv 2)) (fun _ _ => rfl)) aO (fun _ _ => rfl)) (aP h_place_of (hr.mono (by decide)) rfl (aB (aA (pv 3)) (aB (bF (aA (pv 0)) aO (fun _ _ => rfl)) aG))) (fun _ _ => rfl))))
theorem cL : aW ["_law_cell_here", "_law_deeds", "_law_wide", "_law_pay", "_law_k", "_law_seed", "_law_one", "_law_few"] ["_law_cell_here"] (aD cV) := by simp_all_arith!
theorem sZ (T : lW K mg) (h__law_mix : d5 P w K mg base 1 "_law_mix" dN) (h__law_rows : d5 P w K mg base 1 "_law_rows" iM) (hr : cB 1 (A.deeper (envOfC "_law_meeting" (aD cV) s.heap.objs.size f cdv))) :
  jA (dL jE P w K mg base ["_law_cell_here", "_law_deeds", "_law_wide", "_law_pay", "_law_k", "_law_seed", "_law_one", "_law_few"] "_law_meeting" (aD cV) f cdv A outer s H E).nox (aR cV) j9 := by
 have hu := hr.units
 exact (aI (bA (bJ fM (aB (DF.toE (iW (Nc := ["_law_k", "_law_cell_here"]) (fr := [none, some 0]) (ss := [0]) (bN (sc := (aD cV)) (N := ["_law_cell_here", "_law_deeds", "_law_wide", "_law_pay", "_law_k", "_law_seed", "_law_one", "_law_few"]) rfl rfl (by decide +kernel)) (by decide) rfl (fQ rfl T.n_range (bO fV aO (bO aEm (aP h__law_mix (hr.mono (by decide)) rfl (aB (aA (pv 0)) (aB aO (aB aO aG)))) aO))) (fun Cc pins fp s3 H3 => aK (aH (i := 0) (show (["_law_k", "_law_cell_here"] : List Str).Nodup by decide +kernel) rfl (Or.inl rfl))) (fun Cc pins fp s3 H3 => (bO fV aO (aP h__law_mix (hr.mono (by decide)) rfl (aB (bO fV (aA (pv 1)) (bO pJ aO (aA (pv 0)))) (aB aO (aB aO aG)))))) iY)) aG) (fun h1 h2 => d9 h1 rfl T.n_tuple fL h2)) (aK (aH (i := 1) cL.nd rfl (Or.inl rfl))) (fun h1 h2 => aZ h1 h2)) (aI (lT (eY (rX hu) (bO pC (aA (pv 0)) aO) aO) (aL (bA (eU (aB aO (aB aO aG))) (aK (aH (i := 1) cL.nd rfl (Or.inl rfl))) (fun h1 h2 => aZ h1 h2))) fP) (aI (bA (bF (DF.toE (m9 (aB aO (aB aO (aB aO aG))))) (aP h__law_mix (hr.mono (by decide)) rfl (aB (aA (pv 0)) (aB aO (aB aO aG)))) (fun _ _ => rfl)) (aK (aH (i := 2) cL.nd rfl (Or.inr rfl))) (fun h1 h2 => aZ h1 h2)) (aI (rC (i := 3) (m9 aG) (fun h => sF (i := 3) cL.nd rfl (Or.inl rfl) h)) (aI (gT rfl PassesOwn.never (fQ rfl T.n_range (bJ k6 (aB (aP h__law_rows (hr.mono (by decide)) rfl (aB (aA (pv 1)) aG)) aG) (fun h1 h2 => cH h1 rfl T.n_len kE h2))) (aK (aH (i := 4) cL.nd rfl (Or.inl rfl))) (aI (bA (bO fV (aA (pv 0)) (bO pJ aO (aA (pv 4)))) (aK (aH (i := 5) cL.nd rfl (Or.inr rfl))) (fun h1 h2 => aZ h1 h2)) (aI (rG (i := 6) (Nc := ["_law_hand", "_law_wide", "_law_seed"]) (fr := [none, some 2, some 5]) (ss := [0]) (bN (sc := (aD cV)) (N := ["_law_cell_here", "_law_deeds", "_law_wide", "_law_pay", "_law_k", "_law_seed", "_law_one", "_law_few"]) rfl rfl (by decide +kernel)) (by decide) rfl cL.nd rfl (Or.inl rfl) (fQ rfl T.n_range (bJ k6 (aB (aA (pv 1)) aG) (fun h1 h2 => cH h1 rfl T.n_len kE h2))) (fun Cc pins fp s3 H3 => aK (aH (i := 0) (show (["_law_hand", "_law_wide", "_law_seed"] : List Str).Nodup by decide +kernel) rfl (Or.inl rfl))) (fun Cc pins fp s3 H3 => (bO vK (bO fV (aP h__law_mix (hr.mono (by decide)) rfl (aB (bO fV (aA (pv 2)) (bO pJ aO (aA (pv 0)))) (aB aO (aB (bO vK (bO pJ aO (aA (pv 1))) aO) aG)))) aO) (aA (pv 1)))) iY rfl) (lG 6 (aL (aCg (i := 3) (bJ fM (aB (aA (pv 6)) aG) (fun h1 h2 => d9 h1 rfl T.n_tuple fL h2)) (fun h => uA (aC9 PySem.F.plainAttrs_list PySem.F.slot_list_append PySem.F.type_list_append oS (pv 3) (e6 h i6))))))))) (aI (lT (eY (rX hu) (bO pC (aA (pv 0)) aO) aO) (aI (bA (DF.toE (aJl aFW (aB (DF.toE (iW (Nc := ["_law_k", "_law_cell_here"]) (fr := [none, some 0]) (ss := [0]) (bN (sc := (aD cV)) (N := ["_law_cell_here", "_law_deeds", "_law_wide", "_law_pay", "_law_k", "_law_seed", "_law_one", "_law_few"]) rfl rfl (by decide +kernel)) (by decide) rfl (fQ rfl T.n_range aO) (fun Cc pins fp s3 H3 => aK (aH (i := 0) (show (["_law_k", "_law_cell_here"] : List Str).Nodup by decide +kernel) rfl (Or.inl rfl))) (fun Cc pins fp s3 H3 => (bO vK (aP h__law_mix (hr.mono (by decide)) rfl (aB (bO fV (aA (pv 1)) (aA (pv 0))) (aB aO (aB aO aG)))) aO)) iY)) aG) (fun h1 h2 => cH h1 rfl T.n_sorted aF4 h2))) (aK (aH (i := 7) cL.nd rfl (Or.inl rfl))) (fun h1 h2 => aZ h1 h2)) (aL (rC (i := 3) (m9 (aB (eU (aB (bF (aA (pv 7)) aO (fun _ _ => rfl)) (aB (bF (aA (pv 7)) aO (fun _ _ => rfl)) aG))) (aB (eU (aB (bF (aA (pv 7)) aO (fun _ _ => rfl)) (aB (bF (aA (pv 7)) aO (fun _ _ => rfl)) aG))) (aB (eU (aB (bF (aA (pv 7)) aO (fun _ _ => rfl)) (aB (bF (aA (pv 7)) aO (fun _ _ => rfl)) aG))) (aB (eU (aB (bF (aA (pv 7)) aO (fun _ _ => rfl)) (aB (bF (aA (pv 7)) aO (fun _ _ => rfl)) aG))) aG))))) (fun h => sF (i := 3) cL.nd rfl (Or.inl rfl) h)))) fP) (lG 3 (aL (bH (eU (aB (aA (pv 1)) (aB (bJ fM (aB (aA (pv 3)) aG) (fun h1 h2 => d9 h1 rfl T.n_tuple fL h2)) aG))))))))))))
theorem eB : aW ["_law_cell_here", "_law_lower", "_law_upper", "_law_by"] ["_law_cell_here"] (aD eQ) := by simp_all_arith!
theorem sE (T : lW K mg) (h__law_mix : d5 P w K mg base 1 "_law_mix" dN) (hr : cB 1 (A.deeper (envOfC "_law_patience" (aD eQ) s.heap.objs.size f cdv))) :
  jA (dL jE P w K mg base ["_law_cell_here", "_law_lower", "_law_upper", "_law_by"] "_law_patience" (aD eQ) f cdv A outer s H E).nox (aR eQ) jD := by
 have hu := hr.units
 exact (aI (bA (bO fV aO (aP h__law_mix (hr.mono (by decide)) rfl (aB (aA (pv 0)) (aB aO (aB aO aG))))) (aK (aH (i := 1) eB.nd rfl (Or.inl rfl))) (fun h1 h2 => aZ h1 h2)) (aI (bA (bO fV aO (aP h__law_mix (hr.mono (by decide)) rfl (aB (aA (pv 0)) (aB aO (aB (bO vK (aA (pv 1)) aO) aG))))) (aK (aH (i := 2) eB.nd rfl (Or.inl rfl))) (fun h1 h2 => aZ h1 h2)) (aI (lT (eY (rX hu) (bO pC (aA (pv 0)) aO) aO) (aL (bA (bO vK (aA (pv 1)) aO) (aK (aH (i := 2) eB.nd rfl (Or.inl rfl))) (fun h1 h2 => aZ h1 h2))) fP) (aI (gT rfl PassesOwn.never (aI4 rfl T.n_range aO aO (hp := fun h => aFX rfl T.n_range h)) (aK (aH (i := 3) eB.nd rfl (Or.inl rfl))) (aL (uG PassesOwn.never (DW.t (aLj (eY (rX hu) (bO pC (aA (pv 2)) (aA (pv 3))) aO) (aJ8 (eY (rX hu) (bO pC (aA (pv 1)) (aA (pv 3))) aO)))) (aI (bA (bO aEm (aA (pv 2)) (aA (pv 3))) (aK (aH (i := 2) eB.nd rfl (Or.inl rfl))) (fun h1 h2 => aZ h1 h2)) (aL (bA (bO aEm (aA (pv 1)) (aA (pv 3))) (aK (aH (i := 1) eB.nd rfl (Or.inl rfl))) (fun h1 h2 => aZ h1 h2))))))) (aL (bH (eU (aB (aA (pv 2)) (aB (aA (pv 1)) aG)))))))))
theorem xK : aW ["meeting", "hand", "row"] ["meeting", "hand", "row"] (aD eI) := by simp_all_arith!
theorem sY (T : lW K mg) (h_with_deed : d5 P w K mg base 1 "with_deed" cR) (h_paid : d5 P w K mg base 2 "paid" fW) (hr : cB 2 (A.deeper (envOfC "pays_by_deed" (aD eI) s.heap.objs.size f cdv))) :
  jA (dL jE P w K mg base ["meeting", "hand", "row"] "pays_by_deed" (aD eI) f cdv A outer s H E).nox (aR eI) kJ := by
 have hu := hr.units
 exact (aL (bH (DF.toE (iW (Nc := ["deed", "hand", "meeting", "row"]) (fr := [none, some 1, some 0, some 2]) (ss := [0]) (bN (sc := (aD eI)) (N := ["meeting", "hand", "row"]) rfl rfl (by decide +kernel)) (by decide) rfl (fQ rfl T.n_range (bF (bF (aA (pv 0)) aO (fun _ _ => rfl)) (aA (pv 1)) (fun _ _ => rfl))) (fun Cc pins fp s3 H3 => aK (aH (i := 0) (show (["deed", "hand", "meeting", "row"] : List Str).Nodup by decide +kernel) rfl (Or.inl rfl))) (fun Cc pins fp s3 H3 => (bF (aP h_paid (hr.mono (by decide)) rfl (aB (aA (pv 2)) (aB (aP h_with_deed (hr.mono (by decide)) rfl (aB (aA (pv 3)) (aB (aA (pv 1)) (aB (aA (pv 0)) aG)))) aG))) (aA (pv 1)) (fun _ _ => rfl))) iY))))
theorem aAr : aW ["meeting", "hand", "deed"] ["meeting", "hand", "deed"] (aD f7) := by simp_all_arith!
theorem w4 (T : lW K mg) (h_all_rows : d5 P w K mg base 2 "all_rows" cQ) (h_paid : d5 P w K mg base 2 "paid" fW) (hr : cB 2 (A.deeper (envOfC "least_paid" (aD f7) s.heap.objs.size f cdv))) :
  jA (dL jE P w K mg base ["meeting", "hand", "deed"] "least_paid" (aD f7) f cdv A outer s H E).nox (aR f7) l9 := by
 have hu := hr.units
 exact (aL (bH (bJ (aHl rfl) (aB (DF.toE (jW (ifs := [_]) (Nc := ["row", "hand", "meeting", "deed"]) (fr := [none, some 1, some 0, some 2]) (ss := [0]) (bN (sc := (aD f7)) (N := ["meeting", "hand", "deed"]) rfl rfl (by decide +kernel)) (by decide) rfl (mQ (aP h_all_rows (hr.mono (by decide)) rfl (aB (aA (pv 0)) aG))) (fun Cc pins fp s3 H3 => aK (aH (i := 0) (show (["row", "hand", "meeting", "deed"] : List Str).Nodup by decide +kernel) rfl (Or.inl rfl))) (fun Cc pins fp s3 H3 => j5 (eY (rX hu) (bF (aA (pv 0)) (aA (pv 1)) (fun _ _ => rfl)) (aA (pv 3)))) (fun Cc pins fp s3 H3 => (bF (aP h_paid (hr.mono (by decide)) rfl (aB (aA (pv 2)) (aB (aA (pv 0)) aG))) (aA (pv 1)) (fun _ _ => rfl))))) aG) (fun h1 h2 => cH h1 rfl T.n_min aHx h2))))
theorem aEI : aW ["meeting", "rows", "hand"] ["meeting", "rows", "hand"] (aD j1) := by simp_all_arith!
theorem aCl (T : lW K mg) (h_paid : d5 P w K mg base 2 "paid" fW) (hr : cB 2 (A.deeper (envOfC "pays_of" (aD j1) s.heap.objs.size f cdv))) :
  jA (dL jE P w K mg base ["meeting", "rows", "hand"] "pays_of" (aD j1) f cdv A outer s H E).nox (aR j1) rD := by
 have hu := hr.units
 exact (aL (bH (DF.toE (iW (Nc := ["row", "hand", "meeting"]) (fr := [none, some 2, some 0]) (ss := [0]) (bN (sc := (aD j1)) (N := ["meeting", "rows", "hand"]) rfl rfl (by decide +kernel)) (by decide) rfl (aK3 (aA (pv 1))) (fun Cc pins fp s3 H3 => aK (aH (i := 0) (show (["row", "hand", "meeting"] : List Str).Nodup by decide +kernel) rfl (Or.inl rfl))) (fun Cc pins fp s3 H3 => (bF (aP h_paid (hr.mono (by decide)) rfl (aB (aA (pv 2)) (aB (aA (pv 0)) aG))) (aA (pv 1)) (fun _ _ => rfl))) iY))))
theorem iX : aW ["before", "again", "patience", "worth", "pay"] ["before", "again", "patience"] (aD eR) := by simp_all_arith!
theorem sK (T : lW K mg) (h_weighed : d5 P w K mg base 1 "weighed" gQ) (h_now_and_later : d5 P w K mg base 1 "now_and_later" bU) (h_lowest : d5 P w K mg base 2 "lowest" lK) (hr : cB 2 (A.deeper (envOfC "worth_of_pays" (aD eR) s.heap.objs.size f cdv))) :
  jA (dL jE P w K mg base ["before", "again", "patience", "worth", "pay"] "worth_of_pays" (aD eR) f cdv A outer s H E).nox (aR eR) jC := by
 have hu := hr.units
 exact (aI (bA (eU (aB (aP h_weighed (hr.mono (by decide)) rfl (aB (aA (pv 1)) (aB (aA (pv 2)) aG))) (aB (aP h_weighed (hr.mono (by decide)) rfl (aB (DF.toE (aKz (m9 (aB aO aG)) (bJ k6 (aB (aA (pv 1)) aG) (fun h1 h2 => cH h1 rfl T.n_len kE h2)))) (aB (aA (pv 2)) aG))) aG))) (aK (aH (i := 3) iX.nd rfl (Or.inl rfl))) (fun h1 h2 => aZ h1 h2)) (aI (gT rfl PassesOwn.never (aK7 rfl T.n_reversed aCB (aA (pv 0))) (aK (aH (i := 4) iX.nd rfl (Or.inl rfl))) (aL (bA (aP h_now_and_later (hr.mono (by decide)) rfl (aB (aA (pv 4)) (aB (aA (pv 3)) (aB (aA (pv 2)) aG)))) (aK (aH (i := 3) iX.nd rfl (Or.inl rfl))) (fun h1 h2 => aZ h1 h2)))) (aL (bH (aP h_lowest (hr.mono (by decide)) rfl (aB (bF (aA (pv 3)) aO (fun _ _ => rfl)) (aB (bF (aA (pv 3)) aO (fun _ _ => rfl)) aG)))))))
theorem mC : aW ["meeting", "row", "onward", "threatening", "nexts", "done", "strayed"] ["meeting", "row", "onward", "threatening"] (aD gZ) := by simp_all_arith!
theorem aAh (T : lW K mg) (h_all_rows : d5 P w K mg base 2 "all_rows" cQ) (hr : cB 2 (A.deeper (envOfC "answering" (aD gZ) s.heap.objs.size f cdv))) :
  jA (dL jE P w K mg base ["meeting", "row", "onward", "threatening", "nexts", "done", "strayed"] "answering" (aD gZ) f cdv A outer s H E).nox (aR gZ) nG := by
 have hu := hr.units
 exact (aI (rC (i := 4) (m9 aG) (fun h => sF (i := 4) mC.nd rfl (Or.inl rfl) h)) (aI (gT rfl PassesOwn.never (mQ (aP h_all_rows (hr.mono (by decide)) rfl (aB (aA (pv 0)) aG))) (aK (aH (i := 5) mC.nd rfl (Or.inr rfl))) (aI (aHU (ifs := [_]) (i := 6) (Nc := ["hand", "deed", "done"]) (fr := [none, none, some 5]) (ss := [0, 1]) (bN (sc := (aD gZ)) (N := ["meeting", "row", "onward", "threatening", "nexts", "done", "strayed"]) rfl rfl (by decide +kernel)) (by decide) rfl mC.nd rfl (Or.inl rfl) (mV rfl T.n_enumerate gB (aA (pv 1))) (fun Cc pins fp s3 H3 => oB (aH (i := 0) (show (["hand", "deed", "done"] : List Str).Nodup by decide +kernel) rfl (Or.inl rfl)) (aH (i := 1) (show (["hand", "deed", "done"] : List Str).Nodup by decide +kernel) rfl (Or.inl rfl)) (fun h1 h2 => n6 rfl (dI h1 (dI h2 k8)))) (fun Cc pins fp s3 H3 => j5 (eY (aA1 hu) (bF (aA (pv 2)) (aA (pv 0)) (fun _ _ => rfl)) (aA (pv 1)))) (fun Cc pins fp s3 H3 => (aA (pv 0))) rfl) (lG 6 (aL (aCg (i := 4) (aMr (eY (rX hu) (bJ k6 (aB (aA (pv 6)) aG) (fun h1 h2 => cH h1 rfl T.n_len kE h2)) aO) (bO fV (aA (pv 3)) (bF (aA (pv 6)) aO (fun _ _ => rfl))) (aA (pv 2))) (fun h => uA (aC9 PySem.F.plainAttrs_list PySem.F.slot_list_append PySem.F.type_list_append oS (pv 4) (e6 h i6)))))))) (lG 4 (aL (bH (eU (aB (aA (pv 1)) (aB (bJ fM (aB (aA (pv 4)) aG) (fun h1 h2 => d9 h1 rfl T.n_tuple fL h2)) aG))))))))
theorem sJ : aW ["meeting", "threats"] ["meeting", "threats"] (aD cS) := by simp_all_arith!
theorem pW (T : lW K mg) (h_paid : d5 P w K mg base 2 "paid" fW) (hr : cB 2 (A.deeper (envOfC "threatened_pays" (aD cS) s.heap.objs.size f cdv))) :
  jA (dL jE P w K mg base ["meeting", "threats"] "threatened_pays" (aD cS) f cdv A outer s H E).nox (aR cS) iF := by
 have hu := hr.units
 exact (aL (bH (bJ fM (aB (DF.toE (iW (Nc := ["hand", "row", "meeting"]) (fr := [none, none, some 0]) (ss := [0, 1]) (bN (sc := (aD cS)) (N := ["meeting", "threats"]) rfl rfl (by decide +kernel)) (by decide) rfl (mV rfl T.n_enumerate gB (aA (pv 1))) (fun Cc pins fp s3 H3 => oB (aH (i := 0) (show (["hand", "row", "meeting"] : List Str).Nodup by decide +kernel) rfl (Or.inl rfl)) (aH (i := 1) (show (["hand", "row", "meeting"] : List Str).Nodup by decide +kernel) rfl (Or.inl rfl)) (fun h1 h2 => n6 rfl (dI h1 (dI h2 k8)))) (fun Cc pins fp s3 H3 => (bF (aP h_paid (hr.mono (by decide)) rfl (aB (aA (pv 2)) (aB (aA (pv 1)) aG))) (aA (pv 0)) (fun _ _ => rfl))) u0)) aG) (fun h1 h2 => d9 h1 rfl T.n_tuple fL h2))))
theorem eX : aW ["meeting", "row", "after", "patience", "pays", "hand", "deed", "now"] ["meeting", "row", "after", "patience"] (aD dD) := by simp_all_arith!
theorem pT (T : lW K mg) (h_paid : d5 P w K mg base 2 "paid" fW) (h_with_deed : d5 P w K mg base 1 "with_deed" cR) (h_now_and_later : d5 P w K mg base 1 "now_and_later" bU) (h_is_less : d5 P w K mg base 1 "is_less" iA) (h_strays_from : d5 P w K mg base 1 "strays_from" cU) (hr : cB 2 (A.deeper (envOfC "stray_that_gains" (aD dD) s.heap.objs.size f cdv))) :
  jA (dL jE P w K mg base ["meeting", "row", "after", "patience", "pays", "hand", "deed", "now"] "stray_that_gains" (aD dD) f cdv A outer s H E).nox (aR dD) hJ := by
 have hu := hr.units
 exact (aI (bA (aP h_paid (hr.mono (by decide)) rfl (aB (aA (pv 0)) (aB (aA (pv 1)) aG))) (aK (aH (i := 4) eX.nd rfl (Or.inl rfl))) (fun h1 h2 => aZ h1 h2)) (aI (gT rfl PassesOwn.never (aBD (aP h_strays_from (hr.mono (by decide)) rfl (aB (aA (pv 1)) (aB (bF (aA (pv 0)) aO (fun _ _ => rfl)) aG)))) (oB (aH (i := 5) eX.nd rfl (Or.inl rfl)) (aH (i := 6) eX.nd rfl (Or.inl rfl)) (fun h1 h2 => n6 rfl (dI h1 (dI h2 k8)))) (aI (bA (bF (aP h_paid (hr.mono (by decide)) rfl (aB (aA (pv 0)) (aB (aP h_with_deed (hr.mono (by decide)) rfl (aB (aA (pv 1)) (aB (aA (pv 5)) (aB (aA (pv 6)) aG)))) aG))) (aA (pv 5)) (fun _ _ => rfl)) (aK (aH (i := 7) eX.nd rfl (Or.inl rfl))) (fun h1 h2 => aZ h1 h2)) (aL (lT (o7 (aP h_is_less (hr.mono (by decide)) rfl (aB (eU (aB (bF (aA (pv 4)) (aA (pv 5)) (fun _ _ => rfl)) (aB aO aG))) (aB (aP h_now_and_later (hr.mono (by decide)) rfl (aB (aA (pv 7)) (aB (eU (aB (bF (aA (pv 2)) (aA (pv 5)) (fun _ _ => rfl)) (aB aO aG))) (aB (aA (pv 3)) aG)))) aG))) (fun _ => rfl)) (aL (bH (eU (aB (aA (pv 5)) (aB (aA (pv 6)) aG))))) fP)))) (aL (bH qC))))
theorem cZ : aW ["meeting", "plan", "state", "hand", "own", "patience", "row", "best", "most", "deed", "done", "later", "worth"] ["meeting", "plan", "state", "hand", "own", "patience"] (aD gL) := by simp_all_arith!
theorem vE (T : lW K mg) (h_with_deed : d5 P w K mg base 1 "with_deed" cR) (h_state_behind : d5 P w K mg base 2 "state_behind" cY) (h_paid : d5 P w K mg base 2 "paid" fW) (h_now_and_later : d5 P w K mg base 1 "now_and_later" bU) (h_is_less : d5 P w K mg base 1 "is_less" iA) (hr : cB 2 (A.deeper (envOfC "better_deed" (aD gL) s.heap.objs.size f cdv))) :
  jA (dL jE P w K mg base ["meeting", "plan", "state", "hand", "own", "patience", "row", "best", "most", "deed", "done", "later", "worth"] "better_deed" (aD gL) f cdv A outer s H E).nox (aR gL) lI := by
 have hu := hr.units
 exact (aI (bA (bF (bF (aA (pv 1)) (aA (pv 2)) (fun _ _ => rfl)) aO (fun _ _ => rfl)) (aK (aH (i := 6) cZ.nd rfl (Or.inl rfl))) (fun h1 h2 => aZ h1 h2)) (aI (bA (bF (aA (pv 6)) (aA (pv 3)) (fun _ _ => rfl)) (aK (aH (i := 7) cZ.nd rfl (Or.inl rfl))) (fun h1 h2 => aZ h1 h2)) (aI (bA (bF (aA (pv 4)) (aA (pv 2)) (fun _ _ => rfl)) (aK (aH (i := 8) cZ.nd rfl (Or.inl rfl))) (fun h1 h2 => aZ h1 h2)) (aI (gT rfl PassesOwn.never (fQ rfl T.n_range (bF (bF (aA (pv 0)) aO (fun _ _ => rfl)) (aA (pv 3)) (fun _ _ => rfl))) (aK (aH (i := 9) cZ.nd rfl (Or.inl rfl))) (aI (bA (aP h_with_deed (hr.mono (by decide)) rfl (aB (aA (pv 6)) (aB (aA (pv 3)) (aB (aA (pv 9)) aG)))) (aK (aH (i := 10) cZ.nd rfl (Or.inl rfl))) (fun h1 h2 => aZ h1 h2)) (aI (bA (bF (aA (pv 4)) (aP h_state_behind (hr.mono (by decide)) rfl (aB (aA (pv 0)) (aB (aA (pv 1)) (aB (aA (pv 2)) (aB (aA (pv 10)) aG))))) (fun _ _ => rfl)) (aK (aH (i := 11) cZ.nd rfl (Or.inl rfl))) (fun h1 h2 => aZ h1 h2)) (aI (bA (aP h_now_and_later (hr.mono (by decide)) rfl (aB (bF (aP h_paid (hr.mono (by decide)) rfl (aB (aA (pv 0)) (aB (aA (pv 10)) aG))) (aA (pv 3)) (fun _ _ => rfl)) (aB (aA (pv 11)) (aB (aA (pv 5)) aG)))) (aK (aH (i := 12) cZ.nd rfl (Or.inl rfl))) (fun h1 h2 => aZ h1 h2)) (aL (lT (o7 (aP h_is_less (hr.mono (by decide)) rfl (aB (aA (pv 8)) (aB (aA (pv 12)) aG))) (fun _ => rfl)) (aI (bA (aA (pv 9)) (aK (aH (i := 7) cZ.nd rfl (Or.inl rfl))) (fun h1 h2 => aZ h1 h2)) (aL (bA (aA (pv 12)) (aK (aH (i := 8) cZ.nd rfl (Or.inl rfl))) (fun h1 h2 => aZ h1 h2)))) fP)))))) (aL (bH (aA (pv 7))))))))
theorem n8 : aW ["meeting", "hand", "row", "pays", "most"] ["meeting", "hand", "row"] (aD f6) := by simp_all_arith!
theorem xB (T : lW K mg) (h_pays_by_deed : d5 P w K mg base 3 "pays_by_deed" cX) (hr : cB 3 (A.deeper (envOfC "best_deeds" (aD f6) s.heap.objs.size f cdv))) :
  jA (dL jE P w K mg base ["meeting", "hand", "row", "pays", "most"] "best_deeds" (aD f6) f cdv A outer s H E).nox (aR f6) l8 := by
 have hu := hr.units
 exact (aI (bA (aP h_pays_by_deed (hr.mono (by decide)) rfl (aB (aA (pv 0)) (aB (aA (pv 1)) (aB (aA (pv 2)) aG)))) (aK (aH (i := 3) n8.nd rfl (Or.inl rfl))) (fun h1 h2 => aZ h1 h2)) (aI (bA (bJ (aD5 rfl) (aB (aA (pv 3)) aG) (fun h1 h2 => cH h1 rfl T.n_max aEU h2)) (aK (aH (i := 4) n8.nd rfl (Or.inr rfl))) (fun h1 h2 => aZ h1 h2)) (aL (bH (bJ fM (aB (DF.toE (jW (ifs := [_]) (Nc := ["deed", "pay", "most"]) (fr := [none, none, some 4]) (ss := [0, 1]) (bN (sc := (aD f6)) (N := ["meeting", "hand", "row", "pays", "most"]) rfl rfl (by decide +kernel)) (by decide) rfl (aIp rfl T.n_enumerate gB (aA (pv 3))) (fun Cc pins fp s3 H3 => oB (aH (i := 0) (show (["deed", "pay", "most"] : List Str).Nodup by decide +kernel) rfl (Or.inl rfl)) (aH (i := 1) (show (["deed", "pay", "most"] : List Str).Nodup by decide +kernel) rfl (Or.inl rfl)) (fun h1 h2 => n6 rfl (dI h1 (dI h2 k8)))) (fun Cc pins fp s3 H3 => j5 (eY (rX hu) (aA (pv 1)) (aA (pv 2)))) (fun Cc pins fp s3 H3 => (aA (pv 0))))) aG) (fun h1 h2 => d9 h1 rfl T.n_tuple fL h2))))))
theorem aEy : aW ["meeting", "hand"] ["meeting", "hand"] (aD jY) := by simp_all_arith!
theorem aCw (T : lW K mg) (h_all_rows : d5 P w K mg base 2 "all_rows" cQ) (h_pays_by_deed : d5 P w K mg base 3 "pays_by_deed" cX) (hr : cB 3 (A.deeper (envOfC "held_to" (aD jY) s.heap.objs.size f cdv))) :
  jA (dL jE P w K mg base ["meeting", "hand"] "held_to" (aD jY) f cdv A outer s H E).nox (aR jY) qY := by
 have hu := hr.units
 exact (aL (bH (bJ (aHl rfl) (aB (DF.toE (iW (Nc := ["row", "meeting", "hand"]) (fr := [none, some 0, some 1]) (ss := [0]) (bN (sc := (aD jY)) (N := ["meeting", "hand"]) rfl rfl (by decide +kernel)) (by decide) rfl (mQ (aP h_all_rows (hr.mono (by decide)) rfl (aB (aA (pv 0)) aG))) (fun Cc pins fp s3 H3 => aK (aH (i := 0) (show (["row", "meeting", "hand"] : List Str).Nodup by decide +kernel) rfl (Or.inl rfl))) (fun Cc pins fp s3 H3 => (bJ (aD5 rfl) (aB (aP h_pays_by_deed (hr.mono (by decide)) rfl (aB (aA (pv 1)) (aB (aA (pv 2)) (aB (aA (pv 0)) aG)))) aG) (fun h1 h2 => cH h1 rfl T.n_max aEU h2))) iY)) aG) (fun h1 h2 => cH h1 rfl T.n_min aHx h2))))
theorem aJ7 : aW ["meeting", "hand"] ["meeting", "hand"] (aD p8) := by simp_all_arith!
theorem aG3 (T : lW K mg) (h_least_paid : d5 P w K mg base 3 "least_paid" eZ) (hr : cB 3 (A.deeper (envOfC "sure" (aD p8) s.heap.objs.size f cdv))) :
  jA (dL jE P w K mg base ["meeting", "hand"] "sure" (aD p8) f cdv A outer s H E).nox (aR p8) aCk := by
 have hu := hr.units
 exact (aL (bH (bJ (aD5 rfl) (aB (DF.toE (iW (Nc := ["deed", "meeting", "hand"]) (fr := [none, some 0, some 1]) (ss := [0]) (bN (sc := (aD p8)) (N := ["meeting", "hand"]) rfl rfl (by decide +kernel)) (by decide) rfl (fQ rfl T.n_range (bF (bF (aA (pv 0)) aO (fun _ _ => rfl)) (aA (pv 1)) (fun _ _ => rfl))) (fun Cc pins fp s3 H3 => aK (aH (i := 0) (show (["deed", "meeting", "hand"] : List Str).Nodup by decide +kernel) rfl (Or.inl rfl))) (fun Cc pins fp s3 H3 => (aP h_least_paid (hr.mono (by decide)) rfl (aB (aA (pv 1)) (aB (aA (pv 2)) (aB (aA (pv 0)) aG))))) iY)) aG) (fun h1 h2 => cH h1 rfl T.n_max aEU h2))))
theorem lP : aW ["meeting", "rows", "over", "patience", "told", "hand", "before", "again"] ["meeting", "rows", "over", "patience"] (aD jO) := by simp_all_arith!
theorem aAs (T : lW K mg) (h_pays_of : d5 P w K mg base 3 "pays_of" iS) (h_worth_of_pays : d5 P w K mg base 3 "worth_of_pays" cE) (hr : cB 3 (A.deeper (envOfC "worth_of" (aD jO) s.heap.objs.size f cdv))) :
  jA (dL jE P w K mg base ["meeting", "rows", "over", "patience", "told", "hand", "before", "again"] "worth_of" (aD jO) f cdv A outer s H E).nox (aR jO) pF := by
 have hu := hr.units
 exact (aI (rC (i := 4) (m9 aG) (fun h => sF (i := 4) lP.nd rfl (Or.inl rfl) h)) (aI (gT rfl PassesOwn.never (fQ rfl T.n_range (bJ k6 (aB (bF (aA (pv 0)) aO (fun _ _ => rfl)) aG) (fun h1 h2 => cH h1 rfl T.n_len kE h2))) (aK (aH (i := 5) lP.nd rfl (Or.inl rfl))) (aI (bA (aP h_pays_of (hr.mono (by decide)) rfl (aB (aA (pv 0)) (aB (aA (pv 1)) (aB (aA (pv 5)) aG)))) (aK (aH (i := 6) lP.nd rfl (Or.inl rfl))) (fun h1 h2 => aZ h1 h2)) (aI (bA (aP h_pays_of (hr.mono (by decide)) rfl (aB (aA (pv 0)) (aB (aA (pv 2)) (aB (aA (pv 5)) aG)))) (aK (aH (i := 7) lP.nd rfl (Or.inl rfl))) (fun h1 h2 => aZ h1 h2)) (aL (aCg (i := 4) (aP h_worth_of_pays (hr.mono (by decide)) rfl (aB (aA (pv 6)) (aB (aA (pv 7)) (aB (aA (pv 3)) aG)))) (fun h => uA (aC9 PySem.F.plainAttrs_list PySem.F.slot_list_append PySem.F.type_list_append oS (pv 4) (e6 h i6)))))))) (lG 4 (aL (bH (bJ fM (aB (aA (pv 4)) aG) (fun h1 h2 => d9 h1 rfl T.n_tuple fL h2)))))))
theorem jI : aW ["meeting", "path", "threats", "many", "first", "behind"] ["meeting", "path", "threats"] (aD dQ) := by simp_all_arith!
theorem uE (T : lW K mg) (h_answering : d5 P w K mg base 3 "answering" fY) (hr : cB 3 (A.deeper (envOfC "with_threats" (aD dQ) s.heap.objs.size f cdv))) :
  jA (dL jE P w K mg base ["meeting", "path", "threats", "many", "first", "behind"] "with_threats" (aD dQ) f cdv A outer s H E).nox (aR dQ) kI := by
 have hu := hr.units
 exact (aI (bA (bJ k6 (aB (aA (pv 1)) aG) (fun h1 h2 => cH h1 rfl T.n_len kE h2)) (aK (aH (i := 3) jI.nd rfl (Or.inr rfl))) (fun h1 h2 => aZ h1 h2)) (aI (rG (i := 4) (Nc := ["place", "row", "meeting", "many"]) (fr := [none, none, some 0, some 3]) (ss := [0, 1]) (bN (sc := (aD dQ)) (N := ["meeting", "path", "threats", "many", "first", "behind"]) rfl rfl (by decide +kernel)) (by decide) rfl jI.nd rfl (Or.inl rfl) (mV rfl T.n_enumerate gB (aA (pv 1))) (fun Cc pins fp s3 H3 => oB (aH (i := 0) (show (["place", "row", "meeting", "many"] : List Str).Nodup by decide +kernel) rfl (Or.inl rfl)) (aH (i := 1) (show (["place", "row", "meeting", "many"] : List Str).Nodup by decide +kernel) rfl (Or.inl rfl)) (fun h1 h2 => n6 rfl (dI h1 (dI h2 k8)))) (fun Cc pins fp s3 H3 => (aP h_answering (hr.mono (by decide)) rfl (aB (aA (pv 2)) (aB (aA (pv 1)) (aB (bO pC (bO fV (aA (pv 0)) aO) (aA (pv 3))) (aB (aA (pv 3)) aG)))))) u0 rfl) (lG 4 (aI (rG (i := 5) (Nc := ["hand", "row", "meeting", "many"]) (fr := [none, none, some 0, some 3]) (ss := [0, 1]) (bN (sc := (aD dQ)) (N := ["meeting", "path", "threats", "many", "first", "behind"]) rfl rfl (by decide +kernel)) (by decide) rfl jI.nd rfl (Or.inl rfl) (mV rfl T.n_enumerate gB (aA (pv 2))) (fun Cc pins fp s3 H3 => oB (aH (i := 0) (show (["hand", "row", "meeting", "many"] : List Str).Nodup by decide +kernel) rfl (Or.inl rfl)) (aH (i := 1) (show (["hand", "row", "meeting", "many"] : List Str).Nodup by decide +kernel) rfl (Or.inl rfl)) (fun h1 h2 => n6 rfl (dI h1 (dI h2 k8)))) (fun Cc pins fp s3 H3 => (aP h_answering (hr.mono (by decide)) rfl (aB (aA (pv 2)) (aB (aA (pv 1)) (aB (bO fV (aA (pv 3)) (aA (pv 0))) (aB (aA (pv 3)) aG)))))) u0 rfl) (lG 5 (aL (bH (bJ fM (aB (DF.toE (aHH (aA (pv 4)) (aA (pv 5)))) aG) (fun h1 h2 => d9 h1 rfl T.n_tuple fL h2)))))))))
theorem xM : aW ["meeting", "plan", "hand", "own", "patience"] ["meeting", "plan", "hand", "own", "patience"] (aD eL) := by simp_all_arith!
theorem tM (T : lW K mg) (h_better_deed : d5 P w K mg base 3 "better_deed" fG) (hr : cB 3 (A.deeper (envOfC "better_deeds" (aD eL) s.heap.objs.size f cdv))) :
  jA (dL jE P w K mg base ["meeting", "plan", "hand", "own", "patience"] "better_deeds" (aD eL) f cdv A outer s H E).nox (aR eL) kF := by
 have hu := hr.units
 exact (aL (bH (bJ fM (aB (DF.toE (iW (Nc := ["state", "meeting", "plan", "hand", "own", "patience"]) (fr := [none, some 0, some 1, some 2, some 3, some 4]) (ss := [0]) (bN (sc := (aD eL)) (N := ["meeting", "plan", "hand", "own", "patience"]) rfl rfl (by decide +kernel)) (by decide) rfl (fQ rfl T.n_range (bJ k6 (aB (aA (pv 1)) aG) (fun h1 h2 => cH h1 rfl T.n_len kE h2))) (fun Cc pins fp s3 H3 => aK (aH (i := 0) (show (["state", "meeting", "plan", "hand", "own", "patience"] : List Str).Nodup by decide +kernel) rfl (Or.inl rfl))) (fun Cc pins fp s3 H3 => (aP h_better_deed (hr.mono (by decide)) rfl (aB (aA (pv 1)) (aB (aA (pv 2)) (aB (aA (pv 0)) (aB (aA (pv 3)) (aB (aA (pv 4)) (aB (aA (pv 5)) aG)))))))) iY)) aG) (fun h1 h2 => d9 h1 rfl T.n_tuple fL h2))))
theorem aEY : aW ["meeting", "row"] ["meeting", "row"] (aD j2) := by simp_all_arith!
theorem aBr (T : lW K mg) (h_best_deeds : d5 P w K mg base 4 "best_deeds" f9) (hr : cB 4 (A.deeper (envOfC "is_calm" (aD j2) s.heap.objs.size f cdv))) :
  jA (dL jE P w K mg base ["meeting", "row"] "is_calm" (aD j2) f cdv A outer s H E).nox (aR j2) rE := by
 have hu := hr.units
 exact (aL (bH (bJ (aLz rfl) (aB (DF.toE (iW (Nc := ["hand", "deed", "meeting", "row"]) (fr := [none, none, some 0, some 1]) (ss := [0, 1]) (bN (sc := (aD j2)) (N := ["meeting", "row"]) rfl rfl (by decide +kernel)) (by decide) rfl (mV rfl T.n_enumerate gB (aA (pv 1))) (fun Cc pins fp s3 H3 => oB (aH (i := 0) (show (["hand", "deed", "meeting", "row"] : List Str).Nodup by decide +kernel) rfl (Or.inl rfl)) (aH (i := 1) (show (["hand", "deed", "meeting", "row"] : List Str).Nodup by decide +kernel) rfl (Or.inl rfl)) (fun h1 h2 => n6 rfl (dI h1 (dI h2 k8)))) (fun Cc pins fp s3 H3 => (zR (aME hu) (aA (pv 1)) (aP h_best_deeds (hr.mono (by decide)) rfl (aB (aA (pv 2)) (aB (aA (pv 0)) (aB (aA (pv 3)) aG)))))) u0)) aG) (fun h1 h2 => cH h1 rfl T.n_all aKV h2))))
theorem iP : aW ["meeting", "plan", "start", "patience", "came", "state", "rows"] ["meeting", "plan", "start", "patience"] (aD e8) := by simp_all_arith!
theorem vX (T : lW K mg) (h_state_behind : d5 P w K mg base 2 "state_behind" cY) (h_worth_of : d5 P w K mg base 4 "worth_of" iR) (hr : cB 4 (A.deeper (envOfC "worths_from" (aD e8) s.heap.objs.size f cdv))) :
  jA (dL jE P w K mg base ["meeting", "plan", "start", "patience", "came", "state", "rows"] "worths_from" (aD e8) f cdv A outer s H E).nox (aR e8) k7 := by
 have hu := hr.units
 exact (aI (aIN (i := 4) (.k []) (sF (i := 4) iP.nd rfl (Or.inl rfl) aHn) rfl) (aI (bA (aA (pv 2)) (aK (aH (i := 5) iP.nd rfl (Or.inl rfl))) (fun h1 h2 => aZ h1 h2)) (aI (uG PassesOwn.never (aFV hu (pv 4) (aCd (aA (pv 5)))) (aI (aI1 hu (pv 4) (aCd (aA (pv 5))) (aJf (i := 4) (cH aGg rfl T.n_len kE (e6 (pv 4) i6)) rfl)) (aL (bA (aP h_state_behind (hr.mono (by decide)) rfl (aB (aA (pv 0)) (aB (aA (pv 1)) (aB (aA (pv 5)) (aB (bF (bF (aA (pv 1)) (aA (pv 5)) (fun _ _ => rfl)) aO (fun _ _ => rfl)) aG))))) (aK (aH (i := 5) iP.nd rfl (Or.inl rfl))) (fun h1 h2 => aZ h1 h2))))) (aG8 4 (aI (rG (i := 6) (Nc := ["number", "plan"]) (fr := [none, some 1]) (ss := [0]) (bN (sc := (aD e8)) (N := ["meeting", "plan", "start", "patience", "came", "state", "rows"]) rfl rfl (by decide +kernel)) (by decide) rfl iP.nd rfl (Or.inl rfl) (aJ4 (pv 4)) (fun Cc pins fp s3 H3 => aK (aH (i := 0) (show (["number", "plan"] : List Str).Nodup by decide +kernel) rfl (Or.inl rfl))) (fun Cc pins fp s3 H3 => (bF (bF (aA (pv 1)) (aA (pv 0)) (fun _ _ => rfl)) aO (fun _ _ => rfl))) iY rfl) (lG 6 (aL (bH (aP h_worth_of (hr.mono (by decide)) rfl (aB (aA (pv 0)) (aB (DF.toE (aHC (aA (pv 6)) x8 (xP (aFP hu (pv 4) (aCd (aA (pv 5))) (fun _ _ => rfl))))) (aB (DF.toE (aHC (aA (pv 6)) (xP (aFP hu (pv 4) (aCd (aA (pv 5))) (fun _ _ => rfl))) x8)) (aB (aA (pv 3)) aG)))))))))))))
theorem aGp : aW ["meeting", "row", "threats"] ["meeting", "row", "threats"] (aD mY) := by simp_all_arith!
theorem aDc (T : lW K mg) (h_with_threats : d5 P w K mg base 4 "with_threats" dR) (hr : cB 4 (A.deeper (envOfC "steady" (aD mY) s.heap.objs.size f cdv))) :
  jA (dL jE P w K mg base ["meeting", "row", "threats"] "steady" (aD mY) f cdv A outer s H E).nox (aR mY) uM := by
 have hu := hr.units
 exact (aL (bH (aP h_with_threats (hr.mono (by decide)) rfl (aB (aA (pv 0)) (aB (eU (aB (aA (pv 1)) aG)) (aB (aA (pv 2)) aG))))))
theorem yX : aW ["meeting", "rows", "hand"] ["meeting", "rows", "hand"] (aD cG) := by simp_all_arith!
theorem vD (T : lW K mg) (h_paid : d5 P w K mg base 2 "paid" fW) {c T0 : Addr} (htab : zW K = some (T0, rawInt 140, rawInt 25, ("hardest_for" : Str) ++ ".<locals>." ++ "<lambda>")) {f : Addr} {A : Around} {outer : List Env} {s : Shared} {H : Hp} {E : XK} (hr : cB 4 (A.deeper (envOfC "hardest_for" (aD cG) s.heap.objs.size f (.ref c)))) (LK : aBi (dL jE P w K mg base ["meeting", "rows", "hand"] "hardest_for" (aD cG) f (.ref c) A outer s H E).nox c T0) :
  jA (dL jE P w K mg base ["meeting", "rows", "hand"] "hardest_for" (aD cG) f (.ref c) A outer s H E).nox (aR cG) lE := by
 have hu := hr.units
 exact (aL (bH (aGX (Nc := ["row", "hand", "meeting"]) (fr := [none, some 2, some 0]) (x0 := "row") rfl LK htab rfl T.n_min (bN (sc := (aD cG)) (N := ["meeting", "rows", "hand"]) rfl rfl (by decide +kernel)) rfl rfl rfl (by decide +kernel) rfl rfl (fun _ _ _ _ _ => rfl) rfl hr.depth (aA (pv 1)) (fun L f d pins s3 H3 => (bF (aP h_paid ((cB.deeper (k := 2) (cB.in1 (k := 3) hr) _).mono (by decide)) rfl (aB (aA (pv 2)) (aB (aA (pv 0)) aG))) (aA (pv 1)) (fun _ _ => rfl))))))
theorem aIX : aW ["meeting"] ["meeting"] (aD p4) := by simp_all_arith!
theorem aF6 (T : lW K mg) (h_all_rows : d5 P w K mg base 2 "all_rows" cQ) (h_is_calm : d5 P w K mg base 5 "is_calm" jV) (hr : cB 5 (A.deeper (envOfC "calm" (aD p4) s.heap.objs.size f cdv))) :
  jA (dL jE P w K mg base ["meeting"] "calm" (aD p4) f cdv A outer s H E).nox (aR p4) aBM := by
 have hu := hr.units
 exact (aL (bH (bJ fM (aB (DF.toE (jW (ifs := [_]) (Nc := ["row", "meeting"]) (fr := [none, some 0]) (ss := [0]) (bN (sc := (aD p4)) (N := ["meeting"]) rfl rfl (by decide +kernel)) (by decide) rfl (mQ (aP h_all_rows (hr.mono (by decide)) rfl (aB (aA (pv 0)) aG))) (fun Cc pins fp s3 H3 => aK (aH (i := 0) (show (["row", "meeting"] : List Str).Nodup by decide +kernel) rfl (Or.inl rfl))) (fun Cc pins fp s3 H3 => j5 (o7 (aP h_is_calm (hr.mono (by decide)) rfl (aB (aA (pv 1)) (aB (aA (pv 0)) aG))) (fun _ => rfl))) (fun Cc pins fp s3 H3 => (aA (pv 0))))) aG) (fun h1 h2 => d9 h1 rfl T.n_tuple fL h2))))
theorem aGx : aW ["meeting", "plan", "patience"] ["meeting", "plan", "patience"] (aD lO) := by simp_all_arith!
theorem aDs (T : lW K mg) (h_worths_from : d5 P w K mg base 5 "worths_from" fB) (hr : cB 5 (A.deeper (envOfC "worths" (aD lO) s.heap.objs.size f cdv))) :
  jA (dL jE P w K mg base ["meeting", "plan", "patience"] "worths" (aD lO) f cdv A outer s H E).nox (aR lO) t7 := by
 have hu := hr.units
 exact (aL (bH (bJ fM (aB (DF.toE (iW (Nc := ["state", "meeting", "plan", "patience"]) (fr := [none, some 0, some 1, some 2]) (ss := [0]) (bN (sc := (aD lO)) (N := ["meeting", "plan", "patience"]) rfl rfl (by decide +kernel)) (by decide) rfl (fQ rfl T.n_range (bJ k6 (aB (aA (pv 1)) aG) (fun h1 h2 => cH h1 rfl T.n_len kE h2))) (fun Cc pins fp s3 H3 => aK (aH (i := 0) (show (["state", "meeting", "plan", "patience"] : List Str).Nodup by decide +kernel) rfl (Or.inl rfl))) (fun Cc pins fp s3 H3 => (aP h_worths_from (hr.mono (by decide)) rfl (aB (aA (pv 1)) (aB (aA (pv 2)) (aB (aA (pv 0)) (aB (aA (pv 3)) aG)))))) iY)) aG) (fun h1 h2 => d9 h1 rfl T.n_tuple fL h2))))
theorem u5 : aW ["meeting", "rows"] ["meeting", "rows"] (aD dW) := by simp_all_arith!
theorem sT (T : lW K mg) (h_hardest_for : d5 P w K mg base 5 "hardest_for" fE) (hr : cB 5 (A.deeper (envOfC "hardest_among" (aD dW) s.heap.objs.size f cdv))) :
  jA (dL jE P w K mg base ["meeting", "rows"] "hardest_among" (aD dW) f cdv A outer s H E).nox (aR dW) jG := by
 have hu := hr.units
 exact (aL (bH (bJ fM (aB (DF.toE (iW (Nc := ["hand", "meeting", "rows"]) (fr := [none, some 0, some 1]) (ss := [0]) (bN (sc := (aD dW)) (N := ["meeting", "rows"]) rfl rfl (by decide +kernel)) (by decide) rfl (fQ rfl T.n_range (bJ k6 (aB (bF (aA (pv 0)) aO (fun _ _ => rfl)) aG) (fun h1 h2 => cH h1 rfl T.n_len kE h2))) (fun Cc pins fp s3 H3 => aK (aH (i := 0) (show (["hand", "meeting", "rows"] : List Str).Nodup by decide +kernel) rfl (Or.inl rfl))) (fun Cc pins fp s3 H3 => (aP h_hardest_for (hr.mono (by decide)) rfl (aB (aA (pv 1)) (aB (aA (pv 2)) (aB (aA (pv 0)) aG))))) iY)) aG) (fun h1 h2 => d9 h1 rfl T.n_tuple fL h2))))
theorem oT : aW ["meeting", "rows", "patience", "after"] ["meeting", "rows", "patience"] (aD dX) := by simp_all_arith!
theorem sG (T : lW K mg) (h_hardest_among : d5 P w K mg base 6 "hardest_among" cJ) (h_threatened_pays : d5 P w K mg base 3 "threatened_pays" bW) (h_stray_that_gains : d5 P w K mg base 3 "stray_that_gains" cI) (hr : cB 6 (A.deeper (envOfC "holding_among" (aD dX) s.heap.objs.size f cdv))) :
  jA (dL jE P w K mg base ["meeting", "rows", "patience", "after"] "holding_among" (aD dX) f cdv A outer s H E).nox (aR dX) jJ := by
 have hu := hr.units
 exact (aI (lT (eY (rX hu) (aA (pv 1)) (eU aG)) (aL (bH (eU aG))) fP) (aI (bA (aP h_threatened_pays (hr.mono (by decide)) rfl (aB (aA (pv 0)) (aB (aP h_hardest_among (hr.mono (by decide)) rfl (aB (aA (pv 0)) (aB (aA (pv 1)) aG))) aG))) (aK (aH (i := 3) oT.nd rfl (Or.inr rfl))) (fun h1 h2 => aZ h1 h2)) (aL (bH (bJ fM (aB (DF.toE (jW (ifs := [_]) (Nc := ["row", "meeting", "after", "patience"]) (fr := [none, some 0, some 3, some 2]) (ss := [0]) (bN (sc := (aD dX)) (N := ["meeting", "rows", "patience", "after"]) rfl rfl (by decide +kernel)) (by decide) rfl (mQ (aA (pv 1))) (fun Cc pins fp s3 H3 => aK (aH (i := 0) (show (["row", "meeting", "after", "patience"] : List Str).Nodup by decide +kernel) rfl (Or.inl rfl))) (fun Cc pins fp s3 H3 => j5 (eY aEd (aP h_stray_that_gains (hr.mono (by decide)) rfl (aB (aA (pv 1)) (aB (aA (pv 0)) (aB (aA (pv 2)) (aB (aA (pv 3)) aG))))) qC)) (fun Cc pins fp s3 H3 => (aA (pv 0))))) aG) (fun h1 h2 => d9 h1 rfl T.n_tuple fL h2))))))
theorem qO : aW ["meeting", "plan", "patience", "told", "hand", "better", "state", "deed"] ["meeting", "plan", "patience"] (aD sD) := by simp_all_arith!
theorem aFZ (T : lW K mg) (h_worths : d5 P w K mg base 6 "worths" lR) (h_worths_of_hand : d5 P w K mg base 1 "worths_of_hand" cO) (h_better_deeds : d5 P w K mg base 4 "better_deeds" eJ) (hr : cB 6 (A.deeper (envOfC "gain" (aD sD) s.heap.objs.size f cdv))) :
  jA (dL jE P w K mg base ["meeting", "plan", "patience", "told", "hand", "better", "state", "deed"] "gain" (aD sD) f cdv A outer s H E).nox (aR sD) aCt := by
 have hu := hr.units
 exact (aI (bA (aP h_worths (hr.mono (by decide)) rfl (aB (aA (pv 0)) (aB (aA (pv 1)) (aB (aA (pv 2)) aG)))) (aK (aH (i := 3) qO.nd rfl (Or.inl rfl))) (fun h1 h2 => aZ h1 h2)) (aI (gT rfl PassesOwn.never (fQ rfl T.n_range (bJ k6 (aB (bF (aA (pv 0)) aO (fun _ _ => rfl)) aG) (fun h1 h2 => cH h1 rfl T.n_len kE h2))) (aK (aH (i := 4) qO.nd rfl (Or.inl rfl))) (aI (bA (aP h_better_deeds (hr.mono (by decide)) rfl (aB (aA (pv 0)) (aB (aA (pv 1)) (aB (aA (pv 4)) (aB (aP h_worths_of_hand (hr.mono (by decide)) rfl (aB (aA (pv 3)) (aB (aA (pv 4)) aG))) (aB (aA (pv 2)) aG)))))) (aK (aH (i := 5) qO.nd rfl (Or.inl rfl))) (fun h1 h2 => aZ h1 h2)) (aL (gT rfl PassesOwn.never (mV rfl T.n_enumerate gB (aA (pv 5))) (oB (aH (i := 6) qO.nd rfl (Or.inl rfl)) (aH (i := 7) qO.nd rfl (Or.inl rfl)) (fun h1 h2 => n6 rfl (dI h1 (dI h2 k8)))) (aL (lT (eY (aA1 hu) (aA (pv 7)) (bF (bF (bF (aA (pv 1)) (aA (pv 6)) (fun _ _ => rfl)) aO (fun _ _ => rfl)) (aA (pv 4)) (fun _ _ => rfl))) (aL (bH (eU (aB (aA (pv 6)) (aB (aA (pv 4)) (aB (aA (pv 7)) aG)))))) fP)))))) (aL (bH qC))))
theorem uV : aW ["meeting", "patience", "rows", "left"] ["meeting", "patience"] (aD sR) := by simp_all_arith!
theorem aG2 (T : lW K mg) (h_all_rows : d5 P w K mg base 2 "all_rows" cQ) (h_holding_among : d5 P w K mg base 7 "holding_among" dC) (hr : cB 7 (A.deeper (envOfC "kept" (aD sR) s.heap.objs.size f cdv))) :
  jA (dL jE P w K mg base ["meeting", "patience", "rows", "left"] "kept" (aD sR) f cdv A outer s H E).nox (aR sR) aBs := by
 have hu := hr.units
 exact (aI (bA (aP h_all_rows (hr.mono (by decide)) rfl (aB (aA (pv 0)) aG)) (aK (aH (i := 2) uV.nd rfl (Or.inl rfl))) (fun h1 h2 => aZ h1 h2)) (aI (bA (aP h_holding_among (hr.mono (by decide)) rfl (aB (aA (pv 0)) (aB (aA (pv 2)) (aB (aA (pv 1)) aG)))) (aK (aH (i := 3) uV.nd rfl (Or.inl rfl))) (fun h1 h2 => aZ h1 h2)) (aI (uG PassesOwn.never (eY (aA1 hu) (aA (pv 3)) (aA (pv 2))) (aI (bA (aA (pv 3)) (aK (aH (i := 2) uV.nd rfl (Or.inl rfl))) (fun h1 h2 => aZ h1 h2)) (aL (bA (aP h_holding_among (hr.mono (by decide)) rfl (aB (aA (pv 0)) (aB (aA (pv 2)) (aB (aA (pv 1)) aG)))) (aK (aH (i := 3) uV.nd rfl (Or.inl rfl))) (fun h1 h2 => aZ h1 h2))))) (aL (bH (aA (pv 2)))))))
theorem aHc : aW ["meeting", "plan", "patience"] ["meeting", "plan", "patience"] (aD oU) := by simp_all_arith!
theorem aED (T : lW K mg) (h_gain : aD4 P w K mg base 7 "gain" pU) (hr : cB 7 (A.deeper (envOfC "holds" (aD oU) s.heap.objs.size f cdv))) :
  jA (dL jE P w K mg base ["meeting", "plan", "patience"] "holds" (aD oU) f cdv A outer s H E).nox (aR oU) yB := by
 have hu := hr.units
 exact (aL (bH (zR aEd (aAf h_gain (hr.mono (by decide)) rfl (aB (aA (pv 0)) (aB (aA (pv 1)) (aB (aA (pv 2)) aG)))) qC)))
theorem yJ : aW ["meeting", "patience", "rows"] ["meeting", "patience"] (aD kR) := by simp_all_arith!
theorem aCo (T : lW K mg) (h_kept : d5 P w K mg base 8 "kept" jP) (h_hardest_among : d5 P w K mg base 6 "hardest_among" cJ) (hr : cB 8 (A.deeper (envOfC "hardest" (aD kR) s.heap.objs.size f cdv))) :
  wZ (cx1 P w K mg base ["meeting", "patience", "rows"] "hardest" (aD kR) f cdv A outer s H E) E (aR kR) rJ := by
 have hu := hr.units
 exact (aDT (aFe (bA (aP h_kept (hr.mono (by decide)) rfl (aB (aA (pv 0)) (aB (aA (pv 1)) aG))) (aK (aH (i := 2) yJ.nd rfl (Or.inl rfl))) (fun h1 h2 => aZ h1 h2))) (aDT (aMN (eY (rX hu) (aA (pv 2)) (eU aG)) (xX (aH4 T.x_NoPact rfl rfl aMG (aB aK1 aG))) (aHK fP)) (xX (aFe (bH (aP h_hardest_among (hr.mono (by decide)) rfl (aB (aA (pv 0)) (aB (aA (pv 2)) aG))))))))
theorem aF7 : aW ["meeting", "patience"] ["meeting", "patience"] (aD mK) := by simp_all_arith!
theorem aC4 (T : lW K mg) (h_threatened_pays : d5 P w K mg base 3 "threatened_pays" bW) (h_hardest : aBj P w K mg base 9 "hardest" i5) (hr : cB 9 (A.deeper (envOfC "floors" (aD mK) s.heap.objs.size f cdv))) :
  wZ (cx1 P w K mg base ["meeting", "patience"] "floors" (aD mK) f cdv A outer s H E) E (aR mK) uF := by
 have hu := hr.units
 exact (xX (aLY (aFY h_threatened_pays (hr.mono (by decide)) rfl (aDf (aIs (aA (pv 0))) (aDf (aDH h_hardest aMG.pass (hr.mono (by decide)) rfl (aB (aA (pv 0)) (aB (aA (pv 1)) aG))) aKc)))))
theorem j8 : aW ["_law_meeting_here", "_law_patience_here", "_law_found"] ["_law_meeting_here", "_law_patience_here"] (aD gK) := by simp_all_arith!
theorem u4 (T : lW K mg) (h_floors : aBj P w K mg base 10 "floors" m7) (hr : cB 10 (A.deeper (envOfC "_law_floors" (aD gK) s.heap.objs.size f cdv))) :
  jA (dL jE P w K mg base ["_law_meeting_here", "_law_patience_here", "_law_found"] "_law_floors" (aD gK) f cdv A outer s H E).nox (aR gK) lH := by
 have hu := hr.units
 obtain ⟨cl_NoPact, hcl_NoPact, hcv_NoPact⟩ := T.e_NoPact
 exact (aI (bA qC (aK (aH (i := 2) j8.nd rfl (Or.inl rfl))) (fun h1 h2 => aZ h1 h2)) (aI (aLC (n := 3) (cov := (fun c => c = "NoPact")) rfl rfl rfl rfl hcl_NoPact hcv_NoPact (fun EE pn xe hp => (xX (aKE (aDH h_floors hp (hr.mono (by decide)) rfl (aB (aA (pv 0)) (aB (aA (pv 1)) aG))) (aK (aH (i := 2) j8.nd rfl (Or.inl rfl))) (fun h1 h2 => aZ h1 h2)))) (fun ev pn => (aL (bA qC (aK (aH (i := 2) j8.nd rfl (Or.inl rfl))) (fun h1 h2 => aZ h1 h2))))) (aL (bH (aA (pv 2))))))
theorem kP : aW ["_law_script", "_law_k", "_law_meeting_here", "_law_one", "_law_other", "_law_few", "_law_many", "_law_low", "_law_hand", "_law_high", "_law_threats", "_law_row"] ["_law_script"] (aD m4) := by simp_all_arith!
theorem aIk (T : lW K mg) (h__law_cell : d5 P w K mg base 1 "_law_cell" dG) (h__law_meeting : aD4 P w K mg base 2 "_law_meeting" eG) (h__law_patience : d5 P w K mg base 2 "_law_patience" cK) (h__law_more : d5 P w K mg base 1 "_law_more" fA) (h_kept : d5 P w K mg base 8 "kept" jP) (h_calm : d5 P w K mg base 6 "calm" pG) (h__law_floors : d5 P w K mg base 11 "_law_floors" dM) (h_held_to : d5 P w K mg base 4 "held_to" jZ) (h_sure : d5 P w K mg base 4 "sure" pX) (h_hardest : aBj P w K mg base 9 "hardest" i5) (h_steady : d5 P w K mg base 5 "steady" lN) (h_holds : d5 P w K mg base 8 "holds" nJ) (hr : cB 11 (A.deeper (envOfC "law" (aD m4) s.heap.objs.size f cdv))) :
  jA (dL jE P w K mg base ["_law_script", "_law_k", "_law_meeting_here", "_law_one", "_law_other", "_law_few", "_law_many", "_law_low", "_law_hand", "_law_high", "_law_threats", "_law_row"] "law" (aD m4) f cdv A outer s H E).nox (aR m4) aFz := by
 have hu := hr.units
 exact (aI (gT rfl PassesOwn.never (fQ rfl T.n_range aO) (aK (aH (i := 1) kP.nd rfl (Or.inl rfl))) (aI (bA (aAf h__law_meeting (hr.mono (by decide)) rfl (aB (aP h__law_cell (hr.mono (by decide)) rfl (aB (aA (pv 0)) (aB (bO pJ aO (aA (pv 1))) aG))) aG)) (aK (aH (i := 2) kP.nd rfl (Or.inl rfl))) (fun h1 h2 => aZ h1 h2)) (aI (bA (aP h__law_patience (hr.mono (by decide)) rfl (aB (aP h__law_cell (hr.mono (by decide)) rfl (aB (aA (pv 0)) (aB (bO fV (bO pJ aO (aA (pv 1))) aO) aG))) aG)) (aK (aH (i := 3) kP.nd rfl (Or.inl rfl))) (fun h1 h2 => aZ h1 h2)) (aI (bA (aP h__law_patience (hr.mono (by decide)) rfl (aB (aP h__law_cell (hr.mono (by decide)) rfl (aB (aA (pv 0)) (aB (bO fV (bO pJ aO (aA (pv 1))) aO) aG))) aG)) (aK (aH (i := 4) kP.nd rfl (Or.inl rfl))) (fun h1 h2 => aZ h1 h2)) (aI (lT (o7 (aP h__law_more (hr.mono (by decide)) rfl (aB (aA (pv 3)) (aB (aA (pv 4)) aG))) (fun _ => rfl)) (aL (aK5 (i := 3) (j := 4) (aA (pv 4)) (aA (pv 3)) (fun h => aLy (i := 3) (j := 4) rfl kP.nd rfl rfl (by decide) rfl rfl h rfl))) fP) (aI (bA (aP h_kept (hr.mono (by decide)) rfl (aB (aA (pv 2)) (aB (aA (pv 3)) aG))) (aK (aH (i := 5) kP.nd rfl (Or.inr rfl))) (fun h1 h2 => aZ h1 h2)) (aI (bA (aP h_kept (hr.mono (by decide)) rfl (aB (aA (pv 2)) (aB (aA (pv 4)) aG))) (aK (aH (i := 6) kP.nd rfl (Or.inr rfl))) (fun h1 h2 => aZ h1 h2)) (aI (lT (o7 (DF.toE (jW (ifs := [_]) (Nc := ["_law_row", "_law_many"]) (fr := [none, some 6]) (ss := [0]) (bN (sc := (aD m4)) (N := ["_law_script", "_law_k", "_law_meeting_here", "_law_one", "_law_other", "_law_few", "_law_many", "_law_low", "_law_hand", "_law_high", "_law_threats", "_law_row"]) rfl rfl (by decide +kernel)) (by decide) rfl (mQ (aA (pv 5))) (fun Cc pins fp s3 H3 => aK (aH (i := 0) (show (["_law_row", "_law_many"] : List Str).Nodup by decide +kernel) rfl (Or.inl rfl))) (fun Cc pins fp s3 H3 => j5 (eY (aDo hu) (aA (pv 0)) (aA (pv 1)))) (fun Cc pins fp s3 H3 => (aA (pv 0))))) (fun _ => rfl)) (aL (bH zC)) fP) (aI (lT (o7 (DF.toE (jW (ifs := [_]) (Nc := ["_law_row", "_law_few"]) (fr := [none, some 5]) (ss := [0]) (bN (sc := (aD m4)) (N := ["_law_script", "_law_k", "_law_meeting_here", "_law_one", "_law_other", "_law_few", "_law_many", "_law_low", "_law_hand", "_law_high", "_law_threats", "_law_row"]) rfl rfl (by decide +kernel)) (by decide) rfl (mQ (aP h_calm (hr.mono (by decide)) rfl (aB (aA (pv 2)) aG))) (fun Cc pins fp s3 H3 => aK (aH (i := 0) (show (["_law_row", "_law_few"] : List Str).Nodup by decide +kernel) rfl (Or.inl rfl))) (fun Cc pins fp s3 H3 => j5 (eY (aDo hu) (aA (pv 0)) (aA (pv 1)))) (fun Cc pins fp s3 H3 => (aA (pv 0))))) (fun _ => rfl)) (aL (bH zC)) fP) (aI (bA (aP h__law_floors (hr.mono (by decide)) rfl (aB (aA (pv 2)) (aB (aA (pv 4)) aG))) (aK (aH (i := 7) kP.nd rfl (Or.inr rfl))) (fun h1 h2 => aZ h1 h2)) (aI (lT (eY (aA1 hu) (zR aEd (aA (pv 7)) qC) (aJn (aA (pv 6)))) (aL (bH zC)) fP) (aL (lT (eY aG4 (aA (pv 7)) qC) (aI (gT rfl PassesOwn.never (fQ rfl T.n_range (bJ k6 (aB (bF (aA (pv 2)) aO (fun _ _ => rfl)) aG) (fun h1 h2 => cH h1 rfl T.n_len kE h2))) (aK (aH (i := 8) kP.nd rfl (Or.inl rfl))) (aL (lT (DW.t (aMT (eY aFQ (bF (aA (pv 7)) (aA (pv 8)) (fun _ _ => rfl)) (aP h_held_to (hr.mono (by decide)) rfl (aB (aA (pv 2)) (aB (aA (pv 8)) aG)))) (aLO (eY aFQ (bF (aA (pv 7)) (aA (pv 8)) (fun _ _ => rfl)) (aP h_sure (hr.mono (by decide)) rfl (aB (aA (pv 2)) (aB (aA (pv 8)) aG))))))) (aL (bH zC)) fP))) (aI (lT (o7 (aA (pv 5)) (fun _ => rfl)) (aI (bA (aP h__law_floors (hr.mono (by decide)) rfl (aB (aA (pv 2)) (aB (aA (pv 3)) aG))) (aK (aH (i := 9) kP.nd rfl (Or.inr rfl))) (fun h1 h2 => aZ h1 h2)) (aL (lT (o7 (DF.toE (jW (ifs := [_]) (Nc := ["_law_hand", "_law_low", "_law_high"]) (fr := [none, some 7, some 9]) (ss := [0]) (bN (sc := (aD m4)) (N := ["_law_script", "_law_k", "_law_meeting_here", "_law_one", "_law_other", "_law_few", "_law_many", "_law_low", "_law_hand", "_law_high", "_law_threats", "_law_row"]) rfl rfl (by decide +kernel)) (by decide) rfl (fQ rfl T.n_range (bJ k6 (aB (aA (pv 7)) aG) (fun h1 h2 => cH h1 rfl T.n_len kE h2))) (fun Cc pins fp s3 H3 => aK (aH (i := 0) (show (["_law_hand", "_law_low", "_law_high"] : List Str).Nodup by decide +kernel) rfl (Or.inl rfl))) (fun Cc pins fp s3 H3 => j5 (eY aKv (bF (aA (pv 1)) (aA (pv 0)) (fun _ _ => rfl)) (bF (aA (pv 2)) (aA (pv 0)) (fun _ _ => rfl)))) (fun Cc pins fp s3 H3 => (aA (pv 0))))) (fun _ => rfl)) (aL (bH zC)) fP))) fP) (aI (bA (aAf (h_hardest.calm yE) (hr.mono (by decide)) rfl (aB (aA (pv 2)) (aB (aA (pv 4)) aG))) (aK (aH (i := 10) kP.nd rfl (Or.inl rfl))) (fun h1 h2 => aZ h1 h2)) (aL (gT rfl PassesOwn.never (mQ (aA (pv 6))) (aK (aH (i := 11) kP.nd rfl (Or.inl rfl))) (aL (lT (aLx (o7 (aP h_holds (hr.mono (by decide)) rfl (aB (aA (pv 2)) (aB (aP h_steady (hr.mono (by decide)) rfl (aB (aA (pv 2)) (aB (aA (pv 11)) (aB (aA (pv 10)) aG)))) (aB (aA (pv 4)) aG)))) (fun _ => rfl))) (aL (bH zC)) fP))))))) fP))))))))))))) (aL (bH zC)))
end
end
structure aBB (K : PySem.W.Frag) (mg : Str → Option Value) (f c P : Addr) (ln cl : Value) (q : Str) : Prop where
 code : ∀ o fd, K.lookup f = some o → o.data = .func fd → fd.code = .ref c
 hd : PySem.W.codeHdIn K c P = true
 tab : zW K = some (P, ln, cl, q)
 none : K.lookup P = none
theorem aBB.lam {X : Cx} {f c P : Addr} {ln cl : Value} {q : Str} (T : aBB X.K X.mg f c P ln cl q) (hm : X.K.In X.base) (hB : X.base.BuiltinsAt X.mg P) (hc : X.env.code = .ref c) : aBi X c P := ⟨hc, PySem.W.codeHd_of_K hm T.hd, hB⟩
theorem aH8 {K : PySem.W.Frag} {f c P : Addr} {st : Stmt} {od an od2 : Option Addr} {sl sl2 : Array (Option Value)} {oc kV dc pm ct oc2 : Value} {vs : Array Value} {lp : Pos} (a : PySem.W.nsIn K mainGlobals "hardest_for" = some (some (.ref f)))
  (l : K.lookup f = some ⟨oc, od, .func (PySem.W.fnOf "hardest_for" "hardest_for" (kB st) (aR st) (aD st) .none kV dc pm an (.ref c) ct), sl⟩) (l2 : K.lookup c = some ⟨oc2, od2, .fields vs, sl2⟩) (v : vs[11]? = some (.ref P)) (hp : aEK (.stmts (aR st)) = some lp) :
  zW K = some (P, rawInt lp.line, rawInt lp.col, ("hardest_for" : Str) ++ ".<locals>." ++ "<lambda>") := by
 have t : PySem.W.tabIn K "hardest_for" = some (c, P) := by
  unfold PySem.W.tabIn
  simp only [a, l, l2, v, PySem.W.fnOf]
 unfold zW
 simp only [a, l, t, PySem.W.fnOf, hp]
theorem aJI {K : PySem.W.Frag} {h : Heap} {mg : Str → Option Value} {f c P : Addr} {st : Stmt} {od an od2 : Option Addr} {sl sl2 : Array (Option Value)} {oc kV dc pm ct oc2 : Value} {vs : Array Value} {lp : Pos} (X : K.In h) (G : h.Ns mainGlobals mg) (a : PySem.W.nsIn K mainGlobals "hardest_for" = some (some (.ref f)))
  (l : K.lookup f = some ⟨oc, od, .func (PySem.W.fnOf "hardest_for" "hardest_for" (kB st) (aR st) (aD st) .none kV dc pm an (.ref c) ct), sl⟩) (l2 : K.lookup c = some ⟨oc2, od2, .fields vs, sl2⟩) (v : vs[11]? = some (.ref P)) (hd : PySem.W.codeHdIn K c P = true) (nn : K.lookup P = none) (hp : aEK (.stmts (aR st)) = some lp) :
  ∀ f', mg "hardest_for" = some (.ref f') → aBB K mg f' c P (rawInt lp.line) (rawInt lp.col) (("hardest_for" : Str) ++ ".<locals>." ++ "<lambda>") := fun f' hf => by
 have e := hf.symm.trans (PySem.W.mg_of X G a)
 cases e
 refine ⟨fun o fd ho hd => ?_, hd, aH8 a l l2 v hp, nn⟩
 rw [l] at ho
 cases ho
 cases hd
 rfl
def aMi (P : Addr) (H : Hp) : Prop := ∀ b, H b = none ∨ (∃ o xs, H b = some (.frz o (.lst xs))) ∨ b = P
theorem aGT {P : Program} {w : World} {K : PySem.W.Frag} {mg mb : Str → Option Value} {CX : CXT} {k : Nat} {fa a hf c T : Addr} {ln cl : Value} {qn : Str} {fd : FuncData} {x : Str} {sp : Sp} {s₁ : Shared} {vs : List Value} {ns : List Int}
  (KX : K.In s₁.heap) (hns : s₁.heap.Ns mainGlobals mg) (hb : s₁.heap.Ns builtinsNs mb) (hbb : ∀ x : Str, x ≠ "__name__" → mb x = bootBuiltins x) (hlim : s₁.heap.NoLimit) (hg : s₁.gens = #[])
  (ha : s₁.heap.get? a = some { cls := .type "list", data := .seq vs.toArray }) (hi : IntsAre vs ns) (hl : ns.length ≤ sizeLine) (hr : cB k callerA) (TK : aBB K mg hf c T ln cl qn) (hT : s₁.heap.get? T = some (PySem.W.tabObj #[])) (hB : s₁.heap.BuiltinsAt mg T)
  (F : ∀ base : Heap, K.In base → base.Ns mainGlobals mg → base.BuiltinsAt mg T → qA P w K mg base CX k fa fd [x] sp) (hbind : ∀ (s : Shared) (u : Value), BindsTo s fd ⟨[u], []⟩ [(x, u)])
  (hsp : ∀ H : Hp, H T = some (.tab ln cl qn) → kK K H a (ns.map V.int) → sp [.ref a] H (fun v H' => v = .bl true ∧ H' T = some (.tab ln cl qn)) fun _ _ _ => False)
  (hCX : ∀ H e s', CX [] H s₁ (fun _ _ _ => False) e s' → False) :
  codeAny (model P w) callerA (.call (.ref fa) ⟨[.ref a], []⟩) (fun r s' => r = .ok (.ret (.bool true)) ∧ OldK s₁.heap s'.heap ∧ s'.os = s₁.os ∧ AllBare s'.gens) s₁ := by
 have rv := aBe hi
 have lenV := hi.length
 have aT : a ≠ T := fun z => by rw [z, hT] at ha; cases ha
 have ct : isCodeTable s₁.heap T := by
  obtain ⟨o, vs, _, _, _, _, _, _, _, e1, e2, e3, e4, _⟩ := PySem.W.codeHd_of_K KX TK.hd
  exact ⟨c, o, vs, e1, e2, e3, e4⟩
 have core : ∀ H : Hp, aMi T H → H T = some (.tab ln cl qn) → kK K H a (ns.map V.int) → qV P w H s₁.heap → (∀ b, H b ≠ none → b = a ∨ b = T) → (H a ≠ none → K.lookup a = none) →
   codeAny (model P w) callerA (.call (.ref fa) ⟨[.ref a], []⟩) (fun r s' => r = .ok (.ret (.bool true)) ∧ OldK s₁.heap s'.heap ∧ s'.os = s₁.os ∧ AllBare s'.gens) s₁ := by
  intro H hO hHT hS hok hA hK
  have base_of : ∀ {b : Addr} {o : Obj}, s₁.heap.get? b = some o → H b = none → (aAq s₁.heap H).get? b = some o := fun e n => aIL e n
  have noA : ∀ {b : Addr} {o : Obj} {es : Array DictEntry} {ep : Nat}, s₁.heap.get? b = some o → o.data = .dict es ep → H b = none := fun {b o es ep} e d => by
   cases q : H b with
   | none => rfl
   | some u =>
    rcases hA b (by rw [q]; simp) with e' | e'
    ·subst e'
     rw [ha] at e; cases e
     have d' : Data.seq vs.toArray _ = Data.dict es ep := d
     cases d'
    ·subst e'
     rw [hT] at e; cases e
     cases d
  have nsK : ∀ {b : Addr} {m : Str → Option Value}, s₁.heap.Ns b m → (aAq s₁.heap H).Ns b m := fun {b m} ⟨o, es, ep, e, d, r⟩ => ⟨o, es, ep, base_of e (noA e d), d, r⟩
  have hKb : K.In (aAq s₁.heap H) := fun b o e => base_of (KX b o e) (by
   cases q : H b with
   | none => rfl
   | some u =>
    rcases hA b (by rw [q]; simp) with e' | e'
    ·subst e'
     rw [hK (by rw [q]; simp)] at e; cases e
    ·subst e'
     rw [TK.none] at e; cases e)
  have hB' : (aAq s₁.heap H).BuiltinsAt mg T := by
   obtain ⟨bm, ob, b1, b2, b3, b4, b5, b6, b7⟩ := hB
   refine ⟨bm, ob, b1, b2, b3, b4, base_of b5 ?_, b6, b7⟩
   cases q : H bm with
   | none => rfl
   | some u =>
    rcases hA bm (by rw [q]; simp) with e' | e'
    ·rw [e', ha] at b5
     cases b5
     exact absurd (Value.type.inj b6) (by decide)
    ·exact absurd e' b4
  have hM : Mod K mg (aAq s₁.heap H) := ⟨hKb, nsK hns, ⟨mb, nsK hb, hbb⟩, let ⟨mc, h1, h2⟩ := hlim; ⟨mc, nsK h1, h2⟩⟩
  have e0 : aJQ P w K mg (aAq s₁.heap H) callerA [] s₁ H := ⟨rfl, hM, fun b o e => aJV e, Nat.le_of_eq (aGa _ _), trivial, fun b hb => absurd (show b ∈ ([] : List Addr) from hb) (by simp), hok, .of_eq hg⟩
  refine codeAny_mono ((F _ hKb (nsK hns) hB').run callerA [] s₁ H ⟨[.ref a], []⟩ [.ref a] [.ref a] _ _ hr e0 (hbind s₁ (.ref a)) (.cons rfl .nil) (hsp H hHT hS)) fun r s' h => ?_
  cases r with
  | error e => exact (hCX H e s' h).elim
  | ok fl =>
   cases fl with
   | next => exact False.elim h
   | brk => exact False.elim h
   | cont => exact False.elim h
   | ret u =>
    obtain ⟨v, H', os, bare, un, hok', r', q, qT⟩ := h
    subst q
    obtain rfl : u = Value.bool true := r'
    refine ⟨rfl, ⟨fun b o e => ?_, fun b o e => un.there b o e (by simp)⟩, os, bare⟩
    cases q : H b with
    | none => exact .inl (un.keep b o e q (by intro z; exact absurd (show b ∈ ([] : List Addr) from z) (by simp)) (by simp))
    | some u =>
     rcases hO b with z | ⟨ob, xs, z⟩ | z
     ·rw [q] at z; cases z
     ·have z2 := un.frzs b ob _ z
      obtain ⟨e1, _⟩ := hok b _ z
      obtain ⟨e2, _⟩ := hok' b _ z2
      rw [e] at e1; cases e1
      exact .inl e2
     ·subst z
      rw [hT] at e
      cases e
      obtain ⟨ps, e2, _⟩ := hok' b _ qT
      exact .inr (.inl ⟨ct, rfl, #[], ps, rfl, by rw [e2]; simp⟩)
 have tabOk : ∀ H : Hp, iE P w H s₁.heap T (.tab ln cl qn) := fun H => ⟨#[], hT, .inl rfl⟩
 cases hk : K.lookup a with
 | some o =>
  have e := KX a o hk
  rw [ha] at e
  cases e
  refine core (fun b => if b = T then some (.tab ln cl qn) else none) (fun b => ?_) (if_pos rfl) (.inr ⟨_, vs.toArray, _, hk, rfl, rfl, rfl, by rw [List.size_toArray, lenV]; exact hl, by simpa using rv⟩) (fun b u z => ?_) (fun b z => ?_) fun z => absurd (if_neg aT) z
  ·by_cases hb : b = T
   ·exact .inr (.inr hb)
   ·exact .inl (if_neg hb)
  ·by_cases hb : b = T
   ·have z' := (if_pos hb).symm.trans z
    cases z'
    subst hb
    exact tabOk _
   ·have z' := (if_neg hb).symm.trans z
    cases z'
  ·by_cases hb : b = T
   ·exact .inr hb
   ·exact absurd (if_neg hb) z
 | none =>
  refine core (fun b => if b = a then some (.frz { cls := .type "list", data := .seq vs.toArray } (.lst (ns.map V.int))) else if b = T then some (.tab ln cl qn) else none) (fun b => ?_) (by show (if T = a then _ else if T = T then _ else none) = _; rw [if_neg (Ne.symm aT), if_pos rfl]) (.inl (.inr ⟨{ cls := .type "list", data := .seq vs.toArray }, if_pos rfl⟩)) (fun b u z => ?_) (fun b z => ?_) fun _ => hk
  ·by_cases hb : b = a
   ·exact .inr (.inl ⟨_, _, if_pos hb⟩)
   ·by_cases hb2 : b = T
    ·exact .inr (.inr hb2)
    ·exact .inl (by show (if b = a then _ else if b = T then _ else none) = none; rw [if_neg hb, if_neg hb2])
  ·by_cases hb : b = a
   ·have z' := (if_pos hb).symm.trans z
    cases z'
    subst hb
    exact ⟨ha, by rw [List.length_map]; exact hl, vs, _, rv, ha⟩
   ·by_cases hb2 : b = T
    ·have z' : some (HO.tab ln cl qn) = some u := by
      simp only [if_neg hb, if_pos hb2] at z
      exact z
     cases z'
     subst hb2
     exact tabOk _
    ·simp only [if_neg hb, if_neg hb2] at z
     cases z
  ·by_cases hb : b = a
   ·exact .inl hb
   ·by_cases hb2 : b = T
    ·exact .inr hb2
    ·exact absurd (by show (if b = a then _ else if b = T then _ else none) = none; rw [if_neg hb, if_neg hb2]) z
theorem aHV {l : PySem.W.OpenLaw} {n k : Nat} {q : Program} {loose : List Str} {XP : (Str → Option Value) → Heap → Prop} {YP : World → Heap → Prop} {d : DefRec} {K : Params → PySem.W.Frag} {CX : CXT} {sp : PySem.W.Frag → Sp} {x : Str} {hf c T : Addr} {ln cl : Value} {qn : Str}
  (hn : l.most = some n) (hn2 : n ≤ sizeLine) (hdf : d.params.defaults = []) (hr : cB k callerA)
  (hY : ∀ (w : World) (h : Heap), YP w h → (K w.params).In h) (hYT : ∀ (w : World) (h : Heap), YP w h → h.get? T = some (PySem.W.tabObj #[]))
  (F : ∀ (w : World) (mg : Str → Option Value) (fa : Addr) (h : Heap), (K w.params).In h → h.Ns mainGlobals mg → mg d.name = some (.ref fa) →
   aBB (K w.params) mg hf c T ln cl qn ∧ ∃ fd : FuncData, (∀ (s : Shared) (u : Value), BindsTo s fd ⟨[u], []⟩ [(x, u)]) ∧
    ∀ base : Heap, (K w.params).In base → base.Ns mainGlobals mg → base.BuiltinsAt mg T → qA l.prog w (K w.params) mg base CX k fa fd [x] (sp (K w.params)))
  (hsp : ∀ (K : PySem.W.Frag) (H : Hp) (a : Addr) (ns : List Int), ns.length ≤ n → zW K = some (T, ln, cl, qn) → H T = some (.tab ln cl qn) → kK K H a (ns.map V.int) → sp K [.ref a] H (fun v H' => v = .bl true ∧ H' T = some (.tab ln cl qn)) fun _ _ _ => False)
  (hCX : ∀ (H : Hp) (s : Shared) (e : Value) (s' : Shared), CX [] H s (fun _ _ _ => False) e s' → False) :
  PySem.W.WalkO q loose XP YP l.row.toRowW d [] (fun f vs => PySem.call f vs) := by
 refine Att.attach_call hn hdf fun w s₀ s₁ mg mb fa o pm cd doc a vs ns G Y ho hd hcd hmg hobj hints hlen hg => ?_
 have KX := hY w _ Y
 obtain ⟨TK, fd, hb, hF⟩ := F w mg fa _ KX G.T.g hmg
 have hB : s₁.heap.BuiltinsAt mg T := by
  obtain ⟨bm, ob, b1, b2, b3, b4, b5, b6⟩ := G.T.bmain
  have hP := hYT w _ Y
  refine ⟨bm, ob, b1, b2, fun z => ?_, fun z => ?_, b3, b4, b5, b6⟩
  ·obtain ⟨o, es, ep, e, hd, _⟩ := G.T.g
   rw [z, e] at b3; cases b3; rw [hd] at b6; cases b6
  ·rw [z, hP] at b3; cases b3; cases b4
 exact aGT KX G.T.g G.T.b G.T.builtins G.T.nolimit hg hobj hints (Nat.le_trans hlen hn2) hr TK (hYT w _ Y) hB hF hb (fun H hH hS => hsp (K w.params) H a ns hlen TK.tab hH hS) fun H e s' => hCX H s₁ e s'
theorem aNK {P : Program} {w : World} {K : PySem.W.Frag} {mg : Str → Option Value} {base : Heap} {x qual : Str} {st : Stmt} {f c T : Addr} {ln cl : Value} {qn : Str} {fd : FuncData} {N ps : List Str} {k : Nat} {F : List D → Option D} {g : GS} (Fn : Fun K x qual st f fd) (S : aW N ps (aD st)) (TK : aBB K mg f c T ln cl qn) (hM : K.In base) (hB : base.BuiltinsAt mg T)
  (hl : ∀ ds d, F ds = some d → ds.length = ps.length)
  (hb : ∀ (A : Around) (outer : List Env) (s : Shared) (H : Hp) (E : XK), cB k (A.deeper (envOfC qual (aD st) s.heap.objs.size f (.ref c))) → aBi (dL jE P w K mg base N qual (aD st) f (.ref c) A outer s H E).nox c T → jA (dL jE P w K mg base N qual (aD st) f (.ref c) A outer s H E).nox (aR st) g)
  (hv : ∀ ds d, F ds = some d → g { nx := fun _ => d = .non, rt := fun r => r = d } (bD N ds)) (hm : mg x = some (.ref f)) (bi : oH K fd ps []) : d5 P w K mg base (k + 1) x F := by
 obtain ⟨oc, od, kV, doc, pm, an, cdv, ct, osl, rfl, lk, hcd⟩ := Fn.ex
 have e : cdv = .ref c := TK.code _ _ lk rfl
 subst e
 refine ⟨f, _, ps, aIC lk hcd S (fun vs H Q E h => ?_) (fun A outer s H vs Q E hr h => ?_), hm, Fn.kp, bi⟩
 ·obtain ⟨C, ds, d, _, _, n, e, _⟩ := h
  rw [n.length]
  exact hl ds d e
 ·obtain ⟨C, ds, d, ch, tb, n, e, q⟩ := h
  obtain ⟨t, p, h⟩ := hb A outer s H E hr (TK.lam (X := (dL jE P w K mg base N qual (aD st) f (.ref c) A outer s H E).nox) hM hB rfl)
  refine ⟨t, p.nox, h C H (bD N ds) (lL N vs) C H _ _ (oM ch tb n) (hv ds d e) ⟨fun δ σ C' H' rp z => ?_, fun r v C' H' ex nv z => ?_, fun _ _ _ _ _ z => z.elim, fun _ _ _ _ _ z => z.elim⟩⟩
  ·subst z
   exact q _ C' H' rp.ext (eD.mpr rfl)
  ·subst z
   exact q v C' H' ex nv
theorem sU : ∀ ds d, d8 ds = some d → ds.length = (["one", "other"] : List Str).length := by simp_all_arith! [d8]
theorem aC1 : ∀ ds d, iA ds = some d → ds.length = (["one", "other"] : List Str).length := by simp_all_arith! [iA]
theorem aCZ : ∀ ds d, kU ds = some d → ds.length = (["deeds"] : List Str).length := by simp_all_arith! [kU]
theorem aBk : ∀ ds d, eC ds = some d → ds.length = (["row", "deeds"] : List Str).length := by simp_all_arith! [eC]
theorem aAn : ∀ ds d, cR ds = some d → ds.length = (["row", "hand", "deed"] : List Str).length := by simp_all_arith! [cR]
theorem xE : ∀ ds d, cU ds = some d → ds.length = (["row", "deeds"] : List Str).length := by simp_all_arith! [cU]
theorem tE : ∀ ds d, bU ds = some d → ds.length = (["pay", "later", "patience"] : List Str).length := by simp_all_arith! [bU]
theorem aCQ : ∀ ds d, gQ ds = some d → ds.length = (["pays", "patience"] : List Str).length := by simp_all_arith! [gQ]
theorem sO : ∀ ds d, cO ds = some d → ds.length = (["told", "hand"] : List Str).length := by simp_all_arith! [cO]
theorem aAE : ∀ ds d, dG ds = some d → ds.length = (["_law_script", "_law_k"] : List Str).length := by simp_all_arith! [dG]
theorem aCv : ∀ ds d, dN ds = some d → ds.length = (["_law_cell_here", "_law_prime", "_law_many"] : List Str).length := by simp_all_arith! [dN]
theorem aAp : ∀ ds d, iM ds = some d → ds.length = (["_law_deeds"] : List Str).length := by simp_all_arith! [iM]
theorem aAw : ∀ ds d, fA ds = some d → ds.length = (["_law_one", "_law_other"] : List Str).length := by simp_all_arith! [fA]
theorem aD2 : ∀ ds d, lK ds = some d → ds.length = (["upper", "lower"] : List Str).length := by simp_all_arith! [lK]
theorem aCr : ∀ ds d, cQ ds = some d → ds.length = (["meeting"] : List Str).length := by simp_all_arith! [cQ]
theorem aIf : ∀ ds d, fW ds = some d → ds.length = (["meeting", "row"] : List Str).length := by simp_all_arith! [fW]
theorem vQ : ∀ ds d, cY ds = some d → ds.length = (["meeting", "plan", "state", "row"] : List Str).length := by simp_all_arith! [cY]
theorem vC : ∀ ds d, eG ds = some d → ds.length = (["_law_cell_here"] : List Str).length := by simp_all_arith! [eG]
theorem tR : ∀ ds d, cK ds = some d → ds.length = (["_law_cell_here"] : List Str).length := by simp_all_arith! [cK]
theorem vJ : ∀ ds d, cX ds = some d → ds.length = (["meeting", "hand", "row"] : List Str).length := by simp_all_arith! [cX]
theorem zP : ∀ ds d, eZ ds = some d → ds.length = (["meeting", "hand", "deed"] : List Str).length := by simp_all_arith! [eZ]
theorem aDr : ∀ ds d, iS ds = some d → ds.length = (["meeting", "rows", "hand"] : List Str).length := by simp_all_arith! [iS]
theorem tD : ∀ ds d, cE ds = some d → ds.length = (["before", "again", "patience"] : List Str).length := by simp_all_arith! [cE]
theorem aAv : ∀ ds d, fY ds = some d → ds.length = (["meeting", "row", "onward", "threatening"] : List Str).length := by simp_all_arith! [fY]
theorem rP : ∀ ds d, bW ds = some d → ds.length = (["meeting", "threats"] : List Str).length := by simp_all_arith! [bW]
theorem pV : ∀ ds d, cI ds = some d → ds.length = (["meeting", "row", "after", "patience"] : List Str).length := by simp_all_arith! [cI]
theorem xO : ∀ ds d, fG ds = some d → ds.length = (["meeting", "plan", "state", "hand", "own", "patience"] : List Str).length := by simp_all_arith! [fG]
theorem yV : ∀ ds d, f9 ds = some d → ds.length = (["meeting", "hand", "row"] : List Str).length := by simp_all_arith! [f9]
theorem aDx : ∀ ds d, jZ ds = some d → ds.length = (["meeting", "hand"] : List Str).length := by simp_all_arith! [jZ]
theorem aHR : ∀ ds d, pX ds = some d → ds.length = (["meeting", "hand"] : List Str).length := by simp_all_arith! [pX]
theorem aBE : ∀ ds d, iR ds = some d → ds.length = (["meeting", "rows", "over", "patience"] : List Str).length := by simp_all_arith! [iR]
theorem u3 : ∀ ds d, dR ds = some d → ds.length = (["meeting", "path", "threats"] : List Str).length := by simp_all_arith! [dR]
theorem vG : ∀ ds d, eJ ds = some d → ds.length = (["meeting", "plan", "hand", "own", "patience"] : List Str).length := by simp_all_arith! [eJ]
theorem aDA : ∀ ds d, jV ds = some d → ds.length = (["meeting", "row"] : List Str).length := by simp_all_arith! [jV]
theorem w9 : ∀ ds d, fB ds = some d → ds.length = (["meeting", "plan", "start", "patience"] : List Str).length := by simp_all_arith! [fB]
theorem aEn : ∀ ds d, lN ds = some d → ds.length = (["meeting", "row", "threats"] : List Str).length := by simp_all_arith! [lN]
theorem w6 : ∀ ds d, fE ds = some d → ds.length = (["meeting", "rows", "hand"] : List Str).length := by simp_all_arith! [fE]
theorem aIE : ∀ ds d, pG ds = some d → ds.length = (["meeting"] : List Str).length := by simp_all_arith! [pG]
theorem aEo : ∀ ds d, lR ds = some d → ds.length = (["meeting", "plan", "patience"] : List Str).length := by simp_all_arith! [lR]
theorem uN : ∀ ds d, cJ ds = some d → ds.length = (["meeting", "rows"] : List Str).length := by simp_all_arith! [cJ]
theorem uQ : ∀ ds d, dC ds = some d → ds.length = (["meeting", "rows", "patience"] : List Str).length := by simp_all_arith! [dC]
theorem aHd : ∀ ds d, pU ds = some d → ds.length = (["meeting", "plan", "patience"] : List Str).length := by simp_all_arith! [pU]
theorem aHE : ∀ ds d, jP ds = some d → ds.length = (["meeting", "patience"] : List Str).length := by simp_all_arith! [jP]
theorem aGW : ∀ ds d, nJ ds = some d → ds.length = (["meeting", "plan", "patience"] : List Str).length := by simp_all_arith! [nJ]
theorem aDv : ∀ ds d, i5 ds = some d → ds.length = (["meeting", "patience"] : List Str).length := by simp_all_arith! [i5]
theorem aEA : ∀ ds d, m7 ds = some d → ds.length = (["meeting", "patience"] : List Str).length := by simp_all_arith! [m7]
theorem xH : ∀ ds d, dM ds = some d → ds.length = (["_law_meeting_here", "_law_patience_here"] : List Str).length := by simp_all_arith! [dM]
theorem aJE : ∀ ds d, wK ds = some d → ds.length = (["_law_script"] : List Str).length := by simp_all_arith! [wK]
theorem aIx {P : Program} {w : World} {K : PySem.W.Frag} {mg : Str → Option Value} {base : Heap} {f : Addr} {fd : FuncData} (T : lW K mg) {c T0 : Addr} (TK : ∀ f, mg "hardest_for" = some (.ref f) → aBB K mg f c T0 (rawInt 140) (rawInt 25) (("hardest_for" : Str) ++ ".<locals>." ++ "<lambda>")) (hKb : K.In base) (hB : base.BuiltinsAt mg T0) (H_common_divisor : aM K mg "common_divisor" d6 ["one", "other"]) (H_is_less : aM K mg "is_less" kO ["one", "other"]) (H_rows_of : aM K mg "rows_of" kN ["deeds"]) (H_place_of : aM K mg "place_of" jM ["row", "deeds"]) (H_with_deed : aM K mg "with_deed" iN ["row", "hand", "deed"]) (H_strays_from : aM K mg "strays_from" fD ["row", "deeds"]) (H_now_and_later : aM K mg "now_and_later" eV ["pay", "later", "patience"]) (H_weighed : aM K mg "weighed" kW ["pays", "patience"]) (H_worths_of_hand : aM K mg "worths_of_hand" dF ["told", "hand"]) (H__law_cell : aM K mg "_law_cell" iJ ["_law_script", "_law_k"]) (H__law_mix : aM K mg "_law_mix" jR ["_law_cell_here", "_law_prime", "_law_many"]) (H__law_rows : aM K mg "_law_rows" gY ["_law_deeds"]) (H__law_more : aM K mg "_law_more" iK ["_law_one", "_law_other"]) (H_lowest : aM K mg "lowest" m8 ["upper", "lower"]) (H_all_rows : aM K mg "all_rows" jS ["meeting"]) (H_paid : aM K mg "paid" sS ["meeting", "row"]) (H_state_behind : aM K mg "state_behind" fK ["meeting", "plan", "state", "row"]) (H__law_meeting : aM K mg "_law_meeting" cV ["_law_cell_here"]) (H__law_patience : aM K mg "_law_patience" eQ ["_law_cell_here"]) (H_pays_by_deed : aM K mg "pays_by_deed" eI ["meeting", "hand", "row"]) (H_least_paid : aM K mg "least_paid" f7 ["meeting", "hand", "deed"]) (H_pays_of : aM K mg "pays_of" j1 ["meeting", "rows", "hand"]) (H_worth_of_pays : aM K mg "worth_of_pays" eR ["before", "again", "patience"]) (H_answering : aM K mg "answering" gZ ["meeting", "row", "onward", "threatening"]) (H_threatened_pays : aM K mg "threatened_pays" cS ["meeting", "threats"]) (H_stray_that_gains : aM K mg "stray_that_gains" dD ["meeting", "row", "after", "patience"]) (H_better_deed : aM K mg "better_deed" gL ["meeting", "plan", "state", "hand", "own", "patience"]) (H_best_deeds : aM K mg "best_deeds" f6 ["meeting", "hand", "row"]) (H_held_to : aM K mg "held_to" jY ["meeting", "hand"]) (H_sure : aM K mg "sure" p8 ["meeting", "hand"]) (H_worth_of : aM K mg "worth_of" jO ["meeting", "rows", "over", "patience"]) (H_with_threats : aM K mg "with_threats" dQ ["meeting", "path", "threats"]) (H_better_deeds : aM K mg "better_deeds" eL ["meeting", "plan", "hand", "own", "patience"]) (H_is_calm : aM K mg "is_calm" j2 ["meeting", "row"]) (H_worths_from : aM K mg "worths_from" e8 ["meeting", "plan", "start", "patience"]) (H_steady : aM K mg "steady" mY ["meeting", "row", "threats"]) (H_hardest_for : aM K mg "hardest_for" cG ["meeting", "rows", "hand"]) (H_calm : aM K mg "calm" p4 ["meeting"]) (H_worths : aM K mg "worths" lO ["meeting", "plan", "patience"]) (H_hardest_among : aM K mg "hardest_among" dW ["meeting", "rows"]) (H_holding_among : aM K mg "holding_among" dX ["meeting", "rows", "patience"]) (H_gain : aM K mg "gain" sD ["meeting", "plan", "patience"]) (H_kept : aM K mg "kept" sR ["meeting", "patience"]) (H_holds : aM K mg "holds" oU ["meeting", "plan", "patience"]) (H_hardest : aM K mg "hardest" kR ["meeting", "patience"]) (H_floors : aM K mg "floors" mK ["meeting", "patience"]) (H__law_floors : aM K mg "_law_floors" gK ["_law_meeting_here", "_law_patience_here"]) (FL : Fun K "law" "law" m4 f fd) : qA P w K mg base jE 12 f fd ["_law_script"] (spR K wK) := by
 have h_common_divisor : d5 P w K mg base 1 "common_divisor" d8 := by
  obtain ⟨f, fd, Fn, hm, bi⟩ := H_common_divisor
  exact oE Fn eN sU (fun cdv A outer s H E hr => rN T  hr) uK hm bi
 have h_is_less : d5 P w K mg base 1 "is_less" iA := by
  obtain ⟨f, fd, Fn, hm, bi⟩ := H_is_less
  exact oE Fn aD8 aC1 (fun cdv A outer s H E hr => aB2 T  hr) aEV hm bi
 have h_rows_of : d5 P w K mg base 1 "rows_of" kU := by
  obtain ⟨f, fd, Fn, hm, bi⟩ := H_rows_of
  exact oE Fn jU aCZ (fun cdv A outer s H E hr => aCn T  hr) aEG hm bi
 have h_place_of : d5 P w K mg base 1 "place_of" eC := by
  obtain ⟨f, fd, Fn, hm, bi⟩ := H_place_of
  exact oE Fn lU aBk (fun cdv A outer s H E hr => aAy T  hr) aC2 hm bi
 have h_with_deed : d5 P w K mg base 1 "with_deed" cR := by
  obtain ⟨f, fd, Fn, hm, bi⟩ := H_with_deed
  exact oE Fn aCj aAn (fun cdv A outer s H E hr => yM T  hr) aBK hm bi
 have h_strays_from : d5 P w K mg base 1 "strays_from" cU := by
  obtain ⟨f, fd, Fn, hm, bi⟩ := H_strays_from
  exact oE Fn iI xE (fun cdv A outer s H E hr => vH T  hr) y6 hm bi
 have h_now_and_later : d5 P w K mg base 1 "now_and_later" bU := by
  obtain ⟨f, fd, Fn, hm, bi⟩ := H_now_and_later
  exact oE Fn oR tE (fun cdv A outer s H E hr => sA T  hr) vZ hm bi
 have h_weighed : d5 P w K mg base 1 "weighed" gQ := by
  obtain ⟨f, fd, Fn, hm, bi⟩ := H_weighed
  exact oE Fn kY aCQ (fun cdv A outer s H E hr => aB1 T  hr) aEQ hm bi
 have h_worths_of_hand : d5 P w K mg base 1 "worths_of_hand" cO := by
  obtain ⟨f, fd, Fn, hm, bi⟩ := H_worths_of_hand
  exact oE Fn uH sO (fun cdv A outer s H E hr => rU T  hr) uJ hm bi
 have h__law_cell : d5 P w K mg base 1 "_law_cell" dG := by
  obtain ⟨f, fd, Fn, hm, bi⟩ := H__law_cell
  exact oE Fn aBZ aAE (fun cdv A outer s H E hr => aAb T  hr) aBy hm bi
 have h__law_mix : d5 P w K mg base 1 "_law_mix" dN := by
  obtain ⟨f, fd, Fn, hm, bi⟩ := H__law_mix
  exact oE Fn aDU aCv (fun cdv A outer s H E hr => aAD T  hr) aCA hm bi
 have h__law_rows : d5 P w K mg base 1 "_law_rows" iM := by
  obtain ⟨f, fd, Fn, hm, bi⟩ := H__law_rows
  exact oE Fn i4 aAp (fun cdv A outer s H E hr => y0 T  hr) aBP hm bi
 have h__law_more : d5 P w K mg base 1 "_law_more" fA := by
  obtain ⟨f, fd, Fn, hm, bi⟩ := H__law_more
  exact oE Fn aBo aAw (fun cdv A outer s H E hr => zB T  hr) aB4 hm bi
 have h_lowest : d5 P w K mg base 2 "lowest" lK := by
  obtain ⟨f, fd, Fn, hm, bi⟩ := H_lowest
  exact oE Fn vO aD2 (fun cdv A outer s H E hr => aDS T h_common_divisor hr) aF3 hm bi
 have h_all_rows : d5 P w K mg base 2 "all_rows" cQ := by
  obtain ⟨f, fd, Fn, hm, bi⟩ := H_all_rows
  exact oE Fn aDK aCr (fun cdv A outer s H E hr => aAz T h_rows_of hr) aDj hm bi
 have h_paid : d5 P w K mg base 2 "paid" fW := by
  obtain ⟨f, fd, Fn, hm, bi⟩ := H_paid
  exact oE Fn aJL aIf (fun cdv A outer s H E hr => aGl T h_place_of hr) aJz hm bi
 have h_state_behind : d5 P w K mg base 2 "state_behind" cY := by
  obtain ⟨f, fd, Fn, hm, bi⟩ := H_state_behind
  exact oE Fn xC vQ (fun cdv A outer s H E hr => uU T h_place_of hr) wX hm bi
 have h__law_meeting : aD4 P w K mg base 2 "_law_meeting" eG := by
  obtain ⟨f, fd, Fn, hm, bi⟩ := H__law_meeting
  exact fnR Fn cL vC (fun cdv A outer s H E hr => sZ T h__law_mix h__law_rows hr) xF hm bi
 have h__law_patience : d5 P w K mg base 2 "_law_patience" cK := by
  obtain ⟨f, fd, Fn, hm, bi⟩ := H__law_patience
  exact oE Fn eB tR (fun cdv A outer s H E hr => sE T h__law_mix hr) v4 hm bi
 have h_pays_by_deed : d5 P w K mg base 3 "pays_by_deed" cX := by
  obtain ⟨f, fd, Fn, hm, bi⟩ := H_pays_by_deed
  exact oE Fn xK vJ (fun cdv A outer s H E hr => sY T h_with_deed h_paid hr) xG hm bi
 have h_least_paid : d5 P w K mg base 3 "least_paid" eZ := by
  obtain ⟨f, fd, Fn, hm, bi⟩ := H_least_paid
  exact oE Fn aAr zP (fun cdv A outer s H E hr => w4 T h_all_rows h_paid hr) aAo hm bi
 have h_pays_of : d5 P w K mg base 3 "pays_of" iS := by
  obtain ⟨f, fd, Fn, hm, bi⟩ := H_pays_of
  exact oE Fn aEI aDr (fun cdv A outer s H E hr => aCl T h_paid hr) aEw hm bi
 have h_worth_of_pays : d5 P w K mg base 3 "worth_of_pays" cE := by
  obtain ⟨f, fd, Fn, hm, bi⟩ := H_worth_of_pays
  exact oE Fn iX tD (fun cdv A outer s H E hr => sK T h_weighed h_now_and_later h_lowest hr) vL hm bi
 have h_answering : d5 P w K mg base 3 "answering" fY := by
  obtain ⟨f, fd, Fn, hm, bi⟩ := H_answering
  exact oE Fn mC aAv (fun cdv A outer s H E hr => aAh T h_all_rows hr) aCm hm bi
 have h_threatened_pays : d5 P w K mg base 3 "threatened_pays" bW := by
  obtain ⟨f, fd, Fn, hm, bi⟩ := H_threatened_pays
  exact oE Fn sJ rP (fun cdv A outer s H E hr => pW T h_paid hr) sP hm bi
 have h_stray_that_gains : d5 P w K mg base 3 "stray_that_gains" cI := by
  obtain ⟨f, fd, Fn, hm, bi⟩ := H_stray_that_gains
  exact oE Fn eX pV (fun cdv A outer s H E hr => pT T h_paid h_with_deed h_now_and_later h_is_less h_strays_from hr) rV hm bi
 have h_better_deed : d5 P w K mg base 3 "better_deed" fG := by
  obtain ⟨f, fd, Fn, hm, bi⟩ := H_better_deed
  exact oE Fn cZ xO (fun cdv A outer s H E hr => vE T h_with_deed h_state_behind h_paid h_now_and_later h_is_less hr) yP hm bi
 have h_best_deeds : d5 P w K mg base 4 "best_deeds" f9 := by
  obtain ⟨f, fd, Fn, hm, bi⟩ := H_best_deeds
  exact oE Fn n8 yV (fun cdv A outer s H E hr => xB T h_pays_by_deed hr) aAm hm bi
 have h_held_to : d5 P w K mg base 4 "held_to" jZ := by
  obtain ⟨f, fd, Fn, hm, bi⟩ := H_held_to
  exact oE Fn aEy aDx (fun cdv A outer s H E hr => aCw T h_all_rows h_pays_by_deed hr) aEe hm bi
 have h_sure : d5 P w K mg base 4 "sure" pX := by
  obtain ⟨f, fd, Fn, hm, bi⟩ := H_sure
  exact oE Fn aJ7 aHR (fun cdv A outer s H E hr => aG3 T h_least_paid hr) aJh hm bi
 have h_worth_of : d5 P w K mg base 4 "worth_of" iR := by
  obtain ⟨f, fd, Fn, hm, bi⟩ := H_worth_of
  exact oE Fn lP aBE (fun cdv A outer s H E hr => aAs T h_pays_of h_worth_of_pays hr) aDO hm bi
 have h_with_threats : d5 P w K mg base 4 "with_threats" dR := by
  obtain ⟨f, fd, Fn, hm, bi⟩ := H_with_threats
  exact oE Fn jI u3 (fun cdv A outer s H E hr => uE T h_answering hr) xD hm bi
 have h_better_deeds : d5 P w K mg base 4 "better_deeds" eJ := by
  obtain ⟨f, fd, Fn, hm, bi⟩ := H_better_deeds
  exact oE Fn xM vG (fun cdv A outer s H E hr => tM T h_better_deed hr) xN hm bi
 have h_is_calm : d5 P w K mg base 5 "is_calm" jV := by
  obtain ⟨f, fd, Fn, hm, bi⟩ := H_is_calm
  exact oE Fn aEY aDA (fun cdv A outer s H E hr => aBr T h_best_deeds hr) aEP hm bi
 have h_worths_from : d5 P w K mg base 5 "worths_from" fB := by
  obtain ⟨f, fd, Fn, hm, bi⟩ := H_worths_from
  exact oE Fn iP w9 (fun cdv A outer s H E hr => vX T h_state_behind h_worth_of hr) aAd hm bi
 have h_steady : d5 P w K mg base 5 "steady" lN := by
  obtain ⟨f, fd, Fn, hm, bi⟩ := H_steady
  exact oE Fn aGp aEn (fun cdv A outer s H E hr => aDc T h_with_threats hr) aGq hm bi
 have h_hardest_for : d5 P w K mg base 5 "hardest_for" fE := by
  obtain ⟨f, fd, Fn, hm, bi⟩ := H_hardest_for
  exact aNK Fn yX (TK _ hm) hKb hB w6 (fun A outer s H E hr LK => vD T h_paid (TK _ hm).tab hr LK) yT hm bi
 have h_calm : d5 P w K mg base 6 "calm" pG := by
  obtain ⟨f, fd, Fn, hm, bi⟩ := H_calm
  exact oE Fn aIX aIE (fun cdv A outer s H E hr => aF6 T h_all_rows h_is_calm hr) aJB hm bi
 have h_worths : d5 P w K mg base 6 "worths" lR := by
  obtain ⟨f, fd, Fn, hm, bi⟩ := H_worths
  exact oE Fn aGx aEo (fun cdv A outer s H E hr => aDs T h_worths_from hr) aGs hm bi
 have h_hardest_among : d5 P w K mg base 6 "hardest_among" cJ := by
  obtain ⟨f, fd, Fn, hm, bi⟩ := H_hardest_among
  exact oE Fn u5 uN (fun cdv A outer s H E hr => sT T h_hardest_for hr) vW hm bi
 have h_holding_among : d5 P w K mg base 7 "holding_among" dC := by
  obtain ⟨f, fd, Fn, hm, bi⟩ := H_holding_among
  exact oE Fn oT uQ (fun cdv A outer s H E hr => sG T h_hardest_among h_threatened_pays h_stray_that_gains hr) u9 hm bi
 have h_gain : aD4 P w K mg base 7 "gain" pU := by
  obtain ⟨f, fd, Fn, hm, bi⟩ := H_gain
  exact fnR Fn qO aHd (fun cdv A outer s H E hr => aFZ T h_worths h_worths_of_hand h_better_deeds hr) aI9 hm bi
 have h_kept : d5 P w K mg base 8 "kept" jP := by
  obtain ⟨f, fd, Fn, hm, bi⟩ := H_kept
  exact oE Fn uV aHE (fun cdv A outer s H E hr => aG2 T h_all_rows h_holding_among hr) aJ6 hm bi
 have h_holds : d5 P w K mg base 8 "holds" nJ := by
  obtain ⟨f, fd, Fn, hm, bi⟩ := H_holds
  exact oE Fn aHc aGW (fun cdv A outer s H E hr => aED T h_gain hr) aHb hm bi
 have h_hardest : aBj P w K mg base 9 "hardest" i5 := by
  obtain ⟨f, fd, Fn, hm, bi⟩ := H_hardest
  exact fnX Fn yJ aDv (fun cdv A outer s H E hr => aCo T h_kept h_hardest_among hr) aEr hm bi
 have h_floors : aBj P w K mg base 10 "floors" m7 := by
  obtain ⟨f, fd, Fn, hm, bi⟩ := H_floors
  exact fnX Fn aF7 aEA (fun cdv A outer s H E hr => aC4 T h_threatened_pays h_hardest hr) aGA hm bi
 have h__law_floors : d5 P w K mg base 11 "_law_floors" dM := by
  obtain ⟨f, fd, Fn, hm, bi⟩ := H__law_floors
  exact oE Fn j8 xH (fun cdv A outer s H E hr => u4 T h_floors hr) yN hm bi
 exact aNj FL kP aJE (fun cdv A outer s H E hr => aIk T h__law_cell h__law_meeting h__law_patience h__law_more h_kept h_calm h__law_floors h_held_to h_sure h_hardest h_steady h_holds hr) aLd
theorem aIB {l : PySem.W.OpenLaw} {q : Program} {loose : List Str} {XP : (Str → Option Value) → Heap → Prop} {YP : World → Heap → Prop} {d : DefRec} {K : Params → PySem.W.Frag} {hf c T0 : Addr} (hn : l.most = some 63) (hdf : d.params.defaults = []) (hY : ∀ (w : World) (h : Heap), YP w h → (K w.params).In h) (hYT : ∀ (w : World) (h : Heap), YP w h → h.get? T0 = some (PySem.W.tabObj #[]))
  (F : ∀ (w : World) (mg : Str → Option Value) (fa : Addr) (h : Heap), (K w.params).In h → h.Ns mainGlobals mg → mg d.name = some (.ref fa) →
   aBB (K w.params) mg hf c T0 (rawInt 140) (rawInt 25) (("hardest_for" : Str) ++ ".<locals>." ++ "<lambda>") ∧ ∃ fd : FuncData, (∀ (s : Shared) (u : Value), BindsTo s fd ⟨[u], []⟩ [("_law_script", u)]) ∧ ∀ base : Heap, (K w.params).In base → base.Ns mainGlobals mg → base.BuiltinsAt mg T0 → qA l.prog w (K w.params) mg base jE 12 fa fd ["_law_script"] (spR (K w.params) wK)) :
  PySem.W.WalkO q loose XP YP l.row.toRowW d [] (fun f vs => PySem.call f vs) :=
 aHV (n := 63) (k := 12) (x := "_law_script") (CX := jE) (sp := fun K => spR K wK) hn (by decide) hdf ⟨rfl, by decide, by decide⟩ hY hYT F (fun K H a ns _ ht hH hS => ⟨H, [.lst (ns.map D.int)], fun d => d = .bl true, cM.refl _, fun P l c q z => (by rw [ht] at z; cases z; exact hH), .cons (cF.mpr ⟨a, ns.map V.int, rfl, hS, aA9 ns⟩) .nil, by simp [wK, eW], fun d v C' H' hd ex nv => by subst hd; exact ⟨cP.mp nv, ex.hh _ _ hH⟩⟩) fun _ _ _ _ z => z
theorem aLX {K : PySem.W.Frag} {mg : Str → Option Value} {h : Heap} (X : K.In h) (G : h.Ns mainGlobals mg) (z_abs : PySem.W.nsIn K mainGlobals "abs" = some none) (z_all : PySem.W.nsIn K mainGlobals "all" = some none) (z_enumerate : PySem.W.nsIn K mainGlobals "enumerate" = some none) (z_len : PySem.W.nsIn K mainGlobals "len" = some none) (z_max : PySem.W.nsIn K mainGlobals "max" = some none) (z_min : PySem.W.nsIn K mainGlobals "min" = some none) (z_range : PySem.W.nsIn K mainGlobals "range" = some none) (z_reversed : PySem.W.nsIn K mainGlobals "reversed" = some none) (z_sorted : PySem.W.nsIn K mainGlobals "sorted" = some none) (z_tuple : PySem.W.nsIn K mainGlobals "tuple" = some none) (z_zip : PySem.W.nsIn K mainGlobals "zip" = some none) {C_NoPact : Addr} (c_NoPact : PySem.W.nsIn K mainGlobals "NoPact" = some (some (.ref C_NoPact))) (q_NoPact : PySem.W.excIn K C_NoPact [.type "ValueError", .type "Exception", .type "BaseException", .type "object"] "ValueError.__new__" = true) (m_NoPact_NoPact : PySem.W.exmOne K (.ref C_NoPact) (.ref C_NoPact) = some true) : lW K mg :=
 ⟨PySem.W.mg_none_of X G z_abs, PySem.W.mg_none_of X G z_all, PySem.W.mg_none_of X G z_enumerate, PySem.W.mg_none_of X G z_len, PySem.W.mg_none_of X G z_max, PySem.W.mg_none_of X G z_min, PySem.W.mg_none_of X G z_range, PySem.W.mg_none_of X G z_reversed, PySem.W.mg_none_of X G z_sorted, PySem.W.mg_none_of X G z_tuple, PySem.W.mg_none_of X G z_zip, aLF X G c_NoPact q_NoPact, ⟨.ref C_NoPact, PySem.W.mg_of X G c_NoPact, fun c cls hc hm => by
  rcases hc with rfl
  ·rw [PySem.W.mg_of X G c_NoPact] at hm; cases hm; exact m_NoPact_NoPact⟩⟩
theorem aLI {l : PySem.W.OpenLaw} {w : World} {K : PySem.W.Frag} {h : Heap} {mg : Str → Option Value} {fa f hf c0 T0 : Addr} {od an odA anA odB : Option Addr} {sl slA slB : Array (Option Value)} {oc kV dc pm cd ct ocA kVA dcA pmA ctA ocB : Value} {vs : Array Value} (X : K.In h) (G : h.Ns mainGlobals mg) (hfa : mg "law" = some (.ref fa)) (T : lW K mg) (fa1 : PySem.W.nsIn K mainGlobals "hardest_for" = some (some (.ref hf)))
  (fl : K.lookup hf = some ⟨ocA, odA, .func (PySem.W.fnOf "hardest_for" "hardest_for" (kB cG) (aR cG) (aD cG) .none kVA dcA pmA anA (.ref c0) ctA), slA⟩) (fl2 : K.lookup c0 = some ⟨ocB, odB, .fields vs, slB⟩) (fv : vs[11]? = some (.ref T0)) (fh : PySem.W.codeHdIn K c0 T0 = true) (fn : K.lookup T0 = none) (H_common_divisor : aM K mg "common_divisor" d6 ["one", "other"]) (H_is_less : aM K mg "is_less" kO ["one", "other"]) (H_rows_of : aM K mg "rows_of" kN ["deeds"]) (H_place_of : aM K mg "place_of" jM ["row", "deeds"]) (H_with_deed : aM K mg "with_deed" iN ["row", "hand", "deed"]) (H_strays_from : aM K mg "strays_from" fD ["row", "deeds"]) (H_now_and_later : aM K mg "now_and_later" eV ["pay", "later", "patience"]) (H_weighed : aM K mg "weighed" kW ["pays", "patience"]) (H_worths_of_hand : aM K mg "worths_of_hand" dF ["told", "hand"]) (H__law_cell : aM K mg "_law_cell" iJ ["_law_script", "_law_k"]) (H__law_mix : aM K mg "_law_mix" jR ["_law_cell_here", "_law_prime", "_law_many"]) (H__law_rows : aM K mg "_law_rows" gY ["_law_deeds"]) (H__law_more : aM K mg "_law_more" iK ["_law_one", "_law_other"]) (H_lowest : aM K mg "lowest" m8 ["upper", "lower"]) (H_all_rows : aM K mg "all_rows" jS ["meeting"]) (H_paid : aM K mg "paid" sS ["meeting", "row"]) (H_state_behind : aM K mg "state_behind" fK ["meeting", "plan", "state", "row"]) (H__law_meeting : aM K mg "_law_meeting" cV ["_law_cell_here"]) (H__law_patience : aM K mg "_law_patience" eQ ["_law_cell_here"]) (H_pays_by_deed : aM K mg "pays_by_deed" eI ["meeting", "hand", "row"]) (H_least_paid : aM K mg "least_paid" f7 ["meeting", "hand", "deed"]) (H_pays_of : aM K mg "pays_of" j1 ["meeting", "rows", "hand"]) (H_worth_of_pays : aM K mg "worth_of_pays" eR ["before", "again", "patience"]) (H_answering : aM K mg "answering" gZ ["meeting", "row", "onward", "threatening"]) (H_threatened_pays : aM K mg "threatened_pays" cS ["meeting", "threats"]) (H_stray_that_gains : aM K mg "stray_that_gains" dD ["meeting", "row", "after", "patience"]) (H_better_deed : aM K mg "better_deed" gL ["meeting", "plan", "state", "hand", "own", "patience"]) (H_best_deeds : aM K mg "best_deeds" f6 ["meeting", "hand", "row"]) (H_held_to : aM K mg "held_to" jY ["meeting", "hand"]) (H_sure : aM K mg "sure" p8 ["meeting", "hand"]) (H_worth_of : aM K mg "worth_of" jO ["meeting", "rows", "over", "patience"]) (H_with_threats : aM K mg "with_threats" dQ ["meeting", "path", "threats"]) (H_better_deeds : aM K mg "better_deeds" eL ["meeting", "plan", "hand", "own", "patience"]) (H_is_calm : aM K mg "is_calm" j2 ["meeting", "row"]) (H_worths_from : aM K mg "worths_from" e8 ["meeting", "plan", "start", "patience"]) (H_steady : aM K mg "steady" mY ["meeting", "row", "threats"]) (H_hardest_for : aM K mg "hardest_for" cG ["meeting", "rows", "hand"]) (H_calm : aM K mg "calm" p4 ["meeting"]) (H_worths : aM K mg "worths" lO ["meeting", "plan", "patience"]) (H_hardest_among : aM K mg "hardest_among" dW ["meeting", "rows"]) (H_holding_among : aM K mg "holding_among" dX ["meeting", "rows", "patience"]) (H_gain : aM K mg "gain" sD ["meeting", "plan", "patience"]) (H_kept : aM K mg "kept" sR ["meeting", "patience"]) (H_holds : aM K mg "holds" oU ["meeting", "plan", "patience"]) (H_hardest : aM K mg "hardest" kR ["meeting", "patience"]) (H_floors : aM K mg "floors" mK ["meeting", "patience"]) (H__law_floors : aM K mg "_law_floors" gK ["_law_meeting_here", "_law_patience_here"])
  (a : PySem.W.nsIn K mainGlobals "law" = some (some (.ref f))) (ll : K.lookup f = some ⟨oc, od, .func (PySem.W.fnOf "law" "law" (kB m4) (aR m4) (aD m4) .none kV dc pm an cd ct), sl⟩) (c : PySem.W.codeIn K cd "law" = true) (k : PySem.W.keepIn K (.ref f) = true) :
  aBB K mg hf c0 T0 (rawInt 140) (rawInt 25) (("hardest_for" : Str) ++ ".<locals>." ++ "<lambda>") ∧ ∃ fd : FuncData, (∀ (s : Shared) (v : Value), BindsTo s fd ⟨[v], []⟩ [("_law_script", v)]) ∧ ∀ base : Heap, K.In base → base.Ns mainGlobals mg → base.BuiltinsAt mg T0 → qA l.prog w K mg base jE 12 fa fd ["_law_script"] (spR K wK) := by
 have e := hfa.symm.trans (PySem.W.mg_of X G a)
 cases e
 have tk := aJI (st := cG) X G fa1 fl fl2 fv fh fn rfl
 exact ⟨tk _ (PySem.W.mg_of X G fa1), PySem.W.fnOf "law" "law" (kB m4) (aR m4) (aD m4) .none kV dc pm an cd ct, fun s v => .of_eq rfl, fun base hKb _ hB => aIx T tk hKb hB H_common_divisor H_is_less H_rows_of H_place_of H_with_deed H_strays_from H_now_and_later H_weighed H_worths_of_hand H__law_cell H__law_mix H__law_rows H__law_more H_lowest H_all_rows H_paid H_state_behind H__law_meeting H__law_patience H_pays_by_deed H_least_paid H_pays_of H_worth_of_pays H_answering H_threatened_pays H_stray_that_gains H_better_deed H_best_deeds H_held_to H_sure H_worth_of H_with_threats H_better_deeds H_is_calm H_worths_from H_steady H_hardest_for H_calm H_worths H_hardest_among H_holding_among H_gain H_kept H_holds H_hardest H_floors H__law_floors (aEh (st := m4) ll c k)⟩
end L2
def PySem.W.Fast.tw14944592093030942190 : Nat := 0
def PySem.W.Fast.tw9945866285330547266 : Nat := 0
def PySem.W.Fast.tw5524152392294367895 : Nat := 0
def PySem.W.Fast.tw2871670874528993908 : Nat := 0
def PySem.W.Fast.tw14920347490602477542 : Nat := 0
def PySem.W.Fast.tw13123761215011714819 : Nat := 0
def PySem.W.Fast.tw10001736152102482173 : Nat := 0
def PySem.W.Fast.tw8125877673340340809 : Nat := 0
def PySem.W.Fast.tw2085587525159073926 : Nat := 0
def PySem.W.Fast.tw3543559255053425299 : Nat := 0
def PySem.W.Fast.tw17600555970126751957 : Nat := 0
def PySem.W.Fast.tw1873131496861628185 : Nat := 0
def PySem.W.Fast.tw8832743208993413563 : Nat := 0
def PySem.W.Fast.tw6019045637081125734 : Nat := 0
def PySem.W.Fast.tw12965776679226614319 : Nat := 0
def PySem.W.Fast.tw1149542249746072473 : Nat := 0
def PySem.W.Fast.tw8811087851344399806 : Nat := 0
def PySem.W.Fast.tw15376766573007558372 : Nat := 0
set_option hygiene false in
local macro_rules | `(tactic| simp_all_arith! [$x:term]) => `(tactic| (dsimp only [L2.l7]; refine' L2.aHi KX G ?a ?l ?c ?k (fun _ _ _ _ _ _ => $x (by intros; rfl)); (case a => k_is); (case l => k_is); (case c => k_is); (case k => k_is)))
open PySem PySem.W PyProof.Rows
set_option maxRecDepth 100000 in
set_option maxHeartbeats 0 in
theorem PySem.Challenge.cw_pactkeep_k07_whole_more_patience_holds : PySem.Challenge.rw_pactkeep_k07_whole_more_patience.Holds := by
 w_on; o_law; k_head; (case hw => w_witness2)
 k_fill
 refine L2.aIB (l := PySem.Challenge.rw_pactkeep_k07_whole_more_patience) (hf := ?hf) (c := ?cc) rfl rfl (fun w h Y => PySem.W.km_in_of Y) (fun w h Y => PySem.W.km_tabs_of Y _ (List.Mem.head _)) ?F
 case F =>
  intro w mg fa h KX G hmg
  have T : L2.lW (L2.l7 KX) mg := by
   dsimp only [L2.l7]
   refine' L2.aLX KX G ?z_abs ?z_all ?z_enumerate ?z_len ?z_max ?z_min ?z_range ?z_reversed ?z_sorted ?z_tuple ?z_zip ?c_NoPact ?q_NoPact ?m_NoPact_NoPact
   (case z_abs => k_is); (case z_all => k_is); (case z_enumerate => k_is); (case z_len => k_is); (case z_max => k_is); (case z_min => k_is); (case z_range => k_is); (case z_reversed => k_is); (case z_sorted => k_is); (case z_tuple => k_is); (case z_zip => k_is); (case c_NoPact => k_is); (case q_NoPact => first | k_exc | kts_exm | kit_is | k_is); (case m_NoPact_NoPact => first | k_exc | kts_exm | kit_is | k_is)
  have H_common_divisor : L2.aM (L2.l7 KX) mg "common_divisor" L2.d6 ["one", "other"] := by simp_all_arith! [L2.us2]
  have H_is_less : L2.aM (L2.l7 KX) mg "is_less" L2.kO ["one", "other"] := by simp_all_arith! [L2.us2]
  have H_rows_of : L2.aM (L2.l7 KX) mg "rows_of" L2.kN ["deeds"] := by simp_all_arith! [L2.us1]
  have H_place_of : L2.aM (L2.l7 KX) mg "place_of" L2.jM ["row", "deeds"] := by simp_all_arith! [L2.us2]
  have H_with_deed : L2.aM (L2.l7 KX) mg "with_deed" L2.iN ["row", "hand", "deed"] := by simp_all_arith! [L2.us3]
  have H_strays_from : L2.aM (L2.l7 KX) mg "strays_from" L2.fD ["row", "deeds"] := by simp_all_arith! [L2.us2]
  have H_now_and_later : L2.aM (L2.l7 KX) mg "now_and_later" L2.eV ["pay", "later", "patience"] := by simp_all_arith! [L2.us3]
  have H_weighed : L2.aM (L2.l7 KX) mg "weighed" L2.kW ["pays", "patience"] := by simp_all_arith! [L2.us2]
  have H_worths_of_hand : L2.aM (L2.l7 KX) mg "worths_of_hand" L2.dF ["told", "hand"] := by simp_all_arith! [L2.us2]
  have H__law_cell : L2.aM (L2.l7 KX) mg "_law_cell" L2.iJ ["_law_script", "_law_k"] := by simp_all_arith! [L2.us2]
  have H__law_mix : L2.aM (L2.l7 KX) mg "_law_mix" L2.jR ["_law_cell_here", "_law_prime", "_law_many"] := by simp_all_arith! [L2.us3]
  have H__law_rows : L2.aM (L2.l7 KX) mg "_law_rows" L2.gY ["_law_deeds"] := by simp_all_arith! [L2.us1]
  have H__law_more : L2.aM (L2.l7 KX) mg "_law_more" L2.iK ["_law_one", "_law_other"] := by simp_all_arith! [L2.us2]
  have H_lowest : L2.aM (L2.l7 KX) mg "lowest" L2.m8 ["upper", "lower"] := by simp_all_arith! [L2.us2]
  have H_all_rows : L2.aM (L2.l7 KX) mg "all_rows" L2.jS ["meeting"] := by simp_all_arith! [L2.us1]
  have H_paid : L2.aM (L2.l7 KX) mg "paid" L2.sS ["meeting", "row"] := by simp_all_arith! [L2.us2]
  have H_state_behind : L2.aM (L2.l7 KX) mg "state_behind" L2.fK ["meeting", "plan", "state", "row"] := by simp_all_arith! [L2.us4]
  have H__law_meeting : L2.aM (L2.l7 KX) mg "_law_meeting" L2.cV ["_law_cell_here"] := by simp_all_arith! [L2.us1]
  have H__law_patience : L2.aM (L2.l7 KX) mg "_law_patience" L2.eQ ["_law_cell_here"] := by simp_all_arith! [L2.us1]
  have H_pays_by_deed : L2.aM (L2.l7 KX) mg "pays_by_deed" L2.eI ["meeting", "hand", "row"] := by simp_all_arith! [L2.us3]
  have H_least_paid : L2.aM (L2.l7 KX) mg "least_paid" L2.f7 ["meeting", "hand", "deed"] := by simp_all_arith! [L2.us3]
  have H_pays_of : L2.aM (L2.l7 KX) mg "pays_of" L2.j1 ["meeting", "rows", "hand"] := by simp_all_arith! [L2.us3]
  have H_worth_of_pays : L2.aM (L2.l7 KX) mg "worth_of_pays" L2.eR ["before", "again", "patience"] := by simp_all_arith! [L2.us3]
  have H_answering : L2.aM (L2.l7 KX) mg "answering" L2.gZ ["meeting", "row", "onward", "threatening"] := by simp_all_arith! [L2.us4]
  have H_threatened_pays : L2.aM (L2.l7 KX) mg "threatened_pays" L2.cS ["meeting", "threats"] := by simp_all_arith! [L2.us2]
  have H_stray_that_gains : L2.aM (L2.l7 KX) mg "stray_that_gains" L2.dD ["meeting", "row", "after", "patience"] := by simp_all_arith! [L2.us4]
  have H_better_deed : L2.aM (L2.l7 KX) mg "better_deed" L2.gL ["meeting", "plan", "state", "hand", "own", "patience"] := by simp_all_arith! [L2.us6]
  have H_best_deeds : L2.aM (L2.l7 KX) mg "best_deeds" L2.f6 ["meeting", "hand", "row"] := by simp_all_arith! [L2.us3]
  have H_held_to : L2.aM (L2.l7 KX) mg "held_to" L2.jY ["meeting", "hand"] := by simp_all_arith! [L2.us2]
  have H_sure : L2.aM (L2.l7 KX) mg "sure" L2.p8 ["meeting", "hand"] := by simp_all_arith! [L2.us2]
  have H_worth_of : L2.aM (L2.l7 KX) mg "worth_of" L2.jO ["meeting", "rows", "over", "patience"] := by simp_all_arith! [L2.us4]
  have H_with_threats : L2.aM (L2.l7 KX) mg "with_threats" L2.dQ ["meeting", "path", "threats"] := by simp_all_arith! [L2.us3]
  have H_better_deeds : L2.aM (L2.l7 KX) mg "better_deeds" L2.eL ["meeting", "plan", "hand", "own", "patience"] := by simp_all_arith! [L2.us5]
  have H_is_calm : L2.aM (L2.l7 KX) mg "is_calm" L2.j2 ["meeting", "row"] := by simp_all_arith! [L2.us2]
  have H_worths_from : L2.aM (L2.l7 KX) mg "worths_from" L2.e8 ["meeting", "plan", "start", "patience"] := by simp_all_arith! [L2.us4]
  have H_steady : L2.aM (L2.l7 KX) mg "steady" L2.mY ["meeting", "row", "threats"] := by simp_all_arith! [L2.us3]
  have H_hardest_for : L2.aM (L2.l7 KX) mg "hardest_for" L2.cG ["meeting", "rows", "hand"] := by simp_all_arith! [L2.us3]
  have H_calm : L2.aM (L2.l7 KX) mg "calm" L2.p4 ["meeting"] := by simp_all_arith! [L2.us1]
  have H_worths : L2.aM (L2.l7 KX) mg "worths" L2.lO ["meeting", "plan", "patience"] := by simp_all_arith! [L2.us3]
  have H_hardest_among : L2.aM (L2.l7 KX) mg "hardest_among" L2.dW ["meeting", "rows"] := by simp_all_arith! [L2.us2]
  have H_holding_among : L2.aM (L2.l7 KX) mg "holding_among" L2.dX ["meeting", "rows", "patience"] := by simp_all_arith! [L2.us3]
  have H_gain : L2.aM (L2.l7 KX) mg "gain" L2.sD ["meeting", "plan", "patience"] := by simp_all_arith! [L2.us3]
  have H_kept : L2.aM (L2.l7 KX) mg "kept" L2.sR ["meeting", "patience"] := by simp_all_arith! [L2.us2]
  have H_holds : L2.aM (L2.l7 KX) mg "holds" L2.oU ["meeting", "plan", "patience"] := by simp_all_arith! [L2.us3]
  have H_hardest : L2.aM (L2.l7 KX) mg "hardest" L2.kR ["meeting", "patience"] := by simp_all_arith! [L2.us2]
  have H_floors : L2.aM (L2.l7 KX) mg "floors" L2.mK ["meeting", "patience"] := by simp_all_arith! [L2.us2]
  have H__law_floors : L2.aM (L2.l7 KX) mg "_law_floors" L2.gK ["_law_meeting_here", "_law_patience_here"] := by simp_all_arith! [L2.us2]
  refine' L2.aLI KX G hmg T ?fa ?fl ?fl2 ?fv ?fh ?fn H_common_divisor H_is_less H_rows_of H_place_of H_with_deed H_strays_from H_now_and_later H_weighed H_worths_of_hand H__law_cell H__law_mix H__law_rows H__law_more H_lowest H_all_rows H_paid H_state_behind H__law_meeting H__law_patience H_pays_by_deed H_least_paid H_pays_of H_worth_of_pays H_answering H_threatened_pays H_stray_that_gains H_better_deed H_best_deeds H_held_to H_sure H_worth_of H_with_threats H_better_deeds H_is_calm H_worths_from H_steady H_hardest_for H_calm H_worths H_hardest_among H_holding_among H_gain H_kept H_holds H_hardest H_floors H__law_floors ?al ?ll ?cl ?kl
  (case fa => k_is); (case fl => k_is); (case fl2 => k_is); (case fv => rfl); (case fh => kernel_rfl); (case fn => kernel_rfl)
  (case al => k_is); (case ll => k_is); (case cl => k_is); (case kl => k_is)
