import PyProof.Rows.All
import Wide.All
import OpenK.AllK
import Wide.FinOn
import Lean
import PyProof.EqAt
import PyProof.EqKinds
import PyProof.TupleCall
import PyProof.NeKinds
import PyProof.ZipIter
import PyProof.Rows.SortShell
import PyProof.Rows.SortWalk
import PyProof.EnumMake
import PyProof.Rows.SumAny
import PyProof.Rows.SumGenD
import KE.KTryMore
import OpenK.KOwn
import PyProof.ExcArgsOwn
import PyProof.IsiTuple
import PyProof.ExcAttrAll.ValueError
import PySem.Challenge.RW_pactkeep_k03_one_meeting
set_option Elab.async false
set_option linter.all false
set_option maxRecDepth 100000
/-! THE HAND LAYER, for ints, bools, texts, own classes, LISTS and tuples (index, slices, in, append, pop ..), calls, loops. Paste it whole ahead of your own text; what your proof does not reach may be deleted. -/
namespace L2
open PySem PySem.Spec PyProof.Rows

/-- a key: an int or a str -/
abbrev Key := Sum Int Str
def keyIs : Key → Value → Bool
  | .inl k, v => Value.isInt k v
  | .inr x, v => Value.isStrOf x v
def keyH (w : World) : Key → Int
  | .inl k => hashInt k
  | .inr x => hashStr w x
theorem keyIs_shape : ∀ {k : Key} {v : Value}, keyIs k v = true → (∃ i t, k = Sum.inl i ∧ v = Value.int i t) ∨ (∃ x t, k = Sum.inr x ∧ v = Value.str x t)
  | .inl i, v, h => by
    obtain ⟨t, e⟩ := Value.isInt_shape (k := i) (v := v) h
    exact .inl ⟨i, t, rfl, e⟩
  | .inr x, v, h => by
    obtain ⟨t, e⟩ := Value.isStrOf_shape (x := x) (v := v) h
    exact .inr ⟨x, t, rfl, e⟩
theorem key_ll (a b : Int) : decide ((Sum.inl a : Key) = Sum.inl b) = (a == b) := by
  by_cases e : a = b
  · subst e; simp
  · have h : ¬ (Sum.inl a : Key) = Sum.inl b := fun q => e (Sum.inl.inj q)
    rw [decide_eq_false h]
    exact (beq_eq_false_iff_ne.mpr e).symm
theorem key_rr (a b : Str) : decide ((Sum.inr a : Key) = Sum.inr b) = decide (a = b) := by
  by_cases e : a = b
  · subst e; simp
  · have h : ¬ (Sum.inr a : Key) = Sum.inr b := fun q => e (Sum.inr.inj q)
    rw [decide_eq_false h, decide_eq_false e]
theorem key_lr (a : Int) (b : Str) : decide ((Sum.inl a : Key) = Sum.inr b) = false := decide_eq_false (fun q => nomatch q)
theorem key_rl (a : Str) (b : Int) : decide ((Sum.inr a : Key) = Sum.inl b) = false := decide_eq_false (fun q => nomatch q)

def mixKind (prog : Program) (w : World) : PySem.KeyKind prog w Key where
  is := keyIs
  hash := keyH w
  inj := fun v a b ha hb => by
    rcases keyIs_shape ha with ⟨i, t, rfl, rfl⟩ | ⟨x, t, rfl, rfl⟩
    · rcases keyIs_shape hb with ⟨j, u, rfl, e⟩ | ⟨y, u, rfl, e⟩
      · injection e with e1 _; rw [e1]
      · exact nomatch e
    · rcases keyIs_shape hb with ⟨j, u, rfl, e⟩ | ⟨y, u, rfl, e⟩
      · exact nomatch e
      · injection e with e1 _; rw [e1]
  byValue := fun k v h => by
    rcases keyIs_shape h with ⟨i, t, rfl, rfl⟩ | ⟨x, t, rfl, rfl⟩ <;> rfl
  pyHash := fun hv h => by
    rcases keyIs_shape hv with ⟨i, t, rfl, rfl⟩ | ⟨x, t, rfl, rfl⟩
    · exact wpAny_pyHash_int h
    · exact wpAny_pyHash_str h
  eqBool := fun hu hv h => by
    rcases keyIs_shape hu with ⟨i, t, rfl, rfl⟩ | ⟨x, t, rfl, rfl⟩
    · rcases keyIs_shape hv with ⟨j, u, rfl, rfl⟩ | ⟨y, u, rfl, rfl⟩
      · rw [key_ll] at h; exact wpAny_eqBool_int h
      · rw [key_lr] at h; exact SeqAt.EqAt.int_str i t y u _ _ _ _ h
    · rcases keyIs_shape hv with ⟨j, u, rfl, rfl⟩ | ⟨y, u, rfl, rfl⟩
      · rw [key_rl] at h; exact SeqAt.EqAt.str_int x t j u _ _ _ _ h
      · rw [key_rr] at h; exact wpAny_eqBool_str h
  «strs» := fun k x t v h => by
    rcases keyIs_shape h with ⟨i, u, rfl, e⟩ | ⟨y, u, rfl, e⟩
    · exact nomatch e
    · injection e with e1 _
      subst e1
      cases v <;> rfl

theorem mixKind_is (prog : Program) (w : World) (k : Key) (v : Value) : (mixKind prog w).is k v = keyIs k v := rfl
end L2

namespace L2
open PySem PySem.Spec PyProof.Rows

/-- a value, without the heap -/
inductive V where
  | non | bl (b : Bool) | int (i : Int) | str (x : Str) | byt (b : Array UInt8) | flt (b : UInt64) | ref (a : Addr) | ty (n : String)
  deriving DecidableEq

def RelV : V → Value → Prop
  | .non, u => u = Value.none
  | .bl b, u => u = Value.bool b
  | .int i, u => ∃ t, u = Value.int i t
  | .str x, u => ∃ t, u = Value.str x t
  | .byt b, u => ∃ t, u = Value.bytes b t
  | .flt b, u => ∃ t, u = Value.float b t
  | .ref a, u => u = Value.ref a
  | .ty n, u => u = Value.type n

abbrev Vals : List V → List Value → Prop := Paired RelV
theorem Vals.length {xs : List V} {us : List Value} (r : Vals xs us) : xs.length = us.length := Paired.length r
theorem Vals.get : ∀ {xs : List V} {us : List Value} {i : Nat} {x : V}, Vals xs us → xs[i]? = some x → ∃ u, us[i]? = some u ∧ RelV x u
  | _, _, _, _, .nil, e => by simp at e
  | _, _, 0, _, .cons r _, e => by simp at e; subst e; exact ⟨_, rfl, r⟩
  | _, _, i + 1, x, .cons _ t, e => by
    obtain ⟨u, h1, h2⟩ := Vals.get (i := i) (x := x) t (by simpa using e)
    exact ⟨u, by simpa using h1, h2⟩
theorem Vals.append : ∀ {xs ys : List V} {us ws : List Value}, Vals xs us → Vals ys ws → Vals (xs ++ ys) (us ++ ws)
  | _, _, _, _, .nil, s => s
  | _, _, _, _, .cons r t, s => .cons r (Vals.append t s)
theorem Vals.take : ∀ {xs : List V} {us : List Value} (n : Nat), Vals xs us → Vals (xs.take n) (us.take n)
  | _, _, 0, _ => .nil
  | _, _, _ + 1, .nil => .nil
  | _, _, n + 1, .cons r t => .cons r (Vals.take n t)
theorem Vals.drop : ∀ {xs : List V} {us : List Value} (n : Nat), Vals xs us → Vals (xs.drop n) (us.drop n)
  | _, _, 0, r => r
  | _, _, _ + 1, .nil => .nil
  | _, _, n + 1, .cons _ t => Vals.drop n t

def RelO : Option V → Option Value → Prop
  | some v, some u => RelV v u
  | none, none => True
  | _, _ => False
def KV {κ : Type} : List (κ × V) → List (κ × Value) → Prop := Paired fun (p : κ × V) (q : κ × Value) => p.1 = q.1 ∧ RelV p.2 q.2

/-- a key of a dict (00_mix): an int or a text -/
def kV : Key → V
  | .inl i => .int i
  | .inr x => .str x

/-- what stands at a tracked address -/
inductive HO where
  /-- a list -/
  | lst (xs : List V)
  /-- a tuple (never changes) -/
  | tup (xs : List V)
  /-- a dict whose keys are ints and texts; one whose keys are tuples of ints and texts (the empty one is both) -/
  | dK (kvs : List (Key × V)) | dT (kvs : List (List Key × V))
  /-- a set of ints: its members, its size -/
  | set (S : Int → Bool) (n : Nat)
  /-- an instance of the class at C, its dict at dx, its attributes -/
  | ins (C dx : Addr) (fs : List (Str × V))
  /-- the dict of the instance at x -/
  | own (x : Addr)
  /-- the dict of an exception -/
  | xd (fs : List (Str × V))
  /-- a bound method, f of x -/
  | met (f x : Addr)
  /-- a range object lo, lo + 1, .. below hi -/
  | rng (lo hi : Int)
  /-- a thing that is known to the object (the script; a dict while a loop walks it): read, never written while it is so -/
  | frz (o : Obj) (u : HO)
  /-- a code object's table -/
  | tbl (ps : Array Value)
  /-- any other thing, by what is true of its one object (a def of one's own: SetO a S n := HO.ext fun h => ..) -/
  | ext (φ : Heap → Prop)

abbrev Hp := Addr → Option HO
def upd (H : Hp) (a : Addr) (o : HO) : Hp := fun b => if b = a then some o else H b
theorem upd_same {H : Hp} {a : Addr} {o : HO} : upd H a o a = some o := by unfold upd; rw [if_pos rfl]
theorem upd_ne {H : Hp} {a b : Addr} {o : HO} (h : b ≠ a) : upd H a o b = H b := by unfold upd; rw [if_neg h]
/-- two objects of different content stand apart -/
theorem ne_of {H : Hp} {a b : Addr} {o u : HO} (h : H a = some o) (h' : H b = some u) (d : o ≠ u) : a ≠ b := by
  intro e; subst e; rw [h] at h'; exact d (Option.some.inj h')
theorem ne_of_none {H : Hp} {a b : Addr} {o : HO} (h : H a = some o) (h' : H b = none) : a ≠ b := by
  intro e; subst e; rw [h] at h'; cases h'

section
variable (P : Program) (w : World)
def ObjOk (H : Hp) (h : Heap) (a : Addr) : HO → Prop
  | .lst xs => xs.length ≤ sizeLine ∧ ∃ (its : List Value) (n : Nat), Vals xs its ∧ h.get? a = some { cls := .type "list", data := .seq its.toArray n }
  | .tup xs => xs.length ≤ sizeLine ∧ ∃ its : List Value, Vals xs its ∧ IsTup h a its.toArray
  | .dK kvs => kvs.length ≤ sizeLine ∧ (a == sysModules) = false ∧ ∃ vs, KV kvs vs ∧ h.DictOf (mixKind P w) a vs
  | .dT kvs => kvs.length ≤ sizeLine ∧ (a == sysModules) = false ∧ ∃ xs : List (List Key × Addr × Value),
      Paired (fun (p : List Key × V) (q : List Key × Addr × Value) => p.1 = q.1 ∧ H q.2.1 = some (.tup (p.1.map kV)) ∧ RelV p.2 q.2.2) kvs xs ∧
      ∃ o es ep, h.get? a = some o ∧ o.ExactDict ∧ o.data = .dict es ep ∧ es.toList = xs.map (entryOfKey (tupleKind (mixKind P w))) ∧ (xs.map (·.1)).Nodup
  | .set S n => h.SetOf (intKind P w) a S n
  | .ins C dx fs => H dx = some (.own a) ∧ fs.length ≤ 1000 ∧ dx ≠ a ∧ h.get? a = some (PySem.W.instObj C dx) ∧
      ∃ mA, h.Ns1 dx mA ∧ (∀ f, RelO (fs.lookup f) (mA f)) ∧ PySem.Within mA (fs.map (·.1))
  | .own _ => ∃ o, h.get? a = some o
  | .xd fs => ∃ mA, h.Ns1 a mA ∧ ∀ f, RelO (fs.lookup f) (mA f)
  | .rng lo hi => ∃ t u v, h.get? a = some { cls := .type "range", data := .fields #[.int lo t, .int hi u, .int 1 v] }
  | .frz o u => h.get? a = some o ∧ ObjOk H h a u
  | .tbl ps => h.get? a = some { cls := .none, data := .fields ps }
  | .met f x => h.get? a = some (PySem.W.methodObj (.ref f) (.ref x))
  | .ext φ => φ h ∧ (∃ o, h.get? a = some o) ∧ ∀ h1 h2 : Heap, φ h1 → (∀ o, h1.get? a = some o → h2.get? a = some o) → φ h2
/-- the abstract heap is held -/
def HOk (H : Hp) (h : Heap) : Prop := ∀ a o, H a = some o → ObjOk P w H h a o
end

section
variable {P : Program} {w : World} {H H' : Hp} {h h' : Heap} {a : Addr} {o : HO}
theorem ObjOk.lt (x : ObjOk P w H h a o) : a < h.objs.size := by
  cases o with
  | lst xs => obtain ⟨_, _, _, _, e⟩ := x; exact Heap.lt_size e
  | tup xs => obtain ⟨_, _, _, p⟩ := x; exact p.lt
  | dK kvs => obtain ⟨_, _, _, _, o, _, _, e, _⟩ := x; exact Heap.lt_size e
  | dT kvs => obtain ⟨_, _, _, _, o, _, _, e, _⟩ := x; exact Heap.lt_size e
  | set S n => obtain ⟨o, _, _, _, e, _⟩ := x; exact Heap.lt_size e
  | ins C dx fs => obtain ⟨_, _, _, e, _⟩ := x; exact Heap.lt_size e
  | own y => obtain ⟨_, e⟩ := x; exact Heap.lt_size e
  | xd fs => obtain ⟨_, ⟨_, _, _, e, _⟩, _⟩ := x; exact Heap.lt_size e
  | rng lo hi => obtain ⟨_, _, _, e⟩ := x; exact Heap.lt_size e
  | frz ob u => obtain ⟨e, _⟩ := x; exact Heap.lt_size e
  | tbl ps => exact Heap.lt_size (show h.get? a = some _ from x)
  | met f y => exact Heap.lt_size (show h.get? a = some _ from x)
  | ext φ => obtain ⟨_, ⟨_, e⟩, _⟩ := x; exact Heap.lt_size e
theorem Paired.mapP {α β : Type} {F G : α → β → Prop} : ∀ {l₁ : List α} {l₂ : List β}, Paired F l₁ l₂ → (∀ a b, F a b → G a b) → Paired G l₁ l₂
  | _, _, .nil, _ => .nil
  | _, _, .cons r t, f => .cons (f _ _ r) (Paired.mapP t f)
/-- what an object's description leans on: its own object, its own dict, the tuples -/
theorem ObjOk.stay (x : ObjOk P w H h a o) (k : ∀ b u, (b = a ∨ H b = some (.own a)) → h.get? b = some u → h'.get? b = some u)
    (ho : ∀ b, H b = some (.own a) → H' b = some (.own a)) (ht : ∀ b xs, H b = some (.tup xs) → H' b = some (.tup xs)) : ObjOk P w H' h' a o := by
  induction o with
  | lst xs => obtain ⟨z, its, n, r, e⟩ := x; exact ⟨z, its, n, r, k _ _ (.inl rfl) e⟩
  | tup xs => obtain ⟨z, its, r, ob, e, c⟩ := x; exact ⟨z, its, r, ob, k _ _ (.inl rfl) e, c⟩
  | dK kvs => obtain ⟨z, y, vs, r, ob, es, ep, e, c⟩ := x; exact ⟨z, y, vs, r, ob, es, ep, k _ _ (.inl rfl) e, c⟩
  | dT kvs =>
    obtain ⟨z, y, xs, r, ob, es, ep, e, c⟩ := x
    exact ⟨z, y, xs, Paired.mapP r fun p q z => ⟨z.1, ht _ _ z.2.1, z.2.2⟩, ob, es, ep, k _ _ (.inl rfl) e, c⟩
  | set S n => obtain ⟨ob, es, ep, t, e, c⟩ := x; exact ⟨ob, es, ep, t, k _ _ (.inl rfl) e, c⟩
  | ins C dx fs =>
    obtain ⟨d, z, ne, e, mA, ⟨od, es, ep, e2, c⟩, r⟩ := x
    exact ⟨ho _ d, z, ne, k _ _ (.inl rfl) e, mA, ⟨od, es, ep, k _ _ (.inr d) e2, c⟩, r⟩
  | own y => obtain ⟨ob, e⟩ := x; exact ⟨ob, k _ _ (.inl rfl) e⟩
  | xd fs => obtain ⟨mA, ⟨od, es, ep, e, c⟩, r⟩ := x; exact ⟨mA, ⟨od, es, ep, k _ _ (.inl rfl) e, c⟩, r⟩
  | rng lo hi => obtain ⟨t, u, v, e⟩ := x; exact ⟨t, u, v, k _ _ (.inl rfl) e⟩
  | frz ob u ih => obtain ⟨e, q⟩ := x; exact ⟨k _ _ (.inl rfl) e, ih q⟩
  | tbl ps =>
    have e : h.get? a = some { cls := .none, data := .fields ps } := x
    show h'.get? a = some { cls := .none, data := .fields ps }
    exact k a _ (.inl rfl) e
  | met f y =>
    have e : h.get? a = some (PySem.W.methodObj (.ref f) (.ref y)) := x
    show h'.get? a = some (PySem.W.methodObj (.ref f) (.ref y))
    exact k a _ (.inl rfl) e
  | ext φ => obtain ⟨p, ⟨o, e⟩, st⟩ := x; exact ⟨st _ _ p fun o q => k _ _ (.inl rfl) q, ⟨o, k _ _ (.inl rfl) e⟩, st⟩
theorem HOk.lt (x : HOk P w H h) (e : H a = some o) : a < h.objs.size := (x a o e).lt
theorem HOk.fresh (x : HOk P w H h) (e : h.objs.size ≤ a) : H a = none := by
  cases q : H a with
  | none => rfl
  | some u => exact absurd (Nat.lt_of_lt_of_le (x.lt q) e) (Nat.lt_irrefl _)
/-- every object of the heap is kept -/
theorem HOk.kept (x : HOk P w H h) (k : ∀ b u, h.get? b = some u → h'.get? b = some u) : HOk P w H h' := fun a o e =>
  (x a o e).stay (fun b u _ q => k b u q) (fun _ q => q) fun _ _ q => q
/-- a new object is laid and tracked -/
theorem HOk.laid (x : HOk P w H h) (k : ∀ b u, h.get? b = some u → h'.get? b = some u) (hp : h.objs.size ≤ a) (new : ObjOk P w (upd H a o) h' a o) : HOk P w (upd H a o) h' := fun b u e => by
  have hn := x.fresh hp
  by_cases hb : b = a
  · subst hb; rw [upd_same] at e; cases e; exact new
  · rw [upd_ne hb] at e
    exact (x b u e).stay (fun c v _ q => k c v q) (fun c q => by rw [upd_ne (ne_of_none q hn)]; exact q) fun c xs q => by rw [upd_ne (ne_of_none q hn)]; exact q
end

/-- what may be read as u: it is u, or a known u -/
def Rd (H : Hp) (a : Addr) (u : HO) : Prop := H a = some u ∨ ∃ o, H a = some (.frz o u)
theorem Rd.ok {P : Program} {w : World} {H : Hp} {h : Heap} {a : Addr} {u : HO} (r : Rd H a u) (x : HOk P w H h) : ObjOk P w H h a u := by
  rcases r with r | ⟨o, r⟩
  · exact x a u r
  · obtain ⟨_, q⟩ := x a _ r
    exact q
/-- what may be written -/
def Mut : Option HO → Prop
  | some (.lst _) => True
  | some (.dK _) => True
  | some (.dT _) => True
  | some (.set _ _) => True
  | some (.ins _ _ _) => True
  | some (.ext _) => True
  | _ => False
section
variable {P : Program} {w : World} {H : Hp} {h h' : Heap} {x e : Addr} {o' : HO}
/-- the object at e is changed: x itself, or the dict of the instance x -/
theorem HOk.write (ok : HOk P w H h) (mu : Mut (H x)) (he : e = x ∨ H e = some (.own x)) (k : ∀ b u, b ≠ e → h.get? b = some u → h'.get? b = some u) (heo : ∃ u, h'.get? e = some u)
    (new : ObjOk P w (upd H x o') h' x o') : HOk P w (upd H x o') h' := fun b u q => by
  have nown : ∀ c y, H c = some (.own y) → c ≠ x := fun c y r z => by subst z; rw [r] at mu; exact mu
  have ntup : ∀ c xs, H c = some (.tup xs) → c ≠ x := fun c xs r z => by subst z; rw [r] at mu; exact mu
  by_cases hb : b = x
  · subst hb; rw [upd_same] at q; cases q; exact new
  · rw [upd_ne hb] at q
    by_cases hbe : b = e
    · have q' : H b = some (.own x) := by
        rcases he with z | z
        · exact absurd (hbe.trans z) hb
        · rw [hbe]; exact z
      rw [q] at q'; cases q'
      obtain ⟨v, hv⟩ := heo
      exact ⟨v, by rw [hbe]; exact hv⟩
    · refine (ok b u q).stay (fun c v hc r => k c v ?_ r) (fun c r => by rw [upd_ne (nown c b r)]; exact r) fun c xs r => by rw [upd_ne (ntup c xs r)]; exact r
      rcases hc with rfl | hc
      · exact hbe
      · rintro rfl
        rcases he with z | z
        · exact nown c b hc z
        · rw [hc] at z; cases z; exact hb rfl
end

/-! ### kept unless tracked; of the frames at fs (the callers') the slots may change (an exception that passes writes there); of the records at ex (iterators) nothing is said -/
structure Un (fs ex : List Addr) (H H' : Hp) (h h' : Heap) : Prop where
  keep : ∀ b o, h.get? b = some o → H b = none → b ∉ fs → b ∉ ex → h'.get? b = some o
  slot : ∀ b o, h.get? b = some o → H b = none → b ∈ fs → b ∉ ex → ∃ sl, h'.get? b = some { o with slots := sl }
  free : ∀ b o, h.get? b = some o → H b = none → b ∉ ex → H' b = none
  there : ∀ b o, h.get? b = some o → b ∉ ex → ∃ o', h'.get? b = some o'
  tups : ∀ b xs, H b = some (.tup xs) → H' b = some (.tup xs)
  frzs : ∀ b o u, H b = some (.frz o u) → H' b = some (.frz o u)
  tbls : ∀ b ps, H b = some (.tbl ps) → ∃ more, H' b = some (.tbl (ps ++ more))
section
variable {fs fs' ex ex' : List Addr} {H H1 H2 : Hp} {h h1 h2 h' : Heap} {a x e : Addr} {o : HO}
theorem Un.any (u : Un fs ex H H1 h h1) {b : Addr} {ob : Obj} (q : h.get? b = some ob) (n : H b = none) (hx : b ∉ ex) : ∃ sl, h1.get? b = some { ob with slots := sl } := by
  by_cases hb : b ∈ fs
  · exact u.slot b ob q n hb hx
  · exact ⟨ob.slots, u.keep b ob q n hb hx⟩
theorem Un.kept (k : ∀ b u, h.get? b = some u → h'.get? b = some u) : Un fs ex H H h h' :=
  ⟨fun b ob q _ _ _ => k b ob q, fun b ob q _ _ _ => ⟨ob.slots, k b ob q⟩, fun _ _ _ n _ => n, fun b ob q _ => ⟨ob, k b ob q⟩, fun _ _ q => q, fun _ _ _ q => q, fun _ ps q => ⟨#[], by rw [q]; simp⟩⟩
theorem Un.refl : Un fs ex H H h h := Un.kept fun _ _ q => q
theorem Un.laid (k : ∀ b u, h.get? b = some u → h'.get? b = some u) (hp : h.objs.size ≤ a) (hn : H a = none) : Un fs ex H (upd H a o) h h' where
  keep := fun b u q _ _ _ => k b u q
  slot := fun b u q _ _ _ => ⟨u.slots, k b u q⟩
  free := fun b u q n _ => by rw [upd_ne (Nat.ne_of_lt (Nat.lt_of_lt_of_le (Heap.lt_size q) hp))]; exact n
  there := fun b u q _ => ⟨u, k b u q⟩
  tups := fun b xs q => by rw [upd_ne (ne_of_none q hn)]; exact q
  frzs := fun b u xs q => by rw [upd_ne (ne_of_none q hn)]; exact q
  tbls := fun b ps q => ⟨#[], by rw [upd_ne (ne_of_none q hn), q]; simp⟩
theorem Un.write (mu : Mut (H x)) (he : e = x ∨ H e = some (.own x)) (k : ∀ b u, b ≠ e → h.get? b = some u → h'.get? b = some u) (heo : ∃ u, h'.get? e = some u) : Un fs ex H (upd H x o) h h' := by
  have hx : ∀ b, H b = none → b ≠ x := fun b n z => by subst z; rw [n] at mu; exact mu
  have hb : ∀ b, H b = none → b ≠ e := fun b n z => by
    subst z
    rcases he with r | r
    · exact hx b n r
    · rw [n] at r; cases r
  have hm : ∀ b u, H b = some u → ¬ Mut (some u) → b ≠ x := fun b u q nm z => by subst z; rw [q] at mu; exact nm mu
  refine ⟨fun b u q n _ _ => k b u (hb b n) q, fun b u q n _ _ => ⟨u.slots, k b u (hb b n) q⟩, fun b u q n _ => by rw [upd_ne (hx b n)]; exact n, fun b u q _ => ?_,
    fun b xs q => by rw [upd_ne (hm b _ q fun z => z)]; exact q, fun b u xs q => by rw [upd_ne (hm b _ q fun z => z)]; exact q, fun b ps q => ⟨#[], by rw [upd_ne (hm b _ q fun z => z), q]; simp⟩⟩
  by_cases hbe : b = e
  · subst hbe; exact heo
  · exact ⟨u, k b u hbe q⟩
end

/-! ### the heap without what is tracked -/
def trk (h : Heap) (H : Hp) : List Addr := (List.range h.objs.size).filter fun a => (H a).isSome
def hidT (h : Heap) (H : Hp) : Heap := PySem.W.hideAll h (trk h H)
theorem hidT_size (h : Heap) (H : Hp) : (hidT h H).objs.size = h.objs.size := PySem.W.hideAll_size _ _
theorem hidT_get {h : Heap} {H : Hp} {b : Addr} {o : Obj} (e : h.get? b = some o) (n : H b = none) : (hidT h H).get? b = some o :=
  PySem.W.hideAll_get _ e fun hm => by
    have q : (H b).isSome = true := (List.mem_filter.mp hm).2
    rw [n] at q; simp at q
theorem of_hidT {h : Heap} {H : Hp} {b : Addr} {o : Obj} (e : (hidT h H).get? b = some o) : h.get? b = some o ∧ H b = none := by
  have e' : h.get? b = some o := PySem.W.of_hideAll (trk h H) e
  refine ⟨e', ?_⟩
  cases q : H b with
  | none => rfl
  | some x =>
    have hm : b ∈ trk h H := List.mem_filter.mpr ⟨List.mem_range.mpr (Heap.lt_size e'), by simp [q]⟩
    have z : (hidT h H).get? b = none := PySem.W.hideAll_none (trk h H) hm
    rw [z] at e; cases e

/-! ### OpenK's ledger, filled with every new object but one -/
end L2

namespace L2
open PySem PySem.Spec PyProof.Rows

/-- the module's facts, over the base: the heap at the law's entry without what is tracked there -/
structure Mod (K : PySem.W.Frag) (mg : Str → Option Value) (base : Heap) : Prop where
  kin : K.In base
  glob : base.Ns mainGlobals mg
  blt : ∃ mb, base.Ns builtinsNs mb ∧ ∀ x : Str, x ≠ "__name__" → mb x = bootBuiltins x
  nolimit : base.NoLimit

/-- the context: a def's body (or a comprehension's block) running. base: fixed through the whole law; s₀, H₀: the entry; outer: the frames whose slots others may change (a def's callers); stack: all frames that run;
   ex: iterators that were made ahead of the entry and are walked here (a comprehension's); fn: the names whose cells were made at the entry (a def: all; a comprehension's block: its own); calm: not within an except suite; pn: pins that every state bears; xe: what is wanted of an exception that leaves the code -/
structure Cx where
  prog : Program
  w : World
  K : PySem.W.Frag
  mg : Str → Option Value
  base : Heap
  A : Around
  N : List Str
  s₀ : Shared
  H₀ : Hp
  env : Env
  outer : List Env
  stack : List Env
  ex : List Addr
  fn : Str → Bool
  calm : Bool
  pn : List (Addr × Obj)
  xe : Value → Shared → Prop
/-- the callers' frames -/
def frs (l : List Env) : List Addr := l.filterMap (·.frame)
abbrev Cx.fs (X : Cx) : List Addr := frs X.outer

def Vis (sc : Scope) (x : Str) : Prop := sc.names.lookup x = some .local ∨ sc.names.lookup x = some .cell ∨ sc.names.lookup x = some .free
def Loc (sc : Scope) (x : Str) : Prop := sc.names.lookup x = some .local ∨ sc.names.lookup x = some .cell
def Look (env : Env) (h : Heap) (m : Str → Option Value) (x : Str) (u : Value) : Prop :=
  (env.kindOf x = some .local ∧ m x = some u) ∨ ((env.kindOf x = some .cell ∨ env.kindOf x = some .free) ∧ ∃ c, env.cells.lookup x = some c ∧ h.IsCell c (some u))

structure Cx.Ok (X : Cx) : Prop where
  mod : Mod X.K X.mg X.base
  kind : X.env.scope.kind = .function
  glob : X.env.globals = mainGlobals
  blt : X.env.builtins = builtinsNs
  above : X.s₀.heap.objs.size ≤ X.env.locals
  inj : ∀ x y c, X.env.cells.lookup x = some c → X.env.cells.lookup y = some c → x = y
  has : ∀ x, (X.env.kindOf x = some .cell ∨ X.env.kindOf x = some .free) → ∃ c, X.env.cells.lookup x = some c
  cab : ∀ x c, X.fn x = true → X.env.cells.lookup x = some c → X.s₀.heap.objs.size ≤ c
  hd : X.calm = true → X.A.handled = none
  frames : X.A.frames = some X.stack
  stk : X.stack = X.outer ∨ (X.stack = X.env :: X.outer ∧ X.env.frame = some X.env.locals)
  exf : ∀ b ∈ X.ex, b ≠ X.env.locals ∧ ∀ x c, X.env.cells.lookup x = some c → c ≠ b
  bs : ∀ b o, X.base.get? b = some o → X.s₀.heap.get? b = some o ∧ X.H₀ b = none
  bsz : X.base.objs.size ≤ X.s₀.heap.objs.size
  noex : ∀ b o, X.base.get? b = some o → b ∉ X.ex
  exfs : ∀ b ∈ X.ex, b ∉ X.fs
  funs : X.s₀.heap.FunFrames X.base X.outer
  frf : ∀ b ∈ X.fs, X.H₀ b = none

structure Inv (X : Cx) (pins : List (Addr × Obj)) (σ : List (Option V)) (H : Hp) (s : Shared) : Prop where
  ok : X.Ok
  os : s.os = X.s₀.os
  bare : AllBare s.gens
  base : Un X.fs X.ex X.H₀ H X.s₀.heap s.heap
  loc : ∃ m, s.heap.Ns X.env.locals m ∧ ∀ (i : Nat) (x : Str) (v : V), X.N[i]? = some x → σ[i]? = some (some v) → Vis X.env.scope x → ∃ u, RelV v u ∧ Look X.env s.heap m x u
  cell : ∀ x c, X.env.cells.lookup x = some c → ∃ v, s.heap.IsCell c v
  free : H X.env.locals = none
  freeC : ∀ x c, X.env.cells.lookup x = some c → H c = none
  pin : ∀ p ∈ X.pn ++ pins, s.heap.get? p.1 = some p.2 ∧ H p.1 = none ∧ p.1 ≠ X.env.locals ∧ p.1 ∉ X.fs ∧ ∀ v, p.2.data ≠ .cell v
  hok : HOk X.prog X.w H s.heap
  len : σ.length = X.N.length

section
variable {X : Cx} {pins : List (Addr × Obj)} {σ : List (Option V)} {H H' : Hp} {s : Shared} {h' : Heap}

theorem Cx.Ok.nofr (ok : X.Ok) {b : Addr} {o : Obj} (e : X.base.get? b = some o) : b ∉ X.fs := fun hb => by
  have := (ok.funs.mem hb).1
  rw [e] at this; cases this
theorem Inv.bs (I : Inv X pins σ H s) : ∀ b o, X.base.get? b = some o → s.heap.get? b = some o ∧ H b = none := fun b o e =>
  ⟨I.base.keep b o (I.ok.bs b o e).1 (I.ok.bs b o e).2 (I.ok.nofr e) (I.ok.noex b o e), I.base.free b o (I.ok.bs b o e).1 (I.ok.bs b o e).2 (I.ok.noex b o e)⟩
theorem Inv.bk (I : Inv X pins σ H s) : ∀ b o, X.base.get? b = some o → s.heap.get? b = some o := fun b o e => (I.bs b o e).1
theorem Inv.mod (I : Inv X pins σ H s) : Mod X.K X.mg X.base := I.ok.mod
theorem Inv.kIn (I : Inv X pins σ H s) : X.K.In s.heap := I.ok.mod.kin.keeps I.bk
theorem Inv.lt (I : Inv X pins σ H s) : X.env.locals < s.heap.objs.size := let ⟨_, hn, _⟩ := I.loc; hn.lt
theorem Inv.sz (I : Inv X pins σ H s) : X.s₀.heap.objs.size ≤ s.heap.objs.size := Nat.le_trans I.ok.above (Nat.le_of_lt I.lt)
theorem Inv.nofs (I : Inv X pins σ H s) {a : Addr} (h : s.heap.objs.size ≤ a) : a ∉ X.fs := fun hb => by
  obtain ⟨_, o, ho, _⟩ := I.ok.funs.mem hb
  exact absurd (Nat.lt_of_lt_of_le (Heap.lt_size ho) (Nat.le_trans I.sz h)) (Nat.lt_irrefl _)
theorem Inv.cne (I : Inv X pins σ H s) : ∀ x c, X.env.cells.lookup x = some c → c ≠ X.env.locals := fun x c e z => by
  obtain ⟨v, o, ho, hd⟩ := I.cell x c e
  obtain ⟨m, ⟨o', es, ep, ho', hd', _⟩, _⟩ := I.loc
  rw [z, ho'] at ho; cases ho; rw [hd'] at hd; cases hd
theorem Inv.funs (I : Inv X pins σ H s) : s.heap.FunFrames X.base X.outer := by
  have all : ∀ (l : List Env), (∀ b ∈ frs l, b ∈ X.fs) → X.s₀.heap.FunFrames X.base l → s.heap.FunFrames X.base l := by
    intro l
    induction l with
    | nil => intro _ _; trivial
    | cons env r ih =>
      intro hs hl
      obtain ⟨hk, ⟨L, o, hf, hn, ho, hd⟩, hr⟩ := hl
      have hL : L ∈ X.fs := hs L (by unfold frs; rw [List.filterMap_cons, hf]; exact List.mem_cons_self)
      obtain ⟨sl, e⟩ := I.base.slot L o ho (I.ok.frf L hL) hL fun z => I.ok.exfs L z hL
      exact ⟨hk, ⟨L, _, hf, hn, e, hd⟩, ih (fun b hb => hs b (by unfold frs; rw [List.filterMap_cons, hf]; exact List.mem_cons_of_mem _ hb)) hr⟩
  exact all X.outer (fun _ hb => hb) I.ok.funs

/-- the frames that run, for a call -/
theorem Inv.stack (I : Inv X pins σ H s) : s.heap.FunFrames X.base X.stack := by
  rcases I.ok.stk with e | ⟨e, hf⟩
  · rw [e]; exact I.funs
  · rw [e]
    obtain ⟨m, hn, _⟩ := I.loc
    refine .cons (by rw [I.ok.kind]; decide) hf hn ?_ I.funs
    exact Heap.get?_none_of_le (Nat.le_trans I.ok.bsz I.ok.above)
theorem Inv.stkSub (I : Inv X pins σ H s) : ∀ b ∈ frs X.stack, b ∈ X.env.locals :: X.fs := fun b hb => by
  rcases I.ok.stk with e | ⟨e, hf⟩
  · rw [e] at hb; exact List.mem_cons_of_mem _ hb
  · rw [e] at hb
    unfold frs at hb
    rw [List.filterMap_cons, hf] at hb
    exact hb
theorem Inv.stkFree (I : Inv X pins σ H s) : ∀ b ∈ frs X.stack, H b = none := fun b hb => by
  rcases List.mem_cons.mp (I.stkSub b hb) with e | hb
  · rw [e]; exact I.free
  · obtain ⟨_, o, ho, _⟩ := I.ok.funs.mem hb
    exact I.base.free b o ho (I.ok.frf b hb) fun z => I.ok.exfs b z hb

/-- THE STEP: the untracked objects but the frame and the records at ch are kept (the callers' frames up to slots), the frame's map is kept, the new abstract heap is held -/
theorem Inv.step {g' : Array GenState} {t' : Nat} {d' : Drawn} {ch : List Addr} (I : Inv X pins σ H s)
    (hch : ∀ b ∈ ch, (b ∈ X.ex ∨ X.s₀.heap.objs.size ≤ b) ∧ b ≠ X.env.locals ∧ (∀ x c, X.env.cells.lookup x = some c → c ≠ b) ∧ ∀ p ∈ X.pn ++ pins, p.1 ≠ b)
    (keep : ∀ b o, b ≠ X.env.locals → b ∉ X.fs → b ∉ ch → s.heap.get? b = some o → H b = none → h'.get? b = some o)
    (slot : ∀ b o, b ≠ X.env.locals → b ∈ X.fs → b ∉ ch → s.heap.get? b = some o → H b = none → ∃ sl, h'.get? b = some { o with slots := sl }) (free : ∀ b o, b ∉ ch → s.heap.get? b = some o → H b = none → H' b = none)
    (there : ∀ b o, b ∉ ch → s.heap.get? b = some o → ∃ o', h'.get? b = some o')
    (tups : ∀ b xs, H b = some (.tup xs) → H' b = some (.tup xs)) (frzs : ∀ b o u, H b = some (.frz o u) → H' b = some (.frz o u)) (tbls : ∀ b ps, H b = some (.tbl ps) → ∃ more, H' b = some (.tbl (ps ++ more)))
    (ns : ∀ m, s.heap.Ns X.env.locals m → h'.Ns X.env.locals m) (hok : HOk X.prog X.w H' h') (hg : AllBare g') :
    Inv X pins σ H' { s with heap := h', gens := g', drawn := d', toks := t' } := by
  have neL : ∀ b o, X.s₀.heap.get? b = some o → b ≠ X.env.locals := fun b o e => Nat.ne_of_lt (Nat.lt_of_lt_of_le (Heap.lt_size e) I.ok.above)
  have neC : ∀ b o, X.s₀.heap.get? b = some o → b ∉ X.ex → b ∉ ch := fun b o e hx hb => by
    rcases (hch b hb).1 with z | z
    · exact hx z
    · exact absurd (Nat.lt_of_lt_of_le (Heap.lt_size e) z) (Nat.lt_irrefl _)
  have cellK : ∀ x c, X.env.cells.lookup x = some c → ∀ v, s.heap.IsCell c v → h'.IsCell c v := fun x c e v ⟨o, ho, hd⟩ => by
    have nch : c ∉ ch := fun z => (hch c z).2.2.1 x c e rfl
    by_cases hc : c ∈ X.fs
    · obtain ⟨sl, q⟩ := slot c o (I.cne x c e) hc nch ho (I.freeC x c e)
      exact ⟨_, q, hd⟩
    · exact ⟨o, keep c o (I.cne x c e) hc nch ho (I.freeC x c e), hd⟩
  refine ⟨I.ok, I.os, hg, ⟨fun b o e n hb hx => ?_, fun b o e n hb hx => ?_, fun b o e n hx => ?_, fun b o e hx => ?_, fun b xs e => tups b xs (I.base.tups b xs e), fun b o xs e => frzs b o xs (I.base.frzs b o xs e), fun b ps e => ?_⟩, ?_, fun x c e => ?_, ?_, fun x c e => ?_, fun p hp => ?_, hok, I.len⟩
  · exact keep b o (neL b o e) hb (neC b o e hx) (I.base.keep b o e n hb hx) (I.base.free b o e n hx)
  · obtain ⟨sl, e1⟩ := I.base.slot b o e n hb hx
    obtain ⟨sl', e2⟩ := slot b _ (neL b o e) hb (neC b o e hx) e1 (I.base.free b o e n hx)
    exact ⟨sl', e2⟩
  · obtain ⟨o', e1⟩ := I.base.there b o e hx
    exact free b o' (neC b o e hx) e1 (I.base.free b o e n hx)
  · obtain ⟨o', e1⟩ := I.base.there b o e hx
    exact there b o' (neC b o e hx) e1
  · obtain ⟨m1, e1⟩ := I.base.tbls b ps e
    obtain ⟨m2, e2⟩ := tbls b _ e1
    exact ⟨m1 ++ m2, by rw [e2, Array.append_assoc]⟩
  · obtain ⟨m, hn, hl⟩ := I.loc
    refine ⟨m, ns m hn, fun i x v e1 e2 e3 => ?_⟩
    obtain ⟨u, r, l⟩ := hl i x v e1 e2 e3
    refine ⟨u, r, ?_⟩
    rcases l with l | ⟨k, c, e, z⟩
    · exact .inl l
    · exact .inr ⟨k, c, e, cellK x c e _ z⟩
  · obtain ⟨v, z⟩ := I.cell x c e
    exact ⟨v, cellK x c e v z⟩
  · obtain ⟨m, ⟨o, _, _, ho, _⟩, _⟩ := I.loc
    exact free _ o (fun z => (hch _ z).2.1 rfl) ho I.free
  · obtain ⟨v, o, ho, hd⟩ := I.cell x c e
    exact free c o (fun z => (hch c z).2.2.1 x c e rfl) ho (I.freeC x c e)
  · obtain ⟨e, n, ne, nf, d⟩ := I.pin p hp
    have nch : p.1 ∉ ch := fun z => (hch p.1 z).2.2.2 p hp rfl
    exact ⟨keep p.1 p.2 ne nf nch e n, free p.1 p.2 nch e n, ne, nf, d⟩
/-- .. where the frame's own object is kept too -/
theorem Inv.un {t' : Nat} (I : Inv X pins σ H s) (u : Un X.fs [] H H' s.heap h') (hok : HOk X.prog X.w H' h') : Inv X pins σ H' { s with heap := h', toks := t' } := by
  obtain ⟨m, ⟨o, es, ep, ho, r⟩, _⟩ := id I.loc
  obtain ⟨sl, hL⟩ := u.any ho I.free (by simp)
  exact I.step (g' := s.gens) (d' := s.drawn) (ch := []) (fun _ z => nomatch z) (fun b o _ hb _ e n => u.keep b o e n hb (by simp)) (fun b o _ hb _ e n => u.slot b o e n hb (by simp)) (fun b o _ e n => u.free b o e n (by simp)) (fun b o _ e => u.there b o e (by simp)) u.tups u.frzs u.tbls (fun m' hm => by
    obtain ⟨o', es', ep', ho', r'⟩ := hm
    rw [ho] at ho'; cases ho'
    exact ⟨_, es', ep', hL, r'⟩) hok I.bare
/-- behind a call (or a comprehension's block): the slots of this frame may have changed too, the records at ch may have turned -/
theorem Inv.call {g' : Array GenState} {t' : Nat} {d' : Drawn} {ch : List Addr} (I : Inv X pins σ H s) (u : Un (frs X.stack) ch H H' s.heap h') (hok : HOk X.prog X.w H' h') (hg : AllBare g')
    (hch : ∀ b ∈ ch, (b ∈ X.ex ∨ X.s₀.heap.objs.size ≤ b) ∧ b ≠ X.env.locals ∧ (∀ x c, X.env.cells.lookup x = some c → c ≠ b) ∧ ∀ p ∈ X.pn ++ pins, p.1 ≠ b) :
    Inv X pins σ H' { s with heap := h', gens := g', drawn := d', toks := t' } := by
  obtain ⟨m, ⟨o, es, ep, ho, r⟩, _⟩ := id I.loc
  obtain ⟨sl, hL⟩ := u.any ho I.free fun z => (hch _ z).2.1 rfl
  exact I.step (ch := ch) hch (fun b o hL hb hc e n => u.keep b o e n (fun z => (List.mem_cons.mp (I.stkSub b z)).elim hL hb) hc) (fun b o _ _ hc e n => u.any e n hc) (fun b o hc e n => u.free b o e n hc) (fun b o hc e => u.there b o e hc) u.tups u.frzs u.tbls (fun m' hm => by
    obtain ⟨o', es', ep', ho', r'⟩ := hm
    rw [ho] at ho'; cases ho'
    exact ⟨_, es', ep', hL, r'⟩) hok hg
/-- an untracked record of ours (an iterator) has turned -/
theorem Inv.turned {t' : Nat} {it : Addr} (I : Inv X pins σ H s) (k : ∀ b o, b ≠ it → s.heap.get? b = some o → h'.get? b = some o) (hn : H it = none) (hL : it ≠ X.env.locals)
    (h1 : it ∈ X.ex ∨ X.s₀.heap.objs.size ≤ it) (h2 : ∀ x c, X.env.cells.lookup x = some c → c ≠ it) (h3 : ∀ p ∈ X.pn ++ pins, p.1 ≠ it) : Inv X pins σ H { s with heap := h', toks := t' } := by
  have nit : ∀ b u, H b = some u → b ≠ it := fun b u e z => by rw [z, hn] at e; cases e
  refine I.step (g' := s.gens) (d' := s.drawn) (ch := [it]) (fun b hb => ?_) (fun b o _ _ hc e _ => k b o (fun z => hc (by simp [z])) e) (fun b o _ _ hc e _ => ⟨o.slots, k b o (fun z => hc (by simp [z])) e⟩) (fun _ _ _ _ n => n)
    (fun b o hc e => ⟨o, k b o (fun z => hc (by simp [z])) e⟩) (fun _ _ e => e) (fun _ _ _ e => e) (fun b ps e => ⟨#[], by rw [e]; simp⟩) (fun m hm => ?_) (fun b u e => ?_) I.bare
  · have e : b = it := by simpa using hb
    subst e
    exact ⟨h1, hL, h2, h3⟩
  · obtain ⟨o, es, ep, ho, r⟩ := hm
    exact ⟨o, es, ep, k _ o (Ne.symm hL) ho, r⟩
  · refine (I.hok b u e).stay (fun c v hc q => k c v ?_ q) (fun _ q => q) fun _ _ q => q
    rcases hc with z | z
    · rw [z]; exact nit b u e
    · exact nit c _ z
theorem Inv.tok (I : Inv X pins σ H s) (t : Nat) : Inv X pins σ H { s with toks := t } := I.un (h' := s.heap) (t' := t) Un.refl I.hok
/-- all objects kept -/
theorem Inv.kept {t' : Nat} (I : Inv X pins σ H s) (k : ∀ b u, s.heap.get? b = some u → h'.get? b = some u) : Inv X pins σ H { s with heap := h', toks := t' } := I.un (Un.kept k) (I.hok.kept k)
/-- a new object laid and tracked -/
theorem Inv.laid {a : Addr} {o : HO} {t' : Nat} (I : Inv X pins σ H s) (k : ∀ b u, s.heap.get? b = some u → h'.get? b = some u) (hp : s.heap.objs.size ≤ a) (new : ObjOk X.prog X.w (upd H a o) h' a o) :
    Inv X pins σ (upd H a o) { s with heap := h', toks := t' } := I.un (Un.laid k hp (I.hok.fresh hp)) (I.hok.laid k hp new)
/-- an object written -/
theorem Inv.write {x e : Addr} {o : HO} {t' : Nat} (I : Inv X pins σ H s) (mu : Mut (H x)) (he : e = x ∨ H e = some (.own x)) (k : ∀ b u, b ≠ e → s.heap.get? b = some u → h'.get? b = some u) (heo : ∃ u, h'.get? e = some u)
    (new : ObjOk X.prog X.w (upd H x o) h' x o) : Inv X pins σ (upd H x o) { s with heap := h', toks := t' } := I.un (Un.write mu he k heo) (I.hok.write mu he k heo new)
/-- forgetting slots, pins -/
theorem Inv.weak {σ' : List (Option V)} (I : Inv X pins σ H s) (hl : σ'.length = σ.length) (w : ∀ (i : Nat) v, σ'[i]? = some (some v) → σ[i]? = some (some v)) : Inv X pins σ' H s :=
  ⟨I.ok, I.os, I.bare, I.base, let ⟨m, hn, hl'⟩ := I.loc; ⟨m, hn, fun i x v e1 e2 e3 => hl' i x v e1 (w i v e2) e3⟩, I.cell, I.free, I.freeC, I.pin, I.hok, hl.trans I.len⟩
theorem Inv.pins_of {pins' : List (Addr × Obj)} (I : Inv X pins σ H s) (h : ∀ p ∈ pins', s.heap.get? p.1 = some p.2 ∧ H p.1 = none ∧ p.1 ≠ X.env.locals ∧ p.1 ∉ X.fs ∧ ∀ v, p.2.data ≠ .cell v) : Inv X pins' σ H s :=
  ⟨I.ok, I.os, I.bare, I.base, I.loc, I.cell, I.free, I.freeC, fun p hp => (List.mem_append.mp hp).elim (fun z => I.pin p (List.mem_append_left _ z)) (h p), I.hok, I.len⟩

theorem nodup_ix {N : List Str} (hN : N.Nodup) {i j : Nat} {x : Str} (a : N[i]? = some x) (b : N[j]? = some x) : i = j := by
  obtain ⟨h1, e1⟩ := List.getElem?_eq_some_iff.mp a
  obtain ⟨h2, e2⟩ := List.getElem?_eq_some_iff.mp b
  exact (List.getElem_inj hN).mp (e1.trans e2.symm)

/-- a name is stored; what changed -/
theorem store_ok2 {M : Model} {A : Around} {E : Value → Shared → Prop} {i : Nat} {x : Str} {v : V} {u : Value} {Q : Unit → Shared → Prop} (I : Inv X pins σ H s) (hN : X.N.Nodup) (hi : X.N[i]? = some x) (hx : Loc X.env.scope x) (r : RelV v u)
    (h : ∀ s', Inv X pins (σ.set i (some v)) H s' → (∃ a, Heap.SameBut a s.heap s'.heap ∧ (a = X.env.locals ∨ X.env.cells.lookup x = some a)) → Q () s') (hf : X.fn x = true ∨ X.env.scope.names.lookup x = some .local := by first | exact .inl rfl | exact .inr rfl | assumption) : wpAny M A (storeName X.env x u) Q E s := by
  obtain ⟨m, hn, hl⟩ := id I.loc
  have hcls : (X.env.scope.kind == .class || (X.env.scope.kind == .module && X.env.locals != X.env.globals)) = false := by rw [I.ok.kind]; rfl
  have hiσ : i < σ.length := by rw [I.len]; exact (List.getElem?_eq_some_iff.mp hi).1
  have cne := I.cne
  have tracked : ∀ {a : Addr} {h' : Heap}, (∃ o, s.heap.get? a = some o ∧ H a = none) → Heap.SameBut a s.heap h' → HOk X.prog X.w H h' := fun {a h'} ha hs b ob e => by
    obtain ⟨_, _, hfree⟩ := ha
    refine (I.hok b ob e).stay (fun c w' hc q => (hs.2 c ?_).trans q) (fun _ q => q) fun _ _ q => q
    rintro rfl
    rcases hc with rfl | hc
    · rw [hfree] at e; cases e
    · rw [hfree] at hc; cases hc
  rcases hx with hk | hk
  · refine wpAny_storeName_local hk hn (fun h' hn' hs => ?_) hcls
    obtain ⟨oL, _, _, hoL, _⟩ := id hn
    refine h _ ⟨I.ok, I.os, I.bare, ⟨fun b o e n hb hx => ?_, fun b o e n hb hx => ?_, I.base.free, fun b o e hx => ?_, I.base.tups, I.base.frzs, I.base.tbls⟩, ⟨_, hn', fun j y v' e1 e2 e3 => ?_⟩, fun y c e => ?_, I.free, I.freeC, fun p hp => ?_, tracked ⟨oL, hoL, I.free⟩ hs, by simpa using I.len⟩ ⟨_, hs, .inl rfl⟩
    · exact (hs.2 b (Nat.ne_of_lt (Nat.lt_of_lt_of_le (Heap.lt_size e) I.ok.above))).trans (I.base.keep b o e n hb hx)
    · obtain ⟨sl, e1⟩ := I.base.slot b o e n hb hx
      exact ⟨sl, (hs.2 b (Nat.ne_of_lt (Nat.lt_of_lt_of_le (Heap.lt_size e) I.ok.above))).trans e1⟩
    · obtain ⟨o', e1⟩ := I.base.there b o e hx
      exact ⟨o', (hs.2 b (Nat.ne_of_lt (Nat.lt_of_lt_of_le (Heap.lt_size e) I.ok.above))).trans e1⟩
    · by_cases hj : j = i
      · subst hj
        rw [hi] at e1; cases e1
        rw [List.getElem?_set_self hiσ] at e2
        cases e2
        exact ⟨u, r, .inl ⟨hk, by simp⟩⟩
      · rw [List.getElem?_set_ne (Ne.symm hj)] at e2
        obtain ⟨u', r', q⟩ := hl j y v' e1 e2 e3
        refine ⟨u', r', ?_⟩
        rcases q with ⟨k, e⟩ | ⟨k, c, e, z⟩
        · refine .inl ⟨k, ?_⟩
          have : y ≠ x := fun e => hj (nodup_ix hN e1 (e ▸ hi))
          simp [this, e]
        · exact .inr ⟨k, c, e, z.sameBut hs (cne y c e)⟩
    · obtain ⟨w', z⟩ := I.cell y c e
      exact ⟨w', z.sameBut hs (cne y c e)⟩
    · obtain ⟨e, n, ne, nf, d⟩ := I.pin p hp
      exact ⟨(hs.2 p.1 ne).trans e, n, ne, nf, d⟩
  · have hfn : X.fn x = true := by
      rcases hf with z | z
      · exact z
      · rw [z] at hk; cases hk
    obtain ⟨c, hc⟩ := I.ok.has x (.inl hk)
    obtain ⟨w', z⟩ := I.cell x c hc
    refine wpAny_storeName_cell I.ok.kind hk hc z (fun h' hc' hs => ?_)
    obtain ⟨oc, hoc, hocd⟩ := id z
    refine h { s with heap := h' } ⟨I.ok, I.os, I.bare, ⟨fun b o e n hb hx => ?_, fun b o e n hb hx => ?_, I.base.free, fun b o e hx => ?_, I.base.tups, I.base.frzs, I.base.tbls⟩, ⟨m, hn.sameBut hs (Ne.symm (cne x c hc)), fun j y v' e1 e2 e3 => ?_⟩, fun y c' e => ?_, I.free, I.freeC, fun p hp => ?_, tracked ⟨oc, hoc, I.freeC x c hc⟩ hs, by simpa using I.len⟩ ⟨c, hs, .inr hc⟩
    · exact (hs.2 b (Nat.ne_of_lt (Nat.lt_of_lt_of_le (Heap.lt_size e) (I.ok.cab x c hfn hc)))).trans (I.base.keep b o e n hb hx)
    · obtain ⟨sl, e1⟩ := I.base.slot b o e n hb hx
      exact ⟨sl, (hs.2 b (Nat.ne_of_lt (Nat.lt_of_lt_of_le (Heap.lt_size e) (I.ok.cab x c hfn hc)))).trans e1⟩
    · obtain ⟨o', e1⟩ := I.base.there b o e hx
      exact ⟨o', (hs.2 b (Nat.ne_of_lt (Nat.lt_of_lt_of_le (Heap.lt_size e) (I.ok.cab x c hfn hc)))).trans e1⟩
    · by_cases hj : j = i
      · subst hj
        rw [hi] at e1; cases e1
        rw [List.getElem?_set_self hiσ] at e2
        cases e2
        exact ⟨u, r, .inr ⟨.inl hk, c, hc, hc'⟩⟩
      · rw [List.getElem?_set_ne (Ne.symm hj)] at e2
        obtain ⟨u', r', q⟩ := hl j y v' e1 e2 e3
        refine ⟨u', r', ?_⟩
        rcases q with q | ⟨k, c', e, z'⟩
        · exact .inl q
        · refine .inr ⟨k, c', e, z'.sameBut hs ?_⟩
          rintro rfl
          exact hj (nodup_ix hN e1 (I.ok.inj _ _ _ e hc ▸ hi))
    · by_cases hcc : c' = c
      · subst hcc; exact ⟨_, hc'⟩
      · obtain ⟨w2, z2⟩ := I.cell y c' e
        exact ⟨w2, z2.sameBut hs hcc⟩
    · obtain ⟨e, n, ne, nf, d⟩ := I.pin p hp
      refine ⟨(hs.2 p.1 ?_).trans e, n, ne, nf, d⟩
      intro q
      rw [q, hoc] at e
      have q' : oc = p.2 := Option.some.inj e
      exact d w' (by rw [← q']; exact hocd)
theorem store_ok {M : Model} {A : Around} {E : Value → Shared → Prop} {i : Nat} {x : Str} {v : V} {u : Value} {Q : Unit → Shared → Prop} (I : Inv X pins σ H s) (hN : X.N.Nodup) (hi : X.N[i]? = some x) (hx : Loc X.env.scope x) (r : RelV v u)
    (h : ∀ s', Inv X pins (σ.set i (some v)) H s' → Q () s') (hf : X.fn x = true ∨ X.env.scope.names.lookup x = some .local := by first | exact .inl rfl | exact .inr rfl | assumption) : wpAny M A (storeName X.env x u) Q E s :=
  store_ok2 I hN hi hx r (fun s' I' _ => h s' I') hf
/-- behind a call or a block, the state as it is -/
theorem Inv.call' {s' : Shared} {ch : List Addr} (I : Inv X pins σ H s) (ho : s'.os = s.os) (u : Un (frs X.stack) ch H H' s.heap s'.heap) (hok : HOk X.prog X.w H' s'.heap) (hg : AllBare s'.gens)
    (hch : ∀ b ∈ ch, (b ∈ X.ex ∨ X.s₀.heap.objs.size ≤ b) ∧ b ≠ X.env.locals ∧ (∀ x c, X.env.cells.lookup x = some c → c ≠ b) ∧ ∀ p ∈ X.pn ++ pins, p.1 ≠ b) : Inv X pins σ H' s' := by
  obtain ⟨h', g', d', t', o'⟩ := s'
  have e : o' = s.os := ho
  subst e
  exact I.call (g' := g') (t' := t') (d' := d') u hok hg hch
end

/-! ### the judgements -/
/-- an exception: its class, its own dict's address (where it has one), the abstract heap behind it -/
abbrev XK := Value → Option Addr → Hp → Prop
abbrev St := List (Option V)
abbrev VK := V → Hp → Prop
/-- an expression's reading; a test's; an argument list's -/
abbrev TE := St → Hp → VK → Prop
abbrev TT := St → Hp → (Bool → Hp → Prop) → Prop
abbrev TA := St → Hp → (List V → Hp → Prop) → Prop
/-- what is wanted behind a statement -/
structure Ends where
  nx : St → Hp → Prop
  rt : VK
  bk : St → Hp → Prop := fun _ _ => False
  ct : St → Hp → Prop := fun _ _ => False
abbrev TS := Ends → St → Hp → Prop

def EP (X : Cx) (pins : List (Addr × Obj)) (σ : St) (Q : VK) (u : Value) (s' : Shared) : Prop := ∃ v H', Inv X pins σ H' s' ∧ RelV v u ∧ Q v H'
def TP (X : Cx) (pins : List (Addr × Obj)) (σ : St) (Q : Bool → Hp → Prop) (b : Bool) (s' : Shared) : Prop := ∃ H', Inv X pins σ H' s' ∧ Q b H'
def AP (X : Cx) (pins : List (Addr × Obj)) (σ : St) (Q : List V → Hp → Prop) (us : List Value) (s' : Shared) : Prop := ∃ vs H', Inv X pins σ H' s' ∧ Vals vs us ∧ Q vs H'
def SP (X : Cx) (pins : List (Addr × Obj)) (D : Ends) (f : Flow) (s' : Shared) : Prop :=
  match f with
  | .next => ∃ σ' H', Inv X pins σ' H' s' ∧ D.nx σ' H'
  | .brk => ∃ σ' H', Inv X pins σ' H' s' ∧ D.bk σ' H'
  | .cont => ∃ σ' H', Inv X pins σ' H' s' ∧ D.ct σ' H'
  | .ret u => ∃ v σ' H', Inv X pins σ' H' s' ∧ RelV v u ∧ D.rt v H'

def PE (X : Cx) (e : Expr) (t : TE) : Prop :=
  ∀ (pins : List (Addr × Obj)) (s : Shared) (σ : St) (H : Hp) (Q : VK), Inv X pins σ H s → t σ H Q → wpAny (model X.prog X.w) X.A (eval e X.env) (EP X pins σ Q) X.xe s
def PT (X : Cx) (e : Expr) (t : TT) : Prop :=
  ∀ (pins : List (Addr × Obj)) (s : Shared) (σ : St) (H : Hp) (Q : Bool → Hp → Prop), Inv X pins σ H s → t σ H Q → wpAny (model X.prog X.w) X.A (isTrue e X.env (eval e X.env)) (TP X pins σ Q) X.xe s
/-- a test whatever its 'whole' is (and, or) -/
def PW (X : Cx) (e : Expr) (t : TT) : Prop :=
  ∀ (whole : Sem Value) (pins : List (Addr × Obj)) (s : Shared) (σ : St) (H : Hp) (Q : Bool → Hp → Prop), Inv X pins σ H s → t σ H Q → wpAny (model X.prog X.w) X.A (isTrue e X.env whole) (TP X pins σ Q) X.xe s
theorem PW.pt {X : Cx} {e : Expr} {t : TT} (h : PW X e t) : PT X e t := h _
/-- an argument list (no star), from the left -/
def PA (X : Cx) (es : List Expr) (t : TA) : Prop :=
  ∀ (pos : Pos) (pins : List (Addr × Obj)) (s : Shared) (σ : St) (H : Hp) (Q : List V → Hp → Prop), Inv X pins σ H s → t σ H Q → wpAny (model X.prog X.w) X.A (spliced (backTo pos (starEach es X.env))) (AP X pins σ Q) X.xe s
def PS (X : Cx) (st : Stmt) (t : TS) : Prop :=
  ∀ (pins : List (Addr × Obj)) (s : Shared) (σ : St) (H : Hp) (D : Ends), Inv X pins σ H s → t D σ H → wpAny (model X.prog X.w) X.A (exec st X.env) (SP X pins D) X.xe s
def PSs (X : Cx) (st : List Stmt) (t : TS) : Prop :=
  ∀ (pins : List (Addr × Obj)) (s : Shared) (σ : St) (H : Hp) (D : Ends), Inv X pins σ H s → t D σ H → wpAny (model X.prog X.w) X.A (execs st X.env) (SP X pins D) X.xe s
/-- weaken the end -/
theorem thn {α : Type} {t : Sem α} {Q Q' : α → Shared → Prop} {M : Model} {A : Around} {E : Value → Shared → Prop} {s : Shared} (h : wpAny M A t Q E s) (hQ : ∀ a s, Q a s → Q' a s) : wpAny M A t Q' E s := wpAny_mono h hQ fun _ _ x => x
end L2

namespace L2
open PySem PySem.Spec PyProof.Rows
section
variable {X : Cx}


/-! ### names and constants -/
def tVar (i : Nat) : TE := fun σ H Q => ∃ v, σ[i]? = some (some v) ∧ Q v H
def tC (v : V) : TE := fun _ H Q => Q v H
theorem pe_var {i : Nat} {x : Str} {pos : Pos} (hN : X.N[i]? = some x) (hv : Vis X.env.scope x) (hd : (x == ("__debug__" : Str)) = false := by decide) (hcd : (x == ("__classdict__" : Str)) = false := by decide) : PE X (.Name x pos) (tVar i) := by
  intro pins s σ H Q I h
  obtain ⟨v, e, h⟩ := h
  obtain ⟨m, hn, hl⟩ := I.loc
  obtain ⟨u, r, l⟩ := hl i x v hN e hv
  have fin : EP X pins σ Q u s := ⟨v, H, I, r, h⟩
  rcases l with ⟨hk, hm⟩ | ⟨hk, c, hc, hcell⟩
  · exact wpAny_Name (wpAny_loadName_local I.ok.kind hk hn hm fin) hd
  · rcases hk with hk | hk
    · exact wpAny_Name (wpAny_loadName_cell I.ok.kind hk hc hcell fin) hd
    · exact wpAny_Name (wpAny_loadName_free I.ok.kind hk hc hcell fin hcd) hd
theorem pe_int {i j pos} : PE X (.Constant (.int i) j pos) (tC (.int i)) := fun _ _ _ H _ I h => wpAny_Constant_int ⟨.int i, H, I.tok _, ⟨_, rfl⟩, h⟩
theorem pe_bl {b j pos} : PE X (.Constant (.bool b) j pos) (tC (.bl b)) := fun _ _ _ H _ I h => Constant_bool ⟨.bl b, H, I, rfl, h⟩

/-- a global name of the def -/
def Gl (X : Cx) (x : Str) : Prop := X.env.kindOf x = some .globalImplicit
theorem ld_glob {E : Value → Shared → Prop} {pins : List (Addr × Obj)} {s : Shared} {σ : St} {H : Hp} {x : Str} {u : Value} {pos : Pos} {Q : Value → Shared → Prop} (I : Inv X pins σ H s) (hg : Gl X x) (hm : X.mg x = some u) (h : Q u s)
    (hd : (x == ("__debug__" : Str)) = false := by decide) : wpAny (model X.prog X.w) X.A (eval (.Name x pos) X.env) Q E s :=
  Calls.Name_function_global I.ok.kind hg (Calls.loadGlobal_global (by rw [I.ok.glob]; exact I.mod.glob.keeps I.bk) hm h) hd
theorem ld_blt {E : Value → Shared → Prop} {pins : List (Addr × Obj)} {s : Shared} {σ : St} {H : Hp} {x : Str} {u : Value} {pos : Pos} {Q : Value → Shared → Prop} (I : Inv X pins σ H s) (hg : Gl X x) (hm : X.mg x = none) (hv : bootBuiltins x = some u) (h : Q u s)
    (hn : x ≠ "__name__" := by decide) (hd : (x == ("__debug__" : Str)) = false := by decide) : wpAny (model X.prog X.w) X.A (eval (.Name x pos) X.env) Q E s := by
  obtain ⟨mb, h1, h2⟩ := I.mod.blt
  exact Calls.Name_function_global I.ok.kind hg (Calls.loadGlobal_builtin (by rw [I.ok.glob]; exact I.mod.glob.keeps I.bk) hm (by rw [I.ok.blt]; exact h1.keeps I.bk) ((h2 x hn).trans hv) h) hd
theorem pe_bltn {x : Str} {v : V} {u : Value} {pos : Pos} (hg : Gl X x) (hm : X.mg x = none) (hv : bootBuiltins x = some u) (r : RelV v u) (hn : x ≠ "__name__" := by decide) (hd : (x == ("__debug__" : Str)) = false := by decide) : PE X (.Name x pos) (tC v) :=
  fun _ _ _ H _ I h => ld_blt I hg hm hv ⟨v, H, I, r, h⟩ hn hd

/-! ### arithmetic -/
variable {a b : Expr} {ta tb : TE} {pos : Pos}

/-! ### comparisons -/

/-! ### and, or, not -/
variable {tA tB' : TT} {rest : List Expr}
def tOr (t u : TT) : TT := fun σ H Q => t σ H fun c H1 => if c = true then Q true H1 else u σ H1 Q
def tNot (t : TT) : TT := fun σ H Q => t σ H fun c H1 => Q (!c) H1
theorem pw_or1 (ha : PT X a tA) : PW X (.BoolOp .Or [a] pos) tA := by
  intro wh pins s σ H Q I h
  refine isTrue_or (thn (ha pins s σ H Q I h) fun c s1 e => ?_)
  cases c with
  | false => exact isTrue_or_nil e
  | true => exact e
theorem pw_or (ha : PT X a tA) (hb : PW X (.BoolOp .Or (b :: rest) pos) tB') : PW X (.BoolOp .Or (a :: b :: rest) pos) (tOr tA tB') := by
  intro wh pins s σ H Q I h
  refine isTrue_or (thn (ha pins s σ H _ I h) fun c s1 ⟨H1, I1, q1⟩ => ?_)
  cases c with
  | true => exact ⟨H1, I1, q1⟩
  | false => exact hb wh pins s1 σ H1 Q I1 q1
theorem pt_not (ha : PT X a tA) : PT X (.UnaryOp .Not a pos) (tNot tA) := by
  intro pins s σ H Q I h
  exact isTrue_not (ha pins s σ H (fun c H1 => Q (!c) H1) I h)
/-- .. as values (bools) -/
def tAndV (ta tb : TE) : TE := fun σ H Q => ta σ H fun x H1 => ∃ c, x = .bl c ∧ if c = true then tb σ H1 Q else Q (.bl false) H1
theorem pe_one {op} {t : TE} (h : PE X a t) : PE X (.BoolOp op [a] pos) t := fun pins s σ H Q I hw => BoolOp_one (h pins s σ H Q I hw)
theorem pe_and (ha : PE X a ta) (hb : PE X (.BoolOp .And (b :: rest) pos) tb) : PE X (.BoolOp .And (a :: b :: rest) pos) (tAndV ta tb) := by
  intro pins s σ H Q I h
  refine BoolOp_and (thn (ha pins s σ H _ I h) fun v s1 ⟨x, H1, I1, r1, q1⟩ => ?_)
  obtain ⟨c, rfl, q1⟩ := q1
  cases r1
  refine wpAny_truthy_bool ?_
  cases c with
  | true => exact hb pins s1 σ H1 Q I1 q1
  | false => exact ⟨.bl false, H1, I1, rfl, q1⟩
end
end L2

namespace L2
open PySem PySem.Spec PyProof.Rows

/-! ### a list, a tuple that is read: tracked, frozen, or an object of the module -/
def SqL (K : PySem.W.Frag) (H : Hp) (a : Addr) (xs : List V) : Prop :=
  Rd H a (.lst xs) ∨
    ∃ (o : Obj) (its : Array Value) (n : Nat), K.lookup a = some o ∧ o.cls = .type "list" ∧ o.dict = none ∧ o.data = .seq its n ∧ its.size ≤ sizeLine ∧ Vals xs its.toList
def SqT (K : PySem.W.Frag) (H : Hp) (a : Addr) (xs : List V) : Prop :=
  Rd H a (.tup xs) ∨
    ∃ (o : Obj) (its : Array Value) (n : Nat), K.lookup a = some o ∧ o.cls = .type "tuple" ∧ o.data = .seq its n ∧ its.size ≤ sizeLine ∧ Vals xs its.toList
def absV : Value → Option V
  | .none => some .non
  | .bool b => some (.bl b)
  | .int i _ => some (.int i)
  | .str x _ => some (.str x)
  | .bytes b _ => some (.byt b)
  | .float b _ => some (.flt b)
  | .ref a => some (.ref a)
  | .type n => some (.ty n)
  | _ => none
theorem RelV.abs {x : V} {u : Value} (r : RelV x u) : absV u = some x := by
  cases x with
  | non => cases r; rfl
  | bl _ => cases r; rfl
  | int _ => obtain ⟨t, rfl⟩ := r; rfl
  | str _ => obtain ⟨t, rfl⟩ := r; rfl
  | byt _ => obtain ⟨t, rfl⟩ := r; rfl
  | flt _ => obtain ⟨t, rfl⟩ := r; rfl
  | ref _ => cases r; rfl
  | ty _ => cases r; rfl
theorem RelV.inj {x y : V} {u : Value} (r : RelV x u) (q : RelV y u) : x = y := Option.some.inj (r.abs.symm.trans q.abs)
theorem Vals.inj : ∀ {xs ys : List V} {us : List Value}, Vals xs us → Vals ys us → xs = ys
  | _, _, _, .nil, .nil => rfl
  | _, _, _, .cons r t, .cons r' t' => by rw [r.inj r', Vals.inj t t']
section
variable {X : Cx} {pins : List (Addr × Obj)} {σ : St} {H : Hp} {s : Shared} {a : Addr} {xs ys : List V}
theorem SqL.of {K : PySem.W.Frag} (h : H a = some (.lst xs)) : SqL K H a xs := .inl (.inl h)
theorem SqT.of {K : PySem.W.Frag} (h : H a = some (.tup xs)) : SqT K H a xs := .inl (.inl h)
theorem Inv.list (I : Inv X pins σ H s) (h : SqL X.K H a xs) : ∃ its : List Value, Vals xs its ∧ PlainL s.heap a its.toArray ∧ xs.length ≤ sizeLine := by
  rcases h with h | ⟨o, its, n, hk, hc, hd, hs, hz, r⟩
  · obtain ⟨z, its, n, r, e⟩ := h.ok I.hok
    exact ⟨its, r, ⟨_, n, e, rfl, rfl, rfl⟩, z⟩
  · refine ⟨its.toList, r, ⟨o, n, I.kIn a o hk, hc, hd, by simpa using hs⟩, ?_⟩
    have e := r.length
    simp only [Array.length_toList] at e
    omega
theorem Inv.tuple (I : Inv X pins σ H s) (h : SqT X.K H a xs) : ∃ its : List Value, Vals xs its ∧ IsTup s.heap a its.toArray ∧ xs.length ≤ sizeLine := by
  rcases h with h | ⟨o, its, n, hk, hc, hs, hz, r⟩
  · obtain ⟨z, its, r, p⟩ := h.ok I.hok
    exact ⟨its, r, p, z⟩
  · refine ⟨its.toList, r, ⟨o, I.kIn a o hk, hc, n, by simpa using hs⟩, ?_⟩
    have e := r.length
    simp only [Array.length_toList] at e
    omega
theorem Inv.list_inj (I : Inv X pins σ H s) (h : SqL X.K H a xs) (h' : SqL X.K H a ys) : xs = ys := by
  obtain ⟨its, r, ⟨o, n, e, _, _, d⟩, _⟩ := I.list h
  obtain ⟨its', r', ⟨o', n', e', _, _, d'⟩, _⟩ := I.list h'
  rw [e] at e'; cases e'
  rw [d] at d'
  injection d' with d1 _
  have : its = its' := by simpa using congrArg Array.toList d1
  subst this
  exact r.inj r'
theorem Inv.tuple_inj (I : Inv X pins σ H s) (h : SqT X.K H a xs) (h' : SqT X.K H a ys) : xs = ys := by
  obtain ⟨its, r, ⟨o, e, _, n, d⟩, _⟩ := I.tuple h
  obtain ⟨its', r', ⟨o', e', _, n', d'⟩, _⟩ := I.tuple h'
  rw [e] at e'; cases e'
  rw [d] at d'
  injection d' with d1 _
  have : its = its' := by simpa using congrArg Array.toList d1
  subst this
  exact r.inj r'
end

/-! ### another wish about exceptions -/
abbrev Cx.wish (X : Cx) (E : Value → Shared → Prop) : Cx := { X with xe := E }
/-- no exception leaves -/
abbrev Cx.nox (X : Cx) : Cx := X.wish fun _ _ => False
theorem Cx.Ok.wish {X : Cx} (ok : X.Ok) (E : Value → Shared → Prop) : (X.wish E).Ok :=
  ⟨ok.mod, ok.kind, ok.glob, ok.blt, ok.above, ok.inj, ok.has, ok.cab, ok.hd, ok.frames, ok.stk, ok.exf, ok.bs, ok.bsz, ok.noex, ok.exfs, ok.funs, ok.frf⟩
theorem Cx.Ok.unwish {X : Cx} {E : Value → Shared → Prop} (ok : (X.wish E).Ok) : X.Ok :=
  ⟨ok.mod, ok.kind, ok.glob, ok.blt, ok.above, ok.inj, ok.has, ok.cab, ok.hd, ok.frames, ok.stk, ok.exf, ok.bs, ok.bsz, ok.noex, ok.exfs, ok.funs, ok.frf⟩
section
variable {X : Cx} {pins : List (Addr × Obj)} {σ : St} {H : Hp} {s : Shared} {E : Value → Shared → Prop}
theorem Inv.wish (I : Inv X pins σ H s) (E : Value → Shared → Prop) : Inv (X.wish E) pins σ H s := ⟨I.ok.wish E, I.os, I.bare, I.base, I.loc, I.cell, I.free, I.freeC, I.pin, I.hok, I.len⟩
theorem Inv.unwish (I : Inv (X.wish E) pins σ H s) : Inv X pins σ H s := ⟨I.ok.unwish, I.os, I.bare, I.base, I.loc, I.cell, I.free, I.freeC, I.pin, I.hok, I.len⟩
theorem SP.unwish {D : Ends} {f : Flow} {s' : Shared} (h : SP (X.wish E) pins D f s') : SP X pins D f s' := by
  cases f with
  | next => obtain ⟨σ', H', I, q⟩ := h; exact ⟨σ', H', I.unwish, q⟩
  | brk => obtain ⟨σ', H', I, q⟩ := h; exact ⟨σ', H', I.unwish, q⟩
  | cont => obtain ⟨σ', H', I, q⟩ := h; exact ⟨σ', H', I.unwish, q⟩
  | ret u => obtain ⟨v, σ', H', I, r, q⟩ := h; exact ⟨v, σ', H', I.unwish, r, q⟩
theorem PSs.nox {st : List Stmt} {t : TS} (h : PSs X.nox st t) : PSs X st t := fun pins s σ H D I hw =>
  wpAny_mono (h pins s σ H D (I.wish _) hw) (fun _ _ q => q.unwish) fun _ _ z => False.elim z
end

/-! ### blocks and small statements -/
section
variable {X : Cx} {st : Stmt} {rest : List Stmt} {t u : TS} {e : Expr} {te : TE} {pos : Pos}
def tNext : TS := fun D σ H => D.nx σ H
def tSeq (t u : TS) : TS := fun D σ H => t { D with nx := u D } σ H
theorem pss_nil : PSs X [] tNext := fun _ _ σ H _ I h => wpAny_execs_nil ⟨σ, H, I, h⟩
theorem pss_cons (h1 : PS X st t) (h2 : PSs X rest u) : PSs X (st :: rest) (tSeq t u) := by
  intro pins s σ H D I h
  refine wpAny_execs_cons (thn (h1 pins s σ H { D with nx := u D } I h) fun f s1 q => ?_)
  cases f with
  | next =>
    obtain ⟨σ', H', I', q⟩ := q
    exact h2 pins s1 σ' H' D I' q
  | ret v => exact q
  | brk => exact q
  | cont => exact q
theorem pss_one (h1 : PS X st t) : PSs X [st] t := by
  intro pins s σ H D I h
  refine wpAny_execs_cons (thn (h1 pins s σ H D I h) fun f s1 q => ?_)
  cases f with
  | next => exact wpAny_execs_nil q
  | ret v => exact q
  | brk => exact q
  | cont => exact q
/-- in a def's body nothing is shown -/
theorem Inv.quiet {pins : List (Addr × Obj)} {σ : St} {H : Hp} {s : Shared} (I : Inv X pins σ H s) : interactive X.env = false := by simp [interactive, I.ok.kind]
/-- an expression whose value is dropped -/
def tDrop (te : TE) : TS := fun D σ H => te σ H fun _ H1 => D.nx σ H1
theorem ps_expr (he : PE X e te) (hs : swapsWith e none pos.line X.env = pure false := by rfl) : PS X (.Expr e pos) (tDrop te) := by
  intro pins s σ H D I h
  exact wpAny_Expr_any (thn (he pins s σ H _ I h) fun v s1 ⟨x, H1, I1, r1, q1⟩ => ⟨σ, H1, I1, q1⟩) I.quiet hs
def tRet (te : TE) : TS := fun D σ H => te σ H D.rt
theorem ps_ret (he : PE X e te) : PS X (.Return (some e) pos) (tRet te) := by
  intro pins s σ H D I h
  exact wpAny_Return_some (thn (he pins s σ H _ I h) fun v s1 ⟨x, H1, I1, r1, q1⟩ => ⟨x, σ, H1, I1, r1, q1⟩)
def tIfS (c : TT) (t u : TS) : TS := fun D σ H => c σ H fun b H1 => if b = true then t D σ H1 else u D σ H1
theorem ps_if {c : Expr} {a b : List Stmt} {tc : TT} (hc : PT X c tc) (ha : PSs X a t) (hb : PSs X b u) : PS X (.If c a b pos) (tIfS tc t u) := by
  intro pins s σ H D I h
  refine wpAny_If (thn (hc pins s σ H _ I h) fun d s1 ⟨H1, I1, q1⟩ => ?_)
  cases d with
  | true => exact ha pins s1 σ H1 D I1 q1
  | false => exact hb pins s1 σ H1 D I1 q1
end

/-! ### targets -/
abbrev TG := V → St → Hp → (St → Hp → Prop) → Prop
abbrev TGs := List V → St → Hp → (St → Hp → Prop) → Prop
def PG (X : Cx) (target : Expr) (t : TG) : Prop :=
  ∀ (pins : List (Addr × Obj)) (s : Shared) (σ : St) (H : Hp) (v : V) (u : Value) (Q : St → Hp → Prop), Inv X pins σ H s → RelV v u → t v σ H Q →
    wpAny (model X.prog X.w) X.A (assign target X.env u) (fun _ s' => ∃ σ' H', Inv X pins σ' H' s' ∧ Q σ' H') X.xe s
/-- several targets, one after another -/
def PGs (X : Cx) (ts : List Expr) (t : TGs) : Prop :=
  ∀ (pins : List (Addr × Obj)) (s : Shared) (σ : St) (H : Hp) (vs : List V) (us : List Value) (Q : St → Hp → Prop), Inv X pins σ H s → Vals vs us → t vs σ H Q →
    wpAny (model X.prog X.w) X.A (assignInOrder ((assignEach ts X.env).map (·.2)) us) (fun _ s' => ∃ σ' H', Inv X pins σ' H' s' ∧ Q σ' H') X.xe s
section
variable {X : Cx} {pos : Pos}
def gName (i : Nat) : TG := fun v σ H Q => Q (σ.set i (some v)) H
theorem pg_name {i : Nat} {x : Str} (hN : X.N.Nodup) (hi : X.N[i]? = some x) (hx : Loc X.env.scope x) (hf : X.fn x = true ∨ X.env.scope.names.lookup x = some .local := by first | exact .inl rfl | exact .inr rfl | assumption) : PG X (.Name x pos) (gName i) := by
  intro pins s σ H v u Q I r h
  exact wpAny_assign_Name (store_ok I hN hi hx r (fun s' I' => ⟨_, H, I', h⟩) hf)
def gNil : TGs := fun vs σ H Q => vs = [] ∧ Q σ H
def gCons (t : TG) (u : TGs) : TGs := fun vs σ H Q => ∃ v r, vs = v :: r ∧ t v σ H fun σ' H' => u r σ' H' Q
theorem pgs_nil : PGs X [] gNil := by
  intro pins s σ H vs us Q I r h
  obtain ⟨e, h⟩ := h
  subst e
  cases r
  exact assignInOrder_nil ⟨σ, H, I, h⟩
theorem pgs_cons {e : Expr} {es : List Expr} {t : TG} {u : TGs} (h1 : PG X e t) (h2 : PGs X es u)
    (hs : (assignEach (e :: es) X.env).map (·.2) = assign e X.env :: (assignEach es X.env).map (·.2) := by rfl) : PGs X (e :: es) (gCons t u) := by
  intro pins s σ H vs us Q I r h
  obtain ⟨v, vr, e1, h⟩ := h
  subst e1
  cases r with
  | cons r rr =>
    rw [hs]
    refine assignInOrder_cons (thn (h1 pins s σ H _ _ _ I r h) fun _ s1 ⟨σ1, H1, I1, q1⟩ => ?_)
    exact h2 pins s1 σ1 H1 _ _ Q I1 rr q1
/-- (a, b, ..) = a tuple of that length -/
def gTup (K : PySem.W.Frag) (n : Nat) (t : TGs) : TG := fun v σ H Q => ∃ a xs, v = .ref a ∧ SqT K H a xs ∧ xs.length = n ∧ t xs σ H Q
theorem pg_tup {es : List Expr} {k : Nat} {t : TGs} {n : Nat} (hc : X.calm = true) (h : PGs X es t)
    (hn : (assignEach es X.env).length = n := by rfl) (hst : (assignEach es X.env).findIdx? (·.1) = none := by rfl) : PG X (.Tuple es k pos) (gTup X.K n t) := by
  intro pins s σ H v u Q I r hw
  obtain ⟨a, xs, e1, hq, hl, hw⟩ := hw
  subst e1
  cases r
  obtain ⟨its, rv, ht, hz⟩ := I.tuple hq
  refine assign_Tuple_tuple (I.ok.hd hc) ht (by simp [hn, ← hl, rv.length]) hst fun h' hx => ?_
  have I1 : Inv X pins σ H { s with heap := h' } := I.kept (t' := s.toks) fun b o e => hx b o (Nat.ne_of_lt (Heap.lt_size e)) e
  exact h pins _ σ H xs _ Q I1 (by simpa using rv) hw
/-- target = value -/
def tAsg (te : TE) (g : TG) : TS := fun D σ H => te σ H fun x H1 => g x σ H1 D.nx
theorem ps_asg {tg e : Expr} {te : TE} {g : TG} (he : PE X e te) (hg : PG X tg g) (hs : swapsWithSole [tg] e pos.line X.env = pure false := by rfl) (hw : swappedStores [tg] e X.env = pure none := by rfl)
    (h1 : (assignEach [tg] X.env).map (·.2) = [assign tg X.env] := by rfl) : PS X (.Assign [tg] e pos) (tAsg te g) := by
  intro pins s σ H D I h
  refine wpAny_Assign_stores (thn (he pins s σ H _ I h) fun v s1 ⟨x, H1, I1, r1, q1⟩ => ?_) hs hw
  rw [h1]
  exact thn (hg pins s1 σ H1 x v _ I1 r1 q1) fun _ s2 q => q
/-- name = value -/
theorem ps_set {i : Nat} {x : Str} {e : Expr} {te : TE} {pos' : Pos} (hN : X.N.Nodup) (hi : X.N[i]? = some x) (hx : Loc X.env.scope x) (he : PE X e te) (hs : swapsWith e (some (.Name x pos')) pos.line X.env = pure false := by rfl) (hf : X.fn x = true ∨ X.env.scope.names.lookup x = some .local := by first | exact .inl rfl | exact .inr rfl | assumption) :
    PS X (.Assign [.Name x pos'] e pos) (tAsg te (gName i)) := by
  intro pins s σ H D I h
  refine wpAny_Assign_Name (thn (he pins s σ H _ I h) fun v s1 ⟨y, H1, I1, r1, q1⟩ => ?_) hs
  exact store_ok I1 hN hi hx r1 (fun s2 I2 => ⟨_, H1, I2, q1⟩) hf
end

/-! ### while -/
section
variable {X : Cx} {pos : Pos}
end

/-! ### what a loop or a comprehension walks -/
/-- at turn i: it yields x (the heap may grow), or it stops -/
structure It where
  go : Nat → Hp → Prop
  yld : Nat → Hp → V → Hp → Prop
  stop : Nat → Hp → Prop
/-- the iterator's own objects may turn: they are not the frame's, not pinned, younger than the entry (or a comprehension's own) -/
def FpOk (X : Cx) (pins : List (Addr × Obj)) (H : Hp) (b : Addr) : Prop :=
  H b = none ∧ b ≠ X.env.locals ∧ b ∉ X.fs ∧ (b ∈ X.ex ∨ X.s₀.heap.objs.size ≤ b) ∧ (∀ x c, X.env.cells.lookup x = some c → c ≠ b) ∧ ∀ p ∈ X.pn ++ pins, p.1 ≠ b
theorem Inv.fpOk {X : Cx} {pins : List (Addr × Obj)} {σ : St} {H H' : Hp} {s : Shared} {b : Addr} (I : Inv X pins σ H s) (hb : s.heap.objs.size ≤ b) (hn : H' b = none) : FpOk X pins H' b := by
  refine ⟨hn, Nat.ne_of_gt (Nat.lt_of_lt_of_le I.lt hb), I.nofs hb, .inr (Nat.le_trans I.sz hb), fun x c e z => ?_, fun p hp z => ?_⟩
  · obtain ⟨v, q⟩ := I.cell x c e
    exact absurd (Nat.lt_of_lt_of_le q.lt (by rw [z]; exact hb)) (Nat.lt_irrefl _)
  · exact absurd (Nat.lt_of_lt_of_le (Heap.lt_size (I.pin p hp).1) (by rw [z]; exact hb)) (Nat.lt_irrefl _)
structure Turn (P : Program) (w : World) (K : PySem.W.Frag) (tg : Expr) (J : It) (fp : List Addr) (it : Addr) (tn : Nat → Heap → Prop) : Prop where
  mem : it ∈ fp
  obj : ∀ i h, tn i h → ∀ b ∈ fp, ∃ o, h.get? b = some o ∧ ∀ v, o.data ≠ .cell v
  keep : ∀ i h h', tn i h → (∀ b ∈ fp, ∀ o, h.get? b = some o → h'.get? b = some o) → tn i h'
  item : ∀ (X : Cx), X.prog = P → X.w = w → X.K = K → X.calm = true → ∀ (i : Nat) (pins : List (Addr × Obj)) (s : Shared) (σ : St) (H : Hp) (E : Value → Shared → Prop), Inv X pins σ H s → (∀ b ∈ fp, FpOk X pins H b) → tn i s.heap → J.go i H →
    wpAny (model P w) X.A (pyNext (.ref it)) (fun r s1 => ∃ u, r = some u ∧
      wpAny (model P w) X.A (letOwnedTupleGo tg (.ref it) u) (fun _ s2 => ∃ x H', Inv X pins σ H' s2 ∧ RelV x u ∧ J.yld i H x H' ∧ tn (i + 1) s2.heap ∧ ∀ b ∈ fp, H' b = none) E s1) E s
  done : ∀ (X : Cx), X.prog = P → X.w = w → X.K = K → X.calm = true → ∀ (i : Nat) (pins : List (Addr × Obj)) (s : Shared) (σ : St) (H : Hp) (E : Value → Shared → Prop), Inv X pins σ H s → (∀ b ∈ fp, FpOk X pins H b) → tn i s.heap → J.stop i H →
    wpAny (model P w) X.A (pyNext (.ref it)) (fun r s1 => r = none ∧ Inv X pins σ H s1) E s
  self : ∀ (A : Around) (i : Nat) (s : Shared) (Q : Value → Shared → Prop) (E : Value → Shared → Prop), tn i s.heap → Q (.ref it) s → wpAny (model P w) A (pyIter (.ref it)) Q E s
abbrev TI := St → Hp → (It → Hp → Prop) → Prop
/-- an iterator has come -/
def PIE (X : Cx) (pins : List (Addr × Obj)) (σ : St) (tg : Expr) (R : It → Hp → Prop) (itv : Value) (s2 : Shared) : Prop :=
  ∃ (it : Addr) (fp : List Addr) (tn : Nat → Heap → Prop) (J : It) (H' : Hp), itv = .ref it ∧ Inv X pins σ H' s2 ∧ Turn X.prog X.w X.K tg J fp it tn ∧ tn 0 s2.heap ∧ (∀ b ∈ fp, FpOk X pins H' b) ∧ R J H'
def PI (X : Cx) (tg iter : Expr) (wi : TI) : Prop :=
  ∀ (pins : List (Addr × Obj)) (s : Shared) (σ : St) (H : Hp) (R : It → Hp → Prop), Inv X pins σ H s → wi σ H R →
    wpAny (model X.prog X.w) X.A (eval iter X.env) (fun v s1 => wpAny (model X.prog X.w) X.A (pyIter v) (PIE X pins σ tg R) X.xe s1) X.xe s

/-- the step ahead of the store is nothing for an iterator that keeps no tuple -/
theorem go_of {M : Model} {A : Around} {E : Value → Shared → Prop} {s : Shared} {tg : Expr} {it : Addr} {u : Value} {o : Obj} {n : String} {vs : Array Value} {Q : Unit → Shared → Prop} (ho : s.heap.get? it = some o) (hc : o.cls = .type n) (hd : o.data = .fields vs)
    (hn : ["enumerate", "zip", "dict_itemiterator", "dict_reverseitemiterator", "odict_iterator", "itertools.zip_longest", "itertools.pairwise"].contains n = false) (hQ : Q () s) : wpAny M A (letOwnedTupleGo tg (.ref it) u) Q E s := by
  unfold letOwnedTupleGo
  cases tg <;> first
    | exact wpAny_pure hQ
    | (cases u <;> first
        | exact wpAny_pure hQ
        | (refine wpAny_bind (wpAny_load ho ?_)
           rw [hc, hd]
           show wpAny M A (if (["enumerate", "zip", "dict_itemiterator", "dict_reverseitemiterator", "odict_iterator", "itertools.zip_longest", "itertools.pairwise"].contains n && vs[0]? == some (rawInt _)) = true then _ else _) Q E s
           rw [if_neg (by intro h; rw [hn, Bool.false_and] at h; cases h)]
           exact wpAny_pure hQ))

/-- the list at a, as it stands at each turn (a loop may append to it) -/
def Itl (K : PySem.W.Frag) (a : Addr) : It :=
  ⟨fun i H => ∃ xs x, SqL K H a xs ∧ xs[i]? = some x, fun i H x H' => H' = H ∧ ∀ xs, SqL K H a xs → xs[i]? = some x, fun i H => ∃ xs, SqL K H a xs ∧ xs.length ≤ i⟩
def Itt (K : PySem.W.Frag) (a : Addr) : It :=
  ⟨fun i H => ∃ xs x, SqT K H a xs ∧ xs[i]? = some x, fun i H x H' => H' = H ∧ ∀ xs, SqT K H a xs → xs[i]? = some x, fun i H => ∃ xs, SqT K H a xs ∧ xs.length ≤ i⟩
/-- lo, lo + 1, .. (n of them) -/
def Itr (lo : Int) (n : Nat) : It := ⟨fun i _ => i < n, fun i H x H' => H' = H ∧ x = .int (lo + i), fun i _ => n ≤ i⟩
theorem turn_list {P : Program} {w : World} {K : PySem.W.Frag} {tg : Expr} (a it : Addr) : Turn P w K tg (Itl K a) [it] it (fun i h => h.IsListIter it a i) where
  mem := by simp
  obj := fun i h st b hb => by
    have e : b = it := by simpa using hb
    subst e
    obtain ⟨o, e, c, d⟩ := st
    exact ⟨o, e, fun v z => by rw [d] at z; cases z⟩
  keep := fun i h h' st k => st.at fun o e => k it (by simp) o e
  item := by
    intro X hP hw hK hc i pins s σ H E I hf st hg
    subst hP hw hK
    obtain ⟨xs, x, hq, hx⟩ := hg
    obtain ⟨its, rv, p, hz⟩ := I.list hq
    obtain ⟨u, hu, ru⟩ := rv.get hx
    obtain ⟨f0, f1, f2, f3, f4, f5⟩ := hf it (by simp)
    refine wpAny_pyNext_list_item st p.isList (x := u) (by simpa using hu) fun h' st' sb => ?_
    have I1 : Inv X pins σ H { s with heap := h' } := I.turned (t' := s.toks) (fun b o hb e => (sb.2 b hb).trans e) f0 f1 f3 f4 f5
    obtain ⟨o, e, c, d⟩ := id st'
    exact ⟨u, rfl, go_of (s := { s with heap := h' }) e c d (by decide) ⟨x, H, I1, ru, ⟨rfl, fun ys hy => by rw [I.list_inj hy hq]; exact hx⟩, st', fun b hb => (hf b hb).1⟩⟩
  done := by
    intro X hP hw hK hc i pins s σ H E I hf st hg
    subst hP hw hK
    obtain ⟨xs, hq, hx⟩ := hg
    obtain ⟨its, rv, p, hz⟩ := I.list hq
    obtain ⟨f0, f1, f2, f3, f4, f5⟩ := hf it (by simp)
    have hl := rv.length
    exact wpAny_pyNext_list_end (I.ok.hd hc) st p.isList (by simp; omega) fun h' eb => ⟨rfl, I.turned (t' := s.toks) (fun b o hb e => eb b o hb e) f0 f1 f3 f4 f5⟩
  self := fun _ _ _ _ _ st h => wpAny_pyIter_listiter st h
theorem turn_tuple {P : Program} {w : World} {K : PySem.W.Frag} {tg : Expr} (a it : Addr) : Turn P w K tg (Itt K a) [it] it (fun i h => h.IsTupleIter it a i) where
  mem := by simp
  obj := fun i h st b hb => by
    have e : b = it := by simpa using hb
    subst e
    obtain ⟨o, e, c, d⟩ := st
    exact ⟨o, e, fun v z => by rw [d] at z; cases z⟩
  keep := fun i h h' st k => st.at fun o e => k it (by simp) o e
  item := by
    intro X hP hw hK hc i pins s σ H E I hf st hg
    subst hP hw hK
    obtain ⟨xs, x, hq, hx⟩ := hg
    obtain ⟨its, rv, p, hz⟩ := I.tuple hq
    obtain ⟨u, hu, ru⟩ := rv.get hx
    obtain ⟨f0, f1, f2, f3, f4, f5⟩ := hf it (by simp)
    refine wpAny_pyNext_tuple_item st (show s.heap.IsTuple a its.toArray from p) (x := u) (by simpa using hu) fun h' st' sb => ?_
    have I1 : Inv X pins σ H { s with heap := h' } := I.turned (t' := s.toks) (fun b o hb e => (sb.2 b hb).trans e) f0 f1 f3 f4 f5
    obtain ⟨o, e, c, d⟩ := id st'
    exact ⟨u, rfl, go_of (s := { s with heap := h' }) e c d (by decide) ⟨x, H, I1, ru, ⟨rfl, fun ys hy => by rw [I.tuple_inj hy hq]; exact hx⟩, st', fun b hb => (hf b hb).1⟩⟩
  done := by
    intro X hP hw hK hc i pins s σ H E I hf st hg
    subst hP hw hK
    obtain ⟨xs, hq, hx⟩ := hg
    obtain ⟨its, rv, p, hz⟩ := I.tuple hq
    obtain ⟨f0, f1, f2, f3, f4, f5⟩ := hf it (by simp)
    have hl := rv.length
    exact wpAny_pyNext_tuple_end (I.ok.hd hc) st (show s.heap.IsTuple a its.toArray from p) (by simp; omega) fun h' eb => ⟨rfl, I.turned (t' := s.toks) (fun b o hb e => eb b o hb e) f0 f1 f3 f4 f5⟩
  self := fun _ _ _ _ _ st h => wpAny_pyIter_tupleiter st h
theorem turn_range {P : Program} {w : World} {K : PySem.W.Frag} {tg : Expr} (it : Addr) (lo : Int) (n : Nat) : Turn P w K tg (Itr lo n) [it] it (fun i h => IsRangeIter h it (lo + (i : Nat) * 1) ((n : Int) - (i : Nat)) 1) where
  mem := by simp
  obj := fun i h st b hb => by
    have e : b = it := by simpa using hb
    subst e
    exact ⟨_, st, fun v z => by
      have z' : Data.fields _ = Data.cell v := z
      cases z'⟩
  keep := fun i h h' st k => k it (by simp) _ st
  item := by
    intro X hP hw hK hc i pins s σ H E I hf st hg
    subst hP hw hK
    obtain ⟨f0, f1, f2, f3, f4, f5⟩ := hf it (by simp)
    have W := Walks.range (prog := X.prog) (w := X.w) (I.ok.hd hc) it lo 1 n
    refine W.item i s _ _ hg st fun v h' tk hv st' kk => ?_
    obtain ⟨t, rfl⟩ := hv
    have I1 : Inv X pins σ H { s with heap := h', toks := tk } := I.turned (fun b o hb e => kk b o (by simpa using hb) e) f0 f1 f3 f4 f5
    refine ⟨_, rfl, go_of (s := { s with heap := h', toks := tk }) (n := "range_iterator") st' rfl rfl (by decide) ⟨.int (lo + i), H, I1, ⟨t, ?_⟩, ⟨rfl, rfl⟩, st', fun b hb => (hf b hb).1⟩⟩
    rw [Int.mul_one]
  done := by
    intro X hP hw hK hc i pins s σ H E I hf st hg
    subst hP hw hK
    obtain ⟨f0, f1, f2, f3, f4, f5⟩ := hf it (by simp)
    exact wpAny_pyNext_range_end (I.ok.hd hc) st (by have : n ≤ i := hg; omega) fun h' eb => ⟨rfl, I.turned (t' := s.toks) (fun b o hb e => eb b o hb e) f0 f1 f3 f4 f5⟩
  self := fun _ _ _ _ _ st h => wpAny_pyIter_rangeiter st h
end L2

namespace L2
open PySem PySem.Spec PyProof.Rows
section
variable {X : Cx} {tg : Expr}
def iList (K : PySem.W.Frag) (tl : TE) : TI := fun σ H R => tl σ H fun x H1 => ∃ a, x = .ref a ∧ (∃ xs, SqL K H1 a xs) ∧ R (Itl K a) H1
def iTup (K : PySem.W.Frag) (tl : TE) : TI := fun σ H R => tl σ H fun x H1 => ∃ a, x = .ref a ∧ (∃ xs, SqT K H1 a xs) ∧ R (Itt K a) H1
theorem pi_list {l : Expr} {tl : TE} (hl : PE X l tl) : PI X tg l (iList X.K tl) := by
  intro pins s σ H R I h
  refine thn (hl pins s σ H _ I h) fun v s1 ⟨x, H1, I1, r1, q1⟩ => ?_
  obtain ⟨a, e, ⟨xs, hq⟩, q⟩ := q1
  subst e
  cases r1
  obtain ⟨its, rv, p, hz⟩ := I1.list hq
  refine wpAny_pyIter_list p.isList ?_
  refine ⟨s1.heap.objs.size, [s1.heap.objs.size], _, _, H1, rfl, I1.kept (t' := s1.toks) fun b o e => Heap.get?_push_of_some _ e, turn_list a _, ⟨_, Heap.get?_push_size _ rfl, rfl, rfl⟩, fun b hb => ?_, q⟩
  have e : b = s1.heap.objs.size := by simpa using hb
  subst e
  exact I1.fpOk (Nat.le_refl _) (I1.hok.fresh (Nat.le_refl _))
theorem pi_tup {l : Expr} {tl : TE} (hl : PE X l tl) : PI X tg l (iTup X.K tl) := by
  intro pins s σ H R I h
  refine thn (hl pins s σ H _ I h) fun v s1 ⟨x, H1, I1, r1, q1⟩ => ?_
  obtain ⟨a, e, ⟨xs, hq⟩, q⟩ := q1
  subst e
  cases r1
  obtain ⟨its, rv, p, hz⟩ := I1.tuple hq
  refine wpAny_pyIter_tuple (show s1.heap.IsTuple a its.toArray from p) ?_
  refine ⟨s1.heap.objs.size, [s1.heap.objs.size], _, _, H1, rfl, I1.kept (t' := s1.toks) fun b o e => Heap.get?_push_of_some _ e, turn_tuple a _, ⟨_, Heap.get?_push_size _ rfl, rfl, rfl⟩, fun b hb => ?_, q⟩
  have e : b = s1.heap.objs.size := by simpa using hb
  subst e
  exact I1.fpOk (Nat.le_refl _) (I1.hok.fresh (Nat.le_refl _))
/-- a range object just made, walked -/
theorem range_it {pins : List (Addr × Obj)} {σ : St} {H : Hp} {s : Shared} {R : It → Hp → Prop} {E : Value → Shared → Prop} {lo hi : Int} {t u v : Tok} {tk : Nat} (I : Inv X pins σ H s) (h1 : -(2 ^ 62) ≤ lo) (h2 : lo < 2 ^ 62) (h3 : -(2 ^ 62) ≤ hi) (h4 : hi < 2 ^ 62)
    (q : R (Itr lo (hi - lo).toNat) H) : wpAny (model X.prog X.w) X.A (pyIter (.ref s.heap.objs.size)) (PIE X pins σ tg R) E { s with heap := s.heap.push { cls := .type "range", data := .fields #[.int lo t, .int hi u, .int 1 v] }, toks := tk } := by
  refine wpAny_pyIter_range (IsRange.new ..) (small_one h1 h2 h3 h4) ?_
  have I1 : Inv X pins σ H { s with heap := s.heap.push { cls := .type "range", data := .fields #[.int lo t, .int hi u, .int 1 v] }, toks := tk } := I.kept fun b o e => Heap.get?_push_of_some _ e
  refine ⟨(s.heap.push { cls := .type "range", data := .fields #[.int lo t, .int hi u, .int 1 v] }).objs.size, [(s.heap.push { cls := .type "range", data := .fields #[.int lo t, .int hi u, .int 1 v] }).objs.size], _, _, H, rfl,
    I1.kept (t' := tk) fun b o e => Heap.get?_push_of_some _ e, turn_range _ lo (hi - lo).toNat, ?_, fun b hb => ?_, q⟩
  · have e1 : lo + ((0 : Nat) : Int) * 1 = lo := by simp
    have e2 : (((hi - lo).toNat : Nat) : Int) - ((0 : Nat) : Int) = Builtin.Range.rangeSize lo hi 1 := by rw [rangeSize_one]; split <;> omega
    show IsRangeIter _ _ (lo + ((0 : Nat) : Int) * 1) ((((hi - lo).toNat : Nat) : Int) - ((0 : Nat) : Int)) 1
    rw [e1, e2]
    exact Heap.get?_push_size _ rfl
  · have e : b = (s.heap.push { cls := .type "range", data := .fields #[.int lo t, .int hi u, .int 1 v] }).objs.size := by simpa using hb
    subst e
    exact I1.fpOk (Nat.le_refl _) (I1.hok.fresh (Nat.le_refl _))
def iRng1 (ta : TA) : TI := fun σ H R => ta σ H fun vs H1 => ∃ j : Int, vs = [.int j] ∧ -(2 ^ 62) ≤ j ∧ j < 2 ^ 62 ∧ R (Itr 0 j.toNat) H1
theorem pi_range1 {a : Expr} {ta : TA} {p pos : Pos} (hg : Gl X "range") (hm : X.mg "range" = none) (ha : PA X [a] ta) (hs : starEach [a] X.env = [(false, eval a X.env)] := by rfl) : PI X tg (.Call (.Name "range" p) [a] [] pos) (iRng1 ta) := by
  intro pins s σ H R I h
  refine Call_ (ld_blt I hg hm boot_range (PyProof.Rows.callWith_type1 (thn (ha pos pins s σ H _ I h) fun us s1 ⟨vs, H1, I1, r1, q1⟩ => ?_) hs rfl))
  obtain ⟨j, e, q1, q2, q⟩ := q1
  subst e
  cases r1 with
  | cons r rr =>
    cases rr
    obtain ⟨t, rfl⟩ := r
    exact call_range_1 (range_it I1 (by omega) (by omega) q1 q2 (by simpa using q))

/-! ### for -/
/-- W: the invariant by the turn and a measure; N: what the body is to reach -/
def tFor (wi : TI) (g : TG) (tb : TS) : TS := fun D σ H => wi σ H fun J H1 => ∃ W : Nat → Nat → St → Hp → Prop, (∃ m, W 0 m σ H1) ∧ ∀ i m σ H, W i m σ H →
  (J.stop i H ∧ D.nx σ H) ∨ (J.go i H ∧ ∃ N : St → Hp → Prop, (∀ σ' H', N σ' H' → ∃ m', m' < m ∧ W (i + 1) m' σ' H') ∧ ∀ x H', J.yld i H x H' → g x σ H' fun σ2 H2 => tb { D with nx := N, ct := N, bk := D.nx } σ2 H2)
/-- the records at fp as they stand -/
def pinsAt (fp : List Addr) (h : Heap) : List (Addr × Obj) := fp.filterMap fun b => (h.get? b).map fun o => (b, o)
theorem mem_pinsAt {fp : List Addr} {h : Heap} {b : Addr} {o : Obj} (hb : b ∈ fp) (e : h.get? b = some o) : (b, o) ∈ pinsAt fp h := List.mem_filterMap.mpr ⟨b, hb, by rw [e]; rfl⟩
theorem of_pinsAt {fp : List Addr} {h : Heap} {p : Addr × Obj} (hp : p ∈ pinsAt fp h) : p.1 ∈ fp ∧ h.get? p.1 = some p.2 := by
  obtain ⟨b, hb, e⟩ := List.mem_filterMap.mp hp
  cases q : h.get? b with
  | none => rw [q] at e; cases e
  | some o =>
    rw [q] at e
    have e' : (b, o) = p := Option.some.inj e
    subst e'
    exact ⟨hb, q⟩
theorem Inv.pinned {pins : List (Addr × Obj)} {σ : St} {H : Hp} {s : Shared} {fp : List Addr} (I : Inv X pins σ H s) (hf : ∀ b ∈ fp, FpOk X pins H b) (ho : ∀ b ∈ fp, ∃ o, s.heap.get? b = some o ∧ ∀ v, o.data ≠ .cell v) : Inv X (pins ++ pinsAt fp s.heap) σ H s :=
  I.pins_of fun p hp => (List.mem_append.mp hp).elim (fun z => I.pin p (List.mem_append_right _ z)) fun z => by
    obtain ⟨hb, e⟩ := of_pinsAt z
    obtain ⟨f0, f1, f2, _⟩ := hf p.1 hb
    obtain ⟨o, e', d⟩ := ho p.1 hb
    rw [e] at e'; cases e'
    exact ⟨e, f0, f1, f2, d⟩
theorem Inv.unpinned {pins pl : List (Addr × Obj)} {σ : St} {H : Hp} {s : Shared} (I : Inv X (pins ++ pl) σ H s) : Inv X pins σ H s := I.pins_of fun p hp => I.pin p (List.mem_append_right _ (List.mem_append_left _ hp))
theorem ps_for {iter : Expr} {body : List Stmt} {wi : TI} {g : TG} {tb : TS} {pos : Pos} (hp : PassesOwn (model X.prog X.w) X.A X.env X.xe) (hc : X.calm = true) (hi : PI X tg iter wi) (hg : PG X tg g) (hb : PSs X body tb)
    (hs : ∀ x, foldedSetIterable iter X.env x = pure x := by intro _; rfl) : PS X (.For tg iter body [] pos) (tFor wi g tb) := by
  intro pins s σ H D I h
  refine wpAny_For (thn (hi pins s σ H _ I h) fun v s1 h1 => thn h1 fun itv s2 h2 => ?_) hs
  obtain ⟨it, fp, tn, J, H2, e, I2, T, st2, f2, W, ⟨m0, w0⟩, turn⟩ := h2
  subst e
  -- what stays true of the iterator's objects through the loop
  have stat : ∀ {H' : Hp}, (∀ b ∈ fp, H' b = none) → ∀ b ∈ fp, FpOk X pins H' b := fun hn b hb => ⟨hn b hb, (f2 b hb).2⟩
  refine codeAny_forLoop_any (fun n s' => ∃ i σ' H', Inv X pins σ' H' s' ∧ tn i s'.heap ∧ (∀ b ∈ fp, H' b = none) ∧ W i n σ' H') ?_ m0 ⟨0, σ, H2, I2, st2, fun b hb => (f2 b hb).1, w0⟩
  rintro n s3 ⟨i, σ3, H3, I3, st3, fr3, w3⟩
  rcases turn i n σ3 H3 w3 with ⟨stop, qn⟩ | ⟨go, N, hN, step⟩
  · refine wpAny_passesOwn hp (thn (T.done X rfl rfl rfl hc i pins s3 σ3 H3 X.xe I3 (stat fr3) st3 stop) fun r s4 ⟨hr, I4⟩ => ?_)
    subst hr
    exact wpAny_execs_nil ⟨σ3, H3, I4, qn⟩
  · refine wpAny_passesOwn hp (thn (T.item X rfl rfl rfl hc i pins s3 σ3 H3 X.xe I3 (stat fr3) st3 go) fun r s4 ⟨u, hr, h4⟩ => ?_)
    subst hr
    refine wpAny_passesOwn hp (thn h4 fun _ s5 ⟨x, H5, I5, r5, y5, st5, fr5⟩ => ?_)
    have I5' := I5.pinned (stat fr5) (T.obj _ _ st5)
    refine wpAny_passesOwn hp (thn (hg _ s5 σ3 H5 x u _ I5' r5 (step x H5 y5)) fun _ s6 ⟨σ6, H6, I6, q6⟩ => ?_)
    refine wpAny_passesOwn hp (thn (hb _ s6 σ6 H6 _ I6 q6) fun f s7 q7 => ?_)
    have again : ∀ {σ7 : St} {H7 : Hp}, Inv X (pins ++ pinsAt fp s5.heap) σ7 H7 s7 → N σ7 H7 → ∃ m, m < n ∧ ∃ i σ' H', Inv X pins σ' H' s7 ∧ tn i s7.heap ∧ (∀ b ∈ fp, H' b = none) ∧ W i m σ' H' := fun {σ7 H7} I7 n7 => by
      obtain ⟨m', hm, w7⟩ := hN σ7 H7 n7
      refine ⟨m', hm, i + 1, σ7, H7, I7.unpinned, T.keep _ _ _ st5 fun b hb o e => (I7.pin (b, o) (List.mem_append_right _ (List.mem_append_right _ (mem_pinsAt hb e)))).1, fun b hb => ?_, w7⟩
      obtain ⟨o, e, d⟩ := T.obj _ _ st5 b hb
      exact (I7.pin (b, o) (List.mem_append_right _ (List.mem_append_right _ (mem_pinsAt hb e)))).2.1
    cases f with
    | next => obtain ⟨σ7, H7, I7, n7⟩ := q7; exact again I7 n7
    | cont => obtain ⟨σ7, H7, I7, n7⟩ := q7; exact again I7 n7
    | brk => obtain ⟨σ7, H7, I7, q7⟩ := q7; exact ⟨σ7, H7, I7.unpinned, q7⟩
    | ret v => obtain ⟨x7, σ7, H7, I7, r7, q7⟩ := q7; exact ⟨x7, σ7, H7, I7.unpinned, r7, q7⟩
end

/-! ### the forms one uses -/
end L2

namespace L2
open PySem PySem.Spec PyProof.Rows

abbrev R2 := V → V → Hp → VK → Prop
/-- a two-place operation on values: f is binaryOp op, inplaceOp op or compareOp op -/
def OpR (X : Cx) (f : Value → Value → Sem Value) (r : R2) : Prop :=
  ∀ (pins : List (Addr × Obj)) (s : Shared) (σ : St) (H : Hp) (x y : V) (v u : Value) (Q : VK), Inv X pins σ H s → RelV x v → RelV y u → r x y H Q →
    wpAny (model X.prog X.w) X.A (f v u) (EP X pins σ Q) X.xe s
/-- a call of a value that is known (a builtin, a type) with values -/
def CallR (X : Cx) (f : Value) (r : List V → Hp → VK → Prop) : Prop :=
  ∀ (pins : List (Addr × Obj)) (s : Shared) (σ : St) (H : Hp) (xs : List V) (us : List Value) (Q : VK), Inv X pins σ H s → Vals xs us → r xs H Q →
    wpAny (model X.prog X.w) X.A (call f us) (EP X pins σ Q) X.xe s
/-- a value's truth -/
def TruR (X : Cx) (r : V → Hp → (Bool → Hp → Prop) → Prop) : Prop :=
  ∀ (pins : List (Addr × Obj)) (s : Shared) (σ : St) (H : Hp) (x : V) (v : Value) (Q : Bool → Hp → Prop), Inv X pins σ H s → RelV x v → r x H Q →
    wpAny (model X.prog X.w) X.A (truthy v) (TP X pins σ Q) X.xe s

def tOp (r : R2) (ta tb : TE) : TE := fun σ H Q => ta σ H fun x H1 => tb σ H1 fun y H2 => r x y H2 Q
/-- ints in, under C, and a value out -/
def rI (C : Int → Int → Prop) (g : Int → Int → V) : R2 := fun x y H Q => ∃ i j, x = .int i ∧ y = .int j ∧ C i j ∧ Q (g i j) H
def rI0 (g : Int → Int → V) : R2 := fun x y H Q => ∃ i j, x = .int i ∧ y = .int j ∧ Q (g i j) H

section
variable {X : Cx} {a b c : Expr} {ta tb tc : TE} {pos : Pos}

theorem binT (ha : PE X a ta) (hb : PE X b tb) {pins : List (Addr × Obj)} {s : Shared} {σ : St} {H : Hp} {R : V → V → Hp → Prop} (I : Inv X pins σ H s)
    (h : ta σ H fun x H1 => tb σ H1 fun y H2 => R x y H2) {Q : Value → Shared → Prop} {f : Value → Value → Sem Value}
    (hf : ∀ v u s2 x y H2, Inv X pins σ H2 s2 → RelV x v → RelV y u → R x y H2 → wpAny (model X.prog X.w) X.A (f v u) Q X.xe s2) :
    wpAny (model X.prog X.w) X.A (eval a X.env) (fun v s₁ => wpAny (model X.prog X.w) X.A (eval b X.env) (fun u s₂ => wpAny (model X.prog X.w) X.A (f v u) Q X.xe s₂) X.xe s₁) X.xe s := by
  refine thn (ha pins s σ H _ I h) fun v s1 ⟨x, H1, I1, r1, q1⟩ => ?_
  refine thn (hb pins s1 σ H1 _ I1 q1) fun u s2 ⟨y, H2, I2, r2, q2⟩ => ?_
  exact hf v u s2 x y H2 I2 r1 r2 q2

theorem pe_op {op : Operator} {r : R2} (ho : OpR X (binaryOp op) r) (ha : PE X a ta) (hb : PE X b tb) : PE X (.BinOp a op b pos) (tOp r ta tb) := by
  intro pins s σ H Q I h
  exact wpAny_BinOp (binT ha hb I h fun v u s2 x y H2 I2 rx ry q => ho pins s2 σ H2 x y v u Q I2 rx ry q)

/-! ### ints -/
theorem opI {f : Value → Value → Sem Value} {C : Int → Int → Prop} {g : Int → Int → Int}
    (rule : ∀ (i j : Int) (t u : Tok) (s : Shared) (Q : Value → Shared → Prop) (E : Value → Shared → Prop), C i j → Q (.int (g i j) s.toks) { s with toks := s.toks + 1 } → wpAny (model X.prog X.w) X.A (f (.int i t) (.int j u)) Q E s) :
    OpR X f (rI C fun i j => .int (g i j)) := by
  intro pins s σ H x y v u Q I rx ry h
  obtain ⟨i, j, rfl, rfl, hc, q⟩ := h
  obtain ⟨t, rfl⟩ := rx
  obtain ⟨t', rfl⟩ := ry
  exact rule i j t t' s _ _ hc ⟨.int (g i j), H, I.tok _, ⟨_, rfl⟩, q⟩
theorem opI0 {f : Value → Value → Sem Value} {g : Int → Int → Int}
    (rule : ∀ (i j : Int) (t u : Tok) (s : Shared) (Q : Value → Shared → Prop) (E : Value → Shared → Prop), Q (.int (g i j) s.toks) { s with toks := s.toks + 1 } → wpAny (model X.prog X.w) X.A (f (.int i t) (.int j u)) Q E s) :
    OpR X f (rI0 fun i j => .int (g i j)) := by
  intro pins s σ H x y v u Q I rx ry h
  obtain ⟨i, j, rfl, rfl, q⟩ := h
  obtain ⟨t, rfl⟩ := rx
  obtain ⟨t', rfl⟩ := ry
  exact rule i j t t' s _ _ ⟨.int (g i j), H, I.tok _, ⟨_, rfl⟩, q⟩
theorem opB0 {f : Value → Value → Sem Value} {g : Int → Int → Bool}
    (rule : ∀ (i j : Int) (t u : Tok) (s : Shared) (Q : Value → Shared → Prop) (E : Value → Shared → Prop), Q (.bool (g i j)) s → wpAny (model X.prog X.w) X.A (f (.int i t) (.int j u)) Q E s) :
    OpR X f (rI0 fun i j => .bl (g i j)) := by
  intro pins s σ H x y v u Q I rx ry h
  obtain ⟨i, j, rfl, rfl, q⟩ := h
  obtain ⟨t, rfl⟩ := rx
  obtain ⟨t', rfl⟩ := ry
  exact rule i j t t' s _ _ ⟨.bl (g i j), H, I, rfl, q⟩

def CDiv (i j : Int) : Prop := 0 < j ∧ j < 1073741824
def CMul (i j : Int) : Prop := (-(2 ^ 64) < i ∧ i < 2 ^ 64) ∨ (-(2 ^ 64) < j ∧ j < 2 ^ 64)
theorem CMul.ok {i j : Int} (h : CMul i j) : IntMulOk i j := by
  rcases h with ⟨h1, h2⟩ | ⟨h1, h2⟩
  · exact .of_left (intBits_le_64 h1 h2)
  · exact .of_right (intBits_le_64 h1 h2)

theorem op_add : OpR X (binaryOp .Add) (rI0 fun i j => .int (i + j)) := opI0 fun _ _ _ _ _ _ _ q => add_int q
theorem op_sub : OpR X (binaryOp .Sub) (rI0 fun i j => .int (i - j)) := opI0 fun _ _ _ _ _ _ _ q => sub_int q
theorem op_mul : OpR X (binaryOp .Mult) (rI CMul fun i j => .int (i * j)) := opI fun _ _ _ _ _ _ _ hc q => mul_int q hc.ok
/-- // by a positive divisor -/
theorem op_fdiv : OpR X (binaryOp .FloorDiv) (rI CDiv fun i j => .int (i / j)) := opI fun i j _ _ _ _ _ hc q => by
  have h1 : (0 : Int) < j := hc.1
  have h2 : j < 1073741824 := hc.2
  exact floordiv_int (by omega) (by rw [Int.fdiv_eq_ediv_of_nonneg i (by omega)]; exact q) (.inl (PyProof.noPylong_small (by omega)))
/-- % by a positive divisor of any size -/
theorem op_mod : OpR X (binaryOp .Mod) (rI (fun _ j => 0 < j) fun i j => .int (i % j)) := opI fun i j _ _ _ _ _ hc q => by
  have h1 : (0 : Int) < j := hc
  exact mod_int' (by omega) (by rw [Int.fmod_eq_emod_of_nonneg i (by omega)]; exact q)



/-! ### bools among ints: n += (a < b) -/
end

/-! ### comparisons -/


section
variable {X : Cx} {a b c : Expr} {ta tb tc : TE} {pos : Pos}

theorem op_lt : OpR X (compareOp .Lt) (rI0 fun i j => .bl (decide (i < j))) := opB0 fun _ _ _ _ _ _ _ q => lt_int q



/-- two rules for one operation: by cases -/
theorem OpR.or {f : Value → Value → Sem Value} {r r' : R2} (h : OpR X f r) (h' : OpR X f r') : OpR X f (fun x y H Q => r x y H Q ∨ r' x y H Q) := by
  intro pins s σ H x y v u Q I rx ry q
  rcases q with q | q
  · exact h pins s σ H x y v u Q I rx ry q
  · exact h' pins s σ H x y v u Q I rx ry q

theorem nomark (b : Expr) {op : CmpOp} (h : op ≠ .In := by decide) (h2 : op ≠ .NotIn := by decide) : behindInMarks op b = false := by
  have e1 : (op == CmpOp.In) = false := by cases op <;> first | rfl | exact absurd rfl h
  have e2 : (op == CmpOp.NotIn) = false := by cases op <;> first | rfl | exact absurd rfl h2
  cases b <;> simp [behindInMarks, e1, e2]
/-- a comparison as a value; hm: nomark b, or (for in, not in) by with_unfolding_all rfl -/
theorem pe_cmpR {op : CmpOp} {r : R2} (ho : OpR X (compareOp op) r) (ha : PE X a ta) (hb : PE X b tb) (hm : behindInMarks op b = false) : PE X (.Compare a [op] [b] pos) (tOp r ta tb) := by
  intro pins s σ H Q I h
  exact wpAny_Compare1 (binT ha hb I h fun v u s2 x y H2 I2 rx ry q => ho pins s2 σ H2 x y v u Q I2 rx ry q) hm
/-- a reading of a value as a test -/
def tTest (t : TE) : TT := fun σ H Q => t σ H fun x H' => ∃ k, x = .bl k ∧ Q k H'
theorem pt_cmpR {op : CmpOp} {r : R2} (ho : OpR X (compareOp op) r) (ha : PE X a ta) (hb : PE X b tb) (hm : behindInMarks op b = false) : PT X (.Compare a [op] [b] pos) (tTest (tOp r ta tb)) := by
  intro pins s σ H Q I h
  refine wpAny_isTrue_Compare1 (thn (ha pins s σ H _ I h) fun v s1 ⟨x, H1, I1, r1, q1⟩ => thn (hb pins s1 σ H1 _ I1 q1) fun u s2 ⟨y, H2, I2, r2, q2⟩ =>
    thn (ho pins s2 σ H2 x y v u _ I2 r1 r2 q2) fun c s3 ⟨z, H3, I3, r3, k, e, q3⟩ => ?_) hm
  subst e
  cases r3
  exact wpAny_truthy_bool ⟨H3, I3, q3⟩

/-! ### truth -/
/-- a value's truth by the abstract heap -/
def TruV (K : PySem.W.Frag) (x : V) (H : Hp) (k : Bool) : Prop :=
  match x with
  | .non => k = false
  | .bl b => k = b
  | .int i => k = (i != 0)
  | .str y => y.length ≤ sizeLine ∧ k = ((y.length : Int) != 0)
  | .byt y => y.size ≤ sizeLine ∧ k = ((y.size : Int) != 0)
  | .ref p => (∃ xs, SqL K H p xs ∧ k = !xs.isEmpty) ∨ (∃ xs, SqT K H p xs ∧ k = !xs.isEmpty) ∨ ∃ kvs, H p = some (.dK kvs) ∧ k = !kvs.isEmpty
  | _ => False
theorem isEmpty_kv {κ : Type} {kvs : List (κ × V)} {vs : List (κ × Value)} (r : KV kvs vs) : (!vs.isEmpty) = !kvs.isEmpty := by
  cases r <;> rfl
theorem isEmpty_of {xs : List V} {its : List Value} (r : Vals xs its) : (!its.toArray.isEmpty) = !xs.isEmpty := by
  cases r <;> simp
theorem line63 : (sizeLine : Nat) < 2 ^ 63 := by rw [sizeLine_eq]; decide
theorem tru_ok : TruR X (fun x H Q => ∃ k, TruV X.K x H k ∧ Q k H) := by
  intro pins s σ H x v Q I rx h
  obtain ⟨k, e, q⟩ := h
  have hl := line63
  have hs : sizeLine = 16777216 := sizeLine_eq
  cases x with
  | non =>
    cases rx
    have e' : k = false := e
    subst e'
    exact truthy_none ⟨H, I, q⟩
  | bl b =>
    cases rx
    have e' : k = b := e
    subst e'
    exact wpAny_truthy_bool ⟨H, I, q⟩
  | int i =>
    obtain ⟨t, rfl⟩ := rx
    have e' : k = (i != 0) := e
    subst e'
    exact PySem.P.truthy_int ⟨H, I, q⟩
  | str y =>
    obtain ⟨t, rfl⟩ := rx
    obtain ⟨hy, e'⟩ : y.length ≤ sizeLine ∧ k = ((y.length : Int) != 0) := e
    subst e'
    exact PySem.P.truthy_str (by omega) ⟨H, I.tok _, q⟩
  | byt y =>
    obtain ⟨t, rfl⟩ := rx
    obtain ⟨hy, e'⟩ : y.size ≤ sizeLine ∧ k = ((y.size : Int) != 0) := e
    subst e'
    exact PySem.W.truthy_bytes (by omega) ⟨H, I.tok _, q⟩
  | ref p =>
    cases rx
    have e' : (∃ xs, SqL X.K H p xs ∧ k = !xs.isEmpty) ∨ (∃ xs, SqT X.K H p xs ∧ k = !xs.isEmpty) ∨ ∃ kvs, H p = some (.dK kvs) ∧ k = !kvs.isEmpty := e
    rcases e' with ⟨xs, hx, e'⟩ | ⟨xs, hx, e'⟩ | ⟨kvs, hx, e'⟩
    · subst e'
      obtain ⟨its, r, pl, hz⟩ := I.list hx
      have hlen := r.length
      exact wpAny_truthy_list pl.isList (by simp only [List.size_toArray]; omega) ⟨H, I.tok _, by rw [isEmpty_of r]; exact q⟩
    · subst e'
      obtain ⟨its, r, pl, hz⟩ := I.tuple hx
      have hlen := r.length
      exact truthy_tuple pl (by simp only [List.size_toArray]; omega) ⟨H, I.tok _, by rw [isEmpty_of r]; exact q⟩
    · subst e'
      obtain ⟨hz, hS, vs, r, m⟩ : kvs.length ≤ sizeLine ∧ (p == sysModules) = false ∧ ∃ vs, KV kvs vs ∧ s.heap.DictOf (mixKind X.prog X.w) p vs := I.hok p _ hx
      have hlen : kvs.length = vs.length := Paired.length r
      exact wpAny_truthy_dict hS m (by omega) ⟨H, I.tok _, by rw [isEmpty_kv r]; exact q⟩
  | _ => exact (show False from e).elim
/-- any expression whose test is its value's truth (a name, a call, a subscript, a field ..: he by fun _ => rfl) -/
theorem pt_truth (ha : PE X a ta) (he : ∀ whole, isTrue a X.env whole = (do let v ← whole; standAt a.pos; holding [v] (truthy v))) :
    PT X a (fun σ H Q => ta σ H fun x H' => ∃ k, TruV X.K x H' k ∧ Q k H') := by
  intro pins s σ H Q I h
  exact isTrue_plain (thn (ha pins s σ H _ I h) fun v s1 ⟨x, H1, I1, r1, q1⟩ => tru_ok pins s1 σ H1 x v Q I1 r1 q1) (he _)

/-! ### strs and bytes -/


/-! ### scalar builtins, by CallR -/
theorem vals1 {x : V} {us : List Value} (r : Vals [x] us) : ∃ u, us = [u] ∧ RelV x u := by
  cases r with
  | cons r1 r2 => cases r2; exact ⟨_, rfl, r1⟩
theorem vals2 {x y : V} {us : List Value} (r : Vals [x, y] us) : ∃ u w', us = [u, w'] ∧ RelV x u ∧ RelV y w' := by
  cases r with
  | cons r1 r2 =>
    cases r2 with
    | cons r3 r4 => cases r4; exact ⟨_, _, rfl, r1, r3⟩
theorem call_int1 : CallR X (.type "int") (fun xs H Q => (∃ i, xs = [.int i] ∧ Q (.int i) H) ∨ ∃ k, xs = [.bl k] ∧ Q (.int (if k then 1 else 0)) H) := by
  intro pins s σ H xs us Q I r h
  rcases h with ⟨i, rfl, q⟩ | ⟨k, rfl, q⟩
  · obtain ⟨u, rfl, t, rfl⟩ := vals1 r
    exact call_int_int ⟨.int i, H, I, ⟨_, rfl⟩, q⟩
  · obtain ⟨u, rfl, r1⟩ := vals1 r
    cases r1
    exact call_int_bool ⟨.int (if k then 1 else 0), H, I.tok _, ⟨_, rfl⟩, q⟩
end
end L2

namespace L2
open PySem PySem.Spec PyProof.Rows

/-! ### an instance, its attributes a map -/
structure ObjM (h : Heap) (x dx C : Addr) (mA : Str → Option Value) : Prop where
  obj : h.get? x = some (PySem.W.instObj C dx)
  ns : h.Ns1 dx mA
  ne : dx ≠ x

theorem lookIn_ns {h : Heap} {dx : Addr} {mA : Str → Option Value} (n : h.Ns1 dx mA) : ∃ od, h.get? dx = some od ∧ ∀ name, PySem.W.lookIn name od = some (mA name) := by
  obtain ⟨o, es, ep, ho, hd, hk, _, hm⟩ := n
  refine ⟨o, ho, fun name => ?_⟩
  have e := hm name
  unfold nsFind findBy at e
  rw [← Array.find?_toList] at e
  unfold PySem.W.lookIn
  rw [hd]
  dsimp only
  split
  · rename_i y q
    rw [q] at e
    exact congrArg some e
  · rename_i q
    rw [q] at e
    have a : es.toList.any (·.refKey) = false := by
      rw [List.any_eq_false]
      intro y hy
      obtain ⟨z, t, hkey⟩ := hk y (Array.mem_toList_iff.mp hy)
      simp [DictEntry.refKey, hkey]
    have a' : ¬ es.toList.any (·.refKey) = true := by rw [a]; exact Bool.false_ne_true
    rw [if_neg a']
    exact congrArg some e

theorem ObjM.look {h : Heap} {x dx C : Addr} {mA : Str → Option Value} (I : ObjM h x dx C mA) : ∃ od, PySem.W.InstAt h x (PySem.W.instObj C dx) C (some od) ∧ ∀ name, PySem.W.lookIn name od = some (mA name) :=
  let ⟨od, ho, hl⟩ := lookIn_ns I.ns
  ⟨od, ⟨I.obj, rfl, rfl, ho⟩, hl⟩

section
variable {prog : Program} {w : World} {A : Around} {E : Value → Shared → Prop} {s : Shared} {K : PySem.W.Frag} {x dx C f : Addr} {mA : Str → Option Value} {name : Str} {v : Value}





end

/-! ### the attributes as a list of pairs -/


section
variable {P : Program} {w : World} {H H' : Hp} {h h' : Heap} {a C dx : Addr} {fs fs' : List (Str × V)}
theorem ins_get (hok : HOk P w H h) (e : H a = some (.ins C dx fs)) : ∃ mA, ObjM h a dx C mA ∧ (∀ f, RelO (fs.lookup f) (mA f)) ∧ PySem.Within mA (fs.map (·.1)) ∧ fs.length ≤ 1000 ∧ H dx = some (.own a) := by
  obtain ⟨d, z, ne, ob, mA, n, r, q⟩ := (show ObjOk P w H h a (.ins C dx fs) from hok a _ e)
  exact ⟨mA, ⟨ob, n, ne⟩, r, q, z, d⟩
end

/-! ### what of the text a class must have -/
structure Cls (K : PySem.W.Frag) (C : Addr) : Prop where
  pg : PySem.W.plainGet K C Str.empty = true
  hd : PySem.W.hasDictIn K C = true
  po : PySem.W.plainOver K C = true
  sa : PySem.W.findIn K (.ref C) "__setattr__" = some (some (.builtin "object.__setattr__"))
theorem Cls.get {K : PySem.W.Frag} {C : Addr} (c : Cls K C) (f : Str) : PySem.W.plainGet K C f = true := c.pg

section
variable {X : Cx} {pins : List (Addr × Obj)} {σ : St} {H : Hp} {s : Shared} {a C dx : Addr} {fs : List (Str × V)} {f : Str} {v : V} {A : Around} {E : Value → Shared → Prop}






end

/-! ### readings and rules -/

section
variable {X : Cx} {o e value : Expr} {f : Str} {pos pos' tpos : Pos} {ta tv : TE}

end

/-! ### isinstance -/
section
variable {X : Cx} {pins : List (Addr × Obj)} {σ : St} {H : Hp} {s : Shared} {A : Around} {E : Value → Shared → Prop} {Q : Value → Shared → Prop} {c : Value} {b : Bool}
/-- the type of a value, as the fragment's deciders take it; for an instance its class -/
inductive TyOf (K : PySem.W.Frag) (H : Hp) : V → Value → Prop where
  | non : TyOf K H .non (.type "NoneType")
  | bl (x : Bool) : TyOf K H (.bl x) (.type "bool")
  | int (i : Int) : TyOf K H (.int i) (.type "int")
  | str (x : Str) : TyOf K H (.str x) (.type "str")
  | flt (x : UInt64) : TyOf K H (.flt x) (.type "float")
  | lst {a : Addr} {xs : List V} (e : H a = some (.lst xs)) : TyOf K H (.ref a) (.type "list")
  | frz {a : Addr} {o : Obj} {xs : List V} (e : H a = some (.frz o (.lst xs))) : TyOf K H (.ref a) (.type "list")
  | tup {a : Addr} {xs : List V} (e : H a = some (.tup xs)) : TyOf K H (.ref a) (.type "tuple")
  | dK {a : Addr} {kvs : List (Key × V)} (e : H a = some (.dK kvs)) : TyOf K H (.ref a) (.type "dict")
  | dT {a : Addr} {kvs : List (List Key × V)} (e : H a = some (.dT kvs)) : TyOf K H (.ref a) (.type "dict")
  | ins {a C dx : Addr} {fs : List (Str × V)} (e : H a = some (.ins C dx fs)) (cl : Cls K C) (ha : PySem.W.findIn K (.ref C) "__class__" = some (some (.builtin "object.__class__")))
      (hn : PySem.W.specialIn K (.builtin "object.__class__") "__get__" = some (some (.builtin "getset_descriptor.__get__"))) (htk : PySem.W.takesIn K (.builtin "object.__class__") = some true)
      (hm : PySem.W.mroIn K C (.type "object") = some true) : TyOf K H (.ref a) (.ref C)
/-- isinstance(x, c) for one class c, a built-in or an own one: kitOne's answer -/
theorem isinst_ok {x : V} {u t : Value} (I : Inv X pins σ H s) (rx : RelV x u) (ty : TyOf X.K H x t) (e : PySem.W.kitOne X.K t c = some b) (h : ∀ tk, Q (.bool b) { s with toks := tk }) :
    wpAny (model X.prog X.w) A (call (.builtin "isinstance") [u, c]) Q E s := by
  cases ty with
  | non => cases (show u = Value.none from rx); exact PySem.W.kia_one PySem.W.kitx_none I.kIn True.intro e (fun z => nomatch z) h
  | bl y => cases (show u = Value.bool y from rx); exact PySem.W.kia_one PySem.W.kitx_bool I.kIn True.intro e (fun z => nomatch z) h
  | int i => obtain ⟨t, q⟩ := (show ∃ t, u = Value.int i t from rx); cases q; exact PySem.W.kia_one PySem.W.kitx_int I.kIn True.intro e (fun z => nomatch z) h
  | str y => obtain ⟨t, q⟩ := (show ∃ t, u = Value.str y t from rx); cases q; exact PySem.W.kia_one PySem.W.kitx_str I.kIn True.intro e (fun z => nomatch z) h
  | flt y => obtain ⟨t, q⟩ := (show ∃ t, u = Value.float y t from rx); cases q; exact PySem.W.kia_one PySem.W.kitx_float I.kIn True.intro e (fun z => nomatch z) h
  | @lst a xs ea =>
    cases (show u = Value.ref a from rx)
    obtain ⟨_, _, n, _, h1⟩ := (show ObjOk X.prog X.w H s.heap a (.lst xs) from I.hok a _ ea)
    exact PySem.W.kia_one PySem.W.kitx_list I.kIn ⟨_, h1, rfl⟩ e (fun z => nomatch z) h
  | @frz a ob xs ea =>
    cases (show u = Value.ref a from rx)
    obtain ⟨_, _, _, n, _, h1⟩ := (show ObjOk X.prog X.w H s.heap a (.frz ob (.lst xs)) from I.hok a _ ea)
    exact PySem.W.kia_one PySem.W.kitx_list I.kIn ⟨_, h1, rfl⟩ e (fun z => nomatch z) h
  | @tup a xs ea =>
    cases (show u = Value.ref a from rx)
    obtain ⟨_, _, _, p⟩ := (show ObjOk X.prog X.w H s.heap a (.tup xs) from I.hok a _ ea)
    obtain ⟨o, h1, h2, _⟩ := p
    exact PySem.W.kia_one PySem.W.kitx_tuple I.kIn ⟨o, h1, h2⟩ e (fun z => nomatch z) h
  | @dK a kvs ea =>
    cases (show u = Value.ref a from rx)
    obtain ⟨_, _, vs, _, p⟩ := (show ObjOk X.prog X.w H s.heap a (.dK kvs) from I.hok a _ ea)
    obtain ⟨o, es, ep, h1, h2, _⟩ := p
    exact PySem.W.kia_one PySem.W.kitx_dict I.kIn ⟨o, h1, h2.1⟩ e (fun z => nomatch z) h
  | @dT a kvs ea =>
    cases (show u = Value.ref a from rx)
    obtain ⟨_, _, xs, _, o, es, ep, h1, h2, _⟩ := (show ObjOk X.prog X.w H s.heap a (.dT kvs) from I.hok a _ ea)
    exact PySem.W.kia_one PySem.W.kitx_dict I.kIn ⟨o, h1, h2.1⟩ e (fun z => nomatch z) h
  | @ins a C dx fs ea cl ha hn htk hm =>
    cases (show u = Value.ref a from rx)
    obtain ⟨mA, O, _⟩ := ins_get I.hok ea
    obtain ⟨od, J, _⟩ := O.look
    exact PySem.W.kia_one (PySem.W.kitx_own (cl.get _) cl.hd ha hn htk hm) I.kIn J e (fun z => nomatch z) h
end
end L2

namespace L2
open PySem PySem.Spec PyProof.Rows

/-! ### room -/
structure Room (k : Nat) (A : Around) : Prop where
  hd : A.handled = none
  dp : A.depth + 3 * k + 5 < recursionLimit
  un : A.units + 16 * k + 200 < cLine
theorem Room.mono {j k : Nat} {A : Around} (r : Room k A) (h : j ≤ k) : Room j A := ⟨r.hd, by have := r.dp; omega, by have := r.un; omega⟩
theorem Room.deeper {k : Nat} {A : Around} (r : Room (k + 1) A) (env : Env) : Room k (A.deeper env) :=
  ⟨r.hd, by have := r.dp; show A.depth + 1 + 3 * k + 5 < _; omega, by have := r.un; show A.units + 3 + 16 * k + 200 < _; omega⟩
theorem Room.depth {k : Nat} {A : Around} (r : Room k A) : A.depth < recursionLimit := by have := r.dp; omega
theorem Room.units {k : Nat} {A : Around} (r : Room k A) : A.units + 64 < cLine := by have := r.un; omega

/-! ### argument lists and displays -/
def tNil : TA := fun _ H Q => Q [] H
def tCons (ta : TE) (tr : TA) : TA := fun σ H Q => ta σ H fun x H1 => tr σ H1 fun xs H2 => Q (x :: xs) H2
section
variable {X : Cx} {e : Expr} {es : List Expr} {te : TE} {t : TA} {pos : Pos}
theorem pa_nil : PA X [] tNil := fun _ _ _ _ H Q I h => Calls.spliced_nil ⟨[], H, I, .nil, h⟩
theorem pa_cons (ha : PE X e te) (hr : PA X es t) (hs : starEach (e :: es) X.env = (false, eval e X.env) :: starEach es X.env := by rfl) : PA X (e :: es) (tCons te t) := by
  intro pos pins s σ H Q I h
  rw [hs]
  show wpAny _ _ (spliced ((false, eval e X.env) :: backTo pos (starEach es X.env))) _ _ s
  refine Calls.spliced_cons (thn (ha pins s σ H _ I h) fun u s1 ⟨x, H1, I1, r1, q1⟩ => ?_)
  exact thn (hr pos pins s1 σ H1 _ I1 q1) fun us s2 ⟨xs, H2, I2, r2, q2⟩ => ⟨x :: xs, H2, I2, .cons r1 r2, q2⟩

/-- a tuple, a list of written items -/
def tTup (t : TA) : TE := fun σ H Q => t σ H fun xs H1 => xs.length ≤ sizeLine ∧ ∀ p, H1 p = none → Q (.ref p) (upd H1 p (.tup xs))
def tLst (t : TA) : TE := fun σ H Q => t σ H fun xs H1 => xs.length ≤ sizeLine ∧ ∀ p, H1 p = none → Q (.ref p) (upd H1 p (.lst xs))
theorem pe_tup {x1} (h : PA X es t) : PE X (.Tuple es x1 pos) (tTup t) := by
  intro pins s σ H Q I hq
  refine wpAny_Tuple_spliced (thn (h pos pins s σ H _ I hq) fun us s1 ⟨xs, H1, I1, r, z, q⟩ => ⟨by rw [← r.length]; exact z, ?_⟩)
  have hf : H1 s1.heap.objs.size = none := I1.hok.fresh (Nat.le_refl _)
  refine ⟨.ref s1.heap.objs.size, upd H1 s1.heap.objs.size (.tup xs), I1.laid (t' := s1.toks) (fun b u e => Heap.get?_push_of_some _ e) (Nat.le_refl _) ?_, rfl, q _ hf⟩
  exact ⟨z, us, r, ⟨_, Heap.get?_push_size _ rfl, rfl, _, rfl⟩⟩
theorem pe_lst (h : PA X es t) : PE X (.List es pos) (tLst t) := by
  intro pins s σ H Q I hq
  refine wpAny_List_spliced (thn (h pos pins s σ H _ I hq) fun us s1 ⟨xs, H1, I1, r, z, q⟩ => ⟨by rw [← r.length]; exact z, ?_⟩)
  have hf : H1 s1.heap.objs.size = none := I1.hok.fresh (Nat.le_refl _)
  refine ⟨.ref s1.heap.objs.size, upd H1 s1.heap.objs.size (.lst xs), I1.laid (t' := s1.toks) (fun b u e => Heap.get?_push_of_some _ e) (Nat.le_refl _) ?_, rfl, q _ hf⟩
  exact ⟨z, us, 0, r, Heap.get?_push_size _ rfl⟩
end

/-! ### what a def promises -/
/-- a def's promise: the bound arguments in the parameters' order, the heap, the wanted end, the wanted exception -/
abbrev Sp := List V → Hp → VK → XK → Prop
/-- how an exception lies behind a call (file 08 gives it): the callers' frames, abstract heap and state ahead of the call, the wish, the exception, the state -/
abbrev CXT := List Env → Hp → Shared → XK → Value → Shared → Prop

/-- the state at a call -/
structure Env0 (P : Program) (w : World) (K : PySem.W.Frag) (mg : Str → Option Value) (base : Heap) (A : Around) (outer : List Env) (s : Shared) (H : Hp) : Prop where
  frames : A.frames = some outer
  mod : Mod K mg base
  bs : ∀ b o, base.get? b = some o → s.heap.get? b = some o ∧ H b = none
  bsz : base.objs.size ≤ s.heap.objs.size
  funs : s.heap.FunFrames base outer
  frf : ∀ b ∈ frs outer, H b = none
  hok : HOk P w H s.heap
  bare : AllBare s.gens
/-- a call's end -/
def CE (outer : List Env) (P : Program) (w : World) (H : Hp) (s : Shared) (Q : VK) (u : Value) (s' : Shared) : Prop :=
  ∃ v H', s'.os = s.os ∧ AllBare s'.gens ∧ Un (frs outer) [] H H' s.heap s'.heap ∧ HOk P w H' s'.heap ∧ RelV v u ∧ Q v H'
def CR (CX : CXT) (outer : List Env) (P : Program) (w : World) (H : Hp) (s : Shared) (Q : VK) (E : XK) (r : Result) (s' : Shared) : Prop :=
  match r with
  | .ok (.ret u) => CE outer P w H s Q u s'
  | .ok _ => False
  | .error e => CX outer H s E e s'
structure FnOk (P : Program) (w : World) (K : PySem.W.Frag) (mg : Str → Option Value) (base : Heap) (CX : CXT) (k : Nat) (f : Addr) (fd : FuncData) (ps : List Str) (sp : Sp) : Prop where
  len : ∀ vs H Q E, sp vs H Q E → vs.length = ps.length
  run : ∀ (A : Around) (outer : List Env) (s : Shared) (H : Hp) (args : Args) (us : List Value) (vs : List V) (Q : VK) (E : XK), Room k A → Env0 P w K mg base A outer s H → BindsTo s fd args (ps.zip us) → Vals vs us → sp vs H Q E →
    codeAny (model P w) A (.call (.ref f) args) (CR CX outer P w H s Q E) s


section
variable {X : Cx} {pins : List (Addr × Obj)} {σ : St} {H : Hp} {s s' : Shared}
/-- from a body: what a callee wants -/
theorem Inv.env0 (I : Inv X pins σ H s) : Env0 X.prog X.w X.K X.mg X.base X.A X.stack s H :=
  ⟨I.ok.frames, I.ok.mod, I.bs, Nat.le_trans I.ok.bsz I.sz, I.stack, I.stkFree, I.hok, I.bare⟩
/-- behind a call -/
theorem Inv.after {Q : VK} {u : Value} (I : Inv X pins σ H s) (h : CE X.stack X.prog X.w H s Q u s') : EP X pins σ Q u s' := by
  obtain ⟨v, H', os, bare, un, hok, r, q⟩ := h
  obtain ⟨hh, g, d, t, os'⟩ := s'
  obtain rfl : os' = s.os := os
  exact ⟨v, H', I.call (h' := hh) (g' := g) (d' := d) (t' := t) (ch := []) un hok bare (fun b z => absurd z (by simp)), r, q⟩
end

/-! ### calls -/
/-- f(..): the written arguments, then the defaults dvs; E: what is wanted of an exception -/
def tCall (sp : Sp) (dvs : List V) (E : XK) (t : TA) : TE := fun σ H Q => t σ H fun vs H1 => sp (vs ++ dvs) H1 Q E

/-- how the parameters are bound: us the positional arguments, kw the keywords' values by name, ds the defaults that fill up -/
def Binds (K : PySem.W.Frag) (fd : FuncData) (ps : List Str) (ds : List Value) : Prop :=
  ∀ (s : Shared) (us : List Value), K.In s.heap → (us ++ ds).length = ps.length → BindsTo s fd ⟨us, []⟩ (ps.zip (us ++ ds))
/-- every parameter is given -/
theorem Binds.all {K : PySem.W.Frag} {fd : FuncData} {ps : List Str} (h : ∀ us : List Value, us.length = ps.length → bindArgs fd ⟨us, []⟩ = pure (ps.zip us)) : Binds K fd ps [] := fun s us _ hl => by
  rw [List.append_nil] at hl ⊢
  exact .of_eq (h us hl)

/-- an exception of a callee reaches what this body wants of exceptions -/
def Passes (CX : CXT) (X : Cx) (E : XK) : Prop := ∀ (pins : List (Addr × Obj)) (σ : St) (H : Hp) (s : Shared) (e : Value) (s' : Shared), Inv X pins σ H s → CX X.stack H s E e s' → X.xe e s'

section
variable {X : Cx} {CX : CXT} {k : Nat} {f C : Addr} {fd : FuncData} {ps : List Str} {sp : Sp} {dvs : List V} {ds : List Value} {E : XK} {x m : Str} {p pos apos : Pos} {e o : Expr} {es : List Expr} {ta : TE} {t : TA}

/-- the callee runs -/
theorem run_fn {pins : List (Addr × Obj)} {σ : St} {H : Hp} {s : Shared} {Q : VK} {us : List Value} {vs : List V} (F : FnOk X.prog X.w X.K X.mg X.base CX k f fd ps sp) (hr : Room k X.A) (hb : Binds X.K fd ps ds) (hd : Vals dvs ds) (hx : Passes CX X E)
    (I : Inv X pins σ H s) (r : Vals vs us) (h : sp (vs ++ dvs) H Q E) : wpAny (model X.prog X.w) X.A (call (.ref f) us) (EP X pins σ Q) X.xe s := by
  have r2 : Vals (vs ++ dvs) (us ++ ds) := r.append hd
  have hl : (us ++ ds).length = ps.length := by rw [← r2.length]; exact F.len _ _ _ _ h
  refine wpAny_call (codeAny_mono (F.run X.A X.stack s H ⟨us, []⟩ (us ++ ds) (vs ++ dvs) Q E hr I.env0 (hb s us I.kIn hl) r2 h) fun r s' hq => ?_)
  cases r with
  | error e => exact hx pins σ H s e s' I hq
  | ok fl =>
    cases fl with
    | ret u => exact I.after hq
    | next => exact False.elim hq
    | brk => exact False.elim hq
    | cont => exact False.elim hq

theorem pe_call (F : FnOk X.prog X.w X.K X.mg X.base CX k f fd ps sp) (hr : Room k X.A) (hg : Gl X x) (hm : X.mg x = some (.ref f)) (hk : PySem.W.keepIn X.K (.ref f) = true) (hb : Binds X.K fd ps ds) (hd : Vals dvs ds) (hx : Passes CX X E)
    (ha : PA X (e :: es) t) (hdb : (x == ("__debug__" : Str)) = false := by decide) (he : starEach (e :: es) X.env = (false, eval e X.env) :: starEach es X.env := by rfl) (hpl : (backTo pos (starEach es X.env)).any (·.1) = false := by rfl) :
    PE X (.Call (.Name x p) (e :: es) [] pos) (tCall sp dvs E t) := by
  intro pins s σ H Q I h
  refine wpAny_Call_Name_kw (ld_glob I hg hm ?_ hdb)
  refine PySem.W.callWith_K (h₀ := X.base) I.ok.mod.kin hk (thn (ha pos pins s σ H _ I h) fun us s1 ⟨vs, H1, I1, r, q⟩ => ⟨I1.kIn, ?_⟩) he hpl
  exact run_fn F hr hb hd hx I1 r q



end

/-! ### keywords -/
section
variable {X : Cx} {CX : CXT} {k : Nat} {f C : Addr} {fd : FuncData} {ps ks : List Str} {sp : Sp} {E : XK} {x m : Str} {p pos apos kpos : Pos} {e o : Expr} {es : List Expr} {kws : List Keyword} {te ta : TE} {t tk : TA} {nm : Option Str}

variable {g : List Value → List Value → List Value} {gV : List V → List V → List V}
end

/-! ### a def's body keeps its promise -/
/-- names: the parameters first -/
structure FnScope (N P : List Str) (sc : Scope) : Prop where
  kind : sc.kind = .function
  co : sc.isCoroutine = false
  gen : sc.isGenerator = false
  nd : N.Nodup
  pre : N.take P.length = P
  par : ∀ x ∈ P, sc.names.lookup x = some .local ∨ sc.names.lookup x = some .cell
  nofree : ∀ y ∈ sc.names, y.2 ≠ .free

theorem bindL_out {kindOf : Str → Option NameKind} {x : Str} : ∀ {binds : List (Str × Value)} {m : Str → Option Value}, (∀ v, (x, v) ∉ binds) → bindL kindOf binds m x = m x
  | [], _, _ => rfl
  | (n, v) :: r, m, h => by
    unfold bindL
    rw [bindL_out fun w hw => h w (List.mem_cons_of_mem _ hw)]
    split
    · have : x ≠ n := by rintro rfl; exact h v List.mem_cons_self
      simp [this]
    · rfl
theorem bindC_out {kindOf : Str → Option NameKind} {x : Str} : ∀ {binds : List (Str × Value)} {m : Str → Option Value}, (∀ v, (x, v) ∉ binds) → bindC kindOf binds m x = m x
  | [], _, _ => rfl
  | (n, v) :: r, m, h => by
    unfold bindC
    rw [bindC_out fun w hw => h w (List.mem_cons_of_mem _ hw)]
    split
    · rfl
    · have : x ≠ n := by rintro rfl; exact h v List.mem_cons_self
      simp [this]
theorem bindL_get {kindOf : Str → Option NameKind} {x : Str} {v : Value} : ∀ {P : List Str} {vs : List Value} {i : Nat} {m : Str → Option Value}, P.Nodup → P[i]? = some x → vs[i]? = some v → kindOf x = some .local →
    bindL kindOf (P.zip vs) m x = some v
  | [], _, _, _, _, h, _, _ => by simp at h
  | _ :: _, [], _, _, _, _, h, _ => by simp at h
  | p :: P, w :: vs, 0, m, nd, h1, h2, hk => by
    simp at h1 h2; subst h1; subst h2
    show bindL kindOf ((p, w) :: P.zip vs) m p = _
    unfold bindL
    rw [bindL_out fun v hv => (List.nodup_cons.mp nd).1 (List.of_mem_zip hv).1, if_pos hk]
    simp
  | p :: P, w :: vs, i + 1, m, nd, h1, h2, hk => by
    show bindL kindOf ((p, w) :: P.zip vs) m x = _
    unfold bindL
    exact bindL_get (i := i) (List.nodup_cons.mp nd).2 (by simpa using h1) (by simpa using h2) hk
theorem bindC_get {kindOf : Str → Option NameKind} {x : Str} {v : Value} : ∀ {P : List Str} {vs : List Value} {i : Nat} {m : Str → Option Value}, P.Nodup → P[i]? = some x → vs[i]? = some v → kindOf x ≠ some .local →
    bindC kindOf (P.zip vs) m x = some v
  | [], _, _, _, _, h, _, _ => by simp at h
  | _ :: _, [], _, _, _, _, h, _ => by simp at h
  | p :: P, w :: vs, 0, m, nd, h1, h2, hk => by
    simp at h1 h2; subst h1; subst h2
    show bindC kindOf ((p, w) :: P.zip vs) m p = _
    unfold bindC
    rw [bindC_out fun v hv => (List.nodup_cons.mp nd).1 (List.of_mem_zip hv).1, if_neg hk]
    simp
  | p :: P, w :: vs, i + 1, m, nd, h1, h2, hk => by
    show bindC kindOf ((p, w) :: P.zip vs) m x = _
    unfold bindC
    exact bindC_get (i := i) (List.nodup_cons.mp nd).2 (by simpa using h1) (by simpa using h2) hk

/-- the names' values at the entry -/
def start (N : List Str) (vs : List V) : St := vs.map some ++ List.replicate (N.length - vs.length) none

/-- the context of a def's body, at its entry; an exception leaves the frame, then lies as CX says -/
def cxOf (CX : CXT) (P : Program) (w : World) (K : PySem.W.Frag) (mg : Str → Option Value) (base : Heap) (N : List Str) (qual : Str) (scope : Scope) (f : Addr) (cd : Value) (A : Around) (outer : List Env) (s : Shared) (H : Hp) (E : XK) : Cx where
  prog := P
  w := w
  K := K
  mg := mg
  base := base
  A := A.deeper (envOfC qual scope s.heap.objs.size f cd)
  N := N
  s₀ := s
  H₀ := H
  env := envOfC qual scope s.heap.objs.size f cd
  outer := outer
  stack := envOfC qual scope s.heap.objs.size f cd :: outer
  ex := []
  calm := true
  fn := fun _ => true
  pn := []
  xe := fun e s' => wpAny (model P w) (A.deeper (envOfC qual scope s.heap.objs.size f cd)) (leaving (envOfC qual scope s.heap.objs.size f cd) e) (fun _ s'' => CX outer H s E e s'') (fun e' s'' => CX outer H s E e' s'') s'

theorem cell_has {sc : Scope} {n : Nat} {x : Str} (h : sc.names.lookup x = some .cell) : ∃ c, (cellsFrom n sc.names []).lookup x = some c := by
  have q := PySem.W.cellsFrom_some sc.names n [] (.inl h)
  exact Option.isSome_iff_exists.mp q

theorem inv_start {CX : CXT} {P : Program} {w : World} {K : PySem.W.Frag} {mg : Str → Option Value} {base : Heap} {N ps : List Str} {qual : Str} {scope : Scope} {f : Addr} {cd : Value} {A : Around} {outer : List Env} {s s1 : Shared} {H : Hp} {E : XK} {us : List Value} {vs : List V}
    (S : FnScope N ps scope) (hd : A.handled = none) (e0 : Env0 P w K mg base A outer s H) (hl : vs.length = ps.length) (r : Vals vs us)
    (x : InCallC s s.heap.objs.size (bindL (envOfC qual scope s.heap.objs.size f cd).kindOf (ps.zip us) fun _ => none) (cellsFrom (s.heap.objs.size + 1) scope.names []) (bindC (envOfC qual scope s.heap.objs.size f cd).kindOf (ps.zip us) fun _ => none) s1) :
    Inv (cxOf CX P w K mg base N qual scope f cd A outer s H E) [] (start N vs) H s1 := by
  have hpl : ps.length ≤ N.length := by have := congrArg List.length S.pre; rw [List.length_take] at this; omega
  obtain ⟨h1, tk, rfl, hk⟩ := x.done
  have noA : ∀ b : Addr, b ∉ (cxOf CX P w K mg base N qual scope f cd A outer s H E).ex := fun b z => absurd (show b ∈ ([] : List Addr) from z) (by simp)
  refine ⟨⟨e0.mod, S.kind, rfl, rfl, Nat.le_refl _, fun y z c h1 h2 => ?_, fun y hy => ?_, fun y c _ h => ?_, fun _ => hd, Around.frames_deeper e0.frames, .inr ⟨rfl, rfl⟩, fun b z => absurd z (noA b), e0.bs, e0.bsz, fun b _ _ => noA b, fun b z => absurd z (noA b), e0.funs, e0.frf⟩,
    rfl, e0.bare, Un.kept hk, ⟨_, x.toInCall.ns, fun i y v h1 h2 h3 => ?_⟩, fun y c h => ⟨_, x.cell y c h⟩, e0.hok.fresh (Nat.le_refl _), fun y c h => ?_, fun p hp => absurd (show p ∈ ([] : List (Addr × Obj)) from hp) (by simp), e0.hok.kept hk, ?_⟩
  · exact name_of_addr x.apart (PySem.mem_of_lookup h1) (PySem.mem_of_lookup h2)
  · have hy : scope.names.lookup y = some .cell ∨ scope.names.lookup y = some .free := hy
    rcases hy with hy | hy
    · exact cell_has hy
    · exact absurd rfl (S.nofree _ (PySem.mem_of_lookup hy))
  · exact Nat.le_of_lt (x.above y c (PySem.mem_of_lookup h))
  · have hi : i < vs.length := by
      unfold start at h2
      by_cases hi : i < vs.length
      · exact hi
      · rw [List.getElem?_append_right (by simpa using hi)] at h2
        rw [List.getElem?_replicate] at h2
        split at h2 <;> cases h2
    have ha : vs[i]? = some v := by
      unfold start at h2
      rw [List.getElem?_append_left (by simpa using hi), List.getElem?_map] at h2
      cases e : vs[i]? with
      | none => rw [e] at h2; cases h2
      | some a => rw [e] at h2; cases h2; rfl
    obtain ⟨u, hu, rv⟩ := r.get ha
    have hp : ps[i]? = some y := by
      rw [← S.pre, List.getElem?_take_of_lt (by omega)]; exact h1
    have ndP : ps.Nodup := by rw [← S.pre]; exact S.nd.sublist (List.take_sublist _ _)
    refine ⟨u, rv, ?_⟩
    rcases S.par y (List.mem_of_getElem? hp) with k | k
    · exact .inl ⟨k, bindL_get ndP hp hu k⟩
    · obtain ⟨c, e⟩ := cell_has (n := s.heap.objs.size + 1) k
      refine .inr ⟨.inl k, c, e, ?_⟩
      have q := x.cell y c e
      rw [bindC_get ndP hp hu (by show scope.names.lookup y ≠ _; rw [k]; decide)] at q
      exact q
  · exact e0.hok.fresh (Nat.le_of_lt (x.above y c (PySem.mem_of_lookup h)))
  · unfold start
    show _ = N.length
    rw [List.length_append, List.length_map, List.length_replicate]
    omega

/-- THE RULE: a def (or a method) of the text, by its body. The body's reading t is chosen for each entry; it is run at the parameters' values -/
theorem fn_of {CX : CXT} {P : Program} {w : World} {K : PySem.W.Frag} {mg : Str → Option Value} {base : Heap} {k : Nat} {f : Addr} {name qual : Str} {params : Arguments} {body : List Stmt} {scope : Scope} {dV kV doc pm cdv ct oc : Value} {an od : Option Addr}
    {osl : Array (Option Value)} {N ps : List Str} {sp : Sp} (lk : K.lookup f = some ⟨oc, od, .func (PySem.W.fnOf name qual params body scope dV kV doc pm an cdv ct), osl⟩) (hcd : PySem.W.codeIn K cdv qual = true) (S : FnScope N ps scope)
    (len : ∀ vs H Q E, sp vs H Q E → vs.length = ps.length)
    (hbody : ∀ (A : Around) (outer : List Env) (s : Shared) (H : Hp) (vs : List V) (Q : VK) (E : XK), Room k (A.deeper (envOfC qual scope s.heap.objs.size f cdv)) → sp vs H Q E →
      ∃ t, PSs (cxOf CX P w K mg base N qual scope f cdv A outer s H E) body t ∧ t { nx := fun _ H' => Q .non H', rt := Q } (start N vs) H) :
    FnOk P w K mg base CX (k + 1) f (PySem.W.fnOf name qual params body scope dV kV doc pm an cdv ct) ps sp := by
  refine ⟨len, fun A outer s H args us vs Q E hr e0 hb r hsp => ?_⟩
  have hl := len _ _ _ _ hsp
  have KX : K.In s.heap := e0.mod.kin.keeps fun b o e => (e0.bs b o e).1
  have lim : s.heap.NoLimit := e0.mod.nolimit.keeps fun b o e => (e0.bs b o e).1
  have hkind : ∀ y ∈ ps.zip us, scope.names.lookup y.1 = some .local ∨ (scope.names.lookup y.1 = some .cell ∧ ((cellsFrom (s.heap.objs.size + 1) scope.names []).lookup y.1).isSome = true) := fun ⟨n, v⟩ hy => by
    rcases S.par n (List.of_mem_zip hy).1 with q | q
    · exact .inl q
    · exact .inr ⟨q, PySem.W.cellsFrom_some _ _ _ (.inl q)⟩
  refine codeAny_call_function hr.depth (KX _ _ lk) rfl S.co S.gen rfl (PySem.W.codeRec_of KX hcd) (hb _ _ _ _ ?_)
  refine wpAny_newFunctionEnv_cells S.kind hkind fun env he s1 x => ?_
  subst he
  refine ⟨lim.keeps x.toInCall.keep, codeAny_func ?_⟩
  obtain ⟨t, ht, hq⟩ := hbody A outer s H vs Q E (hr.deeper _) hsp
  have I : Inv (cxOf CX P w K mg base N qual scope f cdv A outer s H E) [] (start N vs) H s1 := inv_start S hr.hd e0 hl r x
  refine wpAny_mono (ht [] s1 (start N vs) H _ I hq) (fun fl s' hs => ?_) fun e s' hs => hs
  have fin : ∀ {σ' : St} {H' : Hp} {v : V} {u : Value}, Inv (cxOf CX P w K mg base N qual scope f cdv A outer s H E) [] σ' H' s' → RelV v u → Q v H' → CE outer P w H s Q u s' :=
    fun {σ' H' v u} J rv q => ⟨v, H', J.os, J.bare, J.base, J.hok, rv, q⟩
  cases fl with
  | ret u =>
    obtain ⟨v, σ', H', J, rv, q⟩ := hs
    exact fin J rv q
  | next =>
    obtain ⟨σ', H', J, q⟩ := hs
    exact fin (v := V.non) (u := Value.none) J rfl q
  | brk =>
    obtain ⟨_, _, _, q⟩ := hs
    exact False.elim q
  | cont =>
    obtain ⟨_, _, _, q⟩ := hs
    exact False.elim q
end L2

namespace L2
open PySem PySem.Spec PyProof.Rows
section
variable {X : Cx} {x : Str} {p pos : Pos} {e : Expr} {es : List Expr} {t : TA} {id T : String} {r : List V → Hp → VK → Prop}

def tCB (r : List V → Hp → VK → Prop) (t : TA) : TE := fun σ H Q => t σ H fun vs H1 => r vs H1 Q
/-- f(e, ..), f a built-in function -/
theorem pe_callB (hc : CallR X (.builtin id) r) (hg : Gl X x) (hm : X.mg x = none) (hv : bootBuiltins x = some (.builtin id)) (ha : PA X (e :: es) t) (hn : x ≠ "__name__" := by decide) (hdb : (x == ("__debug__" : Str)) = false := by decide)
    (he : starEach (e :: es) X.env = (false, eval e X.env) :: starEach es X.env := by rfl) (hpl : (backTo pos (starEach es X.env)).any (·.1) = false := by rfl) : PE X (.Call (.Name x p) (e :: es) [] pos) (tCB r t) := by
  intro pins s σ H Q I h
  refine wpAny_Call_Name_kw (ld_blt I hg hm hv ?_ hn hdb)
  exact PyProof.Rows.callWith_builtin1 (thn (ha pos pins s σ H _ I h) fun us s1 ⟨vs, H1, I1, r1, q1⟩ => hc pins s1 σ H1 vs us Q I1 r1 q1) he hpl
/-- T(e, ..), T a built-in type -/
theorem pe_callTy (hc : CallR X (.type T) r) (hg : Gl X x) (hm : X.mg x = none) (hv : bootBuiltins x = some (.type T)) (ha : PA X (e :: es) t) (hn : x ≠ "__name__" := by decide) (hdb : (x == ("__debug__" : Str)) = false := by decide)
    (he : starEach (e :: es) X.env = (false, eval e X.env) :: starEach es X.env := by rfl) (hpl : (backTo pos (starEach es X.env)).any (·.1) = false := by rfl) : PE X (.Call (.Name x p) (e :: es) [] pos) (tCB r t) := by
  intro pins s σ H Q I h
  refine wpAny_Call_Name_kw (ld_blt I hg hm hv ?_ hn hdb)
  exact PyProof.Rows.callWith_type1 (thn (ha pos pins s σ H _ I h) fun us s1 ⟨vs, H1, I1, r1, q1⟩ => hc pins s1 σ H1 vs us Q I1 r1 q1) he hpl
end
end L2

namespace HT
open PySem PyProof.Rows


theorem eqAt_int (A : Around) (s : Shared) (a : Int) (t : Tok) (c : Int) (u : Tok) : ∃ e, SeqAt.EqAt A s (.int a t) (.int c u) e ∧ (e = true ↔ a = c) :=
  ⟨(a == c), SeqAt.EqAt.int_int a t c u, by simp⟩

section
open PySem.SeqAt
open PySem.AutoSeq1 (wpAny_loadPart')
open PySem.MeetsSeq PySem.MeetsSeq2 PySem.MeetsSeq3

end

section
variable {prog : Program} {w : World} {A : Around} {E : Value → Shared → Prop} {s : Shared}


/-- t + u, t not empty -/
theorem cat_tup {t b : Addr} {vs ws : List Value} {Q : Value → Shared → Prop} (ht : IsTup s.heap t vs.toArray) (hb : IsTup s.heap b ws.toArray) (hv : vs ≠ [])
    (h1 : ws = [] → Q (.ref t) s) (h2 : ws ≠ [] → Q (.ref s.heap.objs.size) { s with heap := s.heap.push { cls := .type "tuple", data := .seq (vs ++ ws).toArray } })
    (hsz : vs.length + ws.length ≤ sizeLine) : wpAny (model prog w) A (binaryOp .Add (.ref t) (.ref b)) Q E s := by
  obtain ⟨⟨cls, dd, data, sl⟩, ho, hc, n, hd⟩ := id ht
  obtain ⟨⟨cls2, dd2, data2, sl2⟩, ho2, hc2, n2, hd2⟩ := id hb
  simp only at hc hd hc2 hd2
  subst hc hd hc2 hd2
  have e : vs.toArray ++ ws.toArray = (vs ++ ws).toArray := by simp
  by_cases hw : ws = []
  · exact concat_meets ⟨_, ho, rfl⟩ ⟨_, ho2, rfl⟩ noFill_tuple_add seq_tuple_add PySem.F.slot_tuple_add PySem.F.entry_tuple_add (PySem.F.args_tuple_add_2 _ _)
      (tuple_addW1 t b vs.toArray ws.toArray n n2 dd dd2 sl sl2 (by simpa using hv) (by simp [hw])) ⟨ho, ho2, h1 hw⟩
  · refine concat_meets ⟨_, ho, rfl⟩ ⟨_, ho2, rfl⟩ noFill_tuple_add seq_tuple_add PySem.F.slot_tuple_add PySem.F.entry_tuple_add (PySem.F.args_tuple_add_2 _ _)
      (tuple_addW2 t b vs.toArray ws.toArray n n2 dd dd2 sl sl2 (by simpa using hv) (by simpa using hw) (by rw [List.size_toArray, List.size_toArray]; exact hsz)) ⟨ho, ho2, ?_⟩
    rw [e]
    exact h2 hw

/-! ### t[a:b], not the whole -/
/-- a slice's bound as a place among n (d where it is left out) -/
def sIx (n d : Nat) : Option Int → Nat
  | none => d
  | some v => if v < 0 then (v + (n : Int)).toNat else min v.toNat n
theorem sIx_none (n d : Nat) : sIx n d none = d := rfl
theorem sIx_nat (n d k : Nat) : sIx n d (some (k : Int)) = min k n := by
  show (if (k : Int) < 0 then ((k : Int) + (n : Int)).toNat else min (k : Int).toNat n) = min k n
  rw [if_neg (by omega), Int.toNat_natCast]
theorem sIx_le (n d : Nat) (hd : d ≤ n) (o : Option Int) : sIx n d o ≤ n := by
  cases o with
  | none => exact hd
  | some v =>
    show (if v < 0 then (v + (n : Int)).toNat else min v.toNat n) ≤ n
    by_cases hv : v < 0
    · rw [if_pos hv]; omega
    · rw [if_neg hv]; exact Nat.min_le_right _ _
theorem clip_eq (v : Int) (n d : Nat) : (if v < 0 then max (v + (n : Int)) 0 else min v (n : Int)) = ((sIx n d (some v) : Nat) : Int) := by
  show (if v < 0 then max (v + (n : Int)) 0 else min v (n : Int)) = (((if v < 0 then (v + (n : Int)).toNat else min v.toNat n) : Nat) : Int)
  by_cases hv : v < 0
  · simp only [if_pos hv]; omega
  · simp only [if_neg hv]; omega
theorem adjust_gen (lo hi : Option Int) (n : Nat) : Builtin.Slice.sliceAdjust lo hi 1 (n : Int) = (((sIx n 0 lo : Nat) : Int), ((sIx n n hi : Nat) : Int)) := by
  have h1 : ¬ ((1 : Int) < 0) := by omega
  unfold Builtin.Slice.sliceAdjust
  simp only [h1, if_false]
  refine Prod.ext ?_ ?_
  · cases lo with
    | none => rfl
    | some v => exact clip_eq v n 0
  · cases hi with
    | none => rfl
    | some v => exact clip_eq v n n
theorem places_gen (i j : Nat) : Builtin.Slice.slicePlaces (i : Int) (j : Int) 1 = j - i := by
  unfold Builtin.Slice.slicePlaces
  have h1 : (1 : Int) > 0 := by omega
  simp only [h1, if_true, Int.ediv_one]
  split <;> omega
theorem slicePart_ {v : Value} {o : Option Int} {Q : Option Int → Shared → Prop} (p : IsPart v o) (h : Q o s) : wpAny (model prog w) A (Builtin.Slice.slicePartIndex v) Q E s := by
  cases p with
  | none => exact slicePart_none h
  | int i t => exact slicePart_int h
theorem sliceApplied_gen {sl : Addr} {vl vu : Value} {lo hi : Option Int} {n : Nat} {Q : Int × Int × Nat → Shared → Prop} (hs : s.heap.IsSliceOf sl vl vu .none) (pl : IsPart vl lo) (pu : IsPart vu hi)
    (h : Q (((sIx n 0 lo : Nat) : Int), 1, sIx n n hi - sIx n 0 lo) s) : wpAny (model prog w) A (Builtin.Slice.sliceApplied (.ref sl) (pure (n : Int))) Q E s := by
  obtain ⟨os, hos, hcs, hds⟩ := id hs
  unfold Builtin.Slice.sliceApplied Builtin.Slice.sliceFields
  refine wpAny_bind (wpAny_bind (wpAny_field hos hds (x := vl) rfl (wpAny_bind (wpAny_field hos hds (x := vu) rfl (wpAny_bind (wpAny_field hos hds (x := .none) rfl (wpAny_pure ?_)))))))
  refine wpAny_bind (slicePart_none ?_)
  show wpAny _ _ (if ((1 : Int) == 0) = true then _ else _) _ _ s
  rw [if_neg (by decide)]
  refine wpAny_bind (slicePart_ pl (wpAny_bind (slicePart_ pu (wpAny_bind (wpAny_pure ?_)))))
  show wpAny _ _ (match Builtin.Slice.sliceAdjust lo hi 1 (n : Int) with | (lo, hi) => pure (lo, (1 : Int), Builtin.Slice.slicePlaces lo hi 1)) _ _ s
  rw [adjust_gen lo hi n]
  show wpAny _ _ (pure (((sIx n 0 lo : Nat) : Int), (1 : Int), Builtin.Slice.slicePlaces ((sIx n 0 lo : Nat) : Int) ((sIx n n hi : Nat) : Int) 1)) _ _ s
  rw [places_gen]
  exact wpAny_pure h
theorem pick_gen (xs : Array Value) (i k : Nat) : ((List.range k).filterMap fun (m : Nat) => xs[((i : Int) + (m : Int) * 1).toNat]?).toArray = ((xs.toList.drop i).take k).toArray := by
  have e : (fun (m : Nat) => xs[((i : Int) + (m : Int) * 1).toNat]?) = fun m => xs[i + m]? := by
    funext m
    have : ((i : Int) + (m : Int) * 1).toNat = i + m := by omega
    rw [this]
  rw [e]
  have := pick_run xs i k
  rw [List.filterMap_map] at this
  have e2 : ((fun x => xs[x]?) ∘ fun x => i + x) = fun m => xs[i + m]? := rfl
  rw [e2] at this
  rw [this]

theorem getItem_tuple_cut {t sl : Addr} {items : Array Value} {vl vu : Value} {lo hi : Option Int} {Q : Value → Shared → Prop} (ht : IsTup s.heap t items) (hs : s.heap.IsSliceOf sl vl vu .none) (pl : IsPart vl lo) (pu : IsPart vu hi)
    (hw : ¬ (sIx items.size 0 lo = 0 ∧ sIx items.size items.size hi = items.size))
    (h : Q (.ref s.heap.objs.size) { s with heap := s.heap.push { cls := .type "tuple", data := .seq ((items.toList.drop (sIx items.size 0 lo)).take (sIx items.size items.size hi - sIx items.size 0 lo)).toArray } })
    (hsz : items.size ≤ sizeLine) : wpAny (model prog w) A (getItem (.ref t) (.ref sl)) Q E s := by
  have htake : sizeOk (.seq ((items.toList.drop (sIx items.size 0 lo)).take (sIx items.size items.size hi - sIx items.size 0 lo)).toArray) := by
    show ((items.toList.drop (sIx items.size 0 lo)).take (sIx items.size items.size hi - sIx items.size 0 lo)).toArray.size ≤ sizeLine
    rw [List.size_toArray, List.length_take, List.length_drop, Array.length_toList]
    omega
  have hj : sIx items.size items.size hi ≤ items.size := sIx_le _ _ (Nat.le_refl _) hi
  obtain ⟨os, hos, hcs, hds⟩ := id hs
  have hTs : s.TypeIs (.ref sl) "slice" := ⟨os, hos, hcs⟩
  unfold getItem
  try with_reducible refine wpAny_holding ?_
  first | refine wpAny_bind (wpAny_pure ?_) | skip
  refine wpAny_bind (wpAny_sequenceKey ht.typeIs (by decide) ?_)
  refine wpAny_bind (wpAny_callSpecial?_slot (name := Str.ofString "__getitem__") ht.typeIs PyProof.Rows.slot_tuple_getitem
    (wpAny_call_entry PyProof.Rows.slot_tuple_getitem ht.typeIs entry_tuple_getitem ?_ (args_tuple_getitem _ _)))
  show wpAny _ _ (Builtin.Tuple.tupleItemsOf (.ref t) >>= _) _ _ s
  refine wpAny_bind (tupleItemsOf_ ht ?_)
  refine wpAny_bind (wpAny_typeOf hTs ?_)
  rw [if_pos (by decide)]
  refine wpAny_bind (sliceApplied_gen hs pl pu ?_)
  have hno : ¬ ((((sIx items.size 0 lo : Nat) : Int) == 0 && (1 : Int) == 1 && (sIx items.size items.size hi - sIx items.size 0 lo) == items.size) = true) := by
    intro q
    rw [Bool.and_eq_true, Bool.and_eq_true] at q
    have q1 : ((sIx items.size 0 lo : Nat) : Int) = 0 := eq_of_beq q.1.1
    have q2 : sIx items.size items.size hi - sIx items.size 0 lo = items.size := eq_of_beq q.2
    exact hw ⟨by omega, by omega⟩
  show wpAny _ _ (if (((sIx items.size 0 lo : Nat) : Int) == 0 && (1 : Int) == 1 && (sIx items.size items.size hi - sIx items.size 0 lo) == items.size) = true then _ else _) _ _ s
  rw [if_neg hno, pick_gen]
  first
    | exact wpAny_bind (m := Builtin.Tuple.tupleExact _) (wpAny_newObj_type (wpAny_pure ⟨_, rfl, wpAny_pure h⟩) htake)
    | exact wpAny_bind (m := Builtin.Tuple.tupleExact _) (wpAny_newObj_type (wpAny_bind (wpAny_pure (wpAny_pure ⟨_, rfl, wpAny_pure h⟩))) htake)
    | exact wpAny_bind (wpAny_bind (m := Builtin.Tuple.tupleExact _) (wpAny_newObj_type (wpAny_pure (wpAny_pure ⟨_, rfl, wpAny_pure h⟩)) htake))
    | exact wpAny_bind (wpAny_bind (m := Builtin.Tuple.tupleExact _) (wpAny_newObj_type (wpAny_pure ⟨_, rfl, wpAny_pure h⟩) htake))
end
end HT

namespace L2
open PySem PySem.Spec PyProof.Rows

/-! ### the parts of a slice -/
abbrev TO := St → Hp → (Option Int → Hp → Prop) → Prop
/-- a slice's part (left out, or an int) -/
def PO (X : Cx) (e : Option Expr) (t : TO) : Prop :=
  ∀ (pins : List (Addr × Obj)) (s : Shared) (σ : St) (H : Hp) (Q : Option Int → Hp → Prop), Inv X pins σ H s → t σ H Q →
    wpAny (model X.prog X.w) X.A (evalPart e X.env) (fun u s' => ∃ o H', Inv X pins σ H' s' ∧ IsPart u o ∧ Q o H') X.xe s
def tNoPart : TO := fun _ H Q => Q none H
def tPart (t : TE) : TO := fun σ H Q => t σ H fun x H1 => ∃ i, x = .int i ∧ Q (some i) H1

theorem intsAre_of {ns : List Int} : ∀ {us : List Value}, Vals (ns.map V.int) us → IntsAre us ns := by
  induction ns with
  | nil => intro us r; rw [List.map_nil] at r; cases r; exact .nil
  | cons n ns ih =>
    intro us r
    rw [List.map_cons] at r
    cases r with
    | cons r1 r2 =>
      obtain ⟨t, e⟩ := r1
      subst e
      exact .cons n t (ih r2)

section
variable {X : Cx} {e : Expr} {te : TE} {lo hi : Option Expr} {tl th : TO} {pos p2 : Pos}

theorem po_none : PO X none tNoPart := by
  intro pins s σ H Q I h
  rw [evalPart_none]
  exact wpAny_pure ⟨none, H, I, .none, h⟩
theorem po_some (h : PE X e te) : PO X (some e) (tPart te) := by
  intro pins s σ H Q I hw
  rw [evalPart_some]
  refine thn (h pins s σ H _ I hw) fun u s1 ⟨x, H1, I1, r1, q1⟩ => ?_
  obtain ⟨i, rfl, q⟩ := q1
  obtain ⟨t, rfl⟩ := r1
  exact ⟨some i, H1, I1, .int i t, q⟩

/-- what a slice of a value is, by values: the slice object stands at sl -/
def SlR (X : Cx) (r : V → Option Int → Option Int → Hp → VK → Prop) : Prop :=
  ∀ (pins : List (Addr × Obj)) (s : Shared) (σ : St) (H : Hp) (x : V) (v vl vu : Value) (lo hi : Option Int) (sl : Addr) (Q : VK), Inv X pins σ H s → RelV x v → s.heap.IsSliceOf sl vl vu .none → IsPart vl lo → IsPart vu hi → r x lo hi H Q →
    ∃ T id, typeLookup (.type T) "__getitem__" = pure (some (.builtin id)) ∧ s.TypeIs v T ∧ wpAny (model X.prog X.w) X.A (getItem v (.ref sl)) (EP X pins σ Q) X.xe s
theorem SlR.or {r r' : V → Option Int → Option Int → Hp → VK → Prop} (h : SlR X r) (h' : SlR X r') : SlR X (fun x lo hi H Q => r x lo hi H Q ∨ r' x lo hi H Q) := by
  intro pins s σ H x v vl vu lo hi sl Q I rx hs pl pu q
  rcases q with q | q
  · exact h pins s σ H x v vl vu lo hi sl Q I rx hs pl pu q
  · exact h' pins s σ H x v vl vu lo hi sl Q I rx hs pl pu q
def tSl (r : V → Option Int → Option Int → Hp → VK → Prop) (te : TE) (tl th : TO) : TE := fun σ H Q => te σ H fun x H1 => tl σ H1 fun l H2 => th σ H2 fun u H3 => r x l u H3 Q
/-- a[lo:hi], any a -/
theorem pe_slice {r : V → Option Int → Option Int → Hp → VK → Prop} (hr : SlR X r) (he : PE X e te) (hl : PO X lo tl) (hu : PO X hi th) : PE X (.Subscript e (.Slice lo hi none p2) pos) (tSl r te tl th) := by
  intro pins s σ H Q I h
  refine Subscript_ (thn (he pins s σ H _ I h) fun v s1 ⟨x, H1, I1, r1, q1⟩ => ?_)
  refine wpAny_Slice (thn (hl pins s1 σ H1 _ I1 q1) fun vl s2 ⟨l, H2, I2, pl, q2⟩ => thn (hu pins s2 σ H2 _ I2 q2) fun vu s3 ⟨u, H3, I3, pu, q3⟩ => ?_)
  rw [evalPart_none]
  refine wpAny_pure ?_
  have I4 : Inv X pins σ H3 { s3 with heap := s3.heap.push { cls := .type "slice", data := .fields #[vl, vu, .none] } } := I3.kept (t' := s3.toks) fun b ob q => Heap.get?_push_of_some _ q
  obtain ⟨T, id, hT, ht, hg⟩ := hr pins { s3 with heap := s3.heap.push { cls := .type "slice", data := .fields #[vl, vu, .none] } } σ H3 x v vl vu l u s3.heap.objs.size Q I4 r1 (Heap.IsSliceOf.new ..) pl pu q3
  show wpAny (model X.prog X.w) X.A (subscriptTail e (.Slice lo hi none p2) v (.ref s3.heap.objs.size)) (EP X pins σ Q) X.xe { s3 with heap := s3.heap.push { cls := .type "slice", data := .fields #[vl, vu, .none] } }
  exact tail_any (ops := [.ref s3.heap.objs.size, v]) ht hT hg (by with_unfolding_all rfl)

/-- the items of xs[lo:hi] -/
def cutV (xs : List V) (lo hi : Option Int) : List V := (xs.drop (HT.sIx xs.length 0 lo)).take (HT.sIx xs.length xs.length hi - HT.sIx xs.length 0 lo)
theorem cutV_length (xs : List V) (lo hi : Option Int) : (cutV xs lo hi).length ≤ xs.length := by
  unfold cutV
  rw [List.length_take, List.length_drop]
  omega
/-- t[lo:hi], not the whole of it (the whole would be t itself) -/
def rSlT (K : PySem.W.Frag) : V → Option Int → Option Int → Hp → VK → Prop := fun x lo hi H Q => ∃ a xs, x = .ref a ∧ SqT K H a xs ∧
  ¬ (HT.sIx xs.length 0 lo = 0 ∧ HT.sIx xs.length xs.length hi = xs.length) ∧ ∀ p, H p = none → Q (.ref p) (upd H p (.tup (cutV xs lo hi)))
theorem sl_tup : SlR X (rSlT X.K) := by
  intro pins s σ H x v vl vu lo hi sl Q I rx hs pl pu h
  obtain ⟨a, xs, rfl, hx, hw, q⟩ := h
  cases rx
  obtain ⟨its, r, ht, hz⟩ := I.tuple hx
  have hlen : its.toArray.size = xs.length := by rw [List.size_toArray]; exact r.length.symm
  refine ⟨"tuple", _, PyProof.Rows.slot_tuple_getitem.lookup, ht.typeIs, ?_⟩
  refine HT.getItem_tuple_cut ht hs pl pu (by rw [hlen]; exact hw) ?_ (by rw [hlen]; exact hz)
  rw [hlen]
  refine ⟨.ref s.heap.objs.size, _, I.laid (t' := s.toks) (o := .tup (cutV xs lo hi)) (fun b ob q => Heap.get?_push_of_some _ q) (Nat.le_refl _) ?_, rfl, q _ (I.hok.fresh (Nat.le_refl _))⟩
  exact ⟨Nat.le_trans (cutV_length xs lo hi) hz, _, (r.drop (HT.sIx xs.length 0 lo)).take (HT.sIx xs.length xs.length hi - HT.sIx xs.length 0 lo), IsTup.new _ _⟩

/-! ### t < u, t + u -/
/-- t + u, t not empty: u empty gives t itself -/
def rCatT (K : PySem.W.Frag) : R2 := fun x y H Q => ∃ a b xs ys, x = .ref a ∧ y = .ref b ∧ SqT K H a xs ∧ SqT K H b ys ∧ xs ≠ [] ∧ xs.length + ys.length ≤ sizeLine ∧
  (ys = [] → Q (.ref a) H) ∧ (ys ≠ [] → ∀ p, H p = none → Q (.ref p) (upd H p (.tup (xs ++ ys))))
theorem Vals.nil_iff {xs : List V} {us : List Value} (r : Vals xs us) : us = [] ↔ xs = [] := by
  cases r with
  | nil => simp
  | cons _ _ => simp
theorem op_catT : OpR X (binaryOp .Add) (rCatT X.K) := by
  intro pins s σ H x y v u Q I rx ry h
  obtain ⟨a, b, xs, ys, rfl, rfl, ha, hb, hx, hz, q1, q2⟩ := h
  cases rx
  cases ry
  obtain ⟨its, r1, p1, _⟩ := I.tuple ha
  obtain ⟨its2, r2, p2, _⟩ := I.tuple hb
  refine HT.cat_tup p1 p2 (fun z => hx (r1.nil_iff.mp z)) (fun z => ⟨.ref a, H, I, rfl, q1 (r2.nil_iff.mp z)⟩) (fun z => ?_) (by rw [← r1.length, ← r2.length]; exact hz)
  refine ⟨.ref s.heap.objs.size, _, I.laid (t' := s.toks) (o := .tup (xs ++ ys)) (fun b ob q => Heap.get?_push_of_some _ q) (Nat.le_refl _) ?_, rfl, q2 (fun w => z (r2.nil_iff.mpr w)) _ (I.hok.fresh (Nat.le_refl _))⟩
  exact ⟨by rw [List.length_append]; exact hz, _, r1.append r2, IsTup.new _ _⟩
end
end L2

namespace L2
open PySem PySem.Spec PyProof.Rows

/-! ### places -/
/-- the place that an index of any sign means -/
def ixN (n : Nat) (i : Int) : Option Nat := if 0 ≤ i then (if i < n then some i.toNat else none) else if -(n : Int) ≤ i then some (i + n).toNat else none
def atI {α : Type} (xs : List α) (i : Int) : Option α := (ixN xs.length i).bind fun j => xs[j]?
theorem ixN_seq {n : Nat} {i : Int} {j : Nat} (h : ixN n i = some j) : seqIndex? i n = some j ∧ j < n ∧ -(n : Int) ≤ i ∧ i < n := by
  unfold ixN at h
  by_cases h0 : 0 ≤ i
  · rw [if_pos h0] at h
    by_cases h1 : i < n
    · rw [if_pos h1] at h
      have e : i.toNat = j := Option.some.inj h
      exact ⟨by rw [seqIndex_of h0 h1, e], by omega, by omega, h1⟩
    · rw [if_neg h1] at h; cases h
  · rw [if_neg h0] at h
    by_cases h1 : -(n : Int) ≤ i
    · rw [if_pos h1] at h
      have e : (i + n).toNat = j := Option.some.inj h
      exact ⟨by rw [seqIndex_neg (by omega) h1, e], by omega, h1, by omega⟩
    · rw [if_neg h1] at h; cases h
theorem atI_get {α : Type} {xs : List α} {i : Int} {v : α} (h : atI xs i = some v) : ∃ j, seqIndex? i xs.length = some j ∧ xs[j]? = some v ∧ j < xs.length ∧ -(xs.length : Int) ≤ i ∧ i < xs.length := by
  unfold atI at h
  cases e : ixN xs.length i with
  | none => rw [e] at h; cases h
  | some j =>
    rw [e] at h
    obtain ⟨h1, h2, h3, h4⟩ := ixN_seq e
    exact ⟨j, h1, h, h2, h3, h4⟩

/-! ### what may be subscripted -/
/-- what stands as an index of a plain subscript -/
def PlainIx (b : Expr) : Prop := ∀ o i, subscripted b false o i = operate [o, i] (getItem o i)
/-- a subscript by values -/
def IxR (X : Cx) (r : R2) : Prop :=
  ∀ (value slice : Expr) (pins : List (Addr × Obj)) (s : Shared) (σ : St) (H : Hp) (x y : V) (v u : Value) (Q : VK), Inv X pins σ H s → RelV x v → RelV y u → r x y H Q →
    subscripted slice false v u = operate [v, u] (getItem v u) → wpAny (model X.prog X.w) X.A (subscriptTail value slice v u) (EP X pins σ Q) X.xe s
/-- a call of a builtin's method by values: the receiver, the arguments -/
def MtR (X : Cx) (id : String) (r : V → List V → Hp → VK → Prop) : Prop :=
  ∀ (pins : List (Addr × Obj)) (s : Shared) (σ : St) (H : Hp) (x : V) (xs : List V) (v : Value) (us : List Value) (Q : VK), Inv X pins σ H s → RelV x v → Vals xs us → r x xs H Q →
    wpAny (model X.prog X.w) X.A (call (.builtin id) (v :: us)) (EP X pins σ Q) X.xe s
section
variable {X : Cx} {a b : Expr} {ta tb : TE} {pos : Pos}
theorem IxR.or {r r' : R2} (h : IxR X r) (h' : IxR X r') : IxR X (fun x y H Q => r x y H Q ∨ r' x y H Q) := by
  intro value slice pins s σ H x y v u Q I rx ry q hs
  rcases q with q | q
  · exact h value slice pins s σ H x y v u Q I rx ry q hs
  · exact h' value slice pins s σ H x y v u Q I rx ry q hs
/-- a[b] -/
theorem pe_ix {r : R2} (hr : IxR X r) (ha : PE X a ta) (hb : PE X b tb) (hs : PlainIx b) : PE X (.Subscript a b pos) (tOp r ta tb) := by
  intro pins s σ H Q I h
  exact Subscript_ (binT ha hb I h fun v u s2 x y H2 I2 rx ry q => hr a b pins s2 σ H2 x y v u Q I2 rx ry q (hs _ _))

def rIxL (K : PySem.W.Frag) : R2 := fun x y H Q => ∃ p xs i v, x = .ref p ∧ y = .int i ∧ SqL K H p xs ∧ atI xs i = some v ∧ Q v H
def rIxT (K : PySem.W.Frag) : R2 := fun x y H Q => ∃ p xs i v, x = .ref p ∧ y = .int i ∧ SqT K H p xs ∧ atI xs i = some v ∧ Q v H
def rIxS : R2 := fun x y H Q => ∃ z i c, x = .str z ∧ y = .int i ∧ z.length ≤ sizeLine ∧ atI z.cps.toList i = some c ∧ Q (.str ⟨#[c]⟩) H
theorem ix_list : IxR X (rIxL X.K) := by
  intro value slice pins s σ H x y v u Q I rx ry h hs
  obtain ⟨p, xs, i, z, rfl, rfl, hq, he, q⟩ := h
  cases rx
  obtain ⟨t, rfl⟩ := ry
  obtain ⟨its, r, pl, hz⟩ := I.list hq
  obtain ⟨j, h1, h2, h3, h4, h5⟩ := atI_get he
  obtain ⟨w, ew, rw'⟩ := r.get h2
  have hl := r.length
  have hn := line63
  have fin : EP X pins σ Q w s := ⟨z, H, I, rw', q⟩
  by_cases h0 : 0 ≤ i
  · have hj : i.toNat = j := by
      rw [seqIndex_of h0 h5] at h1
      exact Option.some.inj h1
    exact item_listR pl.isList h0 (by omega) (by rw [hj]; simpa using ew) fin hs
  · have hj : (i + (its.toArray.size : Int)).toNat = j := by
      rw [seqIndex_neg (by omega) h4] at h1
      rw [List.size_toArray, ← hl]
      exact Option.some.inj h1
    exact subscriptTail_builtinR (x := w) pl.isList.typeIs slot_list_getitem.lookup
      (wpAny_getItem_list_neg (Q := fun r s' => r = w ∧ EP X pins σ Q r s') pl.isList (by omega) (by rw [List.size_toArray] <;> omega) (by omega) (by rw [hj]; simpa using ew) ⟨rfl, fin⟩) hs
theorem ix_tup : IxR X (rIxT X.K) := by
  intro value slice pins s σ H x y v u Q I rx ry h hs
  obtain ⟨p, xs, i, z, rfl, rfl, hq, he, q⟩ := h
  cases rx
  obtain ⟨t, rfl⟩ := ry
  obtain ⟨its, r, pl, hz⟩ := I.tuple hq
  obtain ⟨j, h1, h2, h3, h4, h5⟩ := atI_get he
  obtain ⟨w, ew, rw'⟩ := r.get h2
  have hl := r.length
  have hn := line63
  have fin : EP X pins σ Q w s := ⟨z, H, I, rw', q⟩
  exact subscriptTail_builtinR (x := w) pl.typeIs slot_tuple_getitem.lookup
    (getItem_tuple (j := j) (Q := fun r s' => r = w ∧ EP X pins σ Q r s') pl (by omega) (by omega) (by rw [List.size_toArray, ← hl]; exact h1) (by simpa using ew) ⟨rfl, fin⟩) hs
theorem ix_str : IxR X rIxS := by
  intro value slice pins s σ H x y v u Q I rx ry h hs
  obtain ⟨z, i, c, rfl, rfl, hz, he, q⟩ := h
  obtain ⟨t, rfl⟩ := rx
  obtain ⟨t', rfl⟩ := ry
  obtain ⟨j, h1, h2, h3, h4, h5⟩ := atI_get he
  have hl : z.cps.toList.length = z.length := by simp [Str.length]
  rw [hl] at h1 h4 h5
  have hn := line63
  exact tail_any (typeIs_str s z t) slot_str_getitem.lookup (getItem_str (c := c) (by
    have e1 : decide (i < -(2 ^ 63 : Int)) = false := decide_eq_false (by omega)
    have e2 : decide (i ≥ 2 ^ 63) = false := decide_eq_false (by omega)
    rw [e1, e2, Bool.or_false]) (by rw [h1]; simpa using h2) ⟨.str ⟨#[c]⟩, H, I.tok _, ⟨_, rfl⟩, q⟩) hs
/-- list, tuple or str -/
def rIx (K : PySem.W.Frag) : R2 := fun x y H Q => rIxL K x y H Q ∨ rIxT K x y H Q ∨ rIxS x y H Q
theorem ix_seq : IxR X (rIx X.K) := ix_list.or (ix_tup.or ix_str)

/-! ### xs[i] = v, any sign -/

/-! ### slices -/
theorem slice_bounds (lo hi : Option Int) (n : Nat) : (sliceBounds lo hi none n).1 = ((HT.sIx n 0 lo : Nat) : Int) ∧ (sliceBounds lo hi none n).2.1 = ((HT.sIx n n hi : Nat) : Int) ∧ (sliceBounds lo hi none n).2.2 = 1 := by
  refine ⟨?_, ?_, rfl⟩
  · cases lo with
    | none => simp [sliceBounds, HT.sIx]
    | some i =>
      simp only [sliceBounds, HT.sIx, Option.getD_none, show (1 : Int) > 0 by decide, if_true]
      by_cases h : i < 0
      · simp only [h, if_true] <;> omega
      · simp only [h, if_false] <;> omega
  · cases hi with
    | none => simp [sliceBounds, HT.sIx]
    | some i =>
      simp only [sliceBounds, HT.sIx, Option.getD_none, show (1 : Int) > 0 by decide, if_true]
      by_cases h : i < 0
      · simp only [h, if_true] <;> omega
      · simp only [h, if_false] <;> omega
theorem slicePick_cut (its : List Value) (lo hi : Option Int) : slicePick its.toArray lo hi none = ((its.drop (HT.sIx its.length 0 lo)).take (HT.sIx its.length its.length hi - HT.sIx its.length 0 lo)).toArray := by
  obtain ⟨h1, h2, h3⟩ := slice_bounds lo hi its.toArray.size
  unfold slicePick
  rw [h1, h2, h3]
  simp only [sliceRange_one, pick_run, List.size_toArray] <;> rfl
/-- xs[lo:hi] of a list: a new list -/
def rSlL (K : PySem.W.Frag) : V → Option Int → Option Int → Hp → VK → Prop := fun x lo hi H Q => ∃ a xs, x = .ref a ∧ SqL K H a xs ∧ ∀ p, H p = none → Q (.ref p) (upd H p (.lst (cutV xs lo hi)))
theorem sl_list : SlR X (rSlL X.K) := by
  intro pins s σ H x v vl vu lo hi sl Q I rx hs pl pu h
  obtain ⟨a, xs, rfl, hx, q⟩ := h
  cases rx
  obtain ⟨its, r, ht, hz⟩ := I.list hx
  have hlen := r.length
  refine ⟨"list", _, slot_list_getitem.lookup, ht.isList.typeIs, ?_⟩
  refine wpAny_getItem_list_slice ht.isList hs pl pu .none (by simp) ?_ (by rw [List.size_toArray] <;> omega)
  rw [slicePick_cut, ← hlen]
  refine ⟨.ref s.heap.objs.size, _, I.laid (t' := s.toks) (o := .lst (cutV xs lo hi)) (fun b ob q => Heap.get?_push_of_some _ q) (Nat.le_refl _) ?_, rfl, q _ (I.hok.fresh (Nat.le_refl _))⟩
  exact ⟨Nat.le_trans (cutV_length xs lo hi) hz, _, 0, (r.drop (HT.sIx xs.length 0 lo)).take (HT.sIx xs.length xs.length hi - HT.sIx xs.length 0 lo), Heap.get?_push_size _ rfl⟩

/-! ### in, not in: flat items -/

/-! ### len, list(x), tuple(x) of any list or tuple that is read -/
theorem call_len_seq : CallR X (.builtin "len") (fun xs H Q => ∃ p ys, xs = [.ref p] ∧ (SqL X.K H p ys ∨ SqT X.K H p ys) ∧ Q (.int ys.length) H) := by
  intro pins s σ H xs us Q I r h
  obtain ⟨p, ys, rfl, hq, q⟩ := h
  obtain ⟨u, rfl, rx⟩ := vals1 r
  cases rx
  have hn := line63
  rcases hq with hq | hq
  · obtain ⟨its, r', pl, hz⟩ := I.list hq
    have hlen := r'.length
    exact Calls.call_len_list pl.isList (by simp only [List.size_toArray] <;> omega) ⟨.int ys.length, H, I.tok _, ⟨s.toks + 1, by rw [List.size_toArray, hlen]⟩, q⟩
  · obtain ⟨its, r', pl, hz⟩ := I.tuple hq
    have hlen := r'.length
    exact len_tuple pl (by simp only [List.size_toArray] <;> omega) ⟨.int ys.length, H, I.tok _, ⟨s.toks + 1, by rw [List.size_toArray, hlen]⟩, q⟩
theorem call_tuple_of : CallR X (.type "tuple") (fun xs H Q => ∃ p ys, xs = [.ref p] ∧ ((SqL X.K H p ys ∧ ∀ l, H l = none → Q (.ref l) (upd H l (.tup ys))) ∨ (SqT X.K H p ys ∧ Q (.ref p) H))) := by
  intro pins s σ H xs us Q I r h
  obtain ⟨p, ys, rfl, h⟩ := h
  obtain ⟨u, rfl, rx⟩ := vals1 r
  cases rx
  rcases h with ⟨hq, q⟩ | ⟨hq, q⟩
  · obtain ⟨its, r', pl, hz⟩ := I.list hq
    have hlen := r'.length
    refine call_tuple_list pl.isList (fun h' kp => ?_) (by simp only [List.size_toArray] <;> omega)
    have I1 : Inv X pins σ H { s with heap := h' } := I.kept (t' := s.toks) kp
    have I2 : Inv X pins σ (upd H h'.objs.size (.tup ys)) { s with heap := h'.push { cls := .type "tuple", data := .seq its.toArray } } :=
      I1.laid (t' := s.toks) (fun b o e => Heap.get?_push_of_some _ e) (Nat.le_refl _) (show ObjOk X.prog X.w _ _ _ (.tup ys) from ⟨hz, its, r', IsTup.new _ _⟩)
    exact ⟨.ref h'.objs.size, _, I2, rfl, q _ (I1.hok.fresh (Nat.le_refl _))⟩
  · obtain ⟨its, r', pl, hz⟩ := I.tuple hq
    exact call_tuple_same pl ⟨.ref p, H, I, rfl, q⟩

/-! ### the call of a builtin's method: o.m(..) -/
/-- the value is of that builtin type -/
def tyV (K : PySem.W.Frag) (T : String) (x : V) (H : Hp) : Prop := match x with
  | .str _ => T = "str"
  | .int _ => T = "int"
  | .ref p => (T = "list" ∧ ∃ xs, SqL K H p xs) ∨ (T = "tuple" ∧ ∃ o, K.lookup p = some o ∧ o.cls = .type "tuple" ∧ o.dict = none) ∨
      (T = "dict" ∧ ((∃ kvs, H p = some (.dK kvs)) ∨ ∃ kvs, H p = some (.dT kvs))) ∨ (T = "set" ∧ ∃ S n, H p = some (.set S n))
  | _ => False
theorem tyV_is {pins : List (Addr × Obj)} {σ : St} {H : Hp} {s : Shared} {T : String} {x : V} {v : Value} (I : Inv X pins σ H s) (r : RelV x v) (ty : tyV X.K T x H) :
    s.TypeIs v T ∧ ∀ a, v = .ref a → ∃ ob, s.heap.get? a = some ob ∧ ob.dict = none := by
  cases x with
  | str z =>
    obtain ⟨t, rfl⟩ := r
    cases (show T = "str" from ty)
    exact ⟨typeIs_str s z t, fun _ e => nomatch e⟩
  | int i =>
    obtain ⟨t, rfl⟩ := r
    cases (show T = "int" from ty)
    exact ⟨typeIs_int s i t, fun _ e => nomatch e⟩
  | ref p =>
    cases r
    rcases ty with ⟨rfl, xs, hq⟩ | ⟨rfl, o, hk, hc, hd⟩ | ⟨rfl, hk⟩ | ⟨rfl, S, n, hk⟩
    · obtain ⟨its, _, pl, _⟩ := I.list hq
      refine ⟨pl.isList.typeIs, fun a e => ?_⟩
      cases e
      obtain ⟨o, n, e, c, hd, _⟩ := pl
      exact ⟨o, e, hd⟩
    · refine ⟨⟨o, I.kIn p o hk, hc⟩, fun a e => ?_⟩
      cases e
      exact ⟨o, I.kIn _ o hk, hd⟩
    · have z : ∃ o, s.heap.get? p = some o ∧ o.ExactDict := by
        rcases hk with ⟨kvs, hk⟩ | ⟨kvs, hk⟩
        · obtain ⟨_, _, _, _, o, _, _, e, ex, _⟩ := I.hok p _ hk
          exact ⟨o, e, ex⟩
        · obtain ⟨_, _, _, _, o, _, _, e, ex, _⟩ := I.hok p _ hk
          exact ⟨o, e, ex⟩
      obtain ⟨o, e, ex⟩ := z
      refine ⟨⟨o, e, ex.1⟩, fun a e2 => ?_⟩
      cases e2
      exact ⟨o, e, ex.2.1⟩
    · obtain ⟨o, _, _, _, e, ex, _⟩ := I.hok p _ hk
      refine ⟨⟨o, e, ex.1⟩, fun a e2 => ?_⟩
      cases e2
      exact ⟨o, e, ex.2.1⟩
  | _ => exact False.elim ty
def tBM (K : PySem.W.Frag) (T : String) (r : V → List V → Hp → VK → Prop) (to : TE) (t : TA) : TE := fun σ H Q => to σ H fun x H1 => tyV K T x H1 ∧ t σ H1 fun xs H2 => r x xs H2 Q
variable {o e : Expr} {es : List Expr} {to : TE} {t : TA} {name : Str} {apos cpos : Pos} {T id : String} {r : V → List V → Hp → VK → Prop}
theorem pe_bm (pa : PlainAttrs T) (slot : Slot T name id) (hty : typeOf (.builtin id) = pure (.type "method_descriptor")) (hm : MtR X id r) (ho : PE X o to) (ha : PA X (e :: es) t)
    (hbase : attributeBase o name X.env (eval o X.env) = eval o X.env := by rfl)
    (hfew : ((backTo cpos (starEach (e :: es) X.env)).all (fun x => !x.1) && (backToKw cpos (keywordEach [] X.env)).all (fun x => x.1.isSome)
      && decide ((e :: es).length + ([] : List Keyword).length + (if ([] : List Keyword).isEmpty then 0 else 1) < 30)) = true := by rfl)
    (hline : (apos.endLine == cpos.line) = true := by rfl) (hs : starEach (e :: es) X.env = (false, eval e X.env) :: starEach es X.env := by rfl) (hplain : (backTo cpos (starEach es X.env)).any (·.1) = false := by rfl) :
    PE X (.Call (.Attribute o name apos) (e :: es) [] cpos) (tBM X.K T r to t) := by
  intro pins s σ H Q I h
  refine wpAny_Call_method_late hbase hfew hline rfl (thn (ho pins s σ H _ I h) fun v s1 ⟨x, H1, I1, r1, ty, q1⟩ => ?_)
  obtain ⟨h1, h2⟩ := tyV_is I1 r1 ty
  refine ⟨T, id, pa, slot, hty, h1, h2, ?_⟩
  have hA := ha cpos pins s1 σ H1 _ I1 q1
  rw [hs] at hA ⊢
  refine Calls.callWith_builtin (by show (false || (backTo cpos (starEach es X.env)).any (·.1)) = false; rw [hplain] <;> rfl) (Calls.evalArgs_plain ?_)
  exact thn hA fun us s2 ⟨vs, H2, I2, r2, q2⟩ => hm pins s2 σ H2 x vs v us Q I2 r1 r2 q2
/- xs.append(e), list.index on a module's tuple .. are MtR facts of 06m -/
end
end L2

namespace L2
open PySem PySem.Spec PyProof.Rows

def MtM (X : Cx) (id : String) (r : V → List V → Hp → VK → Prop) : Prop :=
  ∀ (pins : List (Addr × Obj)) (s : Shared) (σ : St) (H : Hp) (x : V) (xs : List V) (v : Value) (us : List Value) (Q : VK), Inv X pins σ H s → RelV x v → Vals xs us → r x xs H Q →
    wpAny (model X.prog X.w) X.A (call (.builtin id) (v :: us)) (EP X pins σ Q) X.xe s

/-! ### lists of values -/
theorem Vals.one : ∀ {x : V} {us : List Value}, Vals [x] us → ∃ u, us = [u] ∧ RelV x u
  | _, _, .cons r .nil => ⟨_, rfl, r⟩
theorem Vals.rep {xs : List V} {us : List Value} (h : Vals xs us) : ∀ k : Nat, Vals (List.replicate k xs).flatten (List.replicate k us).flatten
  | 0 => .nil
  | k + 1 => by
    rw [List.replicate_succ, List.replicate_succ, List.flatten_cons, List.flatten_cons]
    exact Vals.append h (Vals.rep h k)
theorem foldl_rep (its : List Value) : ∀ (k : Nat) (acc : List Value),
    List.foldl (fun x1 x2 => x1 ++ x2) acc.toArray (List.replicate k its.toArray) = (acc ++ (List.replicate k its).flatten).toArray
  | 0, acc => by simp
  | k + 1, acc => by
    have e : acc.toArray ++ its.toArray = (acc ++ its).toArray := by simp
    have e2 : (acc ++ its) ++ (List.replicate k its).flatten = acc ++ (List.replicate (k + 1) its).flatten := by
      rw [List.replicate_succ, List.flatten_cons, List.append_assoc]
    rw [← e2, ← foldl_rep its k (acc ++ its), ← e, List.replicate_succ, List.foldl_cons]

section
variable {X : Cx} {pins : List (Addr × Obj)} {σ : St} {H : Hp} {s : Shared} {l b : Addr} {xs ys zs : List V}

/-! ### the two steps: a tracked list is rewritten, a new list is laid -/
theorem Inv.lset {its its' : List Value} {n : Nat} {f : Array Value → Array Value} {t' : Nat} (I : Inv X pins σ H s) (hH : H l = some (.lst xs))
    (e : s.heap.get? l = some { cls := .type "list", data := .seq its.toArray n }) (hf : f its.toArray = its'.toArray) (hv : Vals ys its') (hz : ys.length ≤ sizeLine) :
    Inv X pins σ (upd H l (.lst ys)) { s with heap := s.heap.update l (Obj.mapSeq f), toks := t' } := by
  have q := PySem.IsL.update e f
  rw [hf] at q
  refine I.write (x := l) (e := l) (by rw [hH]; exact trivial) (.inl rfl) (fun b' u hb hu => (Heap.get?_update_other s.heap (Obj.mapSeq f) (Ne.symm hb)).trans hu) ⟨_, q⟩ ?_
  exact ⟨hz, its', _, hv, q⟩
theorem Inv.lnew {its : List Value} {t' : Nat} (I : Inv X pins σ H s) (hv : Vals ys its) (hz : ys.length ≤ sizeLine) :
    Inv X pins σ (upd H s.heap.objs.size (.lst ys)) { s with heap := s.heap.push { cls := .type "list", data := .seq its.toArray }, toks := t' } :=
  I.laid (fun _ _ q => Heap.get?_push_of_some _ q) (Nat.le_refl _) ⟨hz, its, 0, hv, Heap.get?_push_size _ rfl⟩
theorem Inv.fresh (I : Inv X pins σ H s) : H s.heap.objs.size = none := I.hok.fresh (Nat.le_refl _)
theorem Inv.lstM (I : Inv X pins σ H s) (hH : H l = some (.lst xs)) : xs.length ≤ sizeLine ∧ ∃ (its : List Value) (n : Nat), Vals xs its ∧ xs.length = its.length ∧ s.heap.get? l = some { cls := .type "list", data := .seq its.toArray n } := by
  obtain ⟨z, its, n, r, e⟩ := I.hok l _ hH
  exact ⟨z, its, n, r, r.length, e⟩

theorem notLongL {n : Nat} (h : n ≤ sizeLine) : Builtin.List.listTooLong n = false := by
  unfold Builtin.List.listTooLong
  exact decide_eq_false (by omega)
end

section
variable {X : Cx}

/-! ### methods -/
def rAppend : V → List V → Hp → VK → Prop := fun x vs H Q => ∃ l xs y, x = .ref l ∧ vs = [y] ∧ H l = some (.lst xs) ∧ xs.length < sizeLine ∧ Q .non (upd H l (.lst (xs ++ [y])))
theorem mt_append : MtM X "list.append" rAppend := by
  intro pins s σ H x vs v us Q I rx rv h
  obtain ⟨l, xs, y, rfl, rfl, hH, hz, q⟩ := h
  cases rx
  obtain ⟨u, rfl, ru⟩ := rv.one
  obtain ⟨z, its, n, r, hl, e⟩ := I.lstM hH
  refine call_meets F.slot_list_append ⟨_, e, rfl⟩ F.entry_list_append (F.args_list_append_2 _ _) (PySem.list_append l its.toArray n u (by rw [List.size_toArray]; omega)) ⟨e, ?_⟩
  refine ⟨.non, _, I.lset (its' := its ++ [u]) hH e (by simp) (r.append (.cons ru .nil)) ?_, rfl, q⟩
  rw [List.length_append, List.length_singleton]
  omega

def rExtend : V → List V → Hp → VK → Prop := fun x vs H Q => ∃ l b xs zs, x = .ref l ∧ vs = [.ref b] ∧ H l = some (.lst xs) ∧ H b = some (.lst zs) ∧ xs.length + zs.length ≤ sizeLine ∧ Q .non (upd H l (.lst (xs ++ zs)))
theorem mt_extend : MtM X "list.extend" rExtend := by
  intro pins s σ H x vs v us Q I rx rv h
  obtain ⟨l, b, xs, zs, rfl, rfl, hH, hB, hz, q⟩ := h
  cases rx
  obtain ⟨u, rfl, ru⟩ := rv.one
  cases ru
  obtain ⟨z, its, n, r, hl, e⟩ := I.lstM hH
  obtain ⟨z2, its2, n2, r2, hl2, e2⟩ := I.lstM hB
  have hsz : its.toArray.size + its2.toArray.size ≤ sizeLine := by rw [List.size_toArray, List.size_toArray]; omega
  have hlong : ¬ (!its.toArray.isEmpty && Builtin.List.listTooLong (its.toArray.size + its2.toArray.size)) = true := by
    rw [notLongL hsz, Bool.and_false]
    exact Bool.false_ne_true
  refine call_meets F.slot_list_extend ⟨_, e, rfl⟩ F.entry_list_extend (F.args_list_extend_2 _ _)
    (AutoSeq1.list_extend_list_list_0 l its.toArray n b its2.toArray n2 hlong (by rw [List.size_toArray]; omega) (by omega)) ⟨e, e2, ?_⟩
  refine ⟨.non, _, I.lset (its' := its ++ its2) hH e (by simp) (r.append r2) ?_, rfl, q⟩
  rw [List.length_append]
  omega





/-! ### list + list, list += list, list * int -/
/-- a list times an int (a negative one is nothing) -/
def rRep : R2 := fun x y H Q => ∃ l k xs, x = .ref l ∧ y = .int k ∧ H l = some (.lst xs) ∧ -(2 ^ 63) ≤ k ∧ k < 2 ^ 63 ∧ xs.length * k.toNat ≤ sizeLine ∧
  ∀ p, H p = none → Q (.ref p) (upd H p (.lst (List.replicate k.toNat xs).flatten))
theorem len_rep {α : Type} (xs : List α) (k : Nat) : (List.replicate k xs).flatten.length = k * xs.length := by
  induction k with
  | zero => simp
  | succ k ih => rw [List.replicate_succ, List.flatten_cons, List.length_append, ih, Nat.succ_mul, Nat.add_comm]
theorem op_rep : OpR X (binaryOp .Mult) rRep := by
  intro pins s σ H x y v u Q I rx ry h
  obtain ⟨l, k, xs, rfl, rfl, hH, h1, h2, hz, q⟩ := h
  cases rx
  obtain ⟨t, rfl⟩ := ry
  obtain ⟨z, its, n, r, hl, e⟩ := I.lstM hH
  have hlen : its.toArray.size * k.toNat ≤ sizeLine := by rw [List.size_toArray, ← hl]; exact hz
  have hcap : ¬ its.toArray.size * k.toNat > (2 ^ 63 - 1) / 8 := by
    have : (sizeLine : Nat) ≤ (2 ^ 63 - 1) / 8 := by decide
    omega
  have hfit : ¬ (!Builtin.List.listFitsIndex k) = true := by
    rw [fitsIndex_both h1 h2]
    exact Bool.false_ne_true
  have hlong : ¬ Builtin.List.listTooLong (its.toArray.size * k.toNat) = true := by
    rw [notLongL hlen]
    exact Bool.false_ne_true
  have hnew : List.foldl (fun x1 x2 => x1 ++ x2) #[] (List.replicate (if its.toArray.isEmpty = true then 0 else k.toNat) its.toArray) = (List.replicate k.toNat its).flatten.toArray := by
    have f0 : ∀ m : Nat, List.foldl (fun x1 x2 => x1 ++ x2) #[] (List.replicate m its.toArray) = (List.replicate m its).flatten.toArray := fun m => by
      have := foldl_rep its m []
      rw [List.nil_append] at this
      exact this
    rw [f0]
    cases its with
    | nil => simp
    | cons a r' => rw [if_neg (by simp)]
  refine wpAny_binaryOp_repeat_ref (T := "list") (U := "int") (by decide) ⟨_, e, rfl⟩ (fun s' => typeIs_int s' k t) noFill_list_mul F.fills_int_mul F.slot_int_rmul repeat_list F.slot_int_index.lookup
    (call_meets F.slot_int_rmul (typeIs_int s k t) F.entry_int_rmul (F.args_int_rmul_2 _ _) (int___rmul___int_list k t l its.toArray n)
      ⟨e, rfl, ⟨_, e, rfl⟩, call_meets F.slot_list_mul ⟨_, e, rfl⟩ F.entry_list_mul (F.args_list_mul_2 _ _) (AutoListH.list___mul___list_int_3 l its.toArray n k t hfit hcap hlong) ⟨e, ?_⟩⟩)
  rw [hnew]
  exact ⟨.ref _, _, I.lnew (t' := s.toks) (r.rep k.toNat) (by rw [len_rep, Nat.mul_comm]; exact hz), rfl, q _ I.fresh⟩

/-! ### del xs[i] -/
end

/-! ### xs[a:b] = ys -/
section
variable {prog : Program} {w : World} {A : Around} {E : Value → Shared → Prop} {s : Shared}
end

section
variable {X : Cx}
end
end L2

namespace Att
open PySem PySem.W PySem.Calls PyProof.Rows

/-! ### the script -/
theorem ints_of_wellAll {P : Params} {h : Heap} : ∀ (ns : List Int) (vs : List Value), WellAll P h vs (ns.map WData.int) → IntsAre vs ns := by
  intro ns
  induction ns with
  | nil =>
    intro vs w
    rw [List.map_nil] at w
    cases w
    exact .nil
  | cons n ns ih =>
    intro vs w
    rw [List.map_cons] at w
    cases w with
    | cons a b =>
      cases a
      exact .cons _ _ (ih _ b)

theorem script_of {l : OpenLaw} {n : Nat} (hn : l.most = some n) {P : Params} {h : Heap} {args : List WData} {vals : List Value}
    (hpre : l.row.toRowW.claim.pre args = true) (hwl : WellAll P h vals args) :
    ∃ a vs ns, vals = [Value.ref a] ∧ args = [WData.list (ns.map WData.int)] ∧ h.get? a = some { cls := .type "list", data := .seq vs.toArray } ∧ IntsAre vs ns ∧ ns.length ≤ n := by
  have hsh : WShape.hasAll [] args [.list .int] = true := (pre_splitW hpre).1
  have hc : l.pre.holds [] { args := args } = true := (pre_splitW hpre).2
  obtain ⟨d, r, rfl, h1, h2⟩ := hasAllW_cons hsh
  obtain rfl := hasAllW_nil h2
  obtain ⟨xs, rfl, h3⟩ := hasW_list h1
  obtain ⟨ns, rfl⟩ := items_int h3
  have hlen : ns.length ≤ n := by
    unfold OpenLaw.pre at hc
    have h4 : (WTm.not (.lt (.lit (.int (n : Int))) (.len (.arg 0)))).holds [] { args := [.list (ns.map .int)] } = true := by
      have h4 := (holds_andW hc).1
      rw [hn] at h4
      exact h4
    have h5 := condW_of h4 (w_not (w_lt w_lit (w_len_list (w_arg rfl))))
    rw [List.length_map] at h5
    refine Nat.le_of_not_lt fun q => ?_
    have q' : (n : Int) < ((ns.length : Nat) : Int) := by omega
    first
      | (rw [decide_eq_true q'] at h5; exact absurd h5 (by decide))
      | (simp at h5; omega)
  cases hwl with
  | cons w1 w2 =>
    cases w2
    cases w1 with
    | list ho hall => exact ⟨_, _, ns, rfl, rfl, ho, ints_of_wellAll ns _ hall, hlen⟩

theorem post_true (l : OpenLaw) (args : List WData) : l.row.toRowW.claim.post args (.bool true) args = true :=
  postW_of (r := l.row.toRowW) (X := (true == true))
    (show WShape.has [] (.bool true) .bool = true by first | rfl | decide | simp [WShape.has, WShape.arms, WShape.armsAll])
    (show (WTm.eq .res (.lit (.bool true))).value [] { args := args, res := some (.bool true), after := args } = some (.bool (true == true)) from w_eq_bool (w_res rfl) w_lit) rfl

/-! ### the attachment: holds_open's last premise (the goal 'hc' behind k_head) from a wpAny of the law's body -/

/-- the same from a codeAny of the CALL (for a layer whose function contracts speak of calls) -/
theorem attach_call {l : OpenLaw} {n : Nat} {q : Program} {loose : List Str} {XP : (Str → Option Value) → Heap → Prop} {YP : World → Heap → Prop} {d : DefRec}
    (hn : l.most = some n) (hdf : d.params.defaults = [])
    (call : ∀ (w : World) (s₀ s₁ : Shared) (mg mb : Str → Option Value) (fa : Addr) (o : Obj) (pm cd doc : Value) (a : Addr) (vs : List Value) (ns : List Int),
      Ground q loose [] XP w s₀ mg mb s₁.heap → YP w s₁.heap →
      s₁.heap.get? fa = some o → o.data = .func (docDef d.name d.params d.body d.scope pm cd doc) → s₁.heap.CodeRec cd d.name → mg d.name = some (.ref fa) →
      s₁.heap.get? a = some { cls := .type "list", data := .seq vs.toArray } → IntsAre vs ns → ns.length ≤ n → s₁.gens = #[] →
      codeAny (model l.prog w) callerA (.call (.ref fa) ⟨[.ref a], []⟩) (fun r s' => r = .ok (.ret (.bool true)) ∧ OldK s₁.heap s'.heap ∧ s'.os = s₁.os ∧ AllBare s'.gens) s₁) :
    WalkO q loose XP YP l.row.toRowW d [] (fun f vs => PySem.call f vs) := by
  intro w s₀ s₁ mg mb G Y fa o pm cd doc dV kV ho hd hcd hD hmg hg args vals as hpre hlay hrd hwl hlo
  obtain rfl : dV = .none := Dflts.none hD hdf
  obtain rfl : kV = .none := Dflts.noKw hD
  obtain ⟨a, vs, ns, rfl, rfl, hobj, hints, hlen⟩ := script_of hn hpre hwl
  refine enter_call (codeAny_mono (call w s₀ s₁ mg mb fa o pm cd doc a vs ns G Y ho (fd_plain hd) hcd hmg hobj hints hlen hg) fun r s' hq => ?_)
  obtain ⟨rfl, h2, h3, h4⟩ := hq
  exact ⟨.inl ⟨.bool true, .bool true, [], rfl, fun _ => rfl, .bool true, post_true l _, fun _ => ⟨List.Pairwise.nil, fun _ hm => (nomatch hm)⟩⟩, h2, h3, h4⟩


/-! ### rules over ANY heap (no ledger) from facts about the written part K: the library's own take a ledger (News) for what they write -/
section
variable {prog : Program} {w : World} {A : Around} {E : Value → Shared → Prop} {s : Shared} {K : Frag}





/-! the whole heap as the ledger: makes every rule that writes through a ledger a rule over any heap -/

end
end Att

namespace L2
open PySem PySem.Spec PyProof.Rows

theorem vals_ints : ∀ {vs : List Value} {ns : List Int}, IntsAre vs ns → Vals (ns.map V.int) vs
  | _, _, .nil => .nil
  | _, _, .cons n t h => .cons ⟨t, rfl⟩ (vals_ints h)

/-- nothing is tracked but the script, known to the object (or it is an object of the module) -/
def Only (H : Hp) : Prop := ∀ b, H b = none ∨ ∃ o xs, H b = some (.frz o (.lst xs))

/-- THE HEAD: the law's promise, at the heap behind the top. F, the promise of the law's def, may use that base is part of the heap (so K.In base, base.Ns mainGlobals mg stand in Mod) -/
theorem law_call {P : Program} {w : World} {K : PySem.W.Frag} {mg mb : Str → Option Value} {CX : CXT} {k : Nat} {fa a : Addr} {fd : FuncData} {x : Str} {sp : Sp} {s₁ : Shared} {vs : List Value} {ns : List Int}
    (KX : K.In s₁.heap) (hns : s₁.heap.Ns mainGlobals mg) (hb : s₁.heap.Ns builtinsNs mb) (hbb : ∀ x : Str, x ≠ "__name__" → mb x = bootBuiltins x) (hlim : s₁.heap.NoLimit) (hg : s₁.gens = #[])
    (ha : s₁.heap.get? a = some { cls := .type "list", data := .seq vs.toArray }) (hi : IntsAre vs ns) (hl : ns.length ≤ sizeLine) (hr : Room k callerA)
    (F : ∀ base : Heap, K.In base → base.Ns mainGlobals mg → FnOk P w K mg base CX k fa fd [x] sp) (hbind : ∀ (s : Shared) (u : Value), BindsTo s fd ⟨[u], []⟩ [(x, u)])
    (hsp : ∀ H : Hp, Only H → SqL K H a (ns.map V.int) → sp [.ref a] H (fun v _ => v = .bl true) fun _ _ _ => False)
    (hCX : ∀ H e s', CX [] H s₁ (fun _ _ _ => False) e s' → False) :
    codeAny (model P w) callerA (.call (.ref fa) ⟨[.ref a], []⟩) (fun r s' => r = .ok (.ret (.bool true)) ∧ OldK s₁.heap s'.heap ∧ s'.os = s₁.os ∧ AllBare s'.gens) s₁ := by
  have rv := vals_ints hi
  have lenV := hi.length
  -- from an abstract heap in which nothing but the script may be tracked
  have core : ∀ H : Hp, Only H → SqL K H a (ns.map V.int) → HOk P w H s₁.heap → (∀ b, H b ≠ none → b = a) → (H a ≠ none → K.lookup a = none) →
      codeAny (model P w) callerA (.call (.ref fa) ⟨[.ref a], []⟩) (fun r s' => r = .ok (.ret (.bool true)) ∧ OldK s₁.heap s'.heap ∧ s'.os = s₁.os ∧ AllBare s'.gens) s₁ := by
    intro H hO hS hok hA hK
    have base_of : ∀ {b : Addr} {o : Obj}, s₁.heap.get? b = some o → H b = none → (hidT s₁.heap H).get? b = some o := fun e n => hidT_get e n
    have noA : ∀ {b : Addr} {o : Obj} {es : Array DictEntry} {ep : Nat}, s₁.heap.get? b = some o → o.data = .dict es ep → H b = none := fun {b o es ep} e d => by
      cases q : H b with
      | none => rfl
      | some u =>
        have e' : b = a := hA b (by rw [q]; simp)
        subst e'
        rw [ha] at e; cases e
        have d' : Data.seq vs.toArray _ = Data.dict es ep := d
        cases d'
    have nsK : ∀ {b : Addr} {m : Str → Option Value}, s₁.heap.Ns b m → (hidT s₁.heap H).Ns b m := fun {b m} ⟨o, es, ep, e, d, r⟩ => ⟨o, es, ep, base_of e (noA e d), d, r⟩
    have hKb : K.In (hidT s₁.heap H) := fun b o e => base_of (KX b o e) (by
      cases q : H b with
      | none => rfl
      | some u =>
        have e' : b = a := hA b (by rw [q]; simp)
        subst e'
        rw [hK (by rw [q]; simp)] at e; cases e)
    have hM : Mod K mg (hidT s₁.heap H) := ⟨hKb, nsK hns, ⟨mb, nsK hb, hbb⟩, let ⟨mc, h1, h2⟩ := hlim; ⟨mc, nsK h1, h2⟩⟩
    have e0 : Env0 P w K mg (hidT s₁.heap H) callerA [] s₁ H := ⟨rfl, hM, fun b o e => of_hidT e, Nat.le_of_eq (hidT_size _ _), trivial, fun b hb => absurd (show b ∈ ([] : List Addr) from hb) (by simp), hok, .of_eq hg⟩
    refine codeAny_mono ((F _ hKb (nsK hns)).run callerA [] s₁ H ⟨[.ref a], []⟩ [.ref a] [.ref a] _ _ hr e0 (hbind s₁ (.ref a)) (.cons rfl .nil) (hsp H hO hS)) fun r s' h => ?_
    cases r with
    | error e => exact (hCX H e s' h).elim
    | ok fl =>
      cases fl with
      | next => exact False.elim h
      | brk => exact False.elim h
      | cont => exact False.elim h
      | ret u =>
        obtain ⟨v, H', os, bare, un, hok', r', q⟩ := h
        have q' : v = .bl true := q
        subst q'
        obtain rfl : u = Value.bool true := r'
        refine ⟨rfl, OldK.of_keep fun b o e => ?_, os, bare⟩
        cases q : H b with
        | none => exact un.keep b o e q (by intro z; exact absurd (show b ∈ ([] : List Addr) from z) (by simp)) (by simp)
        | some u =>
          rcases hO b with z | ⟨ob, xs, z⟩
          · rw [q] at z; cases z
          · have z2 := un.frzs b ob _ z
            obtain ⟨e1, _⟩ := hok b _ z
            obtain ⟨e2, _⟩ := hok' b _ z2
            rw [e] at e1; cases e1
            exact e2
  cases hk : K.lookup a with
  | some o =>
    -- the script is one of the module's own objects
    have e := KX a o hk
    rw [ha] at e
    cases e
    refine core (fun _ => none) (fun _ => .inl rfl) (.inr ⟨_, vs.toArray, _, hk, rfl, rfl, rfl, by rw [List.size_toArray, lenV]; exact hl, by simpa using rv⟩) (fun b u z => by have z' : (none : Option HO) = some u := z; cases z') (fun b z => absurd rfl z) fun z => absurd rfl z
  | none =>
    refine core (fun b => if b = a then some (.frz { cls := .type "list", data := .seq vs.toArray } (.lst (ns.map V.int))) else none) (fun b => ?_) (.inl (.inr ⟨{ cls := .type "list", data := .seq vs.toArray }, if_pos rfl⟩)) (fun b u z => ?_) (fun b z => ?_) fun _ => hk
    · by_cases hb : b = a
      · exact .inr ⟨_, _, if_pos hb⟩
      · exact .inl (if_neg hb)
    · by_cases hb : b = a
      · have z' := (if_pos hb).symm.trans z
        cases z'
        subst hb
        exact ⟨ha, by rw [List.length_map]; exact hl, vs, _, rv, ha⟩
      · have z' := (if_neg hb).symm.trans z
        cases z'
    · by_cases hb : b = a
      · exact hb
      · exact absurd (if_neg hb) z
end L2

namespace L2
open PySem PySem.Spec PyProof.Rows

abbrev KOf {K : PySem.W.Frag} {h : Heap} (_ : K.In h) : PySem.W.Frag := K

/-- the goal that k_head leaves (case hc), from the law's promise. F gives the function object fd (K's own) once, then the promise over every base -/
theorem walk_of {l : PySem.W.OpenLaw} {n k : Nat} {q : Program} {loose : List Str} {XP : (Str → Option Value) → Heap → Prop} {YP : World → Heap → Prop} {d : DefRec} {K : Params → PySem.W.Frag} {CX : World → CXT} {sp : World → Sp} {x : Str}
    (hn : l.most = some n) (hn2 : n ≤ sizeLine) (hdf : d.params.defaults = []) (hr : Room k callerA)
    (hY : ∀ (w : World) (h : Heap), YP w h → (K w.params).In h)
    (F : ∀ (w : World) (mg : Str → Option Value) (fa : Addr) (h : Heap), (K w.params).In h → h.Ns mainGlobals mg → mg d.name = some (.ref fa) →
      ∃ fd : FuncData, (∀ (s : Shared) (u : Value), BindsTo s fd ⟨[u], []⟩ [(x, u)]) ∧
        ∀ base : Heap, (K w.params).In base → base.Ns mainGlobals mg → FnOk l.prog w (K w.params) mg base (CX w) k fa fd [x] (sp w))
    (hsp : ∀ (w : World) (H : Hp) (a : Addr) (ns : List Int), ns.length ≤ n → Only H → SqL (K w.params) H a (ns.map V.int) → sp w [.ref a] H (fun v _ => v = .bl true) fun _ _ _ => False)
    (hCX : ∀ (w : World) (H : Hp) (s : Shared) (e : Value) (s' : Shared), CX w [] H s (fun _ _ _ => False) e s' → False) :
    PySem.W.WalkO q loose XP YP l.row.toRowW d [] (fun f vs => PySem.call f vs) := by
  refine Att.attach_call hn hdf fun w s₀ s₁ mg mb fa o pm cd doc a vs ns G Y ho hd hcd hmg hobj hints hlen hg => ?_
  have KX := hY w _ Y
  obtain ⟨fd, hb, hF⟩ := F w mg fa _ KX G.T.g hmg
  exact law_call KX G.T.g G.T.b G.T.builtins G.T.nolimit hg hobj hints (Nat.le_trans hlen hn2) hr hF hb (fun H hO hS => hsp w H a ns hlen hO hS) fun H e s' => hCX w H s₁ e s'
/-- the same where the promise hangs on the written part alone: (sp := My.sp_law), no hole under a binder -/
theorem walk_ofK {l : PySem.W.OpenLaw} {n k : Nat} {q : Program} {loose : List Str} {XP : (Str → Option Value) → Heap → Prop} {YP : World → Heap → Prop} {d : DefRec} {K : Params → PySem.W.Frag} {CX : CXT} {sp : PySem.W.Frag → Sp} {x : Str}
    (hn : l.most = some n) (hn2 : n ≤ sizeLine) (hdf : d.params.defaults = []) (hr : Room k callerA)
    (hY : ∀ (w : World) (h : Heap), YP w h → (K w.params).In h)
    (F : ∀ (w : World) (mg : Str → Option Value) (fa : Addr) (h : Heap), (K w.params).In h → h.Ns mainGlobals mg → mg d.name = some (.ref fa) →
      ∃ fd : FuncData, (∀ (s : Shared) (u : Value), BindsTo s fd ⟨[u], []⟩ [(x, u)]) ∧
        ∀ base : Heap, (K w.params).In base → base.Ns mainGlobals mg → FnOk l.prog w (K w.params) mg base CX k fa fd [x] (sp (K w.params)))
    (hsp : ∀ (K : PySem.W.Frag) (H : Hp) (a : Addr) (ns : List Int), ns.length ≤ n → Only H → SqL K H a (ns.map V.int) → sp K [.ref a] H (fun v _ => v = .bl true) fun _ _ _ => False)
    (hCX : ∀ (H : Hp) (s : Shared) (e : Value) (s' : Shared), CX [] H s (fun _ _ _ => False) e s' → False) :
    PySem.W.WalkO q loose XP YP l.row.toRowW d [] (fun f vs => PySem.call f vs) :=
  walk_of (K := K) (CX := fun _ => CX) (sp := fun w => sp (K w.params)) hn hn2 hdf hr hY F (fun w H a ns h1 h2 h3 => hsp (K w.params) H a ns h1 h2 h3) fun _ H s e s' => hCX H s e s'
end L2

/- THE LAST THEOREM (shape; LID, My.* are yours):
   My.Adr: a structure of the addresses that your layer names (classes, functions); My.Txt K t: a structure (Prop) of the equations over K;
   My.txt_mk : {K} {implicit addresses ..} (e1 : nsIn K mainGlobals "law" = some (some (.ref f))) (e2 : K.lookup f = some ⟨oc, od, .func (fnOf "law" "law" params body scope dV kV doc pm an cdv ct), sl⟩) (e3 : codeIn K cdv "law" = true) .. : ∃ t, My.Txt K t

set_option maxRecDepth 100000 in
set_option maxHeartbeats 0 in
theorem PySem.Challenge.cw_LID_holds : PySem.Challenge.rw_LID.Holds := by
  w_on; o_law; k_head; (case hw => w_witness2)
  k_fill
  refine L2.walk_of (l := PySem.Challenge.rw_LID) (n := 63) (k := 40) (x := "script") (CX := fun w => ..) (sp := fun _ => My.sp_law) rfl (by decide) rfl ⟨rfl, by decide, by decide⟩ (fun w h Y => PySem.W.kIn_of Y) ?F ?S ?C
  case F =>
    intro w mg fa h KX G hmg
    have T : ∃ t, My.Txt (L2.KOf KX) t := by
      dsimp only [L2.KOf]                          -- K must stand as «<heap const> w.params» for k_is
      refine' My.txt_mk ?e1 ?e2 ?e3 ..
      (case e1 => PySem.W.k_is)                    -- in the order: a name -> its address -> its object -> its parts
      (case e2 => PySem.W.k_is)
      ..
    obtain ⟨t, T⟩ := T
    have e0 := hmg.symm.trans (PySem.W.mg_of KX G T.law)
    cases e0                                       -- fa is the law's own address
    exact ⟨_, fun s u => .of_eq rfl, fun base kb nb => My.law_fn T kb nb⟩     -- if «.of_eq rfl» comes too early: refine' ⟨_, ?b, fun base kb nb => My.law_fn T kb nb⟩; exact fun s u => .of_eq rfl
  case S => exact fun w H a ns hl hO hS => ..
  case C => exact ..
(the tactic k_is has no namespace: write k_is) -/

/-! SHORT WORDS over the layer: a def of the text, its body, what a loop and a test want. -/
namespace L2
open PySem PySem.Spec PyProof.Rows

/-! ### the text by places -/
def defArgs (s : Stmt) : Arguments := match s with
  | .FunctionDef _ a _ _ _ _ _ _ _ _ => a
  | _ => { posonlyargs := [], args := [], vararg := none, kwonlyargs := [], kw_defaults := [], kwarg := none, defaults := [] }
def defBody (s : Stmt) : List Stmt := match s with
  | .FunctionDef _ _ b _ _ _ _ _ _ _ => b
  | _ => []
def defScope (s : Stmt) : Scope := match s with
  | .FunctionDef _ _ _ _ _ _ sc _ _ _ => sc
  | _ => { kind := .function, names := [], isGenerator := false, isCoroutine := false }

/-! ### no exception leaves a def -/
abbrev CX0 : CXT := fun _ _ _ _ _ _ => False
abbrev E0 : XK := fun _ _ _ => False
theorem pass0 {X : Cx} : Passes CX0 X E0 := fun _ _ _ _ _ _ _ h => h.elim

/-! ### a def (or method) of the text as it stands behind the top -/
structure Fun (K : PySem.W.Frag) (x qual : Str) (st : Stmt) (f : Addr) (fd : FuncData) : Prop where
  ex : ∃ (oc : Value) (od : Option Addr) (kV doc pm : Value) (an : Option Addr) (cdv ct : Value) (osl : Array (Option Value)),
    fd = PySem.W.fnOf x qual (defArgs st) (defBody st) (defScope st) .none kV doc pm an cdv ct ∧ K.lookup f = some ⟨oc, od, .func fd, osl⟩ ∧ PySem.W.codeIn K cdv qual = true
  kp : PySem.W.keepIn K (.ref f) = true
section
variable {P : Program} {w : World} {K : PySem.W.Frag} {mg : Str → Option Value} {base : Heap}
/-- THE RULE for a def: its body as a term of rules, and the reading of that term -/
theorem Fun.ok {x qual : Str} {st : Stmt} {f : Addr} {fd : FuncData} {N ps : List Str} {k : Nat} {sp : Sp} (F : Fun K x qual st f fd) (S : FnScope N ps (defScope st)) (len : ∀ vs H Q E, sp vs H Q E → vs.length = ps.length)
    (hbody : ∀ (cdv : Value) (A : Around) (outer : List Env) (s : Shared) (H : Hp) (vs : List V) (Q : VK) (E : XK), Room k (A.deeper (envOfC qual (defScope st) s.heap.objs.size f cdv)) → sp vs H Q E →
      ∃ t, PSs (cxOf CX0 P w K mg base N qual (defScope st) f cdv A outer s H E).nox (defBody st) t ∧ t { nx := fun _ H' => Q .non H', rt := Q } (start N vs) H) : FnOk P w K mg base CX0 (k + 1) f fd ps sp := by
  obtain ⟨oc, od, kV, doc, pm, an, cdv, ct, osl, rfl, lk, hcd⟩ := F.ex
  refine fn_of lk hcd S len fun A outer s H vs Q E hr hsp => ?_
  obtain ⟨t, h, q⟩ := hbody cdv A outer s H vs Q E hr hsp
  exact ⟨t, h.nox, q⟩
/-- how its arguments bind (no defaults): h is «fun _ _ _ _ _ _ us hl => match us, hl with | [_, _], _ => rfl», one _ a parameter -/
theorem Fun.binds {x qual : Str} {st : Stmt} {f : Addr} {fd : FuncData} {ps : List Str} (F : Fun K x qual st f fd)
    (h : ∀ (kV doc pm : Value) (an : Option Addr) (cdv ct : Value) (us : List Value), us.length = ps.length → bindArgs (PySem.W.fnOf x qual (defArgs st) (defBody st) (defScope st) .none kV doc pm an cdv ct) ⟨us, []⟩ = pure (ps.zip us)) : Binds K fd ps [] := by
  obtain ⟨oc, od, kV, doc, pm, an, cdv, ct, osl, rfl, lk, hcd⟩ := F.ex
  exact .all (h kV doc pm an cdv ct)
theorem fun_mk {x qual : Str} {st : Stmt} {f : Addr} {oc : Value} {od an : Option Addr} {osl : Array (Option Value)} {kV doc pm cdv ct : Value} (l : K.lookup f = some ⟨oc, od, .func (PySem.W.fnOf x qual (defArgs st) (defBody st) (defScope st) .none kV doc pm an cdv ct), osl⟩)
    (c : PySem.W.codeIn K cdv qual = true) (k : PySem.W.keepIn K (.ref f) = true) : Fun K x qual st f (PySem.W.fnOf x qual (defArgs st) (defBody st) (defScope st) .none kV doc pm an cdv ct) := ⟨⟨oc, od, kV, doc, pm, an, cdv, ct, osl, rfl, l, c⟩, k⟩
end
theorem small1000 {n : Nat} (h : n ≤ 1000) : n < sizeLine := Nat.lt_of_le_of_lt h (by decide)

/-! ### expressions in short: the name that stands in the i-th slot -/
section
variable {X : Cx}
theorem pv (i : Nat) {x : Str} {pos : Pos} (hN : X.N[i]? = some x := by rfl) (hv : Vis X.env.scope x := by first | exact Or.inl rfl | exact Or.inr (Or.inl rfl) | exact Or.inr (Or.inr rfl)) (hd : (x == ("__debug__" : Str)) = false := by decide)
    (hcd : (x == ("__classdict__" : Str)) = false := by decide) : PE X (.Name x pos) (tVar i) := pe_var hN hv hd hcd
end

/-! ### tests -/
theorem iteF {A B : Prop} (h : B) : if false = true then A else B := by
  rw [if_neg Bool.false_ne_true]
  exact h
theorem iteT {A B : Prop} (h : A) : if true = true then A else B := by
  rw [if_pos rfl]
  exact h

/-! ### heaps -/
/-- all that was tracked is as it was -/
def Same (H H' : Hp) : Prop := ∀ b o, H b = some o → H' b = some o
theorem Same.refl (H : Hp) : Same H H := fun _ _ h => h
theorem Same.trans {H H1 H2 : Hp} (a : Same H H1) (b : Same H1 H2) : Same H H2 := fun c o h => b c o (a c o h)
theorem Same.free {H H' : Hp} (e : Same H H') {l : Addr} (h : H' l = Option.none) : H l = Option.none := by
  cases q : H l with
  | none => rfl
  | some o =>
    rw [e l o q] at h
    cases h
theorem Same.seq {K : PySem.W.Frag} {H H' : Hp} {a : Addr} {xs : List V} (e : Same H H') (h : SqL K H a xs) : SqL K H' a xs := by
  rcases h with (h | ⟨o, h⟩) | h
  · exact .inl (.inl (e _ _ h))
  · exact .inl (.inr ⟨o, e _ _ h⟩)
  · exact .inr h

end L2
namespace L2
open PySem PySem.Spec PyProof.Rows

/-! ### a list comprehension over the hand layer -/
def clOf (env : Env) (names : List (Str × NameKind)) (acc : List (Str × Addr)) : List (Str × Addr) :=
  match names with
  | [] => acc
  | x :: r => clOf env r (if x.2 == .free then (x.1, (env.cells.lookup x.1).getD 0) :: acc else acc)

theorem cl_forIn (env : Env) : ∀ (names : List (Str × NameKind)) (acc : List (Str × Addr)), (∀ x ∈ names, x.2 = .free → ∃ c, env.cells.lookup x.1 = some c) →
    (forIn names acc (fun (x : Str × NameKind) (cs : List (Str × Addr)) => (if x.2 == .free then (do
      let c ← cellOf env x.1
      pure (ForInStep.yield ((x.1, c) :: cs))) else pure (ForInStep.yield cs) : Sem (ForInStep (List (Str × Addr)))))) = (pure (clOf env names acc) : Sem _) := by
  intro names
  induction names with
  | nil => intro acc _; rw [List.forIn_nil]; rfl
  | cons x r ih =>
    intro acc h
    rw [List.forIn_cons]
    have hr := fun y hy => h y (List.mem_cons_of_mem _ hy)
    show _ = (pure (clOf env r (if x.2 == .free then (x.1, (env.cells.lookup x.1).getD 0) :: acc else acc)) : Sem _)
    by_cases hf : x.2 = .free
    · obtain ⟨c, e⟩ := h x List.mem_cons_self hf
      have e1 : cellOf env x.1 = pure c := by unfold cellOf; rw [e]
      have e2 : (x.2 == NameKind.free) = true := by rw [hf]; rfl
      simp only [e2, if_true, e1, pure_bind]
      rw [ih _ hr]
      simp only [e, Option.getD_some]
    · have e2 : (x.2 == NameKind.free) = false := by simpa using hf
      simp only [e2, Bool.false_eq_true, if_false, pure_bind]
      exact ih _ hr

theorem closureFor_some {scope : Scope} {env : Env} (h : ∀ x ∈ scope.names, x.2 = .free → ∃ c, env.cells.lookup x.1 = some c) : closureFor scope env = pure (clOf env scope.names []) := by
  have q := cl_forIn env scope.names [] h
  unfold closureFor
  simp only [bind_pure]
  exact q

theorem clOf_lookup (env : Env) (x : Str) : ∀ (names : List (Str × NameKind)) (acc : List (Str × Addr)),
    (clOf env names acc).lookup x = if (x, NameKind.free) ∈ names then some ((env.cells.lookup x).getD 0) else acc.lookup x := by
  intro names
  induction names with
  | nil => intro acc; rfl
  | cons y r ih =>
    intro acc
    obtain ⟨n, k⟩ := y
    show (clOf env r (if k == .free then (n, (env.cells.lookup n).getD 0) :: acc else acc)).lookup x = _
    rw [ih]
    by_cases h1 : (x, NameKind.free) ∈ r
    · rw [if_pos h1, if_pos (List.mem_cons_of_mem _ h1)]
    · rw [if_neg h1]
      by_cases hk : k = .free
      · subst hk
        rw [if_pos (by rfl), List.lookup_cons]
        by_cases hx : x = n
        · subst hx
          simp
        · have : (x == n) = false := by simpa using hx
          rw [this, if_neg]
          intro z
          rcases List.mem_cons.mp z with z | z
          · exact hx (Prod.mk.inj z).1
          · exact h1 z
      · have : (k == NameKind.free) = false := by simpa using hk
        rw [this, if_neg (by simp), if_neg]
        intro z
        rcases List.mem_cons.mp z with z | z
        · exact hk (Prod.mk.inj z).2.symm
        · exact h1 z

theorem lookup_mapk (f : Str → NameKind → NameKind) (x : Str) : ∀ names : List (Str × NameKind), (names.map fun y => (y.1, f y.1 y.2)).lookup x = (names.lookup x).map (f x)
  | [] => rfl
  | (n, k) :: r => by
    rw [List.map_cons, List.lookup_cons, List.lookup_cons, lookup_mapk f x r]
    by_cases hx : x = n
    · subst hx; simp
    · have : (x == n) = false := by simpa using hx
      simp [this]

theorem lookup_relabel (scope : Scope) (env : Env) (x : Str) : (relabel scope env).names.lookup x =
    (scope.names.lookup x).map fun k => if (k == .free && env.scope.kind == .function && env.kindOf x == some .cell) then .cell else k := by
  have q := lookup_mapk (fun n k => if (k == .free && env.scope.kind == .function && env.kindOf n == some .cell) then .cell else k) x scope.names
  rw [← q]
  unfold relabel
  dsimp only
  congr 1
  refine List.map_congr_left fun y _ => ?_
  obtain ⟨n, k⟩ := y
  dsimp only
  split <;> rfl

def compOk (sc cs : Scope) (N Nc : List Str) (fr : List (Option Nat)) : Bool :=
  cs.kind == .function && cs.names.all (fun x => x.2 != .cell && (x.2 != .local || cs.names.lookup x.1 == some .local) && (x.2 != .free || sc.names.lookup x.1 == some .cell || sc.names.lookup x.1 == some .free))
    && fr.length == Nc.length && (fr.zip Nc).all (fun y => match y.1 with
      | none => true
      | some j => N[j]? == some y.2 && cs.names.lookup y.2 == some .free)

structure CompOk (sc cs : Scope) (N Nc : List Str) (fr : List (Option Nat)) : Prop where
  kind : cs.kind = .function
  nocell : ∀ x ∈ cs.names, x.2 ≠ .cell
  nms : ∀ x ∈ cs.names, x.2 = .local → cs.names.lookup x.1 = some .local
  fre : ∀ x ∈ cs.names, x.2 = .free → sc.names.lookup x.1 = some .cell ∨ sc.names.lookup x.1 = some .free
  len : fr.length = Nc.length
  frs : ∀ (i j : Nat), fr[i]? = some (some j) → ∃ x, Nc[i]? = some x ∧ N[j]? = some x ∧ cs.names.lookup x = some .free

theorem CompOk.of {sc cs : Scope} {N Nc : List Str} {fr : List (Option Nat)} (h : compOk sc cs N Nc fr = true) : CompOk sc cs N Nc fr := by
  unfold compOk at h
  rw [Bool.and_eq_true, Bool.and_eq_true, Bool.and_eq_true] at h
  obtain ⟨⟨⟨h1, h2⟩, h3⟩, h4⟩ := h
  rw [List.all_eq_true] at h2 h4
  refine ⟨by simpa using h1, fun x hx => ?_, fun x hx hk => ?_, fun x hx hk => ?_, by simpa using h3, fun i j e => ?_⟩
  · have q := h2 x hx
    simp only [Bool.and_eq_true] at q
    simpa using q.1.1
  · have q := h2 x hx
    simp only [Bool.and_eq_true] at q
    have q2 := q.1.2
    rw [hk] at q2
    simpa using q2
  · have q := h2 x hx
    simp only [Bool.and_eq_true] at q
    have q2 := q.2
    rw [hk] at q2
    simp at q2
    rcases q2 with a | a
    · exact .inl a
    · exact .inr a
  · have hl : fr.length = Nc.length := by simpa using h3
    obtain ⟨hi, ei⟩ := List.getElem?_eq_some_iff.mp e
    have hi' : i < Nc.length := by omega
    have hm : (fr[i], Nc[i]) ∈ fr.zip Nc := by
      have : (fr.zip Nc)[i]'(by simp; omega) = (fr[i], Nc[i]) := by simp
      rw [← this]
      exact List.getElem_mem _
    have q := h4 _ hm
    rw [ei] at q
    simp only [Bool.and_eq_true] at q
    exact ⟨Nc[i], by simp [hi'], by simpa using q.1, by simpa using q.2⟩

/-- the block's own context -/
def cxC (X : Cx) (scope : Scope) (Nc : List Str) (Cc : Addr) (pins : List (Addr × Obj)) (fp : List Addr) (s3 : Shared) (H3 : Hp) : Cx :=
  { X with N := Nc, s₀ := s3, H₀ := H3, env := compEnvC scope (clOf X.env scope.names []) Cc X.env, outer := X.stack, stack := X.stack, ex := fp, fn := fun _ => false, pn := X.pn ++ pins, xe := fun _ _ => False }
def σc (fr : List (Option Nat)) (σ : St) : St := fr.map fun o => o.bind fun j => (σ[j]?).bind id
/-- the state may be forgotten down to σ -/
def Fwd (σ' σ : St) : Prop := σ'.length = σ.length ∧ ∀ (i : Nat) v, σ[i]? = some (some v) → σ'[i]? = some (some v)

/-- the tests of a comprehension -/
def PIfs (X : Cx) (ifs : List Expr) (t : TT) : Prop :=
  ∀ (pins : List (Addr × Obj)) (s : Shared) (σ : St) (H : Hp) (Q : Bool → Hp → Prop), Inv X pins σ H s → t σ H Q →
    wpAny (model X.prog X.w) X.A (forIn ifs true fun c r => if r = true then do
      let ok ← isTrue c X.env (eval c X.env)
      pure (ForInStep.yield ok) else pure (ForInStep.yield r)) (TP X pins σ Q) X.xe s
def tTrue : TT := fun _ H Q => Q true H
theorem pifs_nil {X : Cx} : PIfs X [] tTrue := fun _ _ _ H _ I h => wpAny_tests_nil ⟨H, I, h⟩
theorem pifs_one {X : Cx} {c : Expr} {t : TT} (h : PT X c t) : PIfs X [c] t := fun pins s σ H Q I q => wpAny_tests_one (h pins s σ H Q I q)

section
variable {prog : Program} {w : World} {A : Around} {R : Result → Shared → Prop} {s : Shared}
/-- the loop of a comprehension, any target -/
theorem comp_loop {elt target iter : Expr} {ifs : List Expr} {scope : Scope} {pos : Pos} {it acc : Value} {env : Env} (I : Nat → Shared → Prop)
    (turn : ∀ n s, I n s → wpAny (model prog w) A (pyNext it) (fun r s₁ => match r with
      | none => R (.ok .next) s₁
      | some v => wpAny (model prog w) A (letOwnedTupleGo target it v) (fun _ s₂ => wpAny (model prog w) A (assign target env v) (fun _ s₃ =>
          wpAny (model prog w) A (forIn ifs true fun c r => if r = true then do
            let ok ← isTrue c env (eval c env)
            pure (ForInStep.yield ok) else pure (ForInStep.yield r)) (fun ok s₄ =>
            if ok = true then wpAny (model prog w) A (eval elt env) (fun x s₅ =>
              wpAny (model prog w) A (call (.builtin "list.append") [acc, x]) (fun _ s₆ => ∃ m, m < n ∧ I m s₆) (fun _ _ => False) s₅) (fun _ _ => False) s₄
            else ∃ m, m < n ∧ I m s₄) (fun _ _ => False) s₃) (fun _ _ => False) s₂) (fun _ _ => False) s₁) (fun _ _ => False) s)
    (n : Nat) (h : I n s) :
    codeAny (model prog w) A (.compLoop (.ListComp elt [⟨target, iter, ifs, 0⟩] scope pos) 0 it acc env) R s := by
  refine codeAny_loop rfl I (fun n s hI => ?_) n h
  refine wpAny_noted (m := compTurn (.ListComp elt [⟨target, iter, ifs, 0⟩] scope pos) 0 it acc env) (env := env) ?_
  rw [compTurn_list]
  have no : ∀ {E : Value → Shared → Prop} (e : Value) (s : Shared), False → E e s := fun _ _ f => f.elim
  refine wpAny_bind (wpAny_standAt (wpAny_bind (wpAny_mono (turn n s hI) (fun r s₁ h₁ => ?_) no)))
  cases r with
  | none => exact wpAny_pure h₁
  | some v =>
    refine wpAny_bind (wpAny_mono h₁ (fun _ s₂ h₂ => ?_) no)
    refine wpAny_bind (wpAny_mono h₂ (fun _ s₃ h₃ => ?_) no)
    refine wpAny_bind (wpAny_mono h₃ (fun ok s₄ h₄ => ?_) no)
    cases ok with
    | false => exact wpAny_pure ⟨rfl, h₄⟩
    | true =>
      refine wpAny_bind (wpAny_bind (wpAny_mono h₄ (fun x s₅ h₅ => ?_) no))
      exact wpAny_bind (wpAny_mono h₅ (fun _ s₆ h₆ => wpAny_pure (wpAny_pure ⟨rfl, h₆⟩)) no)
end
end L2
namespace L2
open PySem PySem.Spec PyProof.Rows

theorem cl_fact {env : Env} {names : List (Str × NameKind)} {x : Str} {c : Addr} (hf : ∀ y ∈ names, y.2 = .free → ∃ c, env.cells.lookup y.1 = some c) (h : (clOf env names []).lookup x = some c) : (x, NameKind.free) ∈ names ∧ env.cells.lookup x = some c := by
  rw [clOf_lookup] at h
  by_cases hm : (x, NameKind.free) ∈ names
  · rw [if_pos hm] at h
    obtain ⟨c', e⟩ := hf _ hm rfl
    rw [e] at h
    exact ⟨hm, by rw [e]; exact h⟩
  · rw [if_neg hm] at h
    cases h
theorem cl_some {env : Env} {names : List (Str × NameKind)} {x : Str} {c : Addr} (hm : (x, NameKind.free) ∈ names) (h : env.cells.lookup x = some c) : (clOf env names []).lookup x = some c := by
  rw [clOf_lookup, if_pos hm, h]
  rfl

section
variable {X : Cx} {scope : Scope} {Nc : List Str} {fr : List (Option Nat)} {pins : List (Addr × Obj)} {σ : St} {H : Hp} {s : Shared} {fp : List Addr}

theorem comp_cells (ok : CompOk X.env.scope scope X.N Nc fr) (I : Inv X pins σ H s) : ∀ y ∈ scope.names, y.2 = .free → ∃ c, X.env.cells.lookup y.1 = some c := fun y hy hk => by
  rcases ok.fre y hy hk with z | z
  · exact I.ok.has y.1 (.inl z)
  · exact I.ok.has y.1 (.inr z)

/-- the block begins: the frame's dict is new, at the heap's end -/
theorem comp_start (ok : CompOk X.env.scope scope X.N Nc fr) (I : Inv X pins σ H s) (hf : ∀ b ∈ fp, FpOk X pins H b) (hlt : ∀ b ∈ fp, b < s.heap.objs.size) {h1 : Heap} {m1 : Str → Option Value} {tk : Nat} {o1 : Obj}
    (hn : h1.Ns s.heap.objs.size m1) (hs : Heap.SameBut s.heap.objs.size (s.heap.push o1) h1) :
    Inv (cxC X scope Nc s.heap.objs.size pins fp s H) [] (σc fr σ) H { s with heap := h1, toks := tk } := by
  have hcell := comp_cells ok I
  have up : ∀ b o, s.heap.get? b = some o → h1.get? b = some o := fun b o e => (hs.2 b (Nat.ne_of_lt (Heap.lt_size e))).trans (Heap.get?_push_of_some _ e)
  have stk : ∀ b, b ∈ frs X.stack → b ∈ X.env.locals :: X.fs := I.stkSub
  have clt : ∀ x c, X.env.cells.lookup x = some c → c < s.heap.objs.size := fun x c e => by
    obtain ⟨v, q⟩ := I.cell x c e
    exact q.lt
  have kw : ∀ x, (relabel scope X.env).names.lookup x = some .cell ∨ (relabel scope X.env).names.lookup x = some .free → scope.names.lookup x = some .free := fun x h => by
    rw [lookup_relabel] at h
    cases e : scope.names.lookup x with
    | none => rw [e] at h; rcases h with h | h <;> cases h
    | some k =>
      rw [e] at h
      have hm : (x, k) ∈ scope.names := PySem.mem_of_lookup e
      have nk := ok.nocell _ hm
      by_cases hk : k = .free
      · rw [hk]
      · exfalso
        have : (k == NameKind.free) = false := by simpa using hk
        simp only [Option.map_some, this, Bool.false_and, Bool.false_eq_true, if_false] at h
        rcases h with h | h
        · exact nk (Option.some.inj h)
        · exact hk (Option.some.inj h)
  refine ⟨⟨I.ok.mod, ok.kind, I.ok.glob, I.ok.blt, Nat.le_refl _, fun x y c h1 h2 => ?_, fun x hx => ?_, fun x c h _ => ?_, I.ok.hd, I.ok.frames, .inl rfl, fun b hb => ⟨?_, fun x c e => ?_⟩, I.bs, Nat.le_trans I.ok.bsz I.sz, fun b o e hb => ?_, fun b hb hb' => ?_, I.stack, I.stkFree⟩,
    rfl, I.bare, Un.kept up, ⟨m1, hn, fun i x v e1 e2 e3 => ?_⟩, fun x c e => ?_, I.hok.fresh (Nat.le_refl _), fun x c e => ?_, fun p hp => ?_, I.hok.kept up, ?_⟩
  · exact I.ok.inj x y c (cl_fact hcell h1).2 (cl_fact hcell h2).2
  · have q := kw x hx
    have hm : (x, NameKind.free) ∈ scope.names := PySem.mem_of_lookup q
    obtain ⟨c, e⟩ := hcell _ hm rfl
    exact ⟨c, cl_some hm e⟩
  · exact absurd h (by show ¬ (false = true); decide)
  · exact Nat.ne_of_lt (hlt b hb)
  · exact (hf b hb).2.2.2.2.1 x c (cl_fact hcell e).2
  · rcases (hf b hb).2.2.2.1 with z | z
    · exact I.ok.noex b o e z
    · exact absurd (Nat.lt_of_lt_of_le (Heap.lt_size e) (Nat.le_trans I.ok.bsz z)) (Nat.lt_irrefl _)
  · have q := hf b hb
    rcases List.mem_cons.mp (stk b hb') with z | z
    · exact q.2.1 z
    · exact q.2.2.1 z
  · have e2' : (σc fr σ)[i]? = some (some v) := e2
    unfold σc at e2'
    rw [List.getElem?_map] at e2'
    cases ef : fr[i]? with
    | none => rw [ef] at e2'; cases e2'
    | some o =>
      rw [ef] at e2'
      cases o with
      | none => cases e2'
      | some j =>
        obtain ⟨y, a1, a2, a3⟩ := ok.frs i j ef
        have a1' : (cxC X scope Nc s.heap.objs.size pins fp s H).N[i]? = some y := a1
        rw [a1'] at e1
        obtain rfl : y = x := Option.some.inj e1
        have ej : σ[j]? = some (some v) := by
          have e2'' : (σ[j]?).bind id = some v := Option.some.inj e2'
          cases es : σ[j]? with
          | none => rw [es] at e2''; cases e2''
          | some z => rw [es] at e2''; cases z with
            | none => cases e2''
            | some z' => exact congrArg some e2''
        have hm : (y, NameKind.free) ∈ scope.names := PySem.mem_of_lookup a3
        have kc := ok.fre _ hm rfl
        obtain ⟨m, hn', hl⟩ := I.loc
        obtain ⟨u, r, l⟩ := hl j y v a2 ej (.inr kc)
        refine ⟨u, r, .inr ?_⟩
        rcases l with ⟨k, _⟩ | ⟨k, c, e, z⟩
        · exfalso
          have k' : X.env.scope.names.lookup y = some .local := k
          rcases kc with q | q <;> (rw [q] at k'; cases k')
        · refine ⟨?_, c, cl_some hm e, ?_⟩
          · show (relabel scope X.env).names.lookup y = some .cell ∨ (relabel scope X.env).names.lookup y = some .free
            rw [lookup_relabel, a3]
            show some (if _ then _ else _) = _ ∨ some (if _ then _ else _) = _
            split
            · exact .inl rfl
            · exact .inr rfl
          · obtain ⟨oc, ho, hd⟩ := z
            exact ⟨oc, up _ _ ho, hd⟩
  · obtain ⟨v, oc, ho, hd⟩ := I.cell x c (cl_fact hcell e).2
    exact ⟨v, oc, up _ _ ho, hd⟩
  · exact I.freeC x c (cl_fact hcell e).2
  · have hp' : p ∈ X.pn ++ pins := by
      rcases List.mem_append.mp hp with z | z
      · exact z
      · exact absurd z (by simp)
    obtain ⟨e, n, ne, nf, d⟩ := I.pin p hp'
    refine ⟨up _ _ e, n, Nat.ne_of_lt (Heap.lt_size e), fun z => ?_, d⟩
    rcases List.mem_cons.mp (stk _ z) with z | z
    · exact ne z
    · exact nf z
  · unfold σc
    rw [List.length_map]
    exact ok.len
end
end L2
namespace L2
open PySem PySem.Spec PyProof.Rows

/-- the turns of a comprehension whose list is at D -/
def tTurns (J : It) (σ₀ : St) (g : TG) (tt : TT) (te : TE) (D : Addr) (H1 : Hp) (Q : VK) : Prop :=
  ∃ W : Nat → Nat → List V → Hp → Prop, (∃ m, W 0 m [] (upd H1 D (.lst []))) ∧ ∀ i m ys H, W i m ys H →
    (J.stop i H ∧ Q (.ref D) H) ∨ (J.go i H ∧ ∀ x H', J.yld i H x H' → g x σ₀ H' fun σ2 H2 => Fwd σ2 σ₀ ∧ tt σ2 H2 fun b H3 =>
      if b = true then te σ2 H3 fun y H4 => H4 D = some (.lst ys) ∧ ys.length < sizeLine ∧ ∃ m', m' < m ∧ W (i + 1) m' (ys ++ [y]) (upd H4 D (.lst (ys ++ [y])))
      else ∃ m', m' < m ∧ W (i + 1) m' ys H3)
def CompEndR (X : Cx) (pins : List (Addr × Obj)) (σ : St) (Q : VK) (acc : Value) (C : Addr) (r : Result) (s' : Shared) : Prop :=
  ∃ D H', acc = .ref D ∧ r = .ok .next ∧ Inv X pins σ H' s' ∧ FpOk X pins H' C ∧ (∃ m, s'.heap.Ns C m) ∧ Q (.ref D) H'

section
variable {X : Cx} {scope : Scope} {Nc : List Str} {fr : List (Option Nat)} {pins : List (Addr × Obj)} {σ : St} {H : Hp} {s : Shared} {fp : List Addr}
theorem comp_core {tg elt iter : Expr} {ifs : List Expr} {pos : Pos} {g : TG} {tt : TT} {te : TE} {J : It} {it : Addr} {tn : Nat → Heap → Prop} {Q : VK} {E : Value → Shared → Prop} (ok : CompOk X.env.scope scope X.N Nc fr) (hc : X.calm = true)
    (hg : ∀ Cc pins fp s3 H3, PG (cxC X scope Nc Cc pins fp s3 H3) tg g) (ht : ∀ Cc pins fp s3 H3, PIfs (cxC X scope Nc Cc pins fp s3 H3) ifs tt) (he : ∀ Cc pins fp s3 H3, PE (cxC X scope Nc Cc pins fp s3 H3) elt te)
    (I : Inv X pins σ H s) (T : Turn X.prog X.w X.K tg J fp it tn) (st : tn 0 s.heap) (hf : ∀ b ∈ fp, FpOk X pins H b) (w : ∀ D, H D = none → tTurns J (σc fr σ) g tt te D H Q) :
    wpAny (model X.prog X.w) X.A (newList []) (fun acc s₃ => wpAny (model X.prog X.w) X.A (newFunctionEnv scope X.env.globals (clOf X.env scope.names []) [] X.env.qual none .none (some X.env)) (fun cenv s₄ =>
      codeAny (model X.prog X.w) X.A (.compStart (.ListComp elt [⟨tg, iter, ifs, 0⟩] scope pos) 0 (.ref it) acc { cenv with scope := relabel scope X.env }) (CompEndR X pins σ Q acc cenv.locals) s₄) E s₃) E s := by
  have flt : ∀ b ∈ fp, b < s.heap.objs.size := fun b hb => by
    obtain ⟨o, e, _⟩ := T.obj 0 _ st b hb
    exact Heap.lt_size e
  refine wpAny_newList ?_ (by show 0 ≤ sizeLine; exact Nat.zero_le _)
  have I3 := I.lnew (ys := []) (its := []) (t' := s.toks) .nil (Nat.zero_le _)
  have st3 : tn 0 (s.heap.push { cls := .type "list", data := .seq ([] : List Value).toArray }) := T.keep 0 _ _ st fun b _ o e => Heap.get?_push_of_some _ e
  obtain ⟨W, ⟨m0, w0⟩, turn⟩ := w s.heap.objs.size I.fresh
  have hf3 : ∀ b ∈ fp, FpOk X pins (upd H s.heap.objs.size (.lst [])) b := fun b hb => ⟨by rw [upd_ne (Nat.ne_of_lt (flt b hb))]; exact (hf b hb).1, (hf b hb).2⟩
  generalize hD : s.heap.objs.size = D at *
  generalize hs3 : ({ s with heap := s.heap.push { cls := .type "list", data := .seq ([] : List Value).toArray } } : Shared) = s3
  have I3' : Inv X pins σ (upd H D (.lst [])) s3 := hs3 ▸ I3
  have st3' : tn 0 s3.heap := by rw [← hs3]; exact st3
  have flt3 : ∀ b ∈ fp, b < s3.heap.objs.size := fun b hb => by
    obtain ⟨o, e, _⟩ := T.obj 0 _ st3' b hb
    exact Heap.lt_size e
  refine wpAny_newFunctionEnv ok.nocell (fun x hx => absurd hx (by simp)) (fun h1 hn1 hsb => ?_) ok.kind
  have up : ∀ b o, s3.heap.get? b = some o → h1.get? b = some o := fun b o e => (hsb.2 b (Nat.ne_of_lt (Heap.lt_size e))).trans (Heap.get?_push_of_some _ e)
  have I4 : Inv (cxC X scope Nc s3.heap.objs.size pins fp s3 (upd H D (.lst []))) [] (σc fr σ) (upd H D (.lst [])) { s3 with heap := h1, toks := s3.toks + ([] : List (Str × Value)).length } := comp_start ok I3' hf3 flt3 hn1 hsb
  have st4 : tn 0 h1 := T.keep 0 _ _ st3' fun b _ o e => up b o e
  generalize hXc : cxC X scope Nc s3.heap.objs.size pins fp s3 (upd H D (.lst [])) = Xc at I4
  have hg' : PG Xc tg g := hXc ▸ hg _ _ _ _ _
  have ht' : PIfs Xc ifs tt := hXc ▸ ht _ _ _ _ _
  have he' : PE Xc elt te := hXc ▸ he _ _ _ _ _
  have eP : Xc.prog = X.prog := by rw [← hXc]; rfl
  have ew : Xc.w = X.w := by rw [← hXc]; rfl
  have eK : Xc.K = X.K := by rw [← hXc]; rfl
  have eA : Xc.A = X.A := by rw [← hXc]; rfl
  have ec : Xc.calm = true := by rw [← hXc]; exact hc
  have ex : Xc.xe = fun _ _ => False := by rw [← hXc]; rfl
  have ee : Xc.env = compEnvC scope (clOf X.env scope.names []) s3.heap.objs.size X.env := by rw [← hXc]; rfl
  have elo : Xc.env.locals = s3.heap.objs.size := by rw [ee]; rfl
  have stat : ∀ {H' : Hp}, (∀ b ∈ fp, H' b = none) → ∀ b ∈ fp, FpOk Xc [] H' b := fun {H'} hn b hb => by
    have q := hf b hb
    refine ⟨hn b hb, by rw [elo]; exact Nat.ne_of_lt (flt3 b hb), fun z => ?_, .inl (by rw [← hXc]; exact hb), fun x c e => ?_, fun p hp => ?_⟩
    · have z' : b ∈ frs X.stack := by rw [← hXc] at z; exact z
      rcases List.mem_cons.mp (I.stkSub b z') with z | z
      · exact q.2.1 z
      · exact q.2.2.1 z
    · have e' : (clOf X.env scope.names []).lookup x = some c := by rw [ee] at e; exact e
      exact q.2.2.2.2.1 x c (cl_fact (comp_cells ok I) e').2
    · have hp' : p ∈ (X.pn ++ pins) ++ [] := by rw [← hXc] at hp; exact hp
      rw [List.append_nil] at hp'
      exact q.2.2.2.2.2 p hp'
  have loop : codeAny (model X.prog X.w) X.A (.compLoop (.ListComp elt [⟨tg, iter, ifs, 0⟩] scope pos) 0 (.ref it) (.ref D) Xc.env) (CompEndR X pins σ Q (.ref D) s3.heap.objs.size) { s3 with heap := h1, toks := s3.toks + ([] : List (Str × Value)).length } := by
    refine comp_loop (fun n s' => ∃ i ys H', Inv Xc [] (σc fr σ) H' s' ∧ tn i s'.heap ∧ (∀ b ∈ fp, H' b = none) ∧ W i n ys H') ?_ m0 ⟨0, [], _, I4, st4, fun b hb => (hf3 b hb).1, w0⟩
    rintro n s5 ⟨i, ys, H5, I5, st5, fr5, w5⟩
    rcases turn i n ys H5 w5 with ⟨stop, qn⟩ | ⟨go, step⟩
    · have q := T.done Xc eP ew eK ec i [] s5 (σc fr σ) H5 (fun _ _ => False) I5 (stat fr5) st5 stop
      rw [eA] at q
      refine thn q fun r s6 ⟨hr, I6⟩ => ?_
      subst hr
      obtain ⟨m6, hn6, _⟩ := I6.loc
      have fC : H5 s3.heap.objs.size = none := by have := I6.free; rwa [elo] at this
      have bs := I6.base
      have os := I6.os
      have hk := I6.hok
      rw [← hXc] at bs os hk
      refine ⟨D, H5, rfl, rfl, I3'.call' os bs hk I6.bare fun b hb => ?_, I3'.fpOk (Nat.le_refl _) fC, ⟨m6, by rw [elo] at hn6; exact hn6⟩, qn⟩
      have q := hf b hb
      exact ⟨q.2.2.2.1, q.2.1, q.2.2.2.2.1, q.2.2.2.2.2⟩
    · have q := T.item Xc eP ew eK ec i [] s5 (σc fr σ) H5 (fun _ _ => False) I5 (stat fr5) st5 go
      rw [eA] at q
      refine thn q fun r s6 ⟨u, hr, h6⟩ => ?_
      subst hr
      refine thn h6 fun _ s7 ⟨x, H7, I7, r7, y7, st7, fr7⟩ => ?_
      have I7' := I7.pinned (stat fr7) (T.obj _ _ st7)
      have q8 := hg' _ s7 _ H7 x u _ I7' r7 (step x H7 y7)
      rw [eP, ew, eA, ex] at q8
      refine thn q8 fun _ s8 ⟨σ8, H8, I8, fw8, q8⟩ => ?_
      have q9 := ht' _ s8 σ8 H8 _ I8 q8
      rw [eP, ew, eA, ex] at q9
      refine thn q9 fun b s9 ⟨H9, I9, q9⟩ => ?_
      have again : ∀ {H' : Hp} {ys' : List V} {s' : Shared}, Inv Xc ([] ++ pinsAt fp s7.heap) σ8 H' s' → (∃ m', m' < n ∧ W (i + 1) m' ys' H') → ∃ m, m < n ∧ ∃ i ys H', Inv Xc [] (σc fr σ) H' s' ∧ tn i s'.heap ∧ (∀ b ∈ fp, H' b = none) ∧ W i m ys H' := fun {H' ys' s'} J' ⟨m', hm, w'⟩ => by
        refine ⟨m', hm, i + 1, ys', H', (J'.unpinned).weak fw8.1.symm fw8.2, T.keep _ _ _ st7 fun b hb o e => (J'.pin (b, o) (List.mem_append_right _ (List.mem_append_right _ (mem_pinsAt hb e)))).1, fun b hb => ?_, w'⟩
        obtain ⟨o, e, d⟩ := T.obj _ _ st7 b hb
        exact (J'.pin (b, o) (List.mem_append_right _ (List.mem_append_right _ (mem_pinsAt hb e)))).2.1
      cases b with
      | false =>
        rw [if_neg (by simp)]
        exact again I9 q9
      | true =>
        rw [if_pos rfl]
        have q9' : te σ8 H9 fun y H4 => H4 D = some (.lst ys) ∧ ys.length < sizeLine ∧ ∃ m', m' < n ∧ W (i + 1) m' (ys ++ [y]) (upd H4 D (.lst (ys ++ [y]))) := q9
        have q10 := he' _ s9 σ8 H9 _ I9 q9'
        rw [eP, ew, eA, ex] at q10
        refine thn q10 fun y s10 ⟨z, H10, I10, r10, e10, l10, w10⟩ => ?_
        have q11 := mt_append (X := Xc) _ s10 σ8 H10 (.ref D) [z] (.ref D) [y] (fun v H' => ∃ m', m' < n ∧ W (i + 1) m' (ys ++ [z]) H') I10 rfl (.cons r10 .nil) ⟨D, ys, z, rfl, rfl, e10, l10, w10⟩
        rw [eP, ew, eA, ex] at q11
        exact thn q11 fun _ s11 ⟨_, H11, I11, _, w11⟩ => again I11 w11
  have loop' := loop
  rw [ee] at loop'
  exact codeAny_compStart_list loop' (T.self X.A 0 _ _ _ st4 loop')

/-- e's own reading -/
def tComp (fr : List (Option Nat)) (wi : TI) (g : TG) (tt : TT) (te : TE) : TE := fun σ H Q => wi σ H fun J H1 => ∀ D, H1 D = none → tTurns J (σc fr σ) g tt te D H1 Q

theorem comp_after {C : Addr} {H' : Hp} {s' : Shared} {h' : Heap} (I : Inv X pins σ H' s') (f : FpOk X pins H' C) (hs : Heap.SameBut C s'.heap h') : Inv X pins σ H' { s' with heap := h' } :=
  I.turned (t' := s'.toks) (fun b o hb e => (hs.2 b hb).trans e) f.1 f.2.1 f.2.2.2.1 f.2.2.2.2.1 f.2.2.2.2.2

theorem pe_comp {tg elt iter : Expr} {ifs : List Expr} {pos : Pos} {g : TG} {tt : TT} {te : TE} {wi : TI} (ok : compOk X.env.scope scope X.N Nc fr = true) (hc : X.calm = true) (hi : PI X tg iter wi)
    (hg : ∀ Cc pins fp s3 H3, PG (cxC X scope Nc Cc pins fp s3 H3) tg g) (ht : ∀ Cc pins fp s3 H3, PIfs (cxC X scope Nc Cc pins fp s3 H3) ifs tt) (he : ∀ Cc pins fp s3 H3, PE (cxC X scope Nc Cc pins fp s3 H3) elt te)
    (hs : ∀ x, foldedSetIterable iter X.env x = pure x := by intro _; rfl) :
    PE X (.ListComp elt [⟨tg, iter, ifs, 0⟩] scope pos) (tComp fr wi g tt te) := by
  have ok := CompOk.of ok
  intro pins s σ H Q I h
  rw [eval_ListComp]
  refine wpAny_comprehension_free (use := none) rfl hs (closureFor_some (comp_cells ok I)) ok.kind ok.nms (thn (hi pins s σ H _ I h) fun v s1 h1 => thn h1 fun itv s2 h2 => ?_)
  obtain ⟨it, fp, tn, J, H2, e, I2, T, st2, f2, w⟩ := h2
  subst e
  refine thn (comp_core ok hc hg ht he I2 T st2 f2 w) fun acc s3 h3 => thn h3 fun cenv s4 h4 => codeAny_mono h4 fun r s5 h5 => ?_
  obtain ⟨D, H5, rfl, rfl, I5, f5, ⟨m5, n5⟩, q5⟩ := h5
  exact ⟨m5, n5, fun h' sb => ⟨.ref D, H5, comp_after I5 f5 sb, rfl, q5⟩⟩

/-- name = a comprehension: the store comes ahead of the letting go -/
theorem ps_comp {tg elt iter : Expr} {ifs : List Expr} {pos pos' pos'' : Pos} {g : TG} {tt : TT} {te : TE} {wi : TI} {i : Nat} {x : Str} (ok : compOk X.env.scope scope X.N Nc fr = true) (hc : X.calm = true) (hN : X.N.Nodup) (hi : X.N[i]? = some x) (hx : Loc X.env.scope x) (hit : PI X tg iter wi)
    (hg : ∀ Cc pins fp s3 H3, PG (cxC X scope Nc Cc pins fp s3 H3) tg g) (ht : ∀ Cc pins fp s3 H3, PIfs (cxC X scope Nc Cc pins fp s3 H3) ifs tt) (he : ∀ Cc pins fp s3 H3, PE (cxC X scope Nc Cc pins fp s3 H3) elt te)
    (hsw : swapsWith (.ListComp elt [⟨tg, iter, ifs, 0⟩] scope pos) (some (.Name x pos')) pos''.line X.env = pure true)
    (hs : ∀ x, foldedSetIterable iter X.env x = pure x := by intro _; rfl) (hf : X.fn x = true ∨ X.env.scope.names.lookup x = some .local := by first | exact .inl rfl | exact .inr rfl | assumption) :
    PS X (.Assign [.Name x pos'] (.ListComp elt [⟨tg, iter, ifs, 0⟩] scope pos) pos'') (tAsg (tComp fr wi g tt te) (gName i)) := by
  have ok := CompOk.of ok
  intro pins s σ H Dn I h
  rw [exec_Assign_Name_used _ _ _ _ hsw]
  refine wpAny_bind (wpAny_standAt (wpAny_bind ?_))
  refine wpAny_bind (m := comprehension (.ListComp elt [⟨tg, iter, ifs, 0⟩] scope pos) scope X.env (firstIterPos [⟨tg, iter, ifs, 0⟩] pos) (newList []) false (eval iter X.env) (some (assign (.Name x pos') X.env))) ?_
  refine thn (wpAny_comprehension_free (use := some (assign (.Name x pos') X.env)) (Q := fun _ s' => SP X pins Dn .next s') rfl hs (closureFor_some (comp_cells ok I)) ok.kind ok.nms (thn (hit pins s σ H _ I h) fun v s1 h1 => thn h1 fun itv s2 h2 => ?_)) fun _ s' q => wpAny_pure (wpAny_pure q)
  obtain ⟨it, fp, tn, J, H2, e, I2, T, st2, f2, w⟩ := h2
  subst e
  refine thn (comp_core ok hc hg ht he I2 T st2 f2 w) fun acc s3 h3 => thn h3 fun cenv s4 h4 => codeAny_mono h4 fun r s5 h5 => ?_
  obtain ⟨D, H5, rfl, rfl, I5, f5, ⟨m5, n5⟩, q5⟩ := h5
  refine wpAny_assign_Name (store_ok2 (v := .ref D) I5 hN hi hx rfl (fun s6 I6 ⟨a, sb, ha⟩ => ?_) hf)
  have nC : cenv.locals ≠ a := by
    rcases ha with ha | ha
    · rw [ha]; exact f5.2.1
    · exact Ne.symm (f5.2.2.2.2.1 x a ha)
  refine ⟨m5, n5.sameBut sb nC, fun h' sb' => ⟨_, H5, comp_after I6 f5 sb', q5⟩⟩
end
end L2
namespace L2
open PySem PySem.Spec PyProof.Rows
section
variable {X : Cx}
/-! ### is, is not, of bools -/
/-! ### () + u -/
def rCat0 (K : PySem.W.Frag) : R2 := fun x y H Q => ∃ a b ys, x = .ref a ∧ y = .ref b ∧ SqT K H a [] ∧ SqT K H b ys ∧ Q (.ref b) H
theorem op_cat0 : OpR X (binaryOp .Add) (rCat0 X.K) := by
  intro pins s σ H x y v u Q I rx ry h
  obtain ⟨a, b, ys, rfl, rfl, ha, hb, q⟩ := h
  cases rx
  cases ry
  obtain ⟨its, r1, p1, _⟩ := I.tuple ha
  obtain ⟨its2, r2, p2, _⟩ := I.tuple hb
  have e : its = [] := r1.nil_iff.mpr rfl
  subst e
  obtain ⟨⟨cls, dd, data, sl⟩, ho, hc, n, hd⟩ := id p1
  obtain ⟨⟨cls2, dd2, data2, sl2⟩, ho2, hc2, n2, hd2⟩ := id p2
  simp only at hc hd hc2 hd2
  subst hc hd hc2 hd2
  exact concat_meets ⟨_, ho, rfl⟩ ⟨_, ho2, rfl⟩ noFill_tuple_add seq_tuple_add PySem.F.slot_tuple_add PySem.F.entry_tuple_add (PySem.F.args_tuple_add_2 _ _)
    (tuple_addW0 a b [].toArray its2.toArray n n2 dd dd2 sl sl2 (by simp)) ⟨ho, ho2, ⟨.ref b, H, I, rfl, q⟩⟩
/-! ### the whole of a tuple -/
theorem getItem_tuple_all {prog : Program} {w : World} {A : Around} {E : Value → Shared → Prop} {s : Shared} {t sl : Addr} {items : Array Value} {vl vu : Value} {lo hi : Option Int} {Q : Value → Shared → Prop} (ht : IsTup s.heap t items) (hs : s.heap.IsSliceOf sl vl vu .none) (pl : IsPart vl lo) (pu : IsPart vu hi)
    (hw : HT.sIx items.size 0 lo = 0 ∧ HT.sIx items.size items.size hi = items.size) (h : Q (.ref t) s) : wpAny (model prog w) A (getItem (.ref t) (.ref sl)) Q E s := by
  obtain ⟨os, hos, hcs, hds⟩ := id hs
  have hTs : s.TypeIs (.ref sl) "slice" := ⟨os, hos, hcs⟩
  unfold getItem
  try with_reducible refine wpAny_holding ?_
  first | refine wpAny_bind (wpAny_pure ?_) | skip
  refine wpAny_bind (wpAny_sequenceKey ht.typeIs (by decide) ?_)
  refine wpAny_bind (wpAny_callSpecial?_slot (name := Str.ofString "__getitem__") ht.typeIs PyProof.Rows.slot_tuple_getitem
    (wpAny_call_entry PyProof.Rows.slot_tuple_getitem ht.typeIs entry_tuple_getitem ?_ (args_tuple_getitem _ _)))
  show wpAny _ _ (Builtin.Tuple.tupleItemsOf (.ref t) >>= _) _ _ s
  refine wpAny_bind (tupleItemsOf_ ht ?_)
  refine wpAny_bind (wpAny_typeOf hTs ?_)
  rw [if_pos (by decide)]
  refine wpAny_bind (HT.sliceApplied_gen hs pl pu ?_)
  have hyes : ((((HT.sIx items.size 0 lo : Nat) : Int) == 0 && (1 : Int) == 1 && (HT.sIx items.size items.size hi - HT.sIx items.size 0 lo) == items.size) = true) := by
    rw [hw.1, hw.2]
    simp
  show wpAny _ _ (if (((HT.sIx items.size 0 lo : Nat) : Int) == 0 && (1 : Int) == 1 && (HT.sIx items.size items.size hi - HT.sIx items.size 0 lo) == items.size) = true then _ else _) _ _ s
  rw [if_pos hyes]
  have ex : wpAny (model prog w) A.in1 (Builtin.Tuple.tupleIsExact (.ref t)) (fun b s' => b = true ∧ s' = s) E s := by
    unfold Builtin.Tuple.tupleIsExact
    exact wpAny_bind (wpAny_typeOf ht.typeIs (wpAny_pure ⟨by decide, rfl⟩))
  refine wpAny_bind (thn ex fun b s' q => ?_)
  obtain ⟨rfl, rfl⟩ := q
  rw [if_pos rfl]
  exact wpAny_bind (wpAny_rule (wpAny_pure ⟨_, rfl, wpAny_pure h⟩))
def rSlW (K : PySem.W.Frag) : V → Option Int → Option Int → Hp → VK → Prop := fun x lo hi H Q => ∃ a xs, x = .ref a ∧ SqT K H a xs ∧
  (HT.sIx xs.length 0 lo = 0 ∧ HT.sIx xs.length xs.length hi = xs.length) ∧ Q (.ref a) H
theorem sl_tupW : SlR X (rSlW X.K) := by
  intro pins s σ H x v vl vu lo hi sl Q I rx hs pl pu h
  obtain ⟨a, xs, rfl, hx, hw, q⟩ := h
  cases rx
  obtain ⟨its, r, ht, hz⟩ := I.tuple hx
  have hlen : its.toArray.size = xs.length := by rw [List.size_toArray]; exact r.length.symm
  refine ⟨"tuple", _, PyProof.Rows.slot_tuple_getitem.lookup, ht.typeIs, ?_⟩
  exact getItem_tuple_all ht hs pl pu (by rw [hlen]; exact hw) ⟨.ref a, H, I, rfl, q⟩
/-! ### t * n -/
theorem noFill_tuple_mul : fillsNumberSlot (.type "tuple") "mul" = pure false :=
  PySem.fillsNumberSlot_seq (id := "tuple.__mul__") (r := some (.builtin "tuple.__rmul__")) F.slot_tuple_mul.lookup (by decide +kernel) F.slot_tuple_rmul.lookup (by decide +kernel)
theorem repeat_tuple : seqRepeat? (.type "tuple") = pure (some (.builtin "tuple.__mul__")) := by
  unfold seqRepeat?
  have e1   := PySem.seqSlot_of (T := "tuple") (name := "__mul__") (id := "tuple.__mul__") F.slot_tuple_mul.lookup (by decide +kernel)
  have e2   := PySem.seqSlot_of (T := "tuple") (name := "__rmul__") (id := "tuple.__rmul__") F.slot_tuple_rmul.lookup (by decide +kernel)
  rw [e1, e2]
  rfl
theorem rmul_int_tuple (a : Int) (t : Tok) (l : Addr) (items : Array Value) (n : Nat) (dd : Option Addr) (sl : Array (Option Value)) :
    Meets (Builtin.«int.__rmul__» ⟨[.int a t, .ref l], []⟩) (fun _ R s => s.heap.get? l = some { cls := .type "tuple", dict := dd, data := .seq items n, slots := sl } ∧ R (.ok (.ret Value.notImplemented)) s) :=
  .of_wp fun prog w A R s h => by
    obtain ⟨hp, g, d, tk, os⟩ := s
    obtain ⟨hl, h⟩ := h
    wp_walk
    exact ⟨_, rfl, h⟩
theorem tuple_mulW (l : Addr) (items : Array Value) (n : Nat) (dd : Option Addr) (sl : Array (Option Value)) (x : Int) (u : Tok) (h1 : 1 < x) (h2 : x < 2 ^ 63) (h3 : items.isEmpty = false) (h4 : items.size * x ≤ sizeLine) :
    Meets (Builtin.«tuple.__mul__» ⟨[.ref l, .int x u], []⟩) (fun _ R s => s.heap.get? l = some { cls := .type "tuple", dict := dd, data := .seq items n, slots := sl } ∧
      R (.ok (.ret (Value.ref s.heap.objs.size))) { s with heap := s.heap.push { cls := Value.type "tuple", data := Data.seq (List.foldl (fun x1 x2 => x1 ++ x2) #[] (List.replicate x.toNat items)) } }) :=
  .of_wp fun prog w A R s h => by
    obtain ⟨hl, h⟩ := h
    have hT : s.TypeIs (.ref l) "tuple" := ⟨_, hl, rfl⟩
    have hI : IsTup s.heap l items := ⟨_, hl, rfl, n, rfl⟩
    have f1 := AutoSeq1.idx_int
    unfold Builtin.«tuple.__mul__»
    obtain ⟨hp, g, d, tk, os⟩ := s
    wp_walk using wpAny_loadPart' hl
    rw [if_neg (by simp; omega)]
    refine wpAny_bind (tupleItemsOf_ hI ?_)
    dsimp only
    have hx1 : (x == 1) = false := by
      have : x ≠ 1 := by omega
      simpa using this
    have e0 : ¬ (items.isEmpty || x == 1) = true := by
      rw [h3, hx1]
      simp
    have e1 : ¬ (decide (x ≤ 0) || items.isEmpty) = true := by
      have : ¬ x ≤ 0 := by omega
      rw [h3]
      simpa using this
    have hl9 : (sizeLine : Int) ≤ (2 ^ 63 - 1) / 8 := by decide
    have e2 : ¬ ((items.size : Int) * x > (2 ^ 63 - 1) / 8) := by omega
    have e3 : ¬ Builtin.Tuple.tupleTooMany ((items.size : Int) * x) = true := by
      unfold Builtin.Tuple.tupleTooMany
      simpa using h4
    rw [if_neg e0, if_neg e1, if_neg e2, if_neg e3]
    have hsz : (List.foldl (fun x1 x2 => x1 ++ x2) #[] (List.replicate x.toNat items)).size ≤ sizeLine := by
      have q := foldl_rep items.toList x.toNat []
      have q2 : List.foldl (fun x1 x2 => x1 ++ x2) #[] (List.replicate x.toNat items) = (List.replicate x.toNat items.toList).flatten.toArray := by
        simpa using q
      rw [q2, List.size_toArray, len_rep, Array.length_toList]
      have e : ((x.toNat : Nat) : Int) = x := by omega
      have : ((x.toNat * items.size : Nat) : Int) ≤ (sizeLine : Int) := by
        rw [Int.natCast_mul, e, Int.mul_comm]
        exact h4
      omega
    exact wpAny_bind (m := Builtin.Tuple.tupleExact _) (wpAny_newObj_type (wpAny_pure ⟨_, rfl, h⟩) hsz)
def rRepT (K : PySem.W.Frag) : R2 := fun x y H Q => ∃ l k xs, x = .ref l ∧ y = .int k ∧ SqT K H l xs ∧ 1 < k ∧ k < 2 ^ 63 ∧ xs ≠ [] ∧ (xs.length : Int) * k ≤ sizeLine ∧
  ∀ p, H p = none → Q (.ref p) (upd H p (.tup (List.replicate k.toNat xs).flatten))
theorem op_repT : OpR X (binaryOp .Mult) (rRepT X.K) := by
  intro pins s σ H x y v u Q I rx ry h
  obtain ⟨l, k, xs, rfl, rfl, hH, h1, h2, hne, hz, q⟩ := h
  cases rx
  obtain ⟨t, rfl⟩ := ry
  obtain ⟨its, r, ht, hzz⟩ := I.tuple hH
  have hl := r.length
  obtain ⟨⟨cls, dd, data, sl⟩, ho, hc, n, hd⟩ := id ht
  simp only at hc hd
  subst hc hd
  have hnew : List.foldl (fun x1 x2 => x1 ++ x2) #[] (List.replicate k.toNat its.toArray) = (List.replicate k.toNat its).flatten.toArray := by
    have := foldl_rep its k.toNat []
    rw [List.nil_append] at this
    exact this
  have h3 : its.toArray.isEmpty = false := by
    cases its with
    | nil => exact absurd (r.nil_iff.mp rfl) hne
    | cons a b => rfl
  have h4 : (its.toArray.size : Int) * k ≤ sizeLine := by rw [List.size_toArray, ← hl]; exact hz
  refine wpAny_binaryOp_repeat_ref (T := "tuple") (U := "int") (by decide) ⟨_, ho, rfl⟩ (fun s' => typeIs_int s' k t) noFill_tuple_mul F.fills_int_mul F.slot_int_rmul repeat_tuple F.slot_int_index.lookup
    (call_meets F.slot_int_rmul (typeIs_int s k t) F.entry_int_rmul (F.args_int_rmul_2 _ _) (rmul_int_tuple k t l its.toArray n dd sl)
      ⟨ho, rfl, ⟨_, ho, rfl⟩, call_meets F.slot_tuple_mul ⟨_, ho, rfl⟩ F.entry_tuple_mul (F.args_tuple_mul_2 _ _) (tuple_mulW l its.toArray n dd sl k t h1 h2 h3 h4) ⟨ho, ?_⟩⟩)
  rw [hnew]
  have hln : (List.replicate k.toNat xs).flatten.length ≤ sizeLine := by
    rw [len_rep]
    have e : ((k.toNat : Nat) : Int) = k := by omega
    have : ((k.toNat * xs.length : Nat) : Int) ≤ (sizeLine : Int) := by
      rw [Int.natCast_mul, e, Int.mul_comm]
      exact hz
    omega
  refine ⟨.ref s.heap.objs.size, _, I.laid (t' := s.toks) (o := .tup (List.replicate k.toNat xs).flatten) (fun b ob q => Heap.get?_push_of_some _ q) (Nat.le_refl _) ⟨hln, _, r.rep k.toNat, IsTup.new _ _⟩, rfl, q _ I.fresh⟩
/-! ### all, any of a list of bools -/
theorem boolsAre_of {bs : List Bool} : ∀ {us : List Value}, Vals (bs.map V.bl) us → PyProof.Rows.LSm.BoolsAre us bs := by
  induction bs with
  | nil => intro us r; cases r; exact .nil
  | cons b bs ih =>
    intro us r
    cases r with
    | cons a t => cases a; exact .cons _ (ih t)
end
end L2
namespace L2
open PySem PySem.Spec PyProof.Rows
section
variable {X : Cx}
theorem iter_up {s : Shared} {h' : Heap} {o : Obj} (hk : ∀ b x, b ∉ [s.heap.objs.size] → (s.heap.push o).get? b = some x → h'.get? b = some x) : ∀ b x, s.heap.get? b = some x → h'.get? b = some x :=
  fun b x e => hk b x (fun hm => by
    rw [List.mem_singleton.mp hm] at e
    exact Nat.lt_irrefl _ (Heap.lt_size e)) (Heap.get?_push_of_some _ e)
theorem all_of (bs : List Bool) : ((List.range bs.length).all fun i => (bs[i]?).getD true) = bs.all id := by
  rw [Bool.eq_iff_iff]
  simp only [List.all_eq_true, List.mem_range, id]
  constructor
  · intro h b hb
    obtain ⟨i, hi, rfl⟩ := List.mem_iff_getElem.mp hb
    have := h i hi
    simpa [hi] using this
  · intro h i hi
    simp only [List.getElem?_eq_getElem hi, Option.getD_some]
    exact h _ (List.getElem_mem hi)
theorem call_all (hc : X.calm = true) : CallR X (.builtin "all") (fun xs H Q => ∃ (p : Addr) (bs : List Bool), xs = [.ref p] ∧ SqL X.K H p (bs.map V.bl) ∧ Q (.bl (bs.all id)) H) := by
  intro pins s σ H xs us Q I r h
  obtain ⟨p, bs, rfl, hq, q⟩ := h
  obtain ⟨u, rfl, rx⟩ := vals1 r
  cases rx
  obtain ⟨its, r', pl, hz⟩ := I.list hq
  have hb := boolsAre_of r'
  have hl := pl.isList
  have hlt : p < s.heap.objs.size := by obtain ⟨_, e, _⟩ := hl; exact Heap.lt_size e
  refine call_all_walk (wpAny_pyIter_list hl ?_)
  refine ⟨s.heap.objs.size, [s.heap.objs.size, p], [s.heap.objs.size], its.toArray.size, _, _, fun i => (bs[i]?).getD true, rfl, Walks.list (A := X.A.in1) (I.ok.hd hc) _ p (Nat.ne_of_lt hlt) its.toArray,
    ⟨⟨_, Heap.get?_push_size _ rfl, rfl, rfl⟩, hl.push _⟩, fun i v s' Q' E' hP hQ => ?_, fun h' tk hk => ?_⟩
  · obtain ⟨b, e, rfl⟩ := hb.get i v (by simpa using hP)
    simp only [e, Option.getD_some] at hQ
    exact wpAny_truthy_bool hQ
  · have e : its.toArray.size = bs.length := by
      have := r'.length
      rw [List.length_map] at this
      rw [List.size_toArray, ← this]
    rw [e, all_of]
    exact ⟨.bl (bs.all id), H, I.kept (iter_up hk), rfl, q⟩
/-! ### isinstance(x, T), T one of the built-in types -/
/-- the built-in type of a thing: int, bool, str, None, list, tuple -/
def tyName (K : PySem.W.Frag) (H : Hp) (x : V) (n : String) : Prop := match x with
  | .non => n = "NoneType"
  | .bl _ => n = "bool"
  | .int _ => n = "int"
  | .str _ => n = "str"
  | .ref a => (n = "list" ∧ ∃ xs, SqL K H a xs) ∨ (n = "tuple" ∧ ∃ xs, SqT K H a xs)
  | _ => False
theorem inst_ok {pins : List (Addr × Obj)} {σ : St} {H : Hp} {s : Shared} {A : Around} {E : Value → Shared → Prop} {Q : Value → Shared → Prop} {c : Value} {b : Bool} {x : V} {u : Value} {n : String} (I : Inv X pins σ H s) (rx : RelV x u) (ty : tyName X.K H x n)
    (e : PySem.W.kitOne X.K (.type n) c = some b) (h : ∀ tk, Q (.bool b) { s with toks := tk }) : wpAny (model X.prog X.w) A (call (.builtin "isinstance") [u, c]) Q E s := by
  cases x with
  | non => cases (show n = _ from ty); exact isinst_ok I rx .non e h
  | bl y => cases (show n = _ from ty); exact isinst_ok I rx (.bl y) e h
  | int i => cases (show n = _ from ty); exact isinst_ok I rx (.int i) e h
  | str y => cases (show n = _ from ty); exact isinst_ok I rx (.str y) e h
  | ref a =>
    cases (show u = Value.ref a from rx)
    rcases (show (n = "list" ∧ ∃ xs, SqL X.K H a xs) ∨ (n = "tuple" ∧ ∃ xs, SqT X.K H a xs) from ty) with ⟨rfl, xs, hx⟩ | ⟨rfl, xs, hx⟩
    · obtain ⟨its, _, pl, _⟩ := I.list hx
      obtain ⟨o, h1, h2, _⟩ := pl.isList
      exact PySem.W.kia_one PySem.W.kitx_list I.kIn ⟨o, h1, h2⟩ e (fun z => nomatch z) h
    · obtain ⟨its, _, pl, _⟩ := I.tuple hx
      obtain ⟨o, h1, h2, _⟩ := pl
      exact PySem.W.kia_one PySem.W.kitx_tuple I.kIn ⟨o, h1, h2⟩ e (fun z => nomatch z) h
  | _ => exact False.elim ty
/-- the answer by the names of the two types -/
def isSub (n c : String) : Bool := n == c || (n == "bool" && c == "int")
theorem kit_tab (K : PySem.W.Frag) {n c : String} (hn : n = "NoneType" ∨ n = "bool" ∨ n = "int" ∨ n = "str" ∨ n = "list" ∨ n = "tuple") (hc : c = "int" ∨ c = "bool" ∨ c = "str" ∨ c = "list" ∨ c = "tuple") : PySem.W.kitOne K (.type n) (.type c) = some (isSub n c) := by
  rcases hn with rfl | rfl | rfl | rfl | rfl | rfl <;> rcases hc with rfl | rfl | rfl | rfl | rfl <;> first | rfl | (unfold PySem.W.kitOne; rfl) | trace_state
theorem call_isinst : CallR X (.builtin "isinstance") (fun xs H Q => ∃ x c n, xs = [x, .ty c] ∧ (c = "int" ∨ c = "bool" ∨ c = "str" ∨ c = "list" ∨ c = "tuple") ∧ tyName X.K H x n ∧ Q (.bl (isSub n c)) H) := by
  intro pins s σ H xs us Q I r h
  obtain ⟨x, c, n, rfl, hc, ty, q⟩ := h
  obtain ⟨u, u2, rfl, rx, rc⟩ := vals2 r
  cases rc
  have hn : n = "NoneType" ∨ n = "bool" ∨ n = "int" ∨ n = "str" ∨ n = "list" ∨ n = "tuple" := by
    cases x with
    | non => exact .inl ty
    | bl y => exact .inr (.inl ty)
    | int i => exact .inr (.inr (.inl ty))
    | str y => exact .inr (.inr (.inr (.inl ty)))
    | ref a =>
      rcases (show (n = "list" ∧ ∃ xs, SqL X.K H a xs) ∨ (n = "tuple" ∧ ∃ xs, SqT X.K H a xs) from ty) with z | z
      · exact .inr (.inr (.inr (.inr (.inl z.1))))
      · exact .inr (.inr (.inr (.inr (.inr z.1))))
    | _ => exact False.elim ty
  exact inst_ok I rx ty (kit_tab X.K hn hc) fun tk => ⟨.bl (isSub n c), H, I.tok tk, rfl, q⟩
end
end L2
namespace L2
open PySem PySem.Spec PyProof.Rows

/-! # The data layer: values as trees, the heap hidden -/
inductive D where
  | int (i : Int) | bl (b : Bool) | non | str (x : Str) | tup (ds : List D) | lst (ds : List D)
  deriving Inhabited

mutual
def Den (K : PySem.W.Frag) (C : Hp) (v : V) : D → Prop
  | .int i => v = .int i
  | .bl b => v = .bl b
  | .non => v = .non
  | .str x => v = .str x
  | .tup ds => ∃ a xs, v = .ref a ∧ SqT K C a xs ∧ Dens K C xs ds
  | .lst ds => ∃ a xs, v = .ref a ∧ SqL K C a xs ∧ Dens K C xs ds
def Dens (K : PySem.W.Frag) (C : Hp) (vs : List V) : List D → Prop
  | [] => vs = []
  | d :: ds => ∃ x xs, vs = x :: xs ∧ Den K C x d ∧ Dens K C xs ds
end

theorem Same.seqT {K : PySem.W.Frag} {H H' : Hp} {a : Addr} {xs : List V} (e : Same H H') (h : SqT K H a xs) : SqT K H' a xs := by
  rcases h with h | h
  · rcases h with h | ⟨o, h⟩
    · exact .inl (.inl (e _ _ h))
    · exact .inl (.inr ⟨o, e _ _ h⟩)
  · exact .inr h

mutual
theorem Den.mono {K : PySem.W.Frag} {C C' : Hp} (e : Same C C') : ∀ {v : V} (d : D), Den K C v d → Den K C' v d
  | v, .int i, h => by unfold Den at h ⊢; exact h
  | v, .bl i, h => by unfold Den at h ⊢; exact h
  | v, .non, h => by unfold Den at h ⊢; exact h
  | v, .str i, h => by unfold Den at h ⊢; exact h
  | v, .tup ds, h => by
    unfold Den at h ⊢
    obtain ⟨a, xs, r, q, t⟩ := h
    exact ⟨a, xs, r, e.seqT q, Dens.mono e ds t⟩
  | v, .lst ds, h => by
    unfold Den at h ⊢
    obtain ⟨a, xs, r, q, t⟩ := h
    exact ⟨a, xs, r, e.seq q, Dens.mono e ds t⟩
theorem Dens.mono {K : PySem.W.Frag} {C C' : Hp} (e : Same C C') : ∀ {vs : List V} (ds : List D), Dens K C vs ds → Dens K C' vs ds
  | vs, [], h => by unfold Dens at h ⊢; exact h
  | vs, d :: ds, h => by
    unfold Dens at h ⊢
    obtain ⟨x, xs, r, q, t⟩ := h
    exact ⟨x, xs, r, Den.mono e d q, Dens.mono e ds t⟩
end

section
variable {K : PySem.W.Frag} {C : Hp}
theorem den_int {v : V} {i : Int} : Den K C v (.int i) ↔ v = .int i := by unfold Den; exact Iff.rfl
theorem den_bl {v : V} {i : Bool} : Den K C v (.bl i) ↔ v = .bl i := by unfold Den; exact Iff.rfl
theorem den_non {v : V} : Den K C v .non ↔ v = .non := by unfold Den; exact Iff.rfl
theorem den_str {v : V} {i : Str} : Den K C v (.str i) ↔ v = .str i := by unfold Den; exact Iff.rfl
theorem den_tup {v : V} {ds : List D} : Den K C v (.tup ds) ↔ ∃ a xs, v = .ref a ∧ SqT K C a xs ∧ Dens K C xs ds := by rw [Den]
theorem den_lst {v : V} {ds : List D} : Den K C v (.lst ds) ↔ ∃ a xs, v = .ref a ∧ SqL K C a xs ∧ Dens K C xs ds := by rw [Den]
theorem dens_nil {vs : List V} : Dens K C vs [] ↔ vs = [] := by rw [Dens]
theorem dens_cons {vs : List V} {d : D} {ds : List D} : Dens K C vs (d :: ds) ↔ ∃ x xs, vs = x :: xs ∧ Den K C x d ∧ Dens K C xs ds := by rw [Dens]
theorem Dens.cons {v : V} {vs : List V} {d : D} {ds : List D} (h : Den K C v d) (t : Dens K C vs ds) : Dens K C (v :: vs) (d :: ds) := dens_cons.mpr ⟨v, vs, rfl, h, t⟩
theorem Dens.nil : Dens K C [] [] := dens_nil.mpr rfl
theorem Dens.length : ∀ {vs : List V} {ds : List D}, Dens K C vs ds → vs.length = ds.length
  | vs, [], h => by
    rw [dens_nil.mp h]
    rfl
  | vs, d :: ds, h => by
    obtain ⟨x, xs, rfl, _, t⟩ := dens_cons.mp h
    simp [Dens.length t]
theorem Dens.append : ∀ {vs us : List V} {ds es : List D}, Dens K C vs ds → Dens K C us es → Dens K C (vs ++ us) (ds ++ es)
  | vs, us, [], es, h, q => by rw [dens_nil.mp h]; exact q
  | vs, us, d :: ds, es, h, q => by
    obtain ⟨x, xs, rfl, a, t⟩ := dens_cons.mp h
    exact Dens.cons a (Dens.append t q)
theorem Dens.drop : ∀ {vs : List V} {ds : List D} (n : Nat), Dens K C vs ds → Dens K C (vs.drop n) (ds.drop n)
  | vs, ds, 0, h => h
  | vs, [], n + 1, h => by rw [dens_nil.mp h]; exact .nil
  | vs, d :: ds, n + 1, h => by
    obtain ⟨x, xs, rfl, a, t⟩ := dens_cons.mp h
    exact Dens.drop n t
theorem Dens.take : ∀ {vs : List V} {ds : List D} (n : Nat), Dens K C vs ds → Dens K C (vs.take n) (ds.take n)
  | vs, ds, 0, h => by simp; exact .nil
  | vs, [], n + 1, h => by rw [dens_nil.mp h]; exact .nil
  | vs, d :: ds, n + 1, h => by
    obtain ⟨x, xs, rfl, a, t⟩ := dens_cons.mp h
    exact Dens.cons a (Dens.take n t)
theorem Dens.get : ∀ {vs : List V} {ds : List D} {i : Nat} {d : D}, Dens K C vs ds → ds[i]? = some d → ∃ v, vs[i]? = some v ∧ Den K C v d
  | vs, [], i, d, h, e => by cases e
  | vs, c :: ds, 0, d, h, e => by
    obtain ⟨x, xs, rfl, a, t⟩ := dens_cons.mp h
    cases e
    exact ⟨x, rfl, a⟩
  | vs, c :: ds, i + 1, d, h, e => by
    obtain ⟨x, xs, rfl, a, t⟩ := dens_cons.mp h
    exact Dens.get (i := i) t e
theorem Dens.rep {vs : List V} {ds : List D} (h : Dens K C vs ds) : ∀ k : Nat, Dens K C (List.replicate k vs).flatten (List.replicate k ds).flatten
  | 0 => .nil
  | k + 1 => by
    rw [List.replicate_succ, List.flatten_cons, List.replicate_succ, List.flatten_cons]
    exact h.append (Dens.rep h k)
theorem Dens.ints {vs : List V} : ∀ {ns : List Int}, Dens K C vs (ns.map D.int) → vs = ns.map V.int := by
  intro ns
  induction ns generalizing vs with
  | nil => intro h; exact dens_nil.mp h
  | cons n ns ih =>
    intro h
    obtain ⟨x, xs, rfl, a, t⟩ := dens_cons.mp h
    rw [den_int.mp a, ih t]
    rfl
theorem Dens.bools {vs : List V} : ∀ {ns : List Bool}, Dens K C vs (ns.map D.bl) → vs = ns.map V.bl := by
  intro ns
  induction ns generalizing vs with
  | nil => intro h; exact dens_nil.mp h
  | cons n ns ih =>
    intro h
    obtain ⟨x, xs, rfl, a, t⟩ := dens_cons.mp h
    rw [den_bl.mp a, ih t]
    rfl
end

/-- the heap has grown: H as H1, its frozen part C as C1; what is owned stays outside -/
structure Ext (C H C1 H1 : Hp) : Prop where
  hh : Same H H1
  cc : Same C C1
  ch : Same C1 H1
  ow : ∀ b, C b = none → H b ≠ none → C1 b = none
theorem Ext.refl {C H : Hp} (h : Same C H) : Ext C H C H := ⟨Same.refl _, Same.refl _, h, fun _ e _ => e⟩
theorem Ext.trans {C H C1 H1 C2 H2 : Hp} (a : Ext C H C1 H1) (b : Ext C1 H1 C2 H2) : Ext C H C2 H2 :=
  ⟨a.hh.trans b.hh, a.cc.trans b.cc, b.ch, fun c e n => b.ow c (a.ow c e n) fun z => n (a.hh.free z)⟩
theorem Same.upd {H : Hp} {p : Addr} {o : HO} (h : H p = none) : Same H (upd H p o) := fun b u e => by rw [upd_ne (ne_of_none e h)]; exact e
/-- a new object, frozen -/
theorem Ext.new {C H : Hp} {p : Addr} {o : HO} (h : Same C H) (hp : H p = none) : Ext C H (upd C p o) (upd H p o) := by
  refine ⟨Same.upd hp, Same.upd (h.free hp), fun b u e => ?_, fun b e n => ?_⟩
  · by_cases hb : b = p
    · subst hb; rw [upd_same] at e ⊢; exact e
    · rw [upd_ne hb] at e ⊢; exact h b u e
  · rw [upd_ne (fun z => n (by rw [z]; exact hp))]; exact e
/-- a new object, owned -/
theorem Ext.newO {C H : Hp} {p : Addr} {o : HO} (h : Same C H) (hp : H p = none) : Ext C H C (upd H p o) :=
  ⟨Same.upd hp, Same.refl _, h.trans (Same.upd hp), fun b e n => e⟩

/-- a dict of whole numbers, by a number or by a row of numbers -/
inductive DM where
  | k (kvs : List (Int × Int)) | t (kvs : List (List Int × Int))
def hoM : DM → HO
  | .k kvs => .dK (kvs.map fun p => (Sum.inl p.1, .int p.2))
  | .t kvs => .dT (kvs.map fun p => (p.1.map Sum.inl, .int p.2))
theorem hoM_lst {m : DM} {xs : List V} : hoM m ≠ .lst xs := by cases m <;> intro z <;> cases z
/-- od: a dict of one's own; fd: a dict that is only read -/
inductive Sl where
  | un | im (d : D) | ow (ds : List D) | od (m : DM) | fd (m : DM)
abbrev DS := List Sl
structure Dcs (H0 : Hp) (δ : DS) (σ : St) (C H : Hp) : Prop where
  od : ∀ (i : Nat) m, δ[i]? = some (.od m) → ∃ l, σ[i]? = some (some (.ref l)) ∧ C l = none ∧ H0 l = none ∧ H l = some (hoM m)
  fd : ∀ (i : Nat) m, δ[i]? = some (.fd m) → ∃ l o, σ[i]? = some (some (.ref l)) ∧ C l = some (.frz o (hoM m))
  ap : ∀ (i j : Nat) m n l, i ≠ j → δ[i]? = some (.od m) → δ[j]? = some (.od n) → σ[i]? = some (some (.ref l)) → σ[j]? ≠ some (some (.ref l))
def Sl.isD : Sl → Bool
  | .od _ => true
  | .fd _ => true
  | _ => false
theorem getE_set0 {α : Type} {l : List α} {i j : Nat} {x y : α} (h : (l.set i x)[j]? = some y) : (j = i ∧ x = y ∧ i < l.length) ∨ (j ≠ i ∧ l[j]? = some y) := by
  by_cases e : j = i
  · subst e
    have hl : j < l.length := by
      have := (List.getElem?_eq_some_iff.mp h).1
      simpa using this
    rw [List.getElem?_set_self hl] at h
    exact .inl ⟨rfl, Option.some.inj h, hl⟩
  · rw [List.getElem?_set_ne (Ne.symm e)] at h
    exact .inr ⟨e, h⟩
section
variable {H0 C H C1 H1 : Hp} {δ : DS} {σ : St}
theorem Dcs.grow (D : Dcs H0 δ σ C H) (e : Ext C H C1 H1) : Dcs H0 δ σ C1 H1 := by
  refine ⟨fun i m h => ?_, fun i m h => ?_, D.ap⟩
  · obtain ⟨l, a, b, c, d⟩ := D.od i m h
    exact ⟨l, a, e.ow l b (by rw [d]; simp), c, e.hh _ _ d⟩
  · obtain ⟨l, o, a, b⟩ := D.fd i m h
    exact ⟨l, o, a, e.cc _ _ b⟩
theorem Dcs.weak (D : Dcs H0 δ σ C H) {δ' : DS} (h : ∀ (i : Nat) x, δ'[i]? = some x → x.isD = true → δ[i]? = some x) : Dcs H0 δ' σ C H :=
  ⟨fun i m e => D.od i m (h i _ e rfl), fun i m e => D.fd i m (h i _ e rfl), fun i j m n l hij e1 e2 => D.ap i j m n l hij (h i _ e1 rfl) (h j _ e2 rfl)⟩
theorem Dcs.set1 (D : Dcs H0 δ σ C H) {i : Nat} {x : Sl} (hx : x.isD = false) : Dcs H0 (δ.set i x) σ C H := D.weak fun j y e hy => by
  rcases getE_set0 e with ⟨_, z, _⟩ | ⟨_, e⟩
  · rw [← z, hx] at hy; cases hy
  · exact e
theorem Dcs.set2 (D : Dcs H0 δ σ C H) {i : Nat} {x : Sl} {o : Option V} (hx : x.isD = false) : Dcs H0 (δ.set i x) (σ.set i o) C H := by
  have key : ∀ (j : Nat) y, (δ.set i x)[j]? = some y → y.isD = true → j ≠ i ∧ δ[j]? = some y := fun j y e hy => by
    rcases getE_set0 e with ⟨_, z, _⟩ | ⟨hj, e⟩
    · rw [← z, hx] at hy; cases hy
    · exact ⟨hj, e⟩
  refine ⟨fun j m e => ?_, fun j m e => ?_, fun j k m n l hjk e1 e2 e3 => ?_⟩
  · obtain ⟨hj, e⟩ := key j _ e rfl
    rw [List.getElem?_set_ne (Ne.symm hj)]
    exact D.od j m e
  · obtain ⟨hj, e⟩ := key j _ e rfl
    rw [List.getElem?_set_ne (Ne.symm hj)]
    exact D.fd j m e
  · obtain ⟨hj, e1⟩ := key j _ e1 rfl
    obtain ⟨hk, e2⟩ := key k _ e2 rfl
    rw [List.getElem?_set_ne (Ne.symm hj)] at e3
    rw [List.getElem?_set_ne (Ne.symm hk)]
    exact D.ap j k m n l hjk e1 e2 e3
theorem Dcs.frzL (D : Dcs H0 δ σ C H) {l : Addr} {xs : List V} (hc : C l = none) (hl : H l = some (.lst xs)) : Dcs H0 δ σ (upd C l (.lst xs)) H := by
  refine ⟨fun i m e => ?_, fun i m e => ?_, D.ap⟩
  · obtain ⟨k, a, b, c, d⟩ := D.od i m e
    exact ⟨k, a, by rw [upd_ne (ne_of d hl hoM_lst)]; exact b, c, d⟩
  · obtain ⟨k, o, a, b⟩ := D.fd i m e
    exact ⟨k, o, a, Same.upd hc _ _ b⟩
theorem Dcs.updL (D : Dcs H0 δ σ C H) {l : Addr} {xs ys : List V} (hl : H l = some (.lst xs)) : Dcs H0 δ σ C (upd H l (.lst ys)) := by
  refine ⟨fun i m e => ?_, D.fd, D.ap⟩
  obtain ⟨k, a, b, c, d⟩ := D.od i m e
  exact ⟨k, a, b, c, by rw [upd_ne (ne_of d hl hoM_lst)]; exact d⟩
theorem Dcs.none (h : ∀ (i : Nat) x, δ[i]? = some x → x.isD = false) : Dcs H0 δ σ C H := by
  refine ⟨fun i m e => ?_, fun i m e => ?_, fun i j m n l _ e => ?_⟩
  · have := h i _ e
    cases this
  · have := h i _ e
    cases this
  · have := h i _ e
    cases this
end

structure Rep (K : PySem.W.Frag) (C0 H0 : Hp) (δ : DS) (σ : St) (C H : Hp) : Prop where
  len : σ.length = δ.length
  ext : Ext C0 H0 C H
  im : ∀ (i : Nat) d, δ[i]? = some (.im d) → ∃ v, σ[i]? = some (some v) ∧ Den K C v d
  ow : ∀ (i : Nat) ds, δ[i]? = some (.ow ds) → ∃ l xs, σ[i]? = some (some (.ref l)) ∧ C l = none ∧ H0 l = none ∧ H l = some (.lst xs) ∧ Dens K C xs ds
  ap : ∀ (i j : Nat) ds es l, i ≠ j → δ[i]? = some (.ow ds) → δ[j]? = some (.ow es) → σ[i]? = some (some (.ref l)) → σ[j]? ≠ some (some (.ref l))
  dc : Dcs H0 δ σ C H

section
variable {K : PySem.W.Frag} {C0 H0 C H C1 H1 : Hp} {δ : DS} {σ : St}
theorem Rep.grow (R : Rep K C0 H0 δ σ C H) (e : Ext C H C1 H1) : Rep K C0 H0 δ σ C1 H1 := by
  refine ⟨R.len, R.ext.trans e, fun i d h => ?_, fun i ds h => ?_, R.ap, R.dc.grow e⟩
  · obtain ⟨v, a, b⟩ := R.im i d h
    exact ⟨v, a, b.mono e.cc⟩
  · obtain ⟨l, xs, a, b, c, d, f⟩ := R.ow i ds h
    exact ⟨l, xs, a, e.ow l b (by rw [d]; simp), c, e.hh _ _ d, f.mono e.cc⟩
theorem Rep.ch (R : Rep K C0 H0 δ σ C H) : Same C H := R.ext.ch

theorem getE_set {α : Type} {l : List α} {i j : Nat} {x y : α} (h : (l.set i x)[j]? = some y) : (j = i ∧ x = y ∧ i < l.length) ∨ (j ≠ i ∧ l[j]? = some y) := by
  by_cases e : j = i
  · subst e
    have hl : j < l.length := by
      have := (List.getElem?_eq_some_iff.mp h).1
      simpa using this
    rw [List.getElem?_set_self hl] at h
    exact .inl ⟨rfl, Option.some.inj h, hl⟩
  · rw [List.getElem?_set_ne (Ne.symm e)] at h
    exact .inr ⟨e, h⟩

/-- a name gets a frozen value -/
theorem Rep.setI (R : Rep K C0 H0 δ σ C H) {i : Nat} {v : V} {d : D} (h : Den K C v d) : Rep K C0 H0 (δ.set i (.im d)) (σ.set i (some v)) C H := by
  refine ⟨by simp [R.len], R.ext, fun j e h' => ?_, fun j ds h' => ?_, fun j k ds es l hjk h1 h2 h3 => ?_, R.dc.set2 rfl⟩
  · rcases getE_set h' with ⟨rfl, e1, hl⟩ | ⟨hj, h'⟩
    · cases e1
      exact ⟨v, by rw [List.getElem?_set_self (by rw [R.len]; exact hl)], h⟩
    · obtain ⟨u, a, b⟩ := R.im j e h'
      exact ⟨u, by rw [List.getElem?_set_ne (Ne.symm hj)]; exact a, b⟩
  · rcases getE_set h' with ⟨_, e1, _⟩ | ⟨hj, h'⟩
    · cases e1
    · obtain ⟨l, xs, a, b⟩ := R.ow j ds h'
      exact ⟨l, xs, by rw [List.getElem?_set_ne (Ne.symm hj)]; exact a, b⟩
  · rcases getE_set h1 with ⟨_, e1, _⟩ | ⟨hj, h1⟩
    · cases e1
    · rcases getE_set h2 with ⟨_, e1, _⟩ | ⟨hk, h2⟩
      · cases e1
      · rw [List.getElem?_set_ne (Ne.symm hj)] at h3
        rw [List.getElem?_set_ne (Ne.symm hk)]
        exact R.ap j k ds es l hjk h1 h2 h3
/-- a name gets a new list of its own -/
theorem Rep.setO (R : Rep K C0 H0 δ σ C H) {i : Nat} {l : Addr} {xs : List V} {ds : List D} (h0 : H0 l = none) (hc : C l = none) (hn : ∀ (j : Nat) es, j ≠ i → δ[j]? = some (.ow es) → σ[j]? ≠ some (some (.ref l))) (hl : H l = some (.lst xs)) (h : Dens K C xs ds) :
    Rep K C0 H0 (δ.set i (.ow ds)) (σ.set i (some (.ref l))) C H := by
  refine ⟨by simp [R.len], R.ext, fun j e h' => ?_, fun j es h' => ?_, fun j k es fs m hjk h1 h2 h3 => ?_, R.dc.set2 rfl⟩
  · rcases getE_set h' with ⟨_, e1, _⟩ | ⟨hj, h'⟩
    · cases e1
    · obtain ⟨u, a, b⟩ := R.im j e h'
      exact ⟨u, by rw [List.getElem?_set_ne (Ne.symm hj)]; exact a, b⟩
  · rcases getE_set h' with ⟨rfl, e1, hl'⟩ | ⟨hj, h'⟩
    · cases e1
      exact ⟨l, xs, by rw [List.getElem?_set_self (by rw [R.len]; exact hl')], hc, h0, hl, h⟩
    · obtain ⟨m, ys, a, b⟩ := R.ow j es h'
      exact ⟨m, ys, by rw [List.getElem?_set_ne (Ne.symm hj)]; exact a, b⟩
  · rcases getE_set h1 with ⟨rfl, e1, hl1⟩ | ⟨hj, g1⟩
    · cases e1
      rw [List.getElem?_set_self (by rw [R.len]; exact hl1)] at h3
      cases h3
      rcases getE_set h2 with ⟨z, _⟩ | ⟨hk, h2⟩
      · exact absurd z.symm hjk
      · rw [List.getElem?_set_ne (Ne.symm hk)]
        exact hn k fs hk h2
    · rw [List.getElem?_set_ne (Ne.symm hj)] at h3
      rcases getE_set h2 with ⟨rfl, e1, hl1⟩ | ⟨hk, h2⟩
      · rw [List.getElem?_set_self (by rw [R.len]; exact hl1)]
        intro z
        cases z
        exact hn j es hj g1 h3
      · rw [List.getElem?_set_ne (Ne.symm hk)]
        exact R.ap j k es fs m hjk g1 h2 h3
theorem Rep.freeze' (R : Rep K C0 H0 δ σ C H) {i : Nat} {ds : List D} (h : δ[i]? = some (.ow ds)) : ∃ C1, Rep K C0 H0 (δ.set i (.im (.lst ds))) σ C1 H := by
  obtain ⟨l, xs, a, b, c, d, f⟩ := R.ow i ds h
  have hl : i < δ.length := (List.getElem?_eq_some_iff.mp h).1
  have up : Same C (upd C l (.lst xs)) := Same.upd b
  have ch : Same (upd C l (.lst xs)) H := fun z u e => by
    by_cases hz : z = l
    · subst hz; rw [upd_same] at e; cases e; exact d
    · rw [upd_ne hz] at e; exact R.ch z u e
  refine ⟨upd C l (.lst xs), by simp [R.len], ⟨R.ext.hh, R.ext.cc.trans up, ch, fun z e n => ?_⟩, fun j e h' => ?_, fun j es h' => ?_, fun j k es fs m hjk h1 h2 h3 => ?_, (R.dc.frzL b d).set1 rfl⟩
  · rw [upd_ne (fun q => n (by rw [q]; exact c))]
    exact R.ext.ow z e n
  · rcases getE_set h' with ⟨rfl, e1, hl'⟩ | ⟨hj, h'⟩
    · cases e1
      exact ⟨.ref l, a, den_lst.mpr ⟨l, xs, rfl, SqL.of upd_same, f.mono up⟩⟩
    · obtain ⟨u, a', b'⟩ := R.im j e h'
      exact ⟨u, a', b'.mono up⟩
  · rcases getE_set h' with ⟨_, e1, _⟩ | ⟨hj, h'⟩
    · cases e1
    · obtain ⟨m, ys, a', b', c', d', f'⟩ := R.ow j es h'
      refine ⟨m, ys, a', ?_, c', d', f'.mono up⟩
      rw [upd_ne]
      · exact b'
      · intro z
        subst z
        exact R.ap i j ds es m (Ne.symm hj) h h' a a'
  · rcases getE_set h1 with ⟨_, e1, _⟩ | ⟨hj, h1⟩
    · cases e1
    · rcases getE_set h2 with ⟨_, e1, _⟩ | ⟨hk, h2⟩
      · cases e1
      · exact R.ap j k es fs m hjk h1 h2 h3
/-- a list of one's own is changed -/
theorem Rep.change (R : Rep K C0 H0 δ σ C H) {i : Nat} {ds es : List D} {l : Addr} {ys : List V} (h : δ[i]? = some (.ow ds)) (hs : σ[i]? = some (some (.ref l))) (hd : Dens K C ys es) :
    Rep K C0 H0 (δ.set i (.ow es)) σ C (upd H l (.lst ys)) := by
  obtain ⟨l', xs, a, b, c, d, f⟩ := R.ow i ds h
  rw [hs] at a
  cases a
  have hl : i < δ.length := (List.getElem?_eq_some_iff.mp h).1
  have ne : ∀ z u, C z = some u → z ≠ l := fun z u e q => by rw [q, b] at e; cases e
  refine ⟨by simp [R.len], ⟨fun z u e => ?_, R.ext.cc, fun z u e => ?_, R.ext.ow⟩, fun j e h' => ?_, fun j fs h' => ?_, fun j k fs gs m hjk h1 h2 h3 => ?_, (R.dc.updL d).set1 rfl⟩
  · rw [upd_ne (ne_of_none e c)]; exact R.ext.hh z u e
  · rw [upd_ne (ne z u e)]; exact R.ch z u e
  · rcases getE_set h' with ⟨_, e1, _⟩ | ⟨hj, h'⟩
    · cases e1
    · exact R.im j e h'
  · rcases getE_set h' with ⟨rfl, e1, hl'⟩ | ⟨hj, h'⟩
    · cases e1
      exact ⟨l, ys, hs, b, c, upd_same, hd⟩
    · obtain ⟨m, zs, a', b', c', d', f'⟩ := R.ow j fs h'
      refine ⟨m, zs, a', b', c', ?_, f'⟩
      rw [upd_ne]
      · exact d'
      · intro z
        subst z
        exact R.ap i j ds fs m (Ne.symm hj) h h' hs a'
  · have g1 : ∃ fs', δ[j]? = some (.ow fs') := by
      rcases getE_set h1 with ⟨rfl, _, _⟩ | ⟨_, h1⟩
      · exact ⟨_, h⟩
      · exact ⟨_, h1⟩
    have g2 : ∃ fs', δ[k]? = some (.ow fs') := by
      rcases getE_set h2 with ⟨rfl, _, _⟩ | ⟨_, h2⟩
      · exact ⟨_, h⟩
      · exact ⟨_, h2⟩
    obtain ⟨_, g1⟩ := g1
    obtain ⟨_, g2⟩ := g2
    exact R.ap j k _ _ m hjk g1 g2 h3
end
end L2
namespace L2
open PySem PySem.Spec PyProof.Rows

/-! ### a op1 b op2 c op3 d -/
section
variable {X : Cx} {a b c e : Expr} {ta tb tc td : TE} {pos : Pos}
end

/-! ### judgements over data -/
abbrev GE := DS → (D → Prop) → Prop
abbrev GF := DS → (List D → Prop) → Prop
abbrev GT := DS → (Bool → Prop) → Prop
def DE (X : Cx) (e : Expr) (g : GE) : Prop := ∃ t, PE X e t ∧ ∀ C0 H0 δ σ C H (Q : D → Prop) (R : VK), Rep X.K C0 H0 δ σ C H → g δ Q → (∀ d v C1 H1, Q d → Ext C H C1 H1 → Den X.K C1 v d → R v H1) → t σ H R
/-- a list that is new -/
def DF (X : Cx) (e : Expr) (g : GF) : Prop := ∃ t, PE X e t ∧ ∀ C0 H0 δ σ C H (Q : List D → Prop) (R : VK), Rep X.K C0 H0 δ σ C H → g δ Q →
  (∀ ds p xs C1 H1, Q ds → Ext C H C1 H1 → C1 p = none → H p = none → H1 p = some (.lst xs) → Dens X.K C1 xs ds → R (.ref p) H1) → t σ H R
def DT (X : Cx) (e : Expr) (g : GT) : Prop := ∃ t, PT X e t ∧ ∀ C0 H0 δ σ C H (Q : Bool → Prop) (R : Bool → Hp → Prop), Rep X.K C0 H0 δ σ C H → g δ Q → (∀ b C1 H1, Q b → Ext C H C1 H1 → R b H1) → t σ H R
def DW (X : Cx) (e : Expr) (g : GT) : Prop := ∃ t, PW X e t ∧ ∀ C0 H0 δ σ C H (Q : Bool → Prop) (R : Bool → Hp → Prop), Rep X.K C0 H0 δ σ C H → g δ Q → (∀ b C1 H1, Q b → Ext C H C1 H1 → R b H1) → t σ H R
def DA (X : Cx) (es : List Expr) (g : GF) : Prop := ∃ t, PA X es t ∧ ∀ C0 H0 δ σ C H (Q : List D → Prop) (R : List V → Hp → Prop), Rep X.K C0 H0 δ σ C H → g δ Q → (∀ ds vs C1 H1, Q ds → Ext C H C1 H1 → Dens X.K C1 vs ds → R vs H1) → t σ H R
/-- a two-place operation; a call of a builtin -/
abbrev GO := D → D → (D → Prop) → Prop
def DOp (X : Cx) (f : Value → Value → Sem Value) (g : GO) : Prop := ∃ r, OpR X f r ∧ ∀ x y dx dy C H (Q : D → Prop) (R : VK), Same C H → Den X.K C x dx → Den X.K C y dy → g dx dy Q → (∀ d v C1 H1, Q d → Ext C H C1 H1 → Den X.K C1 v d → R v H1) → r x y H R
def DCall (X : Cx) (f : Value) (g : List D → (D → Prop) → Prop) : Prop := ∃ r, CallR X f r ∧ ∀ xs ds C H (Q : D → Prop) (R : VK), Same C H → Dens X.K C xs ds → g ds Q → (∀ d v C1 H1, Q d → Ext C H C1 H1 → Den X.K C1 v d → R v H1) → r xs H R
/-- a call that makes a new list -/
def DCallF (X : Cx) (f : Value) (g : List D → (List D → Prop) → Prop) : Prop := ∃ r, CallR X f r ∧ ∀ xs ds C H (Q : List D → Prop) (R : VK), Same C H → Dens X.K C xs ds → g ds Q →
  (∀ es p ys C1 H1, Q es → Ext C H C1 H1 → C1 p = none → H p = none → H1 p = some (.lst ys) → Dens X.K C1 ys es → R (.ref p) H1) → r xs H R

theorem ext_frz {C H C1 H1 : Hp} {p : Addr} {o : HO} (e : Ext C H C1 H1) (hc : C1 p = none) (hn : H p = none) (h1 : H1 p = some o) : Ext C H (upd C1 p o) H1 := by
  refine ⟨e.hh, e.cc.trans (Same.upd hc), fun b u q => ?_, fun b q n => ?_⟩
  · by_cases hb : b = p
    · subst hb; rw [upd_same] at q; cases q; exact h1
    · rw [upd_ne hb] at q; exact e.ch b u q
  · rw [upd_ne (fun z => n (by rw [z]; exact hn))]; exact e.ow b q n

section
variable {X : Cx} {a b c e : Expr} {es : List Expr} {pos : Pos} {ga gb gc gd : GE} {gf : GF} {ta tb : GT}

abbrev gF (g : GF) : GE := fun δ Q => g δ fun ds => Q (.lst ds)
theorem DF.toE (h : DF X e gf) : DE X e (gF gf) := by
  obtain ⟨t, p, h⟩ := h
  refine ⟨t, p, fun C0 H0 δ σ C H Q R rp g k => h C0 H0 δ σ C H _ R rp g fun ds p xs C1 H1 q ex hc hn hl hd => ?_⟩
  exact k (.lst ds) _ (upd C1 p (.lst xs)) H1 q (ext_frz ex hc hn hl) (den_lst.mpr ⟨p, xs, rfl, SqL.of upd_same, hd.mono (Same.upd hc)⟩)

/-! ### names, constants -/
def gVar (i : Nat) : GE := fun δ Q => match δ[i]? with
  | some (.im d) => Q d
  | _ => False
theorem de_var {i : Nat} {x : Str} (h : PE X (.Name x pos) (tVar i)) : DE X (.Name x pos) (gVar i) := by
  refine ⟨_, h, fun C0 H0 δ σ C H Q R rp g k => ?_⟩
  unfold gVar at g
  split at g
  · rename_i d e
    obtain ⟨v, a1, a2⟩ := rp.im i d e
    exact ⟨v, a1, k d v C H g (Ext.refl rp.ch) a2⟩
  · exact g.elim
abbrev gC (d : D) : GE := fun _ Q => Q d
theorem de_int {i j} : DE X (.Constant (.int i) j pos) (gC (.int i)) := ⟨_, pe_int, fun C0 H0 δ σ C H Q R rp g k => k _ _ C H g (Ext.refl rp.ch) (den_int.mpr rfl)⟩
theorem de_bl {i j} : DE X (.Constant (.bool i) j pos) (gC (.bl i)) := ⟨_, pe_bl, fun C0 H0 δ σ C H Q R rp g k => k _ _ C H g (Ext.refl rp.ch) (den_bl.mpr rfl)⟩

/-! ### operations -/
def gOp (o : GO) (ga gb : GE) : GE := fun δ Q => ga δ fun x => gb δ fun y => o x y Q
theorem de_op {op : Operator} {o : GO} (ho : DOp X (binaryOp op) o) (ha : DE X a ga) (hb : DE X b gb) : DE X (.BinOp a op b pos) (gOp o ga gb) := by
  obtain ⟨r, pr, hr⟩ := ho
  obtain ⟨t1, p1, h1⟩ := ha
  obtain ⟨t2, p2, h2⟩ := hb
  refine ⟨_, pe_op pr p1 p2, fun C0 H0 δ σ C H Q R rp g k => ?_⟩
  refine h1 C0 H0 δ σ C H _ _ rp g fun d v C1 H1 q e1 n1 => h2 C0 H0 δ σ C1 H1 _ _ (rp.grow e1) q fun d2 v2 C2 H2 q2 e2 n2 => ?_
  exact hr v v2 d d2 C2 H2 Q R e2.ch (n1.mono e2.cc) n2 q2 fun d3 v3 C3 H3 q3 e3 n3 => k d3 v3 C3 H3 q3 (e1.trans (e2.trans e3)) n3
theorem de_cmp {op : CmpOp} {o : GO} (ho : DOp X (compareOp op) o) (ha : DE X a ga) (hb : DE X b gb) (hm : behindInMarks op b = false := by first | exact nomark _ | with_unfolding_all rfl) : DE X (.Compare a [op] [b] pos) (gOp o ga gb) := by
  obtain ⟨r, pr, hr⟩ := ho
  obtain ⟨t1, p1, h1⟩ := ha
  obtain ⟨t2, p2, h2⟩ := hb
  refine ⟨_, pe_cmpR pr p1 p2 hm, fun C0 H0 δ σ C H Q R rp g k => ?_⟩
  refine h1 C0 H0 δ σ C H _ _ rp g fun d v C1 H1 q e1 n1 => h2 C0 H0 δ σ C1 H1 _ _ (rp.grow e1) q fun d2 v2 C2 H2 q2 e2 n2 => ?_
  exact hr v v2 d d2 C2 H2 Q R e2.ch (n1.mono e2.cc) n2 q2 fun d3 v3 C3 H3 q3 e3 n3 => k d3 v3 C3 H3 q3 (e1.trans (e2.trans e3)) n3
def isBl (Q : Bool → Prop) : D → Prop
  | .bl b => Q b
  | _ => False
theorem isBl_of {Q : Bool → Prop} {d : D} {K : PySem.W.Frag} {C : Hp} {v : V} (h : isBl Q d) (n : Den K C v d) : ∃ b, v = .bl b ∧ Q b := by
  cases d with
  | bl b => exact ⟨b, den_bl.mp n, h⟩
  | _ => exact h.elim
def gTest (ga : GE) : GT := fun δ Q => ga δ (isBl Q)
theorem dt_cmp {op : CmpOp} {o : GO} (ho : DOp X (compareOp op) o) (ha : DE X a ga) (hb : DE X b gb) (hm : behindInMarks op b = false := by first | exact nomark _ | with_unfolding_all rfl) : DT X (.Compare a [op] [b] pos) (gTest (gOp o ga gb)) := by
  obtain ⟨r, pr, hr⟩ := ho
  obtain ⟨t1, p1, h1⟩ := ha
  obtain ⟨t2, p2, h2⟩ := hb
  refine ⟨_, pt_cmpR pr p1 p2 hm, fun C0 H0 δ σ C H Q R rp g k => ?_⟩
  refine h1 C0 H0 δ σ C H _ _ rp g fun d v C1 H1 q e1 n1 => h2 C0 H0 δ σ C1 H1 _ _ (rp.grow e1) q fun d2 v2 C2 H2 q2 e2 n2 => ?_
  refine hr v v2 d d2 C2 H2 _ _ e2.ch (n1.mono e2.cc) n2 q2 fun d3 v3 C3 H3 q3 e3 n3 => ?_
  obtain ⟨c, rfl, qc⟩ := isBl_of q3 n3
  exact ⟨c, rfl, k c C3 H3 qc (e1.trans (e2.trans e3))⟩
def gChain (o o' : GO) (ga gb gc : GE) : GE := fun δ Q => ga δ fun x => gb δ fun y => o x y (isBl fun k => if k = true then gc δ fun z => o' y z Q else Q (.bl false))
def gChain3 (o o' o'' : GO) (ga gb gc gd : GE) : GE := fun δ Q => ga δ fun x => gb δ fun y => o x y (isBl fun k => if k = true then gc δ (fun z => o' y z (isBl fun k2 => if k2 = true then gd δ fun w => o'' z w Q else Q (.bl false))) else Q (.bl false))

/-! ### and, or, not -/
def gAndV (ga gb : GE) : GE := fun δ Q => ga δ (isBl fun c => if c = true then gb δ Q else Q (.bl false))
def gOrV (ga gb : GE) : GE := fun δ Q => ga δ (isBl fun c => if c = true then Q (.bl true) else gb δ Q)
def gNotV (ga : GE) : GE := fun δ Q => ga δ (isBl fun c => Q (.bl (!c)))
theorem de_one {op} (h : DE X a ga) : DE X (.BoolOp op [a] pos) ga := by
  obtain ⟨t, p, h⟩ := h
  exact ⟨t, pe_one p, h⟩
theorem de_and {rest : List Expr} (ha : DE X a ga) (hb : DE X (.BoolOp .And (b :: rest) pos) gb) : DE X (.BoolOp .And (a :: b :: rest) pos) (gAndV ga gb) := by
  obtain ⟨t1, p1, h1⟩ := ha
  obtain ⟨t2, p2, h2⟩ := hb
  refine ⟨_, pe_and p1 p2, fun C0 H0 δ σ C H Q R rp g k => h1 C0 H0 δ σ C H _ _ rp g fun d v C1 H1 q e1 n1 => ?_⟩
  obtain ⟨c, rfl, qc⟩ := isBl_of q n1
  refine ⟨c, rfl, ?_⟩
  cases c with
  | false => exact iteF (k (.bl false) _ C1 H1 (by simpa using qc) e1 (den_bl.mpr rfl))
  | true => exact iteT (h2 C0 H0 δ σ C1 H1 _ _ (rp.grow e1) (by simpa using qc) fun d2 v2 C2 H2 q2 e2 n2 => k d2 v2 C2 H2 q2 (e1.trans e2) n2)
def gAnd (ga gb : GT) : GT := fun δ Q => ga δ fun c => if c = true then gb δ Q else Q false
def gOr (ga gb : GT) : GT := fun δ Q => ga δ fun c => if c = true then Q true else gb δ Q
def gNot (ga : GT) : GT := fun δ Q => ga δ fun c => Q (!c)
theorem DW.t (h : DW X e ta) : DT X e ta := by
  obtain ⟨t, p, h⟩ := h
  exact ⟨t, p.pt, h⟩
theorem dw_or1 (h : DT X a ta) : DW X (.BoolOp .Or [a] pos) ta := by
  obtain ⟨t, p, h⟩ := h
  exact ⟨t, pw_or1 p, h⟩
theorem dw_or {rest : List Expr} (ha : DT X a ta) (hb : DW X (.BoolOp .Or (b :: rest) pos) tb) : DW X (.BoolOp .Or (a :: b :: rest) pos) (gOr ta tb) := by
  obtain ⟨t1, p1, h1⟩ := ha
  obtain ⟨t2, p2, h2⟩ := hb
  refine ⟨_, pw_or p1 p2, fun C0 H0 δ σ C H Q R rp g k => h1 C0 H0 δ σ C H _ _ rp g fun c C1 H1 q e1 => ?_⟩
  cases c with
  | true => exact iteT (k true C1 H1 (by simpa using q) e1)
  | false => exact iteF (h2 C0 H0 δ σ C1 H1 _ _ (rp.grow e1) (by simpa using q) fun c2 C2 H2 q2 e2 => k c2 C2 H2 q2 (e1.trans e2))
theorem dt_not (ha : DT X a ta) : DT X (.UnaryOp .Not a pos) (gNot ta) := by
  obtain ⟨t1, p1, h1⟩ := ha
  exact ⟨_, pt_not p1, fun C0 H0 δ σ C H Q R rp g k => h1 C0 H0 δ σ C H _ _ rp g fun c C1 H1 q e1 => k (!c) C1 H1 q e1⟩
/-- the truth of a value -/
def gTru (ga : GE) : GT := fun δ Q => ga δ fun d => match d with
  | .bl b => Q b
  | .int i => Q (i != 0)
  | .non => Q false
  | .str x => x.length ≤ sizeLine ∧ Q ((x.length : Int) != 0)
  | .tup ds => Q (!ds.isEmpty)
  | .lst ds => Q (!ds.isEmpty)
theorem dens_empty {K : PySem.W.Frag} {C : Hp} {xs : List V} {ds : List D} (h : Dens K C xs ds) : xs.isEmpty = ds.isEmpty := by
  have := h.length
  cases xs <;> cases ds <;> simp_all
theorem dt_tru (ha : DE X a ga) (he : ∀ whole, isTrue a X.env whole = (do
    let v ← whole
    standAt a.pos
    holding [v] (truthy v))) : DT X a (gTru ga) := by
  obtain ⟨t1, p1, h1⟩ := ha
  refine ⟨_, pt_truth p1 he, fun C0 H0 δ σ C H Q R rp g k => h1 C0 H0 δ σ C H _ _ rp g fun d v C1 H1 q e1 n1 => ?_⟩
  cases d with
  | bl b => rw [den_bl.mp n1]; exact ⟨b, rfl, k _ C1 H1 q e1⟩
  | int i => rw [den_int.mp n1]; exact ⟨_, rfl, k _ C1 H1 q e1⟩
  | non => rw [den_non.mp n1]; exact ⟨_, rfl, k _ C1 H1 q e1⟩
  | str i => rw [den_str.mp n1]; exact ⟨_, ⟨q.1, rfl⟩, k _ C1 H1 q.2 e1⟩
  | tup ds =>
    obtain ⟨p, xs, rfl, hx, hd⟩ := den_tup.mp n1
    refine ⟨_, .inr (.inl ⟨xs, e1.ch.seqT hx, rfl⟩), k _ C1 H1 ?_ e1⟩
    rw [dens_empty hd]; exact q
  | lst ds =>
    obtain ⟨p, xs, rfl, hx, hd⟩ := den_lst.mp n1
    refine ⟨_, .inl ⟨xs, e1.ch.seq hx, rfl⟩, k _ C1 H1 ?_ e1⟩
    rw [dens_empty hd]; exact q
def gIfE (t : GT) (ga gb : GE) : GE := fun δ Q => t δ fun c => if c = true then ga δ Q else gb δ Q

/-! ### argument lists, displays, calls -/
abbrev gNilA : GF := fun _ Q => Q []
def gConsA (ga : GE) (gr : GF) : GF := fun δ Q => ga δ fun d => gr δ fun ds => Q (d :: ds)
theorem da_nil : DA X [] gNilA := ⟨_, pa_nil, fun C0 H0 δ σ C H Q R rp g k => k [] [] C H g (Ext.refl rp.ch) .nil⟩
theorem da_cons (ha : DE X e ga) (hr : DA X es gf) (hs : starEach (e :: es) X.env = (false, eval e X.env) :: starEach es X.env := by rfl) : DA X (e :: es) (gConsA ga gf) := by
  obtain ⟨t1, p1, h1⟩ := ha
  obtain ⟨t2, p2, h2⟩ := hr
  refine ⟨_, pa_cons p1 p2 hs, fun C0 H0 δ σ C H Q R rp g k => h1 C0 H0 δ σ C H _ _ rp g fun d v C1 H1 q e1 n1 => ?_⟩
  exact h2 C0 H0 δ σ C1 H1 _ _ (rp.grow e1) q fun ds vs C2 H2 q2 e2 n2 => k (d :: ds) (v :: vs) C2 H2 q2 (e1.trans e2) (.cons (n1.mono e2.cc) n2)
def gTupE (gf : GF) : GE := fun δ Q => gf δ fun ds => ds.length ≤ sizeLine ∧ Q (.tup ds)
theorem de_tup {x1} (h : DA X es gf) : DE X (.Tuple es x1 pos) (gTupE gf) := by
  obtain ⟨t, p, h⟩ := h
  refine ⟨_, pe_tup p, fun C0 H0 δ σ C H Q R rp g k => h C0 H0 δ σ C H _ _ rp g fun ds vs C1 H1 q e1 n1 => ⟨by rw [n1.length]; exact q.1, fun p hp => ?_⟩⟩
  exact k (.tup ds) _ (upd C1 p (.tup vs)) _ q.2 (e1.trans (Ext.new e1.ch hp)) (den_tup.mpr ⟨p, vs, rfl, SqT.of upd_same, n1.mono (Same.upd (e1.ch.free hp))⟩)
def gLst (gf : GF) : GF := fun δ Q => gf δ fun ds => ds.length ≤ sizeLine ∧ Q ds
theorem df_lst (h : DA X es gf) : DF X (.List es pos) (gLst gf) := by
  obtain ⟨t, p, h⟩ := h
  refine ⟨_, pe_lst p, fun C0 H0 δ σ C H Q R rp g k => h C0 H0 δ σ C H _ _ rp g fun ds vs C1 H1 q e1 n1 => ⟨by rw [n1.length]; exact q.1, fun p hp => ?_⟩⟩
  exact k ds p vs C1 _ q.2 (e1.trans (Ext.newO e1.ch hp)) (e1.ch.free hp) (e1.hh.free hp) upd_same n1
def gCallB (g : List D → (D → Prop) → Prop) (gf : GF) : GE := fun δ Q => gf δ fun ds => g ds Q
def gCallF (g : List D → (List D → Prop) → Prop) (gf : GF) : GF := fun δ Q => gf δ fun ds => g ds Q
theorem df_call {x : Str} {f : Value} {g : List D → (List D → Prop) → Prop} {pos' : Pos} (hc : DCallF X f g) (ha : DA X (e :: es) gf)
    (hp : ∀ {t : TA} {r : List V → Hp → VK → Prop}, CallR X f r → PA X (e :: es) t → PE X (.Call (.Name x pos') (e :: es) [] pos) (tCB r t)) : DF X (.Call (.Name x pos') (e :: es) [] pos) (gCallF g gf) := by
  obtain ⟨r, pr, hr⟩ := hc
  obtain ⟨t, p, h⟩ := ha
  refine ⟨_, hp pr p, fun C0 H0 δ σ C H Q R rp g k => h C0 H0 δ σ C H _ _ rp g fun ds vs C1 H1 q e1 n1 => ?_⟩
  exact hr vs ds C1 H1 Q R e1.ch n1 q fun es' p ys C2 H2 q2 e2 h1 h2 h3 h4 => k es' p ys C2 H2 q2 (e1.trans e2) h1 (e1.hh.free h2) h3 h4
end
end L2
namespace L2
open PySem PySem.Spec PyProof.Rows

/-! ### a def of the text, by a function over data -/
def gOpt (o : Option D) (Q : D → Prop) : Prop := match o with
  | some d => Q d
  | none => False
theorem gOpt_some {d : D} {Q : D → Prop} : gOpt (some d) Q = Q d := rfl
def spD (K : PySem.W.Frag) (F : List D → Option D) : Sp := fun vs H Q _ => ∃ C ds d, Same C H ∧ Dens K C vs ds ∧ F ds = some d ∧ ∀ v C' H', Ext C H C' H' → Den K C' v d → Q v H'
def DFn (P : Program) (w : World) (K : PySem.W.Frag) (mg : Str → Option Value) (base : Heap) (k : Nat) (x : Str) (F : List D → Option D) : Prop :=
  ∃ f fd ps, FnOk P w K mg base CX0 k f fd ps (spD K F) ∧ mg x = some (.ref f) ∧ PySem.W.keepIn K (.ref f) = true ∧ Binds K fd ps []
section
variable {X : Cx} {a b c e : Expr} {es : List Expr} {pos : Pos} {ga gb gc gd : GE} {gf : GF} {ta tb : GT}
def gCallD (F : List D → Option D) (gf : GF) : GE := fun δ Q => gf δ fun ds => gOpt (F ds) Q
theorem de_call {F : List D → Option D} {k : Nat} {x : Str} {p : Pos} (h : DFn X.prog X.w X.K X.mg X.base k x F) (hr : Room k X.A) (hg : Gl X x) (ha : DA X (e :: es) gf) (hdb : (x == ("__debug__" : Str)) = false := by decide)
    (he : starEach (e :: es) X.env = (false, eval e X.env) :: starEach es X.env := by rfl) (hpl : (backTo pos (starEach es X.env)).any (·.1) = false := by rfl) : DE X (.Call (.Name x p) (e :: es) [] pos) (gCallD F gf) := by
  obtain ⟨f, fd, ps, Fk, hm, hk, hb⟩ := h
  obtain ⟨t, pa, h⟩ := ha
  refine ⟨_, pe_call Fk hr hg hm hk hb .nil pass0 pa hdb he hpl, fun C0 H0 δ σ C H Q R rp g k => h C0 H0 δ σ C H _ _ rp g fun ds vs C1 H1 q e1 n1 => ?_⟩
  cases e2 : F ds with
  | none => rw [e2] at q; exact q.elim
  | some d =>
    rw [e2] at q
    exact ⟨C1, ds, d, e1.ch, by rw [List.append_nil]; exact n1, e2, fun v C' H' ex nv => k d v C' H' q (e1.trans ex) nv⟩

/-! ### subscripts, slices -/
def gIx : GO := fun x y Q => match x, y with
  | .tup ds, .int i => gOpt (atI ds i) Q
  | .lst ds, .int i => gOpt (atI ds i) Q
  | _, _ => False
theorem dens_at {K : PySem.W.Frag} {C : Hp} {xs : List V} {ds : List D} {i : Int} {d : D} (h : Dens K C xs ds) (e : atI ds i = some d) : ∃ v, atI xs i = some v ∧ Den K C v d := by
  unfold atI at e ⊢
  rw [h.length]
  cases z : ixN ds.length i with
  | none => rw [z] at e; cases e
  | some j =>
    rw [z] at e
    exact h.get e
theorem de_ix (ha : DE X a ga) (hb : DE X b gb) (hs : PlainIx b) : DE X (.Subscript a b pos) (gOp gIx ga gb) := by
  obtain ⟨t1, p1, h1⟩ := ha
  obtain ⟨t2, p2, h2⟩ := hb
  refine ⟨_, pe_ix ix_seq p1 p2 hs, fun C0 H0 δ σ C H Q R rp g k => ?_⟩
  refine h1 C0 H0 δ σ C H _ _ rp g fun d v C1 H1 q e1 n1 => h2 C0 H0 δ σ C1 H1 _ _ (rp.grow e1) q fun d2 v2 C2 H2 q2 e2 n2 => ?_
  have n1' := n1.mono e2.cc
  cases d with
  | tup ds =>
    cases d2 with
    | int i =>
      obtain ⟨p, xs, rfl, hx, hd⟩ := den_tup.mp n1'
      rw [den_int.mp n2]
      have q2' : gOpt (atI ds i) Q := q2
      cases z : atI ds i with
      | none => rw [z] at q2'; exact q2'.elim
      | some d3 =>
        rw [z] at q2'
        obtain ⟨v3, ev, nv⟩ := dens_at hd z
        exact .inr (.inl ⟨p, xs, i, v3, rfl, rfl, e2.ch.seqT hx, ev, k d3 v3 C2 H2 q2' (e1.trans e2) nv⟩)
    | _ => exact q2.elim
  | lst ds =>
    cases d2 with
    | int i =>
      obtain ⟨p, xs, rfl, hx, hd⟩ := den_lst.mp n1'
      rw [den_int.mp n2]
      have q2' : gOpt (atI ds i) Q := q2
      cases z : atI ds i with
      | none => rw [z] at q2'; exact q2'.elim
      | some d3 =>
        rw [z] at q2'
        obtain ⟨v3, ev, nv⟩ := dens_at hd z
        exact .inl ⟨p, xs, i, v3, rfl, rfl, e2.ch.seq hx, ev, k d3 v3 C2 H2 q2' (e1.trans e2) nv⟩
    | _ => exact q2.elim
  | _ => exact q2.elim
/-- a slice's part -/
abbrev GP := DS → (Option Int → Prop) → Prop
def DO (X : Cx) (e : Option Expr) (g : GP) : Prop := ∃ t, PO X e t ∧ ∀ C0 H0 δ σ C H (Q : Option Int → Prop) (R : Option Int → Hp → Prop), Rep X.K C0 H0 δ σ C H → g δ Q → (∀ o C1 H1, Q o → Ext C H C1 H1 → R o H1) → t σ H R
abbrev gNoP : GP := fun _ Q => Q none
def gPart (g : GE) : GP := fun δ Q => g δ fun d => match d with
  | .int i => Q (some i)
  | _ => False
theorem do_none : DO X none gNoP := ⟨_, po_none, fun C0 H0 δ σ C H Q R rp g k => k none C H g (Ext.refl rp.ch)⟩
theorem do_some (h : DE X e ga) : DO X (some e) (gPart ga) := by
  obtain ⟨t, p, h⟩ := h
  refine ⟨_, po_some p, fun C0 H0 δ σ C H Q R rp g k => h C0 H0 δ σ C H _ _ rp g fun d v C1 H1 q e1 n1 => ?_⟩
  cases d with
  | int i => exact ⟨i, den_int.mp n1, k (some i) C1 H1 q e1⟩
  | _ => exact q.elim
def cutD (xs : List D) (lo hi : Option Int) : List D := (xs.drop (HT.sIx xs.length 0 lo)).take (HT.sIx xs.length xs.length hi - HT.sIx xs.length 0 lo)
def gSlT (ga : GE) (gl gh : GP) : GE := fun δ Q => ga δ fun d => gl δ fun lo => gh δ fun hi => match d with
  | .tup ds => Q (.tup (cutD ds lo hi))
  | _ => False
theorem dens_cut {K : PySem.W.Frag} {C : Hp} {xs : List V} {ds : List D} {lo hi : Option Int} (h : Dens K C xs ds) : Dens K C (cutV xs lo hi) (cutD ds lo hi) := by
  unfold cutV cutD
  rw [h.length]
  exact (h.drop _).take _
theorem de_slT {lo hi : Option Expr} {gl gh : GP} {p2 : Pos} (ha : DE X a ga) (hl : DO X lo gl) (hh : DO X hi gh) : DE X (.Subscript a (.Slice lo hi none p2) pos) (gSlT ga gl gh) := by
  obtain ⟨t1, p1, h1⟩ := ha
  obtain ⟨t2, p2', h2⟩ := hl
  obtain ⟨t3, p3, h3⟩ := hh
  refine ⟨_, pe_slice (sl_tup.or sl_tupW) p1 p2' p3, fun C0 H0 δ σ C H Q R rp g k => ?_⟩
  refine h1 C0 H0 δ σ C H _ _ rp g fun d v C1 H1 q e1 n1 => h2 C0 H0 δ σ C1 H1 _ _ (rp.grow e1) q fun o C2 H2 q2 e2 => h3 C0 H0 δ σ C2 H2 _ _ ((rp.grow e1).grow e2) q2 fun o2 C3 H3 q3 e3 => ?_
  have n1' := (n1.mono e2.cc).mono e3.cc
  have e123 := e1.trans (e2.trans e3)
  cases d with
  | tup ds =>
    obtain ⟨p, xs, rfl, hx, hd⟩ := den_tup.mp n1'
    by_cases hw : HT.sIx xs.length 0 o = 0 ∧ HT.sIx xs.length xs.length o2 = xs.length
    · refine .inr ⟨p, xs, rfl, e3.ch.seqT hx, hw, k (.tup ds) _ C3 H3 ?_ e123 n1'⟩
      have q3' : Q (.tup (cutD ds o o2)) := q3
      unfold cutD at q3'
      rw [← hd.length, hw.1, hw.2, List.drop_zero, Nat.sub_zero, hd.length, List.take_length] at q3'
      exact q3'
    · refine .inl ⟨p, xs, rfl, e3.ch.seqT hx, hw, fun p' hp => ?_⟩
      exact k _ _ (upd C3 p' (.tup (cutV xs o o2))) _ q3 (e123.trans (Ext.new e3.ch hp)) (den_tup.mpr ⟨p', _, rfl, SqT.of upd_same, (dens_cut hd).mono (Same.upd (e3.ch.free hp))⟩)
  | _ => exact q3.elim

/-! ### operations -/
def oInt (f : Int → Int → D) : GO := fun x y Q => match x, y with
  | .int i, .int j => Q (f i j)
  | _, _ => False
def oIntC (c : Int → Int → Prop) (f : Int → Int → D) : GO := fun x y Q => match x, y with
  | .int i, .int j => c i j ∧ Q (f i j)
  | _, _ => False
theorem dop_intC {f : Value → Value → Sem Value} {c : Int → Int → Prop} {g : Int → Int → Int} (h : OpR X f (rI c fun i j => .int (g i j))) : DOp X f (oIntC c fun i j => .int (g i j)) := by
  refine ⟨_, h, fun x y dx dy C H Q R ch n1 n2 q k => ?_⟩
  cases dx with
  | int i =>
    cases dy with
    | int j => exact ⟨i, j, den_int.mp n1, den_int.mp n2, q.1, k _ _ C H q.2 (Ext.refl ch) (den_int.mpr rfl)⟩
    | _ => exact q.elim
  | _ => exact q.elim
theorem dop_intB {f : Value → Value → Sem Value} {g : Int → Int → Bool} (h : OpR X f (rI0 fun i j => .bl (g i j))) : DOp X f (oInt fun i j => .bl (g i j)) := by
  refine ⟨_, h, fun x y dx dy C H Q R ch n1 n2 q k => ?_⟩
  cases dx with
  | int i =>
    cases dy with
    | int j => exact ⟨i, j, den_int.mp n1, den_int.mp n2, k _ _ C H q (Ext.refl ch) (den_bl.mpr rfl)⟩
    | _ => exact q.elim
  | _ => exact q.elim
theorem dop_intI {f : Value → Value → Sem Value} {g : Int → Int → Int} (h : OpR X f (rI0 fun i j => .int (g i j))) : DOp X f (oInt fun i j => .int (g i j)) := by
  refine ⟨_, h, fun x y dx dy C H Q R ch n1 n2 q k => ?_⟩
  cases dx with
  | int i =>
    cases dy with
    | int j => exact ⟨i, j, den_int.mp n1, den_int.mp n2, k _ _ C H q (Ext.refl ch) (den_int.mpr rfl)⟩
    | _ => exact q.elim
  | _ => exact q.elim
abbrev oSub : GO := oInt fun i j => .int (i - j)
abbrev oLt : GO := oInt fun i j => .bl (decide (i < j))
abbrev oMod : GO := oIntC (fun _ j => 0 < j) fun i j => .int (i % j)
abbrev oDiv : GO := oIntC CDiv fun i j => .int (i / j)
theorem do_sub : DOp X (binaryOp .Sub) oSub := dop_intI op_sub
theorem do_lt : DOp X (compareOp .Lt) oLt := dop_intB op_lt
theorem do_mod : DOp X (binaryOp .Mod) oMod := dop_intC op_mod
theorem do_div : DOp X (binaryOp .FloorDiv) oDiv := dop_intC op_fdiv
/-- + of ints, of tuples -/
def oAdd : GO := fun x y Q => match x, y with
  | .int i, .int j => Q (.int (i + j))
  | .tup xs, .tup ys => xs.length + ys.length ≤ sizeLine ∧ Q (.tup (xs ++ ys))
  | _, _ => False
theorem do_add : DOp X (binaryOp .Add) oAdd := by
  refine ⟨_, op_add.or (op_catT.or op_cat0), fun x y dx dy C H Q R ch n1 n2 q k => ?_⟩
  cases dx with
  | int i =>
    cases dy with
    | int j => exact .inl ⟨i, j, den_int.mp n1, den_int.mp n2, k _ _ C H q (Ext.refl ch) (den_int.mpr rfl)⟩
    | _ => exact q.elim
  | tup ds =>
    cases dy with
    | tup es =>
      obtain ⟨p, xs, rfl, hx, hd⟩ := den_tup.mp n1
      obtain ⟨p2, ys, rfl, hy, he⟩ := den_tup.mp n2
      have q' : ds.length + es.length ≤ sizeLine ∧ Q (.tup (ds ++ es)) := q
      refine .inr ?_
      cases ds with
      | nil =>
        have e := dens_nil.mp hd
        subst e
        exact .inr ⟨p, p2, ys, rfl, rfl, ch.seqT hx, ch.seqT hy, k _ _ C H q'.2 (Ext.refl ch) n2⟩
      | cons d ds =>
        refine .inl ⟨p, p2, xs, ys, rfl, rfl, ch.seqT hx, ch.seqT hy, ?_, by rw [hd.length, he.length]; exact q'.1, fun z => ?_, fun _ p' hp => ?_⟩
        · intro z
          have := hd.length
          rw [z] at this
          simp at this
        · subst z
          have e : es = [] := by
            have := he.length
            simpa using this.symm
          subst e
          rw [List.append_nil] at q'
          exact k _ _ C H q'.2 (Ext.refl ch) n1
        · exact k _ _ (upd C p' (.tup (xs ++ ys))) _ q'.2 (Ext.new ch hp) (den_tup.mpr ⟨p', _, rfl, SqT.of upd_same, (hd.append he).mono (Same.upd (ch.free hp))⟩)
    | _ => exact q.elim
  | _ => exact q.elim
/-- * of ints (one of them small), of a tuple and a number -/
def oMul : GO := fun x y Q => match x, y with
  | .int i, .int j => CMul i j ∧ Q (.int (i * j))
  | .tup xs, .int k => 1 < k ∧ k < 2 ^ 63 ∧ xs ≠ [] ∧ (xs.length : Int) * k ≤ sizeLine ∧ Q (.tup (List.replicate k.toNat xs).flatten)
  | _, _ => False
theorem do_mul : DOp X (binaryOp .Mult) oMul := by
  refine ⟨_, op_mul.or op_repT, fun x y dx dy C H Q R ch n1 n2 q k => ?_⟩
  cases dx with
  | int i =>
    cases dy with
    | int j => exact .inl ⟨i, j, den_int.mp n1, den_int.mp n2, q.1, k _ _ C H q.2 (Ext.refl ch) (den_int.mpr rfl)⟩
    | _ => exact q.elim
  | tup ds =>
    cases dy with
    | int j =>
      obtain ⟨p, xs, rfl, hx, hd⟩ := den_tup.mp n1
      obtain ⟨q1, q2, q3, q4, q5⟩ := q
      refine .inr ⟨p, j, xs, rfl, den_int.mp n2, ch.seqT hx, q1, q2, ?_, by rw [hd.length]; exact q4, fun p' hp => ?_⟩
      · intro z
        have := hd.length
        rw [z] at this
        exact q3 (by simpa using this.symm)
      · exact k _ _ (upd C p' _) _ q5 (Ext.new ch hp) (den_tup.mpr ⟨p', _, rfl, SqT.of upd_same, (hd.rep _).mono (Same.upd (ch.free hp))⟩)
    | _ => exact q.elim
  | _ => exact q.elim
/-- is True, is not True .. -/
def oIs : GO := fun x y Q => match x, y with
  | .bl a, .bl b => Q (.bl (a == b))
  | _, _ => False
def oIsnot : GO := fun x y Q => match x, y with
  | .bl a, .bl b => Q (.bl (a != b))
  | _, _ => False
def gNeg (ga : GE) : GE := fun δ Q => ga δ fun d => match d with
  | .int i => Q (.int (-i))
  | _ => False

/-! ### calls of builtins -/
def cLen : List D → (D → Prop) → Prop := fun ds Q => match ds with
  | [.tup xs] => Q (.int xs.length)
  | [.lst xs] => Q (.int xs.length)
  | _ => False
theorem dens_one {K : PySem.W.Frag} {C : Hp} {vs : List V} {d : D} (h : Dens K C vs [d]) : ∃ v, vs = [v] ∧ Den K C v d := by
  obtain ⟨x, xs, rfl, a, t⟩ := dens_cons.mp h
  rw [dens_nil.mp t]
  exact ⟨x, rfl, a⟩
theorem dens_two {K : PySem.W.Frag} {C : Hp} {vs : List V} {d d2 : D} (h : Dens K C vs [d, d2]) : ∃ v u, vs = [v, u] ∧ Den K C v d ∧ Den K C u d2 := by
  obtain ⟨x, xs, rfl, a, t⟩ := dens_cons.mp h
  obtain ⟨u, rfl, b⟩ := dens_one t
  exact ⟨x, u, rfl, a, b⟩
theorem dc_len : DCall X (.builtin "len") cLen := by
  refine ⟨_, call_len_seq, fun xs ds C H Q R ch n q k => ?_⟩
  unfold cLen at q
  split at q
  · obtain ⟨v, rfl, n1⟩ := dens_one n
    obtain ⟨p, ys, rfl, hy, hd⟩ := den_tup.mp n1
    refine ⟨p, ys, rfl, .inr (ch.seqT hy), ?_⟩
    rw [hd.length]
    exact k _ _ C H q (Ext.refl ch) (den_int.mpr rfl)
  · obtain ⟨v, rfl, n1⟩ := dens_one n
    obtain ⟨p, ys, rfl, hy, hd⟩ := den_lst.mp n1
    refine ⟨p, ys, rfl, .inl (ch.seq hy), ?_⟩
    rw [hd.length]
    exact k _ _ C H q (Ext.refl ch) (den_int.mpr rfl)
  · exact q.elim
def cTuple : List D → (D → Prop) → Prop := fun ds Q => match ds with
  | [.tup xs] => Q (.tup xs)
  | [.lst xs] => Q (.tup xs)
  | _ => False
theorem dc_tuple : DCall X (.type "tuple") cTuple := by
  refine ⟨_, call_tuple_of, fun xs ds C H Q R ch n q k => ?_⟩
  unfold cTuple at q
  split at q
  · obtain ⟨v, rfl, n1⟩ := dens_one n
    obtain ⟨p, ys, rfl, hy, hd⟩ := den_tup.mp n1
    exact ⟨p, ys, rfl, .inr ⟨ch.seqT hy, k _ _ C H q (Ext.refl ch) n1⟩⟩
  · obtain ⟨v, rfl, n1⟩ := dens_one n
    obtain ⟨p, ys, rfl, hy, hd⟩ := den_lst.mp n1
    exact ⟨p, ys, rfl, .inl ⟨ch.seq hy, fun l hl => k _ _ (upd C l (.tup ys)) _ q (Ext.new ch hl) (den_tup.mpr ⟨l, ys, rfl, SqT.of upd_same, hd.mono (Same.upd (ch.free hl))⟩)⟩⟩
  · exact q.elim
def cList : List D → (List D → Prop) → Prop := fun ds Q => match ds with
  | [.tup xs] => Q xs
  | [.lst xs] => Q xs
  | _ => False
def cAbs : List D → (D → Prop) → Prop := fun ds Q => match ds with
  | [.int i] => Q (.int (if i < 0 then -i else i))
  | _ => False
/-- the bools of a list -/
def bools : List D → Option (List Bool)
  | [] => some []
  | .bl b :: r => (bools r).map (b :: ·)
  | _ :: _ => none
theorem bools_eq : ∀ {ds : List D} {bs : List Bool}, bools ds = some bs → ds = bs.map D.bl
  | [], bs, h => by cases h; rfl
  | .bl b :: r, bs, h => by
    unfold bools at h
    cases e : bools r with
    | none => rw [e] at h; cases h
    | some cs => rw [e] at h; cases h; rw [List.map_cons, ← bools_eq e]
  | .int _ :: _, _, h => by cases h
  | .non :: _, _, h => by cases h
  | .str _ :: _, _, h => by cases h
  | .tup _ :: _, _, h => by cases h
  | .lst _ :: _, _, h => by cases h
theorem bools_map (bs : List Bool) : bools (bs.map D.bl) = some bs := by
  induction bs with
  | nil => rfl
  | cons b bs ih => rw [List.map_cons, bools, ih]; rfl
def cAll : List D → (D → Prop) → Prop := fun ds Q => match ds with
  | [.lst xs] => match bools xs with
    | some bs => Q (.bl (bs.all id))
    | none => False
  | _ => False
theorem dc_all (hc : X.calm = true) : DCall X (.builtin "all") cAll := by
  refine ⟨_, call_all hc, fun xs ds C H Q R ch n q k => ?_⟩
  unfold cAll at q
  split at q
  · split at q
    · rename_i bs e
      obtain ⟨v, rfl, n1⟩ := dens_one n
      obtain ⟨p, ys, rfl, hy, hd⟩ := den_lst.mp n1
      rw [bools_eq e] at hd
      rw [hd.bools] at hy
      exact ⟨p, bs, rfl, ch.seq hy, k _ _ C H q (Ext.refl ch) (den_bl.mpr rfl)⟩
    · exact q.elim
  · exact q.elim
/-- isinstance(x, T) -/
def tyD : D → String
  | .int _ => "int"
  | .bl _ => "bool"
  | .non => "NoneType"
  | .str _ => "str"
  | .tup _ => "tuple"
  | .lst _ => "list"
theorem tyD_name {K : PySem.W.Frag} {C H : Hp} {v : V} {d : D} (ch : Same C H) (n : Den K C v d) : tyName K H v (tyD d) := by
  cases d with
  | int i => rw [den_int.mp n]; rfl
  | bl i => rw [den_bl.mp n]; rfl
  | non => rw [den_non.mp n]; rfl
  | str i => rw [den_str.mp n]; rfl
  | tup ds => obtain ⟨p, ys, rfl, hy, hd⟩ := den_tup.mp n; exact .inr ⟨rfl, ys, ch.seqT hy⟩
  | lst ds => obtain ⟨p, ys, rfl, hy, hd⟩ := den_lst.mp n; exact .inl ⟨rfl, ys, ch.seq hy⟩
def gInst (T : String) (ga : GE) : GE := fun δ Q => ga δ fun d => Q (.bl (isSub (tyD d) T))
theorem de_inst {T : String} {y : Str} {p p' : Pos} (hT : T = "int" ∨ T = "bool" ∨ T = "str" ∨ T = "list" ∨ T = "tuple") (ha : DE X a ga) (hy : PE X (.Name y p') (tC (.ty T)))
    (hp : ∀ {t : TA} {r : List V → Hp → VK → Prop}, CallR X (.builtin "isinstance") r → PA X [a, .Name y p'] t → PE X (.Call (.Name "isinstance" p) [a, .Name y p'] [] pos) (tCB r t))
    (hs : starEach [a, .Name y p'] X.env = (false, eval a X.env) :: starEach [.Name y p'] X.env := by rfl) : DE X (.Call (.Name "isinstance" p) [a, .Name y p'] [] pos) (gInst T ga) := by
  obtain ⟨t1, p1, h1⟩ := ha
  refine ⟨_, hp call_isinst (pa_cons p1 (pa_cons hy pa_nil) hs), fun C0 H0 δ σ C H Q R rp g k => h1 C0 H0 δ σ C H _ _ rp g fun d v C1 H1 q e1 n1 => ?_⟩
  exact ⟨v, T, tyD d, rfl, hT, tyD_name e1.ch n1, k _ _ C1 H1 q e1 (den_bl.mpr rfl)⟩
end
end L2
namespace L2
open PySem PySem.Spec PyProof.Rows

/-! ### what a loop walks -/
def Walk (K : PySem.W.Frag) (J : It) (its : List D) (C1 : Hp) : Prop := ∀ C2 H2, Same C1 C2 → Same C2 H2 → ∀ i : Nat,
  (∀ d, its[i]? = some d → J.go i H2 ∧ ∀ x H3, J.yld i H2 x H3 → ∃ C3, Ext C2 H2 C3 H3 ∧ Den K C3 x d) ∧ (its.length ≤ i → J.stop i H2)
def DI (X : Cx) (tg iter : Expr) (g : GF) : Prop := ∃ wi, PI X tg iter wi ∧ ∀ C0 H0 δ σ C H (Q : List D → Prop) (R : It → Hp → Prop), Rep X.K C0 H0 δ σ C H → g δ Q →
  (∀ its J C1 H1, Q its → Ext C H C1 H1 → Walk X.K J its C1 → R J H1) → wi σ H R
section
variable {X : Cx} {a b c e tg iter : Expr} {es : List Expr} {pos : Pos} {ga gb gc gd : GE} {gf : GF} {ta tb : GT}
/-- over a tuple or a list (which: as the text has it) -/
def gIt (ga : GE) : GF := fun δ Q => ga δ fun d => match d with
  | .tup ds => Q ds
  | _ => False
def gIl (ga : GE) : GF := fun δ Q => ga δ fun d => match d with
  | .lst ds => Q ds
  | _ => False
theorem walk_tup {K : PySem.W.Frag} {C1 : Hp} {p : Addr} {xs : List V} {ds : List D} (hx : SqT K C1 p xs) (hd : Dens K C1 xs ds) (inj : ∀ H ys, Same C1 H → SqT K H p ys → True) : Walk K ⟨fun i H => ∃ xs x, SqT K H p xs ∧ xs[i]? = some x, fun i H x H' => H' = H ∧ ∀ xs, SqT K H p xs → xs[i]? = some x, fun i H => ∃ xs, SqT K H p xs ∧ xs.length ≤ i⟩ ds C1 := by
  intro C2 H2 c1 c2 i
  have hx2 := c2.seqT (c1.seqT hx)
  refine ⟨fun d e => ?_, fun hl => ⟨xs, hx2, by rw [hd.length]; exact hl⟩⟩
  obtain ⟨v, ev, nv⟩ := hd.get e
  refine ⟨⟨xs, v, hx2, ev⟩, fun x H3 y => ?_⟩
  obtain ⟨rfl, y⟩ := y
  have := y xs hx2
  rw [ev] at this
  cases this
  exact ⟨C2, Ext.refl c2, nv.mono c1⟩
theorem walk_lst {K : PySem.W.Frag} {C1 : Hp} {p : Addr} {xs : List V} {ds : List D} (hx : SqL K C1 p xs) (hd : Dens K C1 xs ds) : Walk K (Itl K p) ds C1 := by
  intro C2 H2 c1 c2 i
  have hx2 := c2.seq (c1.seq hx)
  refine ⟨fun d e => ?_, fun hl => ⟨xs, hx2, by rw [hd.length]; exact hl⟩⟩
  obtain ⟨v, ev, nv⟩ := hd.get e
  refine ⟨⟨xs, v, hx2, ev⟩, fun x H3 y => ?_⟩
  obtain ⟨rfl, y⟩ := y
  have := y xs hx2
  rw [ev] at this
  cases this
  exact ⟨C2, Ext.refl c2, nv.mono c1⟩
theorem di_tup (ha : DE X a ga) : DI X tg a (gIt ga) := by
  obtain ⟨t, p, h⟩ := ha
  refine ⟨_, pi_tup p, fun C0 H0 δ σ C H Q R rp g k => h C0 H0 δ σ C H _ _ rp g fun d v C1 H1 q e1 n1 => ?_⟩
  cases d with
  | tup ds =>
    obtain ⟨p, xs, rfl, hx, hd⟩ := den_tup.mp n1
    exact ⟨p, rfl, ⟨xs, e1.ch.seqT hx⟩, k ds _ C1 H1 q e1 (walk_tup hx hd fun _ _ _ _ => trivial)⟩
  | _ => exact q.elim
theorem di_lst (ha : DE X a ga) : DI X tg a (gIl ga) := by
  obtain ⟨t, p, h⟩ := ha
  refine ⟨_, pi_list p, fun C0 H0 δ σ C H Q R rp g k => h C0 H0 δ σ C H _ _ rp g fun d v C1 H1 q e1 n1 => ?_⟩
  cases d with
  | lst ds =>
    obtain ⟨p, xs, rfl, hx, hd⟩ := den_lst.mp n1
    exact ⟨p, rfl, ⟨xs, e1.ch.seq hx⟩, k ds _ C1 H1 q e1 (walk_lst hx hd)⟩
  | _ => exact q.elim
def rangeD (lo : Int) (n : Nat) : List D := (List.range n).map fun (k : Nat) => D.int (lo + (k : Int))
theorem walk_rng {K : PySem.W.Frag} {C1 : Hp} (lo : Int) (n : Nat) : Walk K (Itr lo n) (rangeD lo n) C1 := by
  intro C2 H2 c1 c2 i
  have hl : (rangeD lo n).length = n := by simp [rangeD]
  refine ⟨fun d e => ?_, fun h => by rw [hl] at h; exact h⟩
  have hi : i < n := by rw [← hl]; exact (List.getElem?_eq_some_iff.mp e).1
  have ed : d = .int (lo + i) := by
    unfold rangeD at e
    rw [List.getElem?_map, List.getElem?_range hi] at e
    exact (Option.some.inj e).symm
  subst ed
  exact ⟨hi, fun x H3 y => by obtain ⟨rfl, rfl⟩ := y; exact ⟨C2, Ext.refl c2, den_int.mpr rfl⟩⟩
def gRng1 (ga : GE) : GF := fun δ Q => ga δ fun d => match d with
  | .int j => (-(2 ^ 62) ≤ j ∧ j < 2 ^ 62) ∧ Q (rangeD 0 j.toNat)
  | _ => False
theorem di_rng1 {p : Pos} (hg : Gl X "range") (hm : X.mg "range" = none) (ha : DE X a ga) (hs : starEach [a] X.env = [(false, eval a X.env)] := by rfl) : DI X tg (.Call (.Name "range" p) [a] [] pos) (gRng1 ga) := by
  obtain ⟨t, p, h⟩ := ha
  refine ⟨_, pi_range1 hg hm (pa_cons p pa_nil hs) hs, fun C0 H0 δ σ C H Q R rp g k => h C0 H0 δ σ C H _ _ rp g fun d v C1 H1 q e1 n1 => ?_⟩
  cases d with
  | int j => rw [den_int.mp n1]; exact ⟨j, rfl, q.1.1, q.1.2, k _ _ C1 H1 q.2 e1 (walk_rng 0 _)⟩
  | _ => exact q.elim
def gRng2 (ga gb : GE) : GF := fun δ Q => ga δ fun d => gb δ fun d2 => match d, d2 with
  | .int i, .int j => (-(2 ^ 62) ≤ i ∧ i < 2 ^ 62 ∧ -(2 ^ 62) ≤ j ∧ j < 2 ^ 62) ∧ Q (rangeD i (j - i).toNat)
  | _, _ => False

/-! ### targets -/
abbrev GG := D → DS → (DS → Prop) → Prop
def DG (X : Cx) (tg : Expr) (ss : List Nat) (g : GG) : Prop := ∃ t, PG X tg t ∧ ∀ C0 H0 δ σ C H v d (Q : DS → Prop) (R : St → Hp → Prop), Rep X.K C0 H0 δ σ C H → Den X.K C v d → g d δ Q →
  (∀ δ' σ', Q δ' → Rep X.K C0 H0 δ' σ' C H → σ'.length = σ.length → (∀ j : Nat, j ∉ ss → σ'[j]? = σ[j]?) → R σ' H) → t v σ H R
abbrev gNm (i : Nat) : GG := fun d δ Q => Q (δ.set i (.im d))
theorem dg_name {i : Nat} {x : Str} (h : PG X (.Name x pos) (gName i)) : DG X (.Name x pos) [i] (gNm i) :=
  ⟨_, h, fun C0 H0 δ σ C H v d Q R rp n g k => k _ _ g (rp.setI n) (by simp) fun j hj => by rw [List.getElem?_set_ne]; intro z; exact hj (by simp [z])⟩
/-- (x, y) = a pair -/
def gNm2 (i j : Nat) : GG := fun d δ Q => match d with
  | .tup [a, b] => Q ((δ.set i (.im a)).set j (.im b))
  | _ => False
theorem dg_two {i j : Nat} {x y : Str} {p1 p2 : Pos} {k : Nat} (h1 : PG X (.Name x p1) (gName i)) (h2 : PG X (.Name y p2) (gName j))
    (hp : ∀ {t1 t2 : TG}, PG X (.Name x p1) t1 → PG X (.Name y p2) t2 → PG X (.Tuple [.Name x p1, .Name y p2] k pos) (gTup X.K 2 (gCons t1 (gCons t2 gNil)))) : DG X (.Tuple [.Name x p1, .Name y p2] k pos) [i, j] (gNm2 i j) := by
  refine ⟨_, hp h1 h2, fun C0 H0 δ σ C H v d Q R rp n g k => ?_⟩
  unfold gNm2 at g
  split at g
  · rename_i d1 d2
    obtain ⟨p, xs, rfl, hx, hd⟩ := den_tup.mp n
    obtain ⟨v1, v2, rfl, n1, n2⟩ := dens_two hd
    refine ⟨p, [v1, v2], rfl, rp.ch.seqT hx, rfl, v1, [v2], rfl, v2, [], rfl, rfl, ?_⟩
    refine k _ _ g ((rp.setI n1).setI n2) (by simp) fun m hm => ?_
    rw [List.getElem?_set_ne, List.getElem?_set_ne]
    · intro z; exact hm (by simp [z])
    · intro z; exact hm (by simp [z])
  · exact g.elim

/-! ### a comprehension -/
def δc (fr : List (Option Nat)) (δ : DS) : DS := fr.map fun o => match o with
  | none => .un
  | some j => match δ[j]? with
    | some (.im d) => .im d
    | some (.fd m) => .fd m
    | _ => .un
theorem Rep.comp {K : PySem.W.Frag} {C0 H0 δ σ C H C1 H1} (fr : List (Option Nat)) (R : Rep K C0 H0 δ σ C H) (cc : Same C C1) (ch : Same C1 H1) : Rep K C1 H1 (δc fr δ) (σc fr σ) C1 H1 := by
  have no : ∀ (i : Nat) ds, (δc fr δ)[i]? ≠ some (.ow ds) := fun i ds e => by
    unfold δc at e
    rw [List.getElem?_map] at e
    cases ef : fr[i]? with
    | none => rw [ef] at e; cases e
    | some o =>
      rw [ef] at e
      cases o with
      | none => cases e
      | some j =>
        simp only [Option.map_some] at e
        split at e <;> cases e
  have nod : ∀ (i : Nat) m, (δc fr δ)[i]? ≠ some (.od m) := fun i ds e => by
    unfold δc at e
    rw [List.getElem?_map] at e
    cases ef : fr[i]? with
    | none => rw [ef] at e; cases e
    | some o =>
      rw [ef] at e
      cases o with
      | none => cases e
      | some j =>
        simp only [Option.map_some] at e
        split at e <;> cases e
  refine ⟨by unfold σc δc; simp, Ext.refl ch, fun i d e => ?_, fun i ds e => absurd e (no i ds), fun i j ds es l _ e _ => absurd e (no i ds), fun i m e => absurd e (nod i m), fun i m e => ?_, fun i j m n l _ e => absurd e (nod i m)⟩
  rotate_left
  · unfold δc at e
    unfold σc
    rw [List.getElem?_map] at e ⊢
    cases ef : fr[i]? with
    | none => rw [ef] at e; cases e
    | some o =>
      rw [ef] at e
      cases o with
      | none => cases e
      | some j =>
        simp only [Option.map_some] at e ⊢
        split at e
        · cases e
        · rename_i m' ed
          cases e
          obtain ⟨l, o, ev, nv⟩ := R.dc.fd j m ed
          refine ⟨l, o, ?_, cc _ _ nv⟩
          show some ((σ[j]?).bind id) = _
          rw [ev]
          rfl
        · cases e
  unfold δc at e
  unfold σc
  rw [List.getElem?_map] at e ⊢
  cases ef : fr[i]? with
  | none => rw [ef] at e; cases e
  | some o =>
    rw [ef] at e
    cases o with
    | none => cases e
    | some j =>
      simp only [Option.map_some] at e ⊢
      split at e
      · rename_i d' ed
        cases e
        obtain ⟨v, ev, nv⟩ := R.im j d ed
        refine ⟨v, ?_, nv.mono cc⟩
        show some ((σ[j]?).bind id) = _
        rw [ev]
        rfl
      · cases e
      · cases e
/-- [e for x in ..] -/
def gComp (fr : List (Option Nat)) (gi : GF) (gg : GG) (ge : GE) : GF := fun δ Q => gi δ fun its => its.length ≤ sizeLine ∧ ∃ f : D → D, (∀ d ∈ its, gg d (δc fr δ) fun δ2 => ge δ2 fun y => y = f d) ∧ Q (its.map f)
/-- [e for x in .. if c] -/
def gCompIf (fr : List (Option Nat)) (gi : GF) (gg : GG) (gt : GT) (ge : GE) : GF := fun δ Q => gi δ fun its => its.length ≤ sizeLine ∧ ∃ (p : D → Bool) (f : D → D), (∀ d ∈ its, gg d (δc fr δ) fun δ2 => gt δ2 fun c => c = p d ∧ (c = true → ge δ2 fun y => y = f d)) ∧ Q ((its.filter p).map f)
def frOk (fr : List (Option Nat)) (ss : List Nat) : Bool := ss.all fun j => fr[j]? == some none
theorem frOk_of {fr : List (Option Nat)} {ss : List Nat} (h : frOk fr ss = true) {σ : St} {j : Nat} (hj : j ∈ ss) : (σc fr σ)[j]? = some none := by
  unfold frOk at h
  rw [List.all_eq_true] at h
  have e : fr[j]? = some none := by simpa using h j hj
  unfold σc
  rw [List.getElem?_map, e]
  rfl
theorem fwd_of {fr : List (Option Nat)} {ss : List Nat} (h : frOk fr ss = true) {σ σ' : St} (hl : σ'.length = (σc fr σ).length) (hj : ∀ j : Nat, j ∉ ss → σ'[j]? = (σc fr σ)[j]?) : Fwd σ' (σc fr σ) := by
  refine ⟨hl, fun i v e => ?_⟩
  by_cases hi : i ∈ ss
  · rw [frOk_of h hi] at e
    cases e
  · rw [hj i hi]; exact e
def DIfs (X : Cx) (ifs : List Expr) (g : GT) : Prop := ∃ t, PIfs X ifs t ∧ ∀ C0 H0 δ σ C H (Q : Bool → Prop) (R : Bool → Hp → Prop), Rep X.K C0 H0 δ σ C H → g δ Q → (∀ b C1 H1, Q b → Ext C H C1 H1 → R b H1) → t σ H R
end

/-- the turns, by data -/
theorem turns_of {K : PySem.W.Frag} {C0 H0 C H C1 H1 : Hp} {δ : DS} {σ : St} {fr : List (Option Nat)} {ss : List Nat} {J : It} {its : List D} {g : TG} {tt : TT} {te : TE} {gg : GG} {gt : GT} {ge : GE} {p : D → Bool} {f : D → D} {A : Addr} {Q : List D → Prop} {R : VK}
    (hg : ∀ C0 H0 δ σ C H v d (Q : DS → Prop) (R : St → Hp → Prop), Rep K C0 H0 δ σ C H → Den K C v d → gg d δ Q → (∀ δ' σ', Q δ' → Rep K C0 H0 δ' σ' C H → σ'.length = σ.length → (∀ j : Nat, j ∉ ss → σ'[j]? = σ[j]?) → R σ' H) → g v σ H R)
    (ht : ∀ C0 H0 δ σ C H (Q : Bool → Prop) (R : Bool → Hp → Prop), Rep K C0 H0 δ σ C H → gt δ Q → (∀ b C1 H1, Q b → Ext C H C1 H1 → R b H1) → tt σ H R)
    (he : ∀ C0 H0 δ σ C H (Q : D → Prop) (R : VK), Rep K C0 H0 δ σ C H → ge δ Q → (∀ d v C1 H1, Q d → Ext C H C1 H1 → Den K C1 v d → R v H1) → te σ H R)
    (fo : frOk fr ss = true) (rp : Rep K C0 H0 δ σ C H) (e1 : Ext C H C1 H1) (wk : Walk K J its C1) (hz : its.length ≤ sizeLine)
    (hf : ∀ d ∈ its, gg d (δc fr δ) fun δ2 => gt δ2 fun c => c = p d ∧ (c = true → ge δ2 fun y => y = f d)) (q : Q ((its.filter p).map f))
    (k : ∀ ds p xs C1 H1, Q ds → Ext C H C1 H1 → C1 p = none → H p = none → H1 p = some (.lst xs) → Dens K C1 xs ds → R (.ref p) H1) (hA : H1 A = none) : tTurns J (σc fr σ) g tt te A H1 R := by
  have hflt : ∀ i : Nat, (((its.take i).filter p).map f).length ≤ i := fun i => by
    rw [List.length_map]
    exact Nat.le_trans (List.length_filter_le _ _) (by rw [List.length_take]; omega)
  refine ⟨fun i m ys H2 => m = its.length - i ∧ i ≤ its.length ∧ ∃ C2, Ext C1 H1 C2 H2 ∧ H2 A = some (.lst ys) ∧ C2 A = none ∧ Dens K C2 ys (((its.take i).filter p).map f), ⟨_, rfl, Nat.zero_le _, C1, Ext.newO e1.ch hA, upd_same, e1.ch.free hA, by simpa using Dens.nil⟩, ?_⟩
  rintro i m ys H2 ⟨rfl, hi, C2, ex, hl, hc, hd⟩
  have W := wk C2 H2 ex.cc ex.ch i
  by_cases hlt : i < its.length
  · have ed : its[i]? = some its[i] := by simp [hlt]
    obtain ⟨go, yl⟩ := W.1 _ ed
    refine .inr ⟨go, fun x H3 y => ?_⟩
    obtain ⟨C3, e3, n3⟩ := yl x H3 y
    have rc : Rep K C3 H3 (δc fr δ) (σc fr σ) C3 H3 := rp.comp fr ((e1.cc.trans ex.cc).trans e3.cc) e3.ch
    refine hg C3 H3 _ _ C3 H3 x its[i] _ _ rc n3 (hf its[i] (List.getElem_mem hlt)) fun δ' σ' q' rp' hl' hj' => ⟨fwd_of fo hl' hj', ?_⟩
    refine ht C3 H3 δ' σ' C3 H3 _ _ rp' q' fun b C4 H4 q4 e4 => ?_
    have hA4 : H4 A = some (.lst ys) := e4.hh _ _ (e3.hh _ _ hl)
    have hc4 : C4 A = none := e4.ow A (e3.ow A hc (by rw [hl]; simp)) (by rw [e3.hh _ _ hl]; simp)
    have ed2 := ((hd.mono e3.cc).mono e4.cc)
    have tk : its.take (i + 1) = its.take i ++ [its[i]] := by rw [List.take_succ, ed]; rfl
    cases b with
    | false =>
      rw [if_neg (by simp)]
      refine ⟨its.length - (i + 1), by omega, rfl, hlt, C4, ex.trans (e3.trans e4), hA4, hc4, ?_⟩
      rw [tk, List.filter_append, List.filter_cons_of_neg (by rw [← q4.1]; simp)]
      simpa using ed2
    | true =>
      rw [if_pos rfl]
      refine he C3 H3 δ' σ' C4 H4 _ _ (rp'.grow e4) (q4.2 rfl) fun d v C5 H5 q5 e5 n5 => ?_
      have hA5 : H5 A = some (.lst ys) := e5.hh _ _ hA4
      have hc5 : C5 A = none := e5.ow A hc4 (by rw [hA4]; simp)
      have hyl : ys.length < sizeLine := by
        rw [hd.length]
        exact Nat.lt_of_le_of_lt (hflt i) (by omega)
      refine ⟨hA5, hyl, its.length - (i + 1), by omega, rfl, hlt, C5, ?_, upd_same, hc5, ?_⟩
      · have e := ex.trans (e3.trans (e4.trans e5))
        refine ⟨fun z u ez => ?_, e.cc, fun z u ez => ?_, e.ow⟩
        · rw [upd_ne (ne_of_none ez hA)]; exact e.hh z u ez
        · rw [upd_ne (ne_of_none ez hc5)]; exact e.ch z u ez
      · rw [tk, List.filter_append, List.filter_cons_of_pos (by rw [← q4.1]), List.map_append, List.filter_nil, List.map_cons, List.map_nil]
        refine (ed2.mono e5.cc).append (.cons ?_ .nil)
        rw [← q5]; exact n5
  · have e : i = its.length := by omega
    refine .inl ⟨W.2 (by omega), ?_⟩
    rw [e, List.take_length] at hd
    exact k _ A ys C2 H2 q (e1.trans ex) hc (e1.hh.free hA) hl hd

section
variable {X : Cx} {a b c e tg iter elt : Expr} {es : List Expr} {pos : Pos} {ge : GE} {gi : GF} {gt : GT} {gg : GG} {scope : Scope} {Nc : List Str} {fr : List (Option Nat)} {ss : List Nat}
/-- the readings, by data alone -/
def tDE (K : PySem.W.Frag) (g : GE) : TE := fun σ H R => ∃ C0 H0 δ C Q, Rep K C0 H0 δ σ C H ∧ g δ Q ∧ ∀ d v C1 H1, Q d → Ext C H C1 H1 → Den K C1 v d → R v H1
def tDT (K : PySem.W.Frag) (g : GT) : TT := fun σ H R => ∃ C0 H0 δ C Q, Rep K C0 H0 δ σ C H ∧ g δ Q ∧ ∀ b C1 H1, Q b → Ext C H C1 H1 → R b H1
def tDG (K : PySem.W.Frag) (ss : List Nat) (g : GG) : TG := fun v σ H R => ∃ C0 H0 δ C d Q, Rep K C0 H0 δ σ C H ∧ Den K C v d ∧ g d δ Q ∧ ∀ δ' σ', Q δ' → Rep K C0 H0 δ' σ' C H → σ'.length = σ.length → (∀ j : Nat, j ∉ ss → σ'[j]? = σ[j]?) → R σ' H
theorem DE.can (h : DE X e ge) : PE X e (tDE X.K ge) := by
  obtain ⟨t, p, h⟩ := h
  intro pins s σ H Q I q
  obtain ⟨C0, H0, δ, C, Q', rp, g, k⟩ := q
  exact p pins s σ H Q I (h C0 H0 δ σ C H Q' Q rp g k)
theorem DG.can (h : DG X tg ss gg) : PG X tg (tDG X.K ss gg) := by
  obtain ⟨t, p, h⟩ := h
  intro pins s σ H v u Q I r q
  obtain ⟨C0, H0, δ, C, d, Q', rp, n, g, k⟩ := q
  exact p pins s σ H v u Q I r (h C0 H0 δ σ C H v d Q' Q rp n g k)
theorem DIfs.can {ifs : List Expr} (h : DIfs X ifs gt) : PIfs X ifs (tDT X.K gt) := by
  obtain ⟨t, p, h⟩ := h
  intro pins s σ H Q I q
  obtain ⟨C0, H0, δ, C, Q', rp, g, k⟩ := q
  exact p pins s σ H Q I (h C0 H0 δ σ C H Q' Q rp g k)
abbrev gYes : GT := fun _ Q => Q true
theorem difs_nil : DIfs X [] gYes := ⟨_, pifs_nil, fun C0 H0 δ σ C H Q R rp g k => k true C H g (Ext.refl rp.ch)⟩
theorem difs_one (h : DT X c gt) : DIfs X [c] gt := by
  obtain ⟨t, p, h⟩ := h
  exact ⟨t, pifs_one p, h⟩
theorem comp_data {ifs : List Expr} (h : DI X tg iter gi) (fo : frOk fr ss = true) : ∃ wi, PI X tg iter wi ∧ ∀ C0 H0 δ σ C H (Q : List D → Prop) (R : VK), Rep X.K C0 H0 δ σ C H → gCompIf fr gi gg gt ge δ Q →
    (∀ ds p xs C1 H1, Q ds → Ext C H C1 H1 → C1 p = none → H p = none → H1 p = some (.lst xs) → Dens X.K C1 xs ds → R (.ref p) H1) → tComp fr wi (tDG X.K ss gg) (tDT X.K gt) (tDE X.K ge) σ H R := by
  obtain ⟨wi, pi, h⟩ := h
  refine ⟨wi, pi, fun C0 H0 δ σ C H Q R rp g k => h C0 H0 δ σ C H _ _ rp g fun its J C1 H1 q e1 wk A hA => ?_⟩
  obtain ⟨hz, p, f, hf, q⟩ := q
  refine turns_of (gg := gg) (gt := gt) (ge := ge) (ss := ss) (fun C0 H0 δ σ C H v d Q R rp n g k => ⟨C0, H0, δ, C, d, Q, rp, n, g, k⟩) (fun C0 H0 δ σ C H Q R rp g k => ⟨C0, H0, δ, C, Q, rp, g, k⟩) (fun C0 H0 δ σ C H Q R rp g k => ⟨C0, H0, δ, C, Q, rp, g, k⟩) fo rp e1 wk hz hf q k hA
theorem df_compIf {ifs : List Expr} (ok : compOk X.env.scope scope X.N Nc fr = true) (fo : frOk fr ss = true) (hc : X.calm = true) (hi : DI X tg iter gi) (hg : ∀ Cc pins fp s3 H3, DG (cxC X scope Nc Cc pins fp s3 H3) tg ss gg)
    (ht : ∀ Cc pins fp s3 H3, DIfs (cxC X scope Nc Cc pins fp s3 H3) ifs gt) (he : ∀ Cc pins fp s3 H3, DE (cxC X scope Nc Cc pins fp s3 H3) elt ge) (hs : ∀ x, foldedSetIterable iter X.env x = pure x := by intro _; rfl) :
    DF X (.ListComp elt [⟨tg, iter, ifs, 0⟩] scope pos) (gCompIf fr gi gg gt ge) := by
  obtain ⟨wi, pi, h⟩ := comp_data (ifs := ifs) (gg := gg) (gt := gt) (ge := ge) hi fo
  exact ⟨_, pe_comp ok hc pi (fun a b c d e => (hg a b c d e).can) (fun a b c d e => (ht a b c d e).can) (fun a b c d e => (he a b c d e).can) hs, h⟩
end

/-! ### statements -/
structure DEnds where
  nx : DS → Prop
  rt : D → Prop
  bk : DS → Prop := fun _ => False
  ct : DS → Prop := fun _ => False
abbrev GS := DEnds → DS → Prop
structure Adm (K : PySem.W.Frag) (C0 H0 : Hp) (E : Ends) (De : DEnds) : Prop where
  nx : ∀ δ σ C H, Rep K C0 H0 δ σ C H → De.nx δ → E.nx σ H
  rt : ∀ d v C H, Ext C0 H0 C H → Den K C v d → De.rt d → E.rt v H
  bk : ∀ δ σ C H, Rep K C0 H0 δ σ C H → De.bk δ → E.bk σ H
  ct : ∀ δ σ C H, Rep K C0 H0 δ σ C H → De.ct δ → E.ct σ H
def DSt (X : Cx) (st : Stmt) (g : GS) : Prop := ∃ t, PS X st t ∧ ∀ C0 H0 δ σ C H De E, Rep X.K C0 H0 δ σ C H → g De δ → Adm X.K C0 H0 E De → t E σ H
def DSs (X : Cx) (sts : List Stmt) (g : GS) : Prop := ∃ t, PSs X sts t ∧ ∀ C0 H0 δ σ C H De E, Rep X.K C0 H0 δ σ C H → g De δ → Adm X.K C0 H0 E De → t E σ H
section
variable {X : Cx} {a b c e tg iter elt : Expr} {st : Stmt} {sts s2 : List Stmt} {pos : Pos} {ge : GE} {gi gf : GF} {gt : GT} {gg : GG} {g1 g2 : GS} {scope : Scope} {Nc : List Str} {fr : List (Option Nat)} {ss : List Nat}
abbrev gNext : GS := fun De δ => De.nx δ
def gSeq (g1 g2 : GS) : GS := fun De δ => g1 { De with nx := g2 De } δ
theorem dss_nil : DSs X [] gNext := ⟨_, pss_nil, fun C0 H0 δ σ C H De E rp g k => k.nx δ σ C H rp g⟩
theorem dss_cons (h1 : DSt X st g1) (h2 : DSs X sts g2) : DSs X (st :: sts) (gSeq g1 g2) := by
  obtain ⟨t1, p1, h1⟩ := h1
  obtain ⟨t2, p2, h2⟩ := h2
  refine ⟨_, pss_cons p1 p2, fun C0 H0 δ σ C H De E rp g k => h1 C0 H0 δ σ C H { De with nx := g2 De } { E with nx := t2 E } rp g ⟨fun δ' σ' C' H' rp' q => ?_, k.rt, k.bk, k.ct⟩⟩
  exact h2 C0 H0 δ' σ' C' H' De E rp' q k
theorem dss_one (h1 : DSt X st g1) : DSs X [st] g1 := by
  obtain ⟨t1, p1, h1⟩ := h1
  exact ⟨_, pss_one p1, h1⟩
/-- a list of one's own is from here on only read -/
def gFrz (i : Nat) (g : GS) : GS := fun De δ => match δ[i]? with
  | some (.ow ds) => g De (δ.set i (.im (.lst ds)))
  | _ => False
theorem dss_frz (i : Nat) (h : DSs X sts g1) : DSs X sts (gFrz i g1) := by
  obtain ⟨t, p, h⟩ := h
  refine ⟨t, p, fun C0 H0 δ σ C H De E rp g k => ?_⟩
  unfold gFrz at g
  split at g
  · rename_i ds e
    obtain ⟨C1, rp'⟩ := rp.freeze' e
    exact h C0 H0 _ σ C1 H De E rp' g k
  · exact g.elim
def gRet (ge : GE) : GS := fun De δ => ge δ De.rt
theorem ds_ret (he : DE X e ge) : DSt X (.Return (some e) pos) (gRet ge) := by
  obtain ⟨t, p, h⟩ := he
  exact ⟨_, ps_ret p, fun C0 H0 δ σ C H De E rp g k => h C0 H0 δ σ C H _ _ rp g fun d v C1 H1 q e1 n1 => k.rt d v C1 H1 (rp.ext.trans e1) n1 q⟩
def gIfS (gt : GT) (g1 g2 : GS) : GS := fun De δ => gt δ fun c => if c = true then g1 De δ else g2 De δ
theorem ds_if (hc : DT X c gt) (h1 : DSs X sts g1) (h2 : DSs X s2 g2) : DSt X (.If c sts s2 pos) (gIfS gt g1 g2) := by
  obtain ⟨t0, p0, h0⟩ := hc
  obtain ⟨t1, p1, h1⟩ := h1
  obtain ⟨t2, p2, h2⟩ := h2
  refine ⟨_, ps_if p0 p1 p2, fun C0 H0 δ σ C H De E rp g k => h0 C0 H0 δ σ C H _ _ rp g fun c C1 H1 q e1 => ?_⟩
  cases c with
  | true => exact iteT (h1 C0 H0 δ σ C1 H1 De E (rp.grow e1) (by simpa using q) k)
  | false => exact iteF (h2 C0 H0 δ σ C1 H1 De E (rp.grow e1) (by simpa using q) k)
/-- target = e -/
def gAsg (ge : GE) (gg : GG) : GS := fun De δ => ge δ fun d => gg d δ De.nx
theorem ds_asg (he : DE X e ge) (hg : DG X tg ss gg) (hp : ∀ {te : TE} {g : TG}, PE X e te → PG X tg g → PS X (.Assign [tg] e pos) (tAsg te g)) : DSt X (.Assign [tg] e pos) (gAsg ge gg) := by
  obtain ⟨t, p, h⟩ := he
  obtain ⟨t2, p2, h2⟩ := hg
  refine ⟨_, hp p p2, fun C0 H0 δ σ C H De E rp g k => h C0 H0 δ σ C H _ _ rp g fun d v C1 H1 q e1 n1 => ?_⟩
  exact h2 C0 H0 δ σ C1 H1 v d _ _ (rp.grow e1) n1 q fun δ' σ' q' rp' _ _ => k.nx δ' σ' C1 H1 rp' q'
/-- name = a new list, one's own -/
def gAsgO (i : Nat) (gf : GF) : GS := fun De δ => gf δ fun ds => De.nx (δ.set i (.ow ds))
theorem ds_asgO {i : Nat} {x : Str} {pos' : Pos} (he : DF X e gf) (hp : ∀ {te : TE}, PE X e te → PS X (.Assign [.Name x pos'] e pos) (tAsg te (gName i))) : DSt X (.Assign [.Name x pos'] e pos) (gAsgO i gf) := by
  obtain ⟨t, p, h⟩ := he
  refine ⟨_, hp p, fun C0 H0 δ σ C H De E rp g k => h C0 H0 δ σ C H _ _ rp g fun ds p xs C1 H1 q e1 hc hn hl hd => ?_⟩
  have rp1 := rp.grow e1
  refine k.nx _ _ C1 H1 (rp1.setO (rp.ext.hh.free hn) hc (fun j es hj ho z => ?_) hl hd) q
  obtain ⟨l, ys, a, _, _, d, _⟩ := rp.ow j es ho
  rw [z] at a
  cases a
  rw [hn] at d
  cases d
/-- xs.append(e) -/
def gApp (i : Nat) (ge : GE) : GS := fun De δ => match δ[i]? with
  | some (.ow ds) => ge δ fun d => ds.length < sizeLine ∧ De.nx (δ.set i (.ow (ds ++ [d])))
  | _ => False
theorem ds_app {i : Nat} {o : Expr} {nm : Str} {p2 p3 : Pos} (he : DE X e ge) (hp : ∀ {te : TE}, PE X e te → PS X (.Expr (.Call (.Attribute o nm p2) [e] [] p3) pos) (tDrop (tBM X.K "list" rAppend (tVar i) (tCons te tNil)))) : DSt X (.Expr (.Call (.Attribute o nm p2) [e] [] p3) pos) (gApp i ge) := by
  obtain ⟨t, p, h⟩ := he
  refine ⟨_, hp p, fun C0 H0 δ σ C H De E rp g k => ?_⟩
  unfold gApp at g
  split at g
  · rename_i ds eo
    obtain ⟨l, xs, a, b, c, d, f⟩ := rp.ow i ds eo
    refine ⟨.ref l, a, .inl ⟨rfl, xs, SqL.of d⟩, h C0 H0 δ σ C H _ _ rp g fun dv v C1 H1 q e1 n1 => ?_⟩
    have d1 := e1.hh _ _ d
    refine ⟨l, xs, v, rfl, rfl, d1, by rw [f.length]; exact q.1, k.nx _ σ C1 _ ((rp.grow e1).change eo a ((f.mono e1.cc).append (.cons n1 .nil))) q.2⟩
  · exact g.elim
/-- xs.extend(e) -/
def gExt (i : Nat) (gf : GF) : GS := fun De δ => match δ[i]? with
  | some (.ow ds) => gf δ fun es => ds.length + es.length ≤ sizeLine ∧ De.nx (δ.set i (.ow (ds ++ es)))
  | _ => False
theorem ds_ext {i : Nat} {o : Expr} {nm : Str} {p2 p3 : Pos} (he : DF X e gf) (hp : ∀ {te : TE}, PE X e te → PS X (.Expr (.Call (.Attribute o nm p2) [e] [] p3) pos) (tDrop (tBM X.K "list" rExtend (tVar i) (tCons te tNil)))) : DSt X (.Expr (.Call (.Attribute o nm p2) [e] [] p3) pos) (gExt i gf) := by
  obtain ⟨t, p, h⟩ := he
  refine ⟨_, hp p, fun C0 H0 δ σ C H De E rp g k => ?_⟩
  unfold gExt at g
  split at g
  · rename_i ds eo
    obtain ⟨l, xs, a, b, c, d, f⟩ := rp.ow i ds eo
    refine ⟨.ref l, a, .inl ⟨rfl, xs, SqL.of d⟩, h C0 H0 δ σ C H _ _ rp g fun es p ys C1 H1 q e1 hc hn hl hd => ?_⟩
    have d1 := e1.hh _ _ d
    refine ⟨l, p, xs, ys, rfl, rfl, d1, hl, by rw [f.length, hd.length]; exact q.1, k.nx _ σ C1 _ ((rp.grow e1).change eo a ((f.mono e1.cc).append hd)) q.2⟩
  · exact g.elim
/-- without a test -/
theorem df_comp (ok : compOk X.env.scope scope X.N Nc fr = true) (fo : frOk fr ss = true) (hc : X.calm = true) (hi : DI X tg iter gi) (hg : ∀ Cc pins fp s3 H3, DG (cxC X scope Nc Cc pins fp s3 H3) tg ss gg)
    (he : ∀ Cc pins fp s3 H3, DE (cxC X scope Nc Cc pins fp s3 H3) elt ge) (mg : ∀ d δ (P P' : DS → Prop), (∀ l, P l → P' l) → gg d δ P → gg d δ P') (hs : ∀ x, foldedSetIterable iter X.env x = pure x := by intro _; rfl) :
    DF X (.ListComp elt [⟨tg, iter, [], 0⟩] scope pos) (gComp fr gi gg ge) := by
  obtain ⟨wi, pi, h⟩ := hi
  refine ⟨_, pe_comp (g := tDG X.K ss gg) (tt := tDT X.K gYes) (te := tDE X.K ge) ok hc pi (fun a b c d e => (hg a b c d e).can) (fun a b c d e => (difs_nil (X := cxC X scope Nc a b c d e)).can) (fun a b c d e => (he a b c d e).can) hs, fun C0 H0 δ σ C H Q R rp g k => h C0 H0 δ σ C H _ _ rp g fun its J C1 H1 q e1 wk A hA => ?_⟩
  obtain ⟨hz, f, hf, q⟩ := q
  refine turns_of (gg := gg) (gt := gYes) (ge := ge) (ss := ss) (p := fun _ => true) (f := f) (Q := Q) (fun C0 H0 δ σ C H v d Q R rp n g k => ⟨C0, H0, δ, C, d, Q, rp, n, g, k⟩) (fun C0 H0 δ σ C H Q R rp g k => ⟨C0, H0, δ, C, Q, rp, g, k⟩) (fun C0 H0 δ σ C H Q R rp g k => ⟨C0, H0, δ, C, Q, rp, g, k⟩) fo rp e1 wk hz
    (fun d hd => mg d _ _ _ (fun δ2 q2 => ⟨rfl, fun _ => q2⟩) (hf d hd)) (by rw [List.filter_eq_self.mpr (fun _ _ => rfl)]; exact q) k hA
theorem ds_compO0 {i : Nat} {x : Str} {pos' pos'' : Pos} (ok : compOk X.env.scope scope X.N Nc fr = true) (fo : frOk fr ss = true) (hc : X.calm = true) (hN : X.N.Nodup) (hi : X.N[i]? = some x) (hx : Loc X.env.scope x) (hit : DI X tg iter gi) (hg : ∀ Cc pins fp s3 H3, DG (cxC X scope Nc Cc pins fp s3 H3) tg ss gg)
    (he : ∀ Cc pins fp s3 H3, DE (cxC X scope Nc Cc pins fp s3 H3) elt ge) (mg : ∀ d δ (P P' : DS → Prop), (∀ l, P l → P' l) → gg d δ P → gg d δ P') (hsw : swapsWith (.ListComp elt [⟨tg, iter, [], 0⟩] scope pos) (some (.Name x pos')) pos''.line X.env = pure true)
    (hs : ∀ x, foldedSetIterable iter X.env x = pure x := by intro _; rfl) (hf : X.fn x = true ∨ X.env.scope.names.lookup x = some .local := by first | exact .inl rfl | exact .inr rfl | assumption) :
    DSt X (.Assign [.Name x pos'] (.ListComp elt [⟨tg, iter, [], 0⟩] scope pos) pos'') (gAsgO i (gComp fr gi gg ge)) := by
  obtain ⟨wi, pi, h⟩ := hit
  refine ⟨_, ps_comp (g := tDG X.K ss gg) (tt := tDT X.K gYes) (te := tDE X.K ge) ok hc hN hi hx pi (fun a b c d e => (hg a b c d e).can) (fun a b c d e => (difs_nil (X := cxC X scope Nc a b c d e)).can) (fun a b c d e => (he a b c d e).can) hsw hs hf, fun C0 H0 δ σ C H De E rp g k => h C0 H0 δ σ C H _ _ rp g fun its J C1 H1 q e1 wk A hA => ?_⟩
  obtain ⟨hz, f, hf, q⟩ := q
  refine turns_of (gg := gg) (gt := gYes) (ge := ge) (ss := ss) (p := fun _ => true) (f := f) (Q := fun ds => De.nx (δ.set i (.ow ds))) (fun C0 H0 δ σ C H v d Q R rp n g k => ⟨C0, H0, δ, C, d, Q, rp, n, g, k⟩) (fun C0 H0 δ σ C H Q R rp g k => ⟨C0, H0, δ, C, Q, rp, g, k⟩) (fun C0 H0 δ σ C H Q R rp g k => ⟨C0, H0, δ, C, Q, rp, g, k⟩) fo rp e1 wk hz
    (fun d hd => mg d _ _ _ (fun δ2 q2 => ⟨rfl, fun _ => q2⟩) (hf d hd)) (by rw [List.filter_eq_self.mpr (fun _ _ => rfl)]; exact q) (fun ds p xs C1 H1 q e1 hc hn hl hd => ?_) hA
  have rp1 := rp.grow e1
  refine k.nx _ _ C1 H1 (rp1.setO (rp.ext.hh.free hn) hc (fun j es hj ho z => ?_) hl hd) q
  obtain ⟨l, ys, a, _, _, d, _⟩ := rp.ow j es ho
  rw [z] at a
  cases a
  rw [hn] at d
  cases d
theorem mono_nm {i : Nat} : ∀ d δ (P P' : DS → Prop), (∀ l, P l → P' l) → gNm i d δ P → gNm i d δ P' := fun _ _ _ _ h q => h _ q
theorem mono_nm2 {i j : Nat} : ∀ d δ (P P' : DS → Prop), (∀ l, P l → P' l) → gNm2 i j d δ P → gNm2 i j d δ P' := fun d δ P P' h q => by
  unfold gNm2 at q ⊢
  split at q
  · exact h _ q
  · exact q.elim
/-! ### loops -/
theorem Rep.rebase {K : PySem.W.Frag} {C0 H0 δ σ C H} (R : Rep K C0 H0 δ σ C H) : Rep K C H0 δ σ C H := ⟨R.len, ⟨R.ext.hh, Same.refl _, R.ext.ch, fun _ e _ => e⟩, R.im, R.ow, R.ap, R.dc⟩
theorem Ext.unbase {C0 H0 C1 H1 C H : Hp} (e : Ext C0 H0 C1 H1) (x : Ext C1 H0 C H) : Ext C0 H0 C H := ⟨x.hh, e.cc.trans x.cc, x.ch, fun b a n => x.ow b (e.ow b a n) n⟩
theorem Rep.unbase {K : PySem.W.Frag} {C0 H0 C1 H1 δ σ C H} (e : Ext C0 H0 C1 H1) (R : Rep K C1 H0 δ σ C H) : Rep K C0 H0 δ σ C H := ⟨R.len, e.unbase R.ext, R.im, R.ow, R.ap, R.dc⟩
/-- for x in ..: an invariant over the turn and the names -/
def gFor (gi : GF) (gg : GG) (gb : GS) : GS := fun De δ => gi δ fun its => ∃ P : Nat → DS → Prop, P 0 δ ∧ (∀ (i : Nat) d δ', its[i]? = some d → P i δ' → gg d δ' fun δ2 => gb { De with nx := P (i + 1), ct := P (i + 1), bk := De.nx } δ2) ∧ ∀ δ', P its.length δ' → De.nx δ'
theorem ds_for {gb : GS} (hc : X.calm = true) (hp : PassesOwn (model X.prog X.w) X.A X.env X.xe) (hi : DI X tg iter gi) (hg : DG X tg ss gg) (hb : DSs X sts gb) (hs : ∀ x, foldedSetIterable iter X.env x = pure x := by intro _; rfl) : DSt X (.For tg iter sts [] pos) (gFor gi gg gb) := by
  obtain ⟨wi, pi, h⟩ := hi
  obtain ⟨t2, p2, h2⟩ := hg
  obtain ⟨t3, p3, h3⟩ := hb
  refine ⟨_, ps_for hp hc pi p2 p3 hs, fun C0 H0 δ σ C H De E rp g k => h C0 H0 δ σ C H _ _ rp g fun its J C1 H1 q e1 wk => ?_⟩
  obtain ⟨P, P0, Pt, Pe⟩ := q
  have rp1 := rp.grow e1
  refine ⟨fun i m σ' H' => m = its.length - i ∧ i ≤ its.length ∧ ∃ δ' C', Rep X.K C1 H0 δ' σ' C' H' ∧ P i δ', ⟨_, rfl, Nat.zero_le _, δ, C1, rp1.rebase, P0⟩, ?_⟩
  rintro i m σ' H' ⟨rfl, hi, δ', C', rp', p⟩
  have W := wk C' H' rp'.ext.cc rp'.ch i
  by_cases hlt : i < its.length
  · have ed : its[i]? = some its[i] := by simp [hlt]
    obtain ⟨go, yl⟩ := W.1 _ ed
    refine .inr ⟨go, fun σ2 H2 => ∃ δ2 C2, Rep X.K C1 H0 δ2 σ2 C2 H2 ∧ P (i + 1) δ2, fun σ2 H2 ⟨δ2, C2, a, b⟩ => ⟨its.length - (i + 1), by omega, rfl, hlt, δ2, C2, a, b⟩, fun x H3 y => ?_⟩
    obtain ⟨C3, e3, n3⟩ := yl x H3 y
    refine h2 C1 H0 δ' σ' C3 H3 x its[i] _ _ (rp'.grow e3) n3 (Pt i _ δ' ed p) fun δ4 σ4 q4 rp4 _ _ => ?_
    refine h3 C1 H0 δ4 σ4 C3 H3 _ _ rp4 q4 ⟨fun δ5 σ5 C5 H5 a b => ⟨δ5, C5, a, b⟩, fun d v C5 H5 a b c => k.rt d v C5 H5 (rp1.ext.unbase a) b c, fun δ5 σ5 C5 H5 a b => k.nx δ5 σ5 C5 H5 (a.unbase rp1.ext) b, fun δ5 σ5 C5 H5 a b => ⟨δ5, C5, a, b⟩⟩
  · have e : i = its.length := by omega
    subst e
    exact .inl ⟨W.2 (Nat.le_refl _), k.nx δ' σ' C' H' (rp'.unbase rp1.ext) (Pe δ' p)⟩
end
/-! ### a def -/
def dstart (N : List Str) (ds : List D) : DS := ds.map Sl.im ++ List.replicate (N.length - ds.length) .un
theorem rep_start {K : PySem.W.Frag} {C H : Hp} {N : List Str} {vs : List V} {ds : List D} (ch : Same C H) (h : Dens K C vs ds) : Rep K C H (dstart N ds) (start N vs) C H := by
  have no : ∀ (i : Nat) es, (dstart N ds)[i]? ≠ some (.ow es) := fun i es e => by
    have := List.mem_of_getElem? e
    unfold dstart at this
    rcases List.mem_append.mp this with z | z
    · obtain ⟨d, _, q⟩ := List.mem_map.mp z
      cases q
    · have := List.eq_of_mem_replicate z
      cases this
  refine ⟨?_, Ext.refl ch, fun i d e => ?_, fun i es e => absurd e (no i es), fun i j es fs l _ e _ => absurd e (no i es), Dcs.none fun i x e => ?_⟩
  rotate_right
  · have := List.mem_of_getElem? e
    unfold dstart at this
    rcases List.mem_append.mp this with z | z
    · obtain ⟨d, _, q⟩ := List.mem_map.mp z
      rw [← q]
      rfl
    · rw [List.eq_of_mem_replicate z]
      rfl
  · unfold start dstart
    simp [h.length]
  · unfold dstart at e
    unfold start
    by_cases hi : i < ds.length
    · rw [List.getElem?_append_left (by simpa using hi), List.getElem?_map] at e
      cases e2 : ds[i]? with
      | none => rw [e2] at e; cases e
      | some d' =>
        rw [e2] at e
        cases e
        obtain ⟨v, ev, nv⟩ := h.get e2
        refine ⟨v, ?_, nv⟩
        rw [List.getElem?_append_left (by rw [List.length_map, h.length]; exact hi), List.getElem?_map, ev]
        rfl
    · rw [List.getElem?_append_right (by simpa using hi), List.getElem?_replicate] at e
      split at e <;> cases e
theorem fnD {P : Program} {w : World} {K : PySem.W.Frag} {mg : Str → Option Value} {base : Heap} {x qual : Str} {st : Stmt} {f : Addr} {fd : FuncData} {N ps : List Str} {k : Nat} {F : List D → Option D} {g : GS} (Fn : Fun K x qual st f fd) (S : FnScope N ps (defScope st))
    (hl : ∀ ds d, F ds = some d → ds.length = ps.length)
    (hb : ∀ (cdv : Value) (A : Around) (outer : List Env) (s : Shared) (H : Hp) (E : XK), Room k (A.deeper (envOfC qual (defScope st) s.heap.objs.size f cdv)) → DSs (cxOf CX0 P w K mg base N qual (defScope st) f cdv A outer s H E).nox (defBody st) g)
    (hv : ∀ ds d, F ds = some d → g { nx := fun _ => d = .non, rt := fun r => r = d } (dstart N ds)) (hm : mg x = some (.ref f)) (bi : Binds K fd ps []) : DFn P w K mg base (k + 1) x F := by
  refine ⟨f, fd, ps, Fn.ok S (fun vs H Q E h => ?_) (fun cdv A outer s H vs Q E hr h => ?_), hm, Fn.kp, bi⟩
  · obtain ⟨C, ds, d, _, n, e, _⟩ := h
    rw [n.length]
    exact hl ds d e
  · obtain ⟨C, ds, d, ch, n, e, q⟩ := h
    obtain ⟨t, p, h⟩ := hb cdv A outer s H E hr
    refine ⟨t, p, h C H (dstart N ds) (start N vs) C H _ _ (rep_start ch n) (hv ds d e) ⟨fun δ σ C' H' rp z => ?_, fun r v C' H' ex nv z => ?_, fun _ _ _ _ _ z => z.elim, fun _ _ _ _ _ z => z.elim⟩⟩
    · subst z
      exact q _ C' H' rp.ext (den_non.mpr rfl)
    · subst z
      exact q v C' H' ex nv
end L2
namespace L2
open PySem PySem.Spec PyProof.Rows
section
variable {X : Cx}
/-! ### list + list, whatever is read -/
def rCatL (K : PySem.W.Frag) : R2 := fun x y H Q => ∃ l b xs zs, x = .ref l ∧ y = .ref b ∧ SqL K H l xs ∧ SqL K H b zs ∧ xs.length + zs.length ≤ sizeLine ∧ ∀ p, H p = none → Q (.ref p) (upd H p (.lst (xs ++ zs)))
theorem op_catL : OpR X (binaryOp .Add) (rCatL X.K) := by
  intro pins s σ H x y v u Q I rx ry h
  obtain ⟨l, b, xs, zs, rfl, rfl, hH, hB, hz, q⟩ := h
  cases rx
  cases ry
  obtain ⟨its, r, pl, z⟩ := I.list hH
  obtain ⟨its2, r2, pl2, z2⟩ := I.list hB
  have hl := r.length
  have hl2 := r2.length
  obtain ⟨⟨cls, dd, data, sl⟩, ho, hc, n, hd⟩ := pl.isList
  obtain ⟨⟨cls2, dd2, data2, sl2⟩, ho2, hc2, n2, hd2⟩ := pl2.isList
  simp only at hc hd hc2 hd2
  subst hc hd hc2 hd2
  refine concat_meets ⟨_, ho, rfl⟩ ⟨_, ho2, rfl⟩ noFill_list_add seq_list_add PySem.F.slot_list_add PySem.F.entry_list_add (PySem.F.args_list_add_2 _ _) (list_addW l b its.toArray its2.toArray n n2 dd dd2 sl sl2 (by rw [List.size_toArray, List.size_toArray]; omega)) ⟨ho, ho2, ?_⟩
  have ea : its.toArray ++ its2.toArray = (its ++ its2).toArray := by simp
  rw [ea]
  exact ⟨.ref _, _, I.lnew (t' := s.toks) (r.append r2) (by rw [List.length_append]; omega), rfl, q _ I.fresh⟩
variable {a b c e : Expr} {es : List Expr} {pos : Pos} {ga gb : GE}
def gCatL (ga gb : GE) : GF := fun δ Q => ga δ fun x => gb δ fun y => match x, y with
  | .lst xs, .lst ys => xs.length + ys.length ≤ sizeLine ∧ Q (xs ++ ys)
  | _, _ => False
theorem df_cat (ha : DE X a ga) (hb : DE X b gb) : DF X (.BinOp a .Add b pos) (gCatL ga gb) := by
  obtain ⟨t1, p1, h1⟩ := ha
  obtain ⟨t2, p2, h2⟩ := hb
  refine ⟨_, pe_op op_catL p1 p2, fun C0 H0 δ σ C H Q R rp g k => ?_⟩
  refine h1 C0 H0 δ σ C H _ _ rp g fun d v C1 H1 q e1 n1 => h2 C0 H0 δ σ C1 H1 _ _ (rp.grow e1) q fun d2 v2 C2 H2 q2 e2 n2 => ?_
  have n1' := n1.mono e2.cc
  have e12 := e1.trans e2
  cases d with
  | lst ds =>
    cases d2 with
    | lst es =>
      obtain ⟨p, xs, rfl, hx, hd⟩ := den_lst.mp n1'
      obtain ⟨p', ys, rfl, hy, he⟩ := den_lst.mp n2
      have q2' : ds.length + es.length ≤ sizeLine ∧ Q (ds ++ es) := q2
      exact ⟨p, p', xs, ys, rfl, rfl, e2.ch.seq hx, e2.ch.seq hy, by rw [hd.length, he.length]; exact q2'.1, fun l hl => k _ l _ C2 _ q2'.2 (e12.trans (Ext.newO e2.ch hl)) (e2.ch.free hl) (e12.hh.free hl) upd_same (hd.append he)⟩
    | _ => exact q2.elim
  | _ => exact q2.elim
end

/-! ### == and != of trees -/
mutual
def eqD : D → D → Option Bool
  | .int i, .int j => some (i == j)
  | .bl i, .bl j => some (i == j)
  | .str i, .str j => some (i == j)
  | .non, .non => some true
  | .tup xs, .tup ys => (eqDs xs ys).map fun b => b && xs.length == ys.length
  | .lst xs, .lst ys => if xs.length = ys.length then eqDs xs ys else some false
  | _, _ => none
def eqDs : List D → List D → Option Bool
  | x :: xs, y :: ys => match eqD x y, eqDs xs ys with
    | some a, some b => some (a && b)
    | _, _ => none
  | _, _ => some true
end
mutual
def dep : D → Nat
  | .tup ds => deps ds + 1
  | .lst ds => deps ds + 1
  | _ => 0
def deps : List D → Nat
  | [] => 0
  | d :: ds => max (dep d) (deps ds)
end
mutual
theorem eqD_self : ∀ d : D, eqD d d = some true
  | .int i => by simp [eqD]
  | .bl i => by simp [eqD]
  | .str i => by simp [eqD]
  | .non => by simp [eqD]
  | .tup ds => by simp [eqD, eqDs_self ds]
  | .lst ds => by simp [eqD, eqDs_self ds]
theorem eqDs_self : ∀ ds : List D, eqDs ds ds = some true
  | [] => by simp [eqDs]
  | d :: ds => by simp [eqDs, eqD_self d, eqDs_self ds]
end
/-- by places -/
theorem eqDs_at : ∀ {xs ys : List D} {r : Bool}, eqDs xs ys = some r → ∃ f : Nat → Bool, (∀ (j : Nat) x y, xs[j]? = some x → ys[j]? = some y → eqD x y = some (f j)) ∧ r = (List.range (min xs.length ys.length)).all f
  | [], ys, r, h => by
    refine ⟨fun _ => true, fun j x y e => by simp at e, ?_⟩
    have : r = true := by simpa [eqDs] using h.symm
    simp [this]
  | x :: xs, [], r, h => by
    refine ⟨fun _ => true, fun j x y _ e => by simp at e, ?_⟩
    have : r = true := by simpa [eqDs] using h.symm
    simp [this]
  | x :: xs, y :: ys, r, h => by
    rw [eqDs] at h
    cases e1 : eqD x y with
    | none => rw [e1] at h; cases h
    | some a =>
      cases e2 : eqDs xs ys with
      | none => rw [e1, e2] at h; cases h
      | some b =>
        rw [e1, e2] at h
        obtain ⟨f, hf, hb⟩ := eqDs_at e2
        refine ⟨fun j => match j with
          | 0 => a
          | j + 1 => f j, fun j x' y' h1 h2 => ?_, ?_⟩
        · cases j with
          | zero => cases h1; cases h2; exact e1
          | succ j => exact hf j x' y' h1 h2
        · have : r = (a && b) := (Option.some.inj h).symm
          rw [this, hb, List.length_cons, List.length_cons, Nat.succ_min_succ, List.range_succ_eq_map, List.all_cons, List.all_map]
          rfl
theorem deps_at : ∀ {xs : List D} {j : Nat} {x : D}, xs[j]? = some x → dep x ≤ deps xs
  | [], j, x, h => by simp at h
  | y :: ys, 0, x, h => by
    cases h
    rw [deps]
    exact Nat.le_max_left _ _
  | y :: ys, j + 1, x, h => by
    rw [deps]
    exact Nat.le_trans (deps_at (xs := ys) (j := j) h) (Nat.le_max_right _ _)
section
variable {X : Cx} {pins : List (Addr × Obj)} {σ : St} {H C : Hp} {s : Shared}
mutual
theorem den_inj (I : Inv X pins σ H s) (ch : Same C H) : ∀ {v : V} (d e : D), Den X.K C v d → Den X.K C v e → d = e
  | v, .int i, e, h, h' => by
    have z := den_int.mp h
    subst z
    cases e with
    | int j => have z := den_int.mp h'; cases z; rfl
    | bl j => have z := den_bl.mp h'; cases z
    | non => have z := den_non.mp h'; cases z
    | str j => have z := den_str.mp h'; cases z
    | tup j => obtain ⟨_, _, z, _⟩ := den_tup.mp h'; cases z
    | lst j => obtain ⟨_, _, z, _⟩ := den_lst.mp h'; cases z
  | v, .bl i, e, h, h' => by
    have z := den_bl.mp h
    subst z
    cases e with
    | int j => have z := den_int.mp h'; cases z
    | bl j => have z := den_bl.mp h'; cases z; rfl
    | non => have z := den_non.mp h'; cases z
    | str j => have z := den_str.mp h'; cases z
    | tup j => obtain ⟨_, _, z, _⟩ := den_tup.mp h'; cases z
    | lst j => obtain ⟨_, _, z, _⟩ := den_lst.mp h'; cases z
  | v, .non, e, h, h' => by
    have z := den_non.mp h
    subst z
    cases e with
    | int j => have z := den_int.mp h'; cases z
    | bl j => have z := den_bl.mp h'; cases z
    | non => rfl
    | str j => have z := den_str.mp h'; cases z
    | tup j => obtain ⟨_, _, z, _⟩ := den_tup.mp h'; cases z
    | lst j => obtain ⟨_, _, z, _⟩ := den_lst.mp h'; cases z
  | v, .str i, e, h, h' => by
    have z := den_str.mp h
    subst z
    cases e with
    | int j => have z := den_int.mp h'; cases z
    | bl j => have z := den_bl.mp h'; cases z
    | non => have z := den_non.mp h'; cases z
    | str j => have z := den_str.mp h'; cases z; rfl
    | tup j => obtain ⟨_, _, z, _⟩ := den_tup.mp h'; cases z
    | lst j => obtain ⟨_, _, z, _⟩ := den_lst.mp h'; cases z
  | v, .tup ds, e, h, h' => by
    obtain ⟨a, xs, rfl, hx, hd⟩ := den_tup.mp h
    cases e with
    | int j => have z := den_int.mp h'; cases z
    | bl j => have z := den_bl.mp h'; cases z
    | non => have z := den_non.mp h'; cases z
    | str j => have z := den_str.mp h'; cases z
    | tup es =>
      obtain ⟨a', ys, z, hy, he⟩ := den_tup.mp h'
      cases z
      have q := I.tuple_inj (ch.seqT hx) (ch.seqT hy)
      subst q
      rw [dens_inj I ch ds es hd he]
    | lst es =>
      obtain ⟨a', ys, z, hy, he⟩ := den_lst.mp h'
      cases z
      obtain ⟨its, _, ⟨o, h1, h2, _⟩, _⟩ := I.tuple (ch.seqT hx)
      obtain ⟨its2, _, pl, _⟩ := I.list (ch.seq hy)
      obtain ⟨o2, h3, h4, _⟩ := pl.isList
      rw [h1] at h3
      cases h3
      rw [h2] at h4
      exact absurd h4 (by decide)
  | v, .lst ds, e, h, h' => by
    obtain ⟨a, xs, rfl, hx, hd⟩ := den_lst.mp h
    cases e with
    | int j => have z := den_int.mp h'; cases z
    | bl j => have z := den_bl.mp h'; cases z
    | non => have z := den_non.mp h'; cases z
    | str j => have z := den_str.mp h'; cases z
    | lst es =>
      obtain ⟨a', ys, z, hy, he⟩ := den_lst.mp h'
      cases z
      have q := I.list_inj (ch.seq hx) (ch.seq hy)
      subst q
      rw [dens_inj I ch ds es hd he]
    | tup es =>
      obtain ⟨a', ys, z, hy, he⟩ := den_tup.mp h'
      cases z
      obtain ⟨its, _, ⟨o, h1, h2, _⟩, _⟩ := I.tuple (ch.seqT hy)
      obtain ⟨its2, _, pl, _⟩ := I.list (ch.seq hx)
      obtain ⟨o2, h3, h4, _⟩ := pl.isList
      rw [h1] at h3
      cases h3
      rw [h2] at h4
      exact absurd h4 (by decide)
theorem dens_inj (I : Inv X pins σ H s) (ch : Same C H) : ∀ {vs : List V} (ds es : List D), Dens X.K C vs ds → Dens X.K C vs es → ds = es
  | vs, [], es, h, h' => by
    have z := dens_nil.mp h
    subst z
    cases es with
    | nil => rfl
    | cons e es => obtain ⟨_, _, z, _⟩ := dens_cons.mp h'; cases z
  | vs, d :: ds, es, h, h' => by
    obtain ⟨x, xs, rfl, n, t⟩ := dens_cons.mp h
    cases es with
    | nil => have z := dens_nil.mp h'; cases z
    | cons e es =>
      obtain ⟨_, _, z, n', t'⟩ := dens_cons.mp h'
      cases z
      rw [den_inj I ch d e n n', dens_inj I ch ds es t t']
end
theorem vals_at {xs : List V} {its : List Value} (r : Vals xs its) {j : Nat} (h : j < its.toArray.size) : ∃ x, xs[j]? = some x ∧ RelV x its.toArray[j] := by
  have h' : j < its.length := by simpa using h
  have hx : j < xs.length := by rw [r.length]; exact h'
  have e : xs[j]? = some xs[j] := by simp [hx]
  obtain ⟨u, e1, e2⟩ := r.get e
  refine ⟨xs[j], e, ?_⟩
  have : u = its.toArray[j] := by
    have e3 : its[j]? = some its[j] := by simp [h']
    rw [e3] at e1
    cases e1
    simp
  rw [← this]
  exact e2
/-- eqBool of two trees; n: how deep the left one is -/
theorem eqAt_D (I : Inv X pins σ H s) (ch : Same C H) : ∀ (n : Nat) (d e : D) (r : Bool) (A : Around) (x y : V) (u v : Value), dep d ≤ n → A.units + n < cLine → eqD d e = some r → RelV x u → RelV y v → Den X.K C x d → Den X.K C y e → SeqAt.EqAt A s u v r := by
  intro n
  induction n with
  | zero =>
    intro d e r A x y u v hn hu he rx ry nx ny
    cases d with
    | int i =>
      cases e with
      | int j =>
        rw [eqD] at he
        cases he
        have z := den_int.mp nx
        have z2 := den_int.mp ny
        subst z z2
        obtain ⟨t, rfl⟩ := rx
        obtain ⟨t', rfl⟩ := ry
        exact SeqAt.EqAt.int_int i t j t'
      | _ => cases he
    | bl i =>
      cases e with
      | bl j =>
        rw [eqD] at he
        cases he
        have z := den_bl.mp nx
        have z2 := den_bl.mp ny
        subst z z2
        cases rx
        cases ry
        exact SeqAt.EqAt.bool_bool i j
      | _ => cases he
    | str i =>
      cases e with
      | str j =>
        rw [eqD] at he
        cases he
        have z := den_str.mp nx
        have z2 := den_str.mp ny
        subst z z2
        obtain ⟨t, rfl⟩ := rx
        obtain ⟨t', rfl⟩ := ry
        exact SeqAt.EqAt.str_str i t j t'
      | _ => cases he
    | non =>
      cases e with
      | non =>
        rw [eqD] at he
        cases he
        have z := den_non.mp nx
        have z2 := den_non.mp ny
        subst z z2
        cases rx
        cases ry
        exact SeqAt.EqAt.same _
      | _ => cases he
    | tup ds => rw [dep] at hn; omega
    | lst ds => rw [dep] at hn; omega
  | succ n ih =>
    intro d e r A x y u v hn hu he rx ry nx ny
    cases d with
    | tup ds =>
      cases e with
      | tup es =>
        obtain ⟨a, xs, rfl, hx, hd⟩ := den_tup.mp nx
        obtain ⟨b, ys, rfl, hy, hee⟩ := den_tup.mp ny
        cases rx
        cases ry
        by_cases hab : a = b
        · subst hab
          have q := den_inj I ch _ _ nx ny
          rw [← q, eqD_self] at he
          cases he
          exact SeqAt.EqAt.same _
        · refine SeqAt.EqAt.of_refs hab ?_
          rw [eqD] at he
          cases e1 : eqDs ds es with
          | none => rw [e1] at he; cases he
          | some r0 =>
            rw [e1] at he
            obtain ⟨f, hf, hr⟩ := eqDs_at e1
            obtain ⟨its, r1, t1, _⟩ := I.tuple (ch.seqT hx)
            obtain ⟨its2, r2, t2, _⟩ := I.tuple (ch.seqT hy)
            have l1 : its.toArray.size = ds.length := by rw [List.size_toArray, ← r1.length, hd.length]
            have l2 : its2.toArray.size = es.length := by rw [List.size_toArray, ← r2.length, hee.length]
            have q := SeqAt.RcAt.tuples (A := A) (e := f) t1 t2 (by omega) fun j h1 h2 => by
              obtain ⟨x', ex, rx'⟩ := vals_at r1 h1
              obtain ⟨y', ey, ry'⟩ := vals_at r2 h2
              have hj1 : j < ds.length := by omega
              have hj2 : j < es.length := by omega
              have ed : ds[j]? = some ds[j] := by simp [hj1]
              have ee : es[j]? = some es[j] := by simp [hj2]
              obtain ⟨x2, ex2, nx2⟩ := hd.get ed
              obtain ⟨y2, ey2, ny2⟩ := hee.get ee
              rw [ex] at ex2
              cases ex2
              rw [ey] at ey2
              cases ey2
              refine ih ds[j] es[j] (f j) A.in1 x' y' _ _ ?_ (by show A.units + 1 + n < cLine; omega) (hf j _ _ ed ee) rx' ry' nx2 ny2
              have := deps_at ed
              rw [dep] at hn
              omega
            rw [l1, l2] at q
            have er : r = ((List.range (min ds.length es.length)).all f && ds.length == es.length) := by
              rw [← hr]
              exact (Option.some.inj he).symm
            rw [er]
            exact q
      | _ => cases he
    | lst ds =>
      cases e with
      | lst es =>
        obtain ⟨a, xs, rfl, hx, hd⟩ := den_lst.mp nx
        obtain ⟨b, ys, rfl, hy, hee⟩ := den_lst.mp ny
        cases rx
        cases ry
        by_cases hab : a = b
        · subst hab
          have q := den_inj I ch _ _ nx ny
          rw [← q, eqD_self] at he
          cases he
          exact SeqAt.EqAt.same _
        · refine SeqAt.EqAt.of_refs hab ?_
          rw [eqD] at he
          obtain ⟨its, r1, p1, _⟩ := I.list (ch.seq hx)
          obtain ⟨its2, r2, p2, _⟩ := I.list (ch.seq hy)
          have l1 : its.toArray.size = ds.length := by rw [List.size_toArray, ← r1.length, hd.length]
          have l2 : its2.toArray.size = es.length := by rw [List.size_toArray, ← r2.length, hee.length]
          by_cases hlen : ds.length = es.length
          · rw [if_pos hlen] at he
            obtain ⟨f, hf, hr⟩ := eqDs_at he
            have q := SeqAt.RcAt.lists (A := A) (e := f) p1.isList p2.isList (by rw [l1, l2]; exact hlen) (by omega) fun j h1 h2 => by
              obtain ⟨x', ex, rx'⟩ := vals_at r1 h1
              obtain ⟨y', ey, ry'⟩ := vals_at r2 h2
              have hj1 : j < ds.length := by omega
              have hj2 : j < es.length := by omega
              have ed : ds[j]? = some ds[j] := by simp [hj1]
              have ee : es[j]? = some es[j] := by simp [hj2]
              obtain ⟨x2, ex2, nx2⟩ := hd.get ed
              obtain ⟨y2, ey2, ny2⟩ := hee.get ee
              rw [ex] at ex2
              cases ex2
              rw [ey] at ey2
              cases ey2
              refine ih ds[j] es[j] (f j) A.in1 x' y' _ _ ?_ (by show A.units + 1 + n < cLine; omega) (hf j _ _ ed ee) rx' ry' nx2 ny2
              have := deps_at ed
              rw [dep] at hn
              omega
            rw [l1] at q
            rw [hr, ← hlen, Nat.min_self]
            exact q
          · rw [if_neg hlen] at he
            cases he
            exact SeqAt.RcAt.lists_lengths p1.isList p2.isList (by rw [l1, l2]; simpa using hlen) (by omega)
      | _ => cases he
    | int i => exact ih (.int i) e r A x y u v (by simp [dep]) (by omega) he rx ry nx ny
    | bl i => exact ih (.bl i) e r A x y u v (by simp [dep]) (by omega) he rx ry nx ny
    | non => exact ih .non e r A x y u v (by simp [dep]) (by omega) he rx ry nx ny
    | str i => exact ih (.str i) e r A x y u v (by simp [dep]) (by omega) he rx ry nx ny
/-- the compare itself -/
theorem rcAt_D (I : Inv X pins σ H s) (ch : Same C H) (n : Nat) (d e : D) (r : Bool) (A : Around) (x y : V) (u v : Value) (hn : dep d ≤ n) (hu : A.units + n < cLine) (he : eqD d e = some r) (rx : RelV x u) (ry : RelV y v) (nx : Den X.K C x d) (ny : Den X.K C y e) :
    SeqAt.RcAt A s u v r ∧ SeqAt.RcNeAt A s u v (!r) := by
  cases d with
  | int i =>
    cases e with
    | int j =>
      rw [eqD] at he
      cases he
      have z := den_int.mp nx
      have z2 := den_int.mp ny
      subst z z2
      obtain ⟨t, rfl⟩ := rx
      obtain ⟨t', rfl⟩ := ry
      exact ⟨SeqAt.RcAt.int_int i t j t', SeqAt.RcNeAt.int_int i t j t'⟩
    | _ => cases he
  | bl i =>
    cases e with
    | bl j =>
      rw [eqD] at he
      cases he
      have z := den_bl.mp nx
      have z2 := den_bl.mp ny
      subst z z2
      cases rx
      cases ry
      exact ⟨SeqAt.RcAt.bool_bool i j, SeqAt.RcNeAt.bool_bool i j⟩
    | _ => cases he
  | str i =>
    cases e with
    | str j =>
      rw [eqD] at he
      cases he
      have z := den_str.mp nx
      have z2 := den_str.mp ny
      subst z z2
      obtain ⟨t, rfl⟩ := rx
      obtain ⟨t', rfl⟩ := ry
      exact ⟨SeqAt.RcAt.str_str i t j t', SeqAt.RcNeAt.str_str i t j t'⟩
    | _ => cases he
  | non =>
    cases e with
    | non =>
      rw [eqD] at he
      cases he
      have z := den_non.mp nx
      have z2 := den_non.mp ny
      subst z z2
      cases rx
      cases ry
      exact ⟨SeqAt.RcAt.none_none, SeqAt.RcNeAt.none_none⟩
    | _ => cases he
  | tup ds =>
    cases e with
    | tup es =>
      obtain ⟨a, xs, rfl, hx, hd⟩ := den_tup.mp nx
      obtain ⟨b, ys, rfl, hy, hee⟩ := den_tup.mp ny
      cases rx
      cases ry
      rw [eqD] at he
      cases e1 : eqDs ds es with
      | none => rw [e1] at he; cases he
      | some r0 =>
        rw [e1] at he
        obtain ⟨f, hf, hr⟩ := eqDs_at e1
        obtain ⟨its, r1, t1, _⟩ := I.tuple (ch.seqT hx)
        obtain ⟨its2, r2, t2, _⟩ := I.tuple (ch.seqT hy)
        have l1 : its.toArray.size = ds.length := by rw [List.size_toArray, ← r1.length, hd.length]
        have l2 : its2.toArray.size = es.length := by rw [List.size_toArray, ← r2.length, hee.length]
        rw [dep] at hn
        have hin : ∀ j (h1 : j < its.toArray.size) (h2 : j < its2.toArray.size), SeqAt.EqAt A.in1 s its.toArray[j] its2.toArray[j] (f j) := fun j h1 h2 => by
          obtain ⟨x', ex, rx'⟩ := vals_at r1 h1
          obtain ⟨y', ey, ry'⟩ := vals_at r2 h2
          have hj1 : j < ds.length := by omega
          have hj2 : j < es.length := by omega
          have ed : ds[j]? = some ds[j] := by simp [hj1]
          have ee : es[j]? = some es[j] := by simp [hj2]
          obtain ⟨x2, ex2, nx2⟩ := hd.get ed
          obtain ⟨y2, ey2, ny2⟩ := hee.get ee
          rw [ex] at ex2
          cases ex2
          rw [ey] at ey2
          cases ey2
          have := deps_at ed
          exact eqAt_D I ch (n - 1) ds[j] es[j] (f j) A.in1 x' y' _ _ (by omega) (by show A.units + 1 + (n - 1) < cLine; omega) (hf j _ _ ed ee) rx' ry' nx2 ny2
        have q := SeqAt.RcAt.tuples (A := A) (e := f) t1 t2 (by omega) hin
        have q' := SeqAt.RcNeAt.tuples (A := A) (e := f) t1 t2 (by omega) hin
        rw [l1, l2] at q q'
        have er : r = ((List.range (min ds.length es.length)).all f && ds.length == es.length) := by
          rw [← hr]
          exact (Option.some.inj he).symm
        rw [er]
        exact ⟨q, q'⟩
    | _ => cases he
  | lst ds =>
    cases e with
    | lst es =>
      obtain ⟨a, xs, rfl, hx, hd⟩ := den_lst.mp nx
      obtain ⟨b, ys, rfl, hy, hee⟩ := den_lst.mp ny
      cases rx
      cases ry
      rw [eqD] at he
      obtain ⟨its, r1, p1, _⟩ := I.list (ch.seq hx)
      obtain ⟨its2, r2, p2, _⟩ := I.list (ch.seq hy)
      have l1 : its.toArray.size = ds.length := by rw [List.size_toArray, ← r1.length, hd.length]
      have l2 : its2.toArray.size = es.length := by rw [List.size_toArray, ← r2.length, hee.length]
      rw [dep] at hn
      by_cases hlen : ds.length = es.length
      · rw [if_pos hlen] at he
        obtain ⟨f, hf, hr⟩ := eqDs_at he
        have hin : ∀ j (h1 : j < its.toArray.size) (h2 : j < its2.toArray.size), SeqAt.EqAt A.in1 s its.toArray[j] its2.toArray[j] (f j) := fun j h1 h2 => by
          obtain ⟨x', ex, rx'⟩ := vals_at r1 h1
          obtain ⟨y', ey, ry'⟩ := vals_at r2 h2
          have hj1 : j < ds.length := by omega
          have hj2 : j < es.length := by omega
          have ed : ds[j]? = some ds[j] := by simp [hj1]
          have ee : es[j]? = some es[j] := by simp [hj2]
          obtain ⟨x2, ex2, nx2⟩ := hd.get ed
          obtain ⟨y2, ey2, ny2⟩ := hee.get ee
          rw [ex] at ex2
          cases ex2
          rw [ey] at ey2
          cases ey2
          have := deps_at ed
          exact eqAt_D I ch (n - 1) ds[j] es[j] (f j) A.in1 x' y' _ _ (by omega) (by show A.units + 1 + (n - 1) < cLine; omega) (hf j _ _ ed ee) rx' ry' nx2 ny2
        have q := SeqAt.RcAt.lists (A := A) (e := f) p1.isList p2.isList (by rw [l1, l2]; exact hlen) (by omega) hin
        have q' := SeqAt.RcNeAt.lists (A := A) (e := f) p1.isList p2.isList (by rw [l1, l2]; exact hlen) (by omega) hin
        rw [l1] at q q'
        rw [hr, ← hlen, Nat.min_self]
        exact ⟨q, q'⟩
      · rw [if_neg hlen] at he
        cases he
        exact ⟨SeqAt.RcAt.lists_lengths p1.isList p2.isList (by rw [l1, l2]; simpa using hlen) (by omega), SeqAt.RcNeAt.lists_lengths p1.isList p2.isList (by rw [l1, l2]; simpa using hlen) (by omega)⟩
    | _ => cases he
end
section
variable {X : Cx}
def oEq : GO := fun x y Q => dep x ≤ 32 ∧ match eqD x y with
  | some b => Q (.bl b)
  | none => False
def oNe : GO := fun x y Q => dep x ≤ 32 ∧ match eqD x y with
  | some b => Q (.bl (!b))
  | none => False
def rEqD (K : PySem.W.Frag) (neg : Bool) : R2 := fun x y H R => ∃ C d e b, Same C H ∧ Den K C x d ∧ Den K C y e ∧ eqD d e = some b ∧ dep d ≤ 32 ∧ R (.bl (if neg then !b else b)) H
theorem do_eq (hu : X.A.units + 64 < cLine) : DOp X (compareOp .Eq) oEq := by
  refine ⟨rEqD X.K false, fun pins s σ H x y v u Q I rx ry h => ?_, fun x y dx dy C H Q R ch n1 n2 q k => ?_⟩
  · obtain ⟨C, d, e, b, ch, nx, ny, he, hd, q⟩ := h
    exact (rcAt_D I ch 32 d e b X.A x y v u hd (by omega) he rx ry nx ny).1 _ _ _ _ ⟨.bl b, H, I, rfl, q⟩
  · obtain ⟨hd, q⟩ := q
    cases z : eqD dx dy with
    | none => rw [z] at q; exact q.elim
    | some b => rw [z] at q; exact ⟨C, dx, dy, b, ch, n1, n2, z, hd, k _ _ C H q (Ext.refl ch) (den_bl.mpr rfl)⟩
theorem do_ne (hu : X.A.units + 64 < cLine) : DOp X (compareOp .NotEq) oNe := by
  refine ⟨rEqD X.K true, fun pins s σ H x y v u Q I rx ry h => ?_, fun x y dx dy C H Q R ch n1 n2 q k => ?_⟩
  · obtain ⟨C, d, e, b, ch, nx, ny, he, hd, q⟩ := h
    exact (rcAt_D I ch 32 d e b X.A x y v u hd (by omega) he rx ry nx ny).2 _ _ _ _ ⟨.bl (!b), H, I, rfl, q⟩
  · obtain ⟨hd, q⟩ := q
    cases z : eqD dx dy with
    | none => rw [z] at q; exact q.elim
    | some b => rw [z] at q; exact ⟨C, dx, dy, b, ch, n1, n2, z, hd, k _ _ C H q (Ext.refl ch) (den_bl.mpr rfl)⟩
/-! ### sorted of ints -/
theorem ints_vals : ∀ {us : List Value} {ns : List Int}, IntsAre us ns → Vals (ns.map V.int) us
  | _, _, .nil => .nil
  | _, _, .cons _ t h => .cons ⟨_, rfl⟩ (ints_vals h)
theorem call_sorted : CallR X (.builtin "sorted") (fun xs H Q => ∃ (p : Addr) (ns : List Int), xs = [.ref p] ∧ SqL X.K H p (ns.map V.int) ∧ ns.length < 64 ∧ ∀ ms : List Int, ms.Perm ns → ms.Pairwise (· ≤ ·) → ∀ l, H l = none → Q (.ref l) (upd H l (.lst (ms.map V.int)))) := by
  intro pins s σ H xs us Q I r h
  obtain ⟨p, ns, rfl, hq, h64, q⟩ := h
  obtain ⟨u, rfl, rx⟩ := vals1 r
  cases rx
  obtain ⟨its, r', pl, hz⟩ := I.list hq
  have hlen := r'.length
  rw [List.length_map] at hlen
  refine sorted_ints pl.isList (intsAre_of r') (by omega) fun out ms a1 a2 a3 => ?_
  obtain ⟨e, he⟩ := sortedAll_at s.heap its out
  have fr : H (s.heap.objs.size + 1) = none := I.hok.fresh (Nat.le_succ _)
  have hl2 : (ms.map V.int).length ≤ sizeLine := by
    rw [List.length_map, a2.length_eq]
    have : (64 : Nat) ≤ sizeLine := by decide
    omega
  refine ⟨.ref (s.heap.objs.size + 1), _, I.laid (t' := s.toks) (o := .lst (ms.map V.int)) (fun b ob z => sortedAll_old z) (Nat.le_succ _) ⟨hl2, out.toList, e, ints_vals a1, ?_⟩, rfl, q ms a2 a3 _ fr⟩
  rw [he]
/-- the ints of a list -/
def intsD : List D → Option (List Int)
  | [] => some []
  | .int b :: r => (intsD r).map (b :: ·)
  | _ :: _ => none
theorem ints_eq : ∀ {ds : List D} {bs : List Int}, intsD ds = some bs → ds = bs.map D.int
  | [], bs, h => by cases h; rfl
  | .int b :: r, bs, h => by
    unfold intsD at h
    cases e : intsD r with
    | none => rw [e] at h; cases h
    | some cs => rw [e] at h; cases h; rw [List.map_cons, ← ints_eq e]
  | .bl _ :: _, _, h => by cases h
  | .non :: _, _, h => by cases h
  | .str _ :: _, _, h => by cases h
  | .tup _ :: _, _, h => by cases h
  | .lst _ :: _, _, h => by cases h
theorem ints_map (bs : List Int) : intsD (bs.map D.int) = some bs := by
  induction bs with
  | nil => rfl
  | cons b bs ih => rw [List.map_cons, intsD, ih]; rfl
theorem dens_ints {K : PySem.W.Frag} {C : Hp} (ns : List Int) : Dens K C (ns.map V.int) (ns.map D.int) := by
  induction ns with
  | nil => exact .nil
  | cons n ns ih => exact .cons (den_int.mpr rfl) ih
def cSorted : List D → (List D → Prop) → Prop := fun ds Q => match ds with
  | [.lst xs] => match intsD xs with
    | some ns => ns.length < 64 ∧ ∀ ms : List Int, ms.Perm ns → ms.Pairwise (· ≤ ·) → Q (ms.map D.int)
    | none => False
  | _ => False
theorem dc_sorted : DCallF X (.builtin "sorted") cSorted := by
  refine ⟨_, call_sorted, fun xs ds C H Q R ch n q k => ?_⟩
  unfold cSorted at q
  split at q
  · split at q
    · rename_i ns e
      obtain ⟨v, rfl, n1⟩ := dens_one n
      obtain ⟨p, ys, rfl, hy, hd⟩ := den_lst.mp n1
      rw [ints_eq e] at hd
      rw [hd.ints] at hy
      exact ⟨p, ns, rfl, ch.seq hy, q.1, fun ms a b l hl => k _ l _ C _ (q.2 ms a b) (Ext.newO ch hl) (ch.free hl) hl upd_same (dens_ints ms)⟩
    · exact q.elim
  · exact q.elim
end
end L2
namespace L2
open PySem PySem.Spec PyProof.Rows
/-! ### zip(a, b): a, b lists or tuples -/
def At (h : Heap) (it src : Addr) (k : Nat) (xs : Array Value) : Prop := (h.IsListIter it src k ∧ h.IsList src xs) ∨ (h.IsTupleIter it src k ∧ h.IsTuple src xs)
theorem At.kept {h h' : Heap} {it src : Addr} {k : Nat} {xs : Array Value} (a : At h it src k xs) (h1 : ∀ o, h.get? it = some o → h'.get? it = some o) (h2 : ∀ o, h.get? src = some o → h'.get? src = some o) : At h' it src k xs := by
  rcases a with ⟨⟨o, a, b⟩, ⟨o', c, d⟩⟩ | ⟨⟨o, a, b⟩, ⟨o', c, d⟩⟩
  · exact .inl ⟨⟨o, h1 o a, b⟩, ⟨o', h2 o' c, d⟩⟩
  · exact .inr ⟨⟨o, h1 o a, b⟩, ⟨o', h2 o' c, d⟩⟩
theorem At.but {h h' : Heap} {it src b : Addr} {k : Nat} {xs : Array Value} (a : At h it src k xs) (hs : Heap.ExtBut b h h') (n1 : it ≠ b) (n2 : src ≠ b) : At h' it src k xs :=
  a.kept (fun o e => hs it o n1 e) fun o e => hs src o n2 e
section
variable {prog : Program} {w : World} {A : Around} {E : Value → Shared → Prop} {s : Shared}
theorem next_at {it src : Addr} {k : Nat} {xs : Array Value} {x : Value} {Q : Value → Shared → Prop} (a : At s.heap it src k xs) (ns : src ≠ it) (hx : xs[k]? = some x) (hQ : ∀ h', At h' it src (k + 1) xs → Heap.SameBut it s.heap h' → Q x { s with heap := h' }) :
    wpAny (model prog w) A (Builtin.SmallTypes.nextOf (.ref it)) Q E s := by
  rcases a with ⟨a, l⟩ | ⟨a, l⟩
  · exact wpAny_nextOf_list_item a l hx fun h' a' sb => hQ h' (.inl ⟨a', l.extBut sb.extBut ns⟩) sb
  · obtain ⟨o, ho, hc, hd⟩ := id a
    obtain ⟨ol, hol, _, nl, hdl⟩ := id l
    unfold Builtin.SmallTypes.nextOf
    have sl := F.slot_tuple_iterator_next
    refine wpAny_bind (wpAny_callSpecial?_slot (name := Str.ofString "__next__") a.typeIs sl (wpAny_call_entry sl a.typeIs F.entry_tuple_iterator_next ?_ (F.args_tuple_iterator_next_1 _)))
    refine wpAny_bind (m := field (.ref it) 0) (wpAny_field ho hd (x := .ref src) rfl ?_)
    refine wpAny_ite_false (show (Value.ref src == Value.none) = false from rfl) ?_
    refine wpAny_bind (m := field (.ref it) 1) (wpAny_field ho hd (x := .int k 0) rfl ?_)
    refine wpAny_bind (m := seqItems? (.ref src)) (wpAny_seqItems hol hdl ?_)
    simp only [Int.toNat_natCast, hx]
    refine wpAny_bind (wpAny_setField ho hd (by simp) (wpAny_pure ⟨x, rfl, wpAny_pure (hQ _ ?_ (Heap.SameBut.update ..))⟩))
    refine .inr ⟨⟨_, Heap.get?_update_self _ ho (Obj.isFreed_of_fields (Obj.data_mapFields hd _)), (Obj.cls_mapFields ..).trans hc, ?_⟩, l.extBut (Heap.SameBut.update ..).extBut ns⟩
    rw [Obj.data_mapFields hd]
    simp [rawInt]
theorem next_end {it src : Addr} {k : Nat} {xs : Array Value} {Q : Value → Shared → Prop} (hh : A.handled = none) (a : At s.heap it src k xs) (hx : xs[k]? = none)
    (hE : ∀ h' e, Heap.ExtBut it s.heap h' → (∃ o, h'.get? e = some o ∧ o.cls = .type "StopIteration") → E (.ref e) { s with heap := h' }) : wpAny (model prog w) A (Builtin.SmallTypes.nextOf (.ref it)) Q E s := by
  rcases a with ⟨a, l⟩ | ⟨a, l⟩
  · exact wpAny_nextOf_list_end hh a l hx hE
  · obtain ⟨o, ho, hc, hd⟩ := id a
    obtain ⟨ol, hol, _, nl, hdl⟩ := id l
    unfold Builtin.SmallTypes.nextOf
    have sl := F.slot_tuple_iterator_next
    refine wpAny_bind (wpAny_callSpecial?_slot (name := Str.ofString "__next__") a.typeIs sl (wpAny_call_entry sl a.typeIs F.entry_tuple_iterator_next ?_ (F.args_tuple_iterator_next_1 _)))
    refine wpAny_bind (m := field (.ref it) 0) (wpAny_field ho hd (x := .ref src) rfl ?_)
    refine wpAny_ite_false (show (Value.ref src == Value.none) = false from rfl) ?_
    refine wpAny_bind (m := field (.ref it) 1) (wpAny_field ho hd (x := .int k 0) rfl ?_)
    refine wpAny_bind (m := seqItems? (.ref src)) (wpAny_seqItems hol hdl ?_)
    simp only [Int.toNat_natCast, hx]
    refine wpAny_bind (wpAny_rule (wpAny_bind (wpAny_setField ho hd (by simp) ?_)))
    refine wpAny_bind (m := newExc (.type "StopIteration") []) ?_
    simp only [newExc, newTuple]
    refine wpAny_bind (wpAny_newObj_type ?_ (by size_fits))
    refine wpAny_bind (m := firstArgMember _ _) (wpAny_of_eq (a := Value.none) (by first | rfl | (simp only [firstArgMember]; rfl)) ?_)
    refine wpAny_newObj_type ?_ (by size_fits)
    simp only [raiseNew]
    refine wpAny_bind (wpAny_handled ?_)
    have hh' : A.in1.handled = none := hh
    rw [hh']
    refine wpAny_bind (wpAny_pure (wpAny_throw ?_))
    exact hE _ _ (((Heap.SameBut.update ..).extBut.push _).push _) ⟨_, Heap.get?_push_size _ rfl, rfl⟩
theorem zipx_item {z TI TO i1 i2 l1 l2 : Addr} {k1 k2 : Nat} {xs ys : Array Value} {x y a b : Value} {Q : Value → Shared → Prop} (D : ZipApart z TI TO i1 i2 l1 l2)
    (hz : IsZip s.heap z TI TO .none) (hTI : IsPair s.heap TI (.ref i1) (.ref i2)) (hTO : IsPair s.heap TO a b) (h1 : At s.heap i1 l1 k1 xs) (h2 : At s.heap i2 l2 k2 ys) (hx : xs[k1]? = some x) (hy : ys[k2]? = some y)
    (hQ : ∀ h', IsZip h' z TI TO (rawInt s.heap.objs.size) → IsPair h' TO x y → At h' i1 l1 (k1 + 1) xs → At h' i2 l2 (k2 + 1) ys → IsPair h' s.heap.objs.size x y → h'.objs.size = s.heap.objs.size + 1 →
      (∀ c o, c ≠ z → c ≠ TO → c ≠ i1 → c ≠ i2 → s.heap.get? c = some o → h'.get? c = some o) → Q (.ref s.heap.objs.size) { s with heap := h' }) :
    wpAny (model prog w) A (Builtin.«zip.__next__» ⟨[.ref z], []⟩) (fun fin s' => ∃ v, fin = .done (.ret v) ∧ Q v s') E s := by
  refine wpAny_bind (m := field (.ref z) 2) (wpAny_field hz rfl (x := .bool false) rfl ?_)
  refine wpAny_bind (m := field (.ref z) 3) (wpAny_field hz rfl (x := .ref TI) rfl ?_)
  refine wpAny_bind (wpAny_seqItems hTI rfl ?_)
  refine wpAny_bind (m := Builtin.SmallTypes.ownedTupleIsFree (.ref z)) ?_
  unfold Builtin.SmallTypes.ownedTupleIsFree
  refine wpAny_bind (wpAny_field hz rfl (x := .none) rfl (wpAny_pure ?_))
  simp only [if_true]
  refine wpAny_bind (wpAny_rule ?_)
  refine wpAny_bind (wpAny_field hz rfl (x := .ref TO) rfl ?_)
  refine wpAny_bind (wpAny_setField_rec hz (by simp) fun g1 hz1 sb1 => ?_)
  replace hz1 : IsZip g1 z TI TO .ellipsis := hz1
  refine wpAny_bind ?_
  simp only [List.zipIdx_cons, List.zipIdx_nil, List.forIn_cons, List.forIn_nil]
  refine wpAny_bind (wpAny_bind (wpAny_onRaise ?_))
  refine wpAny_bind (m := Builtin.SmallTypes.nextOf (.ref i1)) (next_at (h1.but sb1.extBut D.i1z D.l1z) D.l1i1 hx fun g2 a2 sb2 => wpAny_pure ?_)
  have to2 : IsPair g2 TO a b := sb2.extBut _ _ D.TOi1 (sb1.extBut _ _ D.TOz hTO)
  refine wpAny_bind (wpAny_seqItems to2 rfl ?_)
  refine wpAny_bind (wpAny_updateSeq_pair to2 fun g3 to3 sb3 => ?_)
  replace to3 : IsPair g3 TO x b := to3
  refine wpAny_bind (wpAny_letGo (wpAny_pure ?_))
  refine wpAny_bind (wpAny_bind (wpAny_onRaise ?_))
  have a2' : At g3 i2 l2 k2 ys := ((h2.but sb1.extBut D.i2z D.l2z).but sb2.extBut D.i12.symm D.l2i1).but sb3.extBut D.TOi2.symm D.l2TO
  refine wpAny_bind (m := Builtin.SmallTypes.nextOf (.ref i2)) (next_at a2' D.l2i2 hy fun g4 a4 sb4 => wpAny_pure ?_)
  have to4 : IsPair g4 TO x b := sb4.extBut _ _ D.TOi2 to3
  refine wpAny_bind (wpAny_seqItems to4 rfl ?_)
  refine wpAny_bind (wpAny_updateSeq_pair to4 fun g5 to5 sb5 => ?_)
  replace to5 : IsPair g5 TO x y := to5
  refine wpAny_bind (wpAny_letGo (wpAny_pure (wpAny_pure ?_)))
  refine wpAny_bind (wpAny_seqItems to5 rfl ?_)
  refine wpAny_bind (wpAny_newTuple ?_)
  have esz : g5.objs.size = s.heap.objs.size := by rw [sb5.1, sb4.1, sb3.1, sb2.1, sb1.1]
  have z5 : IsZip g5 z TI TO .ellipsis := sb5.extBut _ _ D.TOz.symm (sb4.extBut _ _ D.i2z.symm (sb3.extBut _ _ D.TOz.symm (sb2.extBut _ _ D.i1z.symm hz1)))
  have k5 : ∀ c o, c ≠ z → c ≠ TO → c ≠ i1 → c ≠ i2 → s.heap.get? c = some o → g5.get? c = some o := fun c o c1 c2 c3 c4 e =>
    sb5.extBut _ _ c2 (sb4.extBut _ _ c4 (sb3.extBut _ _ c2 (sb2.extBut _ _ c3 (sb1.extBut _ _ c1 e))))
  have a15 : At g5 i1 l1 (k1 + 1) xs := ((a2.but sb3.extBut D.TOi1.symm D.l1TO).but sb4.extBut D.i12 D.l1i2).but sb5.extBut D.TOi1.symm D.l1TO
  have a25 : At g5 i2 l2 (k2 + 1) ys := a4.but sb5.extBut D.TOi2.symm D.l2TO
  have zlt : z < g5.objs.size := Heap.lt_size z5
  refine wpAny_bind (m := Builtin.SmallTypes.ownedTupleHandOut (.ref z) (.ref g5.objs.size)) ?_
  unfold Builtin.SmallTypes.ownedTupleHandOut
  have z6 : IsZip (g5.push { cls := .type "tuple", data := .seq #[x, y] }) z TI TO .ellipsis := Heap.get?_push_of_some _ z5
  refine wpAny_bind (wpAny_setField_rec z6 (by simp) fun g7 z7 sb7 => ?_)
  replace z7 : IsZip g7 z TI TO (rawInt g5.objs.size) := z7
  refine wpAny_setField_rec z7 (by simp) fun g8 z8 sb8 => ?_
  replace z8 : IsZip g8 z TI TO (rawInt g5.objs.size) := z8
  have up : ∀ c o, c ≠ z → g5.get? c = some o → g8.get? c = some o := fun c o c1 e => sb8.extBut _ _ c1 (sb7.extBut _ _ c1 (Heap.get?_push_of_some _ e))
  have t8 : IsPair g8 g5.objs.size x y := sb8.extBut _ _ (Nat.ne_of_gt zlt) (sb7.extBut _ _ (Nat.ne_of_gt zlt) (Heap.get?_push_size _ rfl))
  have sz8 : g8.objs.size = g5.objs.size + 1 := by rw [sb8.1, sb7.1, Heap.size_push]
  rw [esz] at z8 t8 sz8
  refine wpAny_pure ⟨_, rfl, ?_⟩
  show Q (.ref g5.objs.size) _
  rw [esz]
  exact hQ g8 z8 (up _ _ D.TOz to5) (a15.kept (fun o e => up _ o D.i1z e) fun o e => up _ o D.l1z e) (a25.kept (fun o e => up _ o D.i2z e) fun o e => up _ o D.l2z e) t8 sz8 fun c o c1 c2 c3 c4 e => up c o c1 (k5 c o c1 c2 c3 c4 e)
theorem zipx_end {z TI TO i1 i2 l1 l2 : Addr} {k1 k2 : Nat} {xs ys : Array Value} {a b : Value} {Q : PySem.Fin → Shared → Prop} (hh : A.handled = none) (D : ZipApart z TI TO i1 i2 l1 l2)
    (hz : IsZip s.heap z TI TO .none) (hTI : IsPair s.heap TI (.ref i1) (.ref i2)) (hTO : IsPair s.heap TO a b) (h1 : At s.heap i1 l1 k1 xs) (h2 : At s.heap i2 l2 k2 ys) (hend : xs[k1]? = none ∨ ys[k2]? = none)
    (hE : ∀ h' e, (∀ c o, c ≠ z → c ≠ TO → c ≠ i1 → c ≠ i2 → s.heap.get? c = some o → h'.get? c = some o) → (∃ o, h'.get? e = some o ∧ o.cls = .type "StopIteration") → E (.ref e) { s with heap := h' }) :
    wpAny (model prog w) A (Builtin.«zip.__next__» ⟨[.ref z], []⟩) Q E s := by
  refine wpAny_bind (m := field (.ref z) 2) (wpAny_field hz rfl (x := .bool false) rfl ?_)
  refine wpAny_bind (m := field (.ref z) 3) (wpAny_field hz rfl (x := .ref TI) rfl ?_)
  refine wpAny_bind (wpAny_seqItems hTI rfl ?_)
  refine wpAny_bind (m := Builtin.SmallTypes.ownedTupleIsFree (.ref z)) ?_
  unfold Builtin.SmallTypes.ownedTupleIsFree
  refine wpAny_bind (wpAny_field hz rfl (x := .none) rfl (wpAny_pure ?_))
  simp only [if_true]
  refine wpAny_bind (wpAny_rule ?_)
  refine wpAny_bind (wpAny_field hz rfl (x := .ref TO) rfl ?_)
  refine wpAny_bind (wpAny_setField_rec hz (by simp) fun g1 hz1 sb1 => ?_)
  replace hz1 : IsZip g1 z TI TO .ellipsis := hz1
  refine wpAny_bind ?_
  simp only [List.zipIdx_cons, List.zipIdx_nil, List.forIn_cons, List.forIn_nil]
  refine wpAny_bind (wpAny_bind (wpAny_onRaise ?_))
  have a1 := h1.but sb1.extBut D.i1z D.l1z
  cases hx : xs[k1]? with
  | none =>
    refine wpAny_bind (m := Builtin.SmallTypes.nextOf (.ref i1)) (next_end hh a1 hx fun g2 e sb2 he => ?_)
    obtain ⟨oe, hoe, hce⟩ := he
    have z2 : IsZip g2 z TI TO .ellipsis := sb2 _ _ D.i1z.symm hz1
    have hez : e ≠ z := fun q => by
      subst q
      rw [z2] at hoe
      cases hoe
      simp at hce
    exact wpAny_setField_rec z2 (by simp) fun g3 _ sb3 => hE g3 e (fun c o c1 _ c3 _ q => sb3.extBut _ _ c1 (sb2 _ _ c3 (sb1.extBut _ _ c1 q))) ⟨oe, sb3.extBut _ _ hez hoe, hce⟩
  | some x =>
    have hy : ys[k2]? = none := by
      rcases hend with h | h
      · rw [hx] at h; cases h
      · exact h
    refine wpAny_bind (m := Builtin.SmallTypes.nextOf (.ref i1)) (next_at a1 D.l1i1 hx fun g2 a2 sb2 => wpAny_pure ?_)
    have to2 : IsPair g2 TO a b := sb2.extBut _ _ D.TOi1 (sb1.extBut _ _ D.TOz hTO)
    refine wpAny_bind (wpAny_seqItems to2 rfl ?_)
    refine wpAny_bind (wpAny_updateSeq_pair to2 fun g3 to3 sb3 => ?_)
    refine wpAny_bind (wpAny_letGo (wpAny_pure ?_))
    refine wpAny_bind (wpAny_bind (wpAny_onRaise ?_))
    have a2' : At g3 i2 l2 k2 ys := ((h2.but sb1.extBut D.i2z D.l2z).but sb2.extBut D.i12.symm D.l2i1).but sb3.extBut D.TOi2.symm D.l2TO
    refine wpAny_bind (m := Builtin.SmallTypes.nextOf (.ref i2)) (next_end hh a2' hy fun g4 e sb4 he => ?_)
    obtain ⟨oe, hoe, hce⟩ := he
    have z4 : IsZip g4 z TI TO .ellipsis := sb4 _ _ D.i2z.symm (sb3.extBut _ _ D.TOz.symm (sb2.extBut _ _ D.i1z.symm hz1))
    have hez : e ≠ z := fun q => by
      subst q
      rw [z4] at hoe
      cases hoe
      simp at hce
    exact wpAny_setField_rec z4 (by simp) fun g5 _ sb5 => hE g5 e (fun c o c1 c2 c3 c4 q => sb5.extBut _ _ c1 (sb4 _ _ c4 (sb3.extBut _ _ c2 (sb2.extBut _ _ c3 (sb1.extBut _ _ c1 q))))) ⟨oe, sb5.extBut _ _ hez hoe, hce⟩
end
end L2
namespace L2
open PySem PySem.Spec PyProof.Rows
/-- what a zip yields at turn i -/
def Itz (K : PySem.W.Frag) (k1 k2 : Bool) (a b : Addr) : It :=
  ⟨fun i H => ∃ xs ys x y, (if k1 then SqL K H a xs else SqT K H a xs) ∧ (if k2 then SqL K H b ys else SqT K H b ys) ∧ xs[i]? = some x ∧ ys[i]? = some y,
   fun i H x H' => ∃ p, H p = none ∧ x = .ref p ∧ ∀ xs ys, (if k1 then SqL K H a xs else SqT K H a xs) → (if k2 then SqL K H b ys else SqT K H b ys) → ∃ u v, xs[i]? = some u ∧ ys[i]? = some v ∧ H' = upd H p (.tup [u, v]),
   fun i H => ∃ xs ys, (if k1 then SqL K H a xs else SqT K H a xs) ∧ (if k2 then SqL K H b ys else SqT K H b ys) ∧ (xs.length ≤ i ∨ ys.length ≤ i)⟩
def itk (kind : Bool) (h : Heap) (it src : Addr) (k : Nat) : Prop := if kind then h.IsListIter it src k else h.IsTupleIter it src k
def sqk (kind : Bool) (h : Heap) (src : Addr) (xs : Array Value) : Prop := if kind then h.IsList src xs else h.IsTuple src xs
theorem itk.kept {kind : Bool} {h h' : Heap} {it src : Addr} {k : Nat} (a : itk kind h it src k) (e : ∀ o, h.get? it = some o → h'.get? it = some o) : itk kind h' it src k := by
  cases kind with
  | true => obtain ⟨o, h1, h2⟩ := a; exact ⟨o, e o h1, h2⟩
  | false => obtain ⟨o, h1, h2⟩ := a; exact ⟨o, e o h1, h2⟩
theorem itk.at {kind : Bool} {h : Heap} {it src : Addr} {k : Nat} {xs : Array Value} (a : itk kind h it src k) (s : sqk kind h src xs) : At h it src k xs := by
  cases kind with
  | true => exact .inl ⟨a, s⟩
  | false => exact .inr ⟨a, s⟩
theorem itk.of {kind : Bool} {h : Heap} {it src : Addr} {k : Nat} {xs : Array Value} (a : At h it src k xs) (s : sqk kind h src xs) : itk kind h it src k := by
  rcases a with ⟨a, b⟩ | ⟨a, b⟩
  · cases kind with
    | true => exact a
    | false =>
      obtain ⟨o, h1, h2, _⟩ := b
      obtain ⟨o', h3, h4, _⟩ := (show h.IsTuple src xs from s)
      rw [h1] at h3
      cases h3
      rw [h2] at h4
      exact absurd h4 (by decide)
  · cases kind with
    | false => exact a
    | true =>
      obtain ⟨o, h1, h2, _⟩ := b
      obtain ⟨o', h3, h4, _⟩ := (show h.IsList src xs from s)
      rw [h1] at h3
      cases h3
      rw [h2] at h4
      exact absurd h4 (by decide)
theorem itk.obj {kind : Bool} {h : Heap} {it src : Addr} {k : Nat} (a : itk kind h it src k) : ∃ o, h.get? it = some o ∧ ∀ v, o.data ≠ .cell v := by
  cases kind with
  | true =>
    obtain ⟨o, h1, _, h2⟩ := a
    exact ⟨o, h1, fun v z => by rw [h2] at z; cases z⟩
  | false =>
    obtain ⟨o, h1, _, h2⟩ := a
    exact ⟨o, h1, fun v z => by rw [h2] at z; cases z⟩
theorem Inv.sqk {X : Cx} {pins : List (Addr × Obj)} {σ : St} {H : Hp} {s : Shared} {a : Addr} {xs : List V} {kind : Bool} (I : Inv X pins σ H s) (h : if kind then SqL X.K H a xs else SqT X.K H a xs) : ∃ its : List Value, Vals xs its ∧ L2.sqk kind s.heap a its.toArray := by
  cases kind with
  | true =>
    obtain ⟨its, r, pl, _⟩ := I.list h
    exact ⟨its, r, pl.isList⟩
  | false =>
    obtain ⟨its, r, pl, _⟩ := I.tuple h
    exact ⟨its, r, pl⟩
theorem Inv.sq_inj {X : Cx} {pins : List (Addr × Obj)} {σ : St} {H : Hp} {s : Shared} {a : Addr} {xs ys : List V} {kind : Bool} (I : Inv X pins σ H s) (h : if kind then SqL X.K H a xs else SqT X.K H a xs) (h' : if kind then SqL X.K H a ys else SqT X.K H a ys) : xs = ys := by
  cases kind with
  | true => exact I.list_inj h h'
  | false => exact I.tuple_inj h h'
/-- records at ch changed, a tuple laid at p -/
theorem Inv.turnedT {X : Cx} {pins : List (Addr × Obj)} {σ : St} {H : Hp} {s : Shared} {h' : Heap} {ch : List Addr} {p : Addr} {xs : List V} {us : List Value} {t' : Nat} (I : Inv X pins σ H s) (hf : ∀ b ∈ ch, FpOk X pins H b) (hp : s.heap.objs.size ≤ p)
    (k : ∀ b o, b ∉ ch → s.heap.get? b = some o → h'.get? b = some o) (there : ∀ b ∈ ch, ∃ o, h'.get? b = some o) (r : Vals xs us) (hx : xs.length ≤ sizeLine) (ht : IsTup h' p us.toArray) : Inv X pins σ (upd H p (.tup xs)) { s with heap := h', toks := t' } := by
  have nit : ∀ b u, H b = some u → b ∉ ch := fun b u e z => by rw [(hf b z).1] at e; cases e
  have fr : H p = none := I.hok.fresh hp
  have np : ∀ b o, s.heap.get? b = some o → b ≠ p := fun b o e z => absurd (Nat.lt_of_lt_of_le (Heap.lt_size e) (by rw [z]; exact hp)) (Nat.lt_irrefl _)
  refine I.step (g' := s.gens) (d' := s.drawn) (ch := ch) (fun b hb => ?_) (fun b o _ _ hc e _ => k b o hc e) (fun b o _ _ hc e _ => ⟨o.slots, k b o hc e⟩) (fun b o _ e n => by rw [upd_ne (np b o e)]; exact n)
    (fun b o hc e => ⟨o, k b o hc e⟩) (fun b ys e => by rw [upd_ne (ne_of_none e fr)]; exact e) (fun b o u e => by rw [upd_ne (ne_of_none e fr)]; exact e) (fun b ps e => ⟨#[], by rw [upd_ne (ne_of_none e fr), e]; simp⟩) (fun m hm => ?_) (fun b u e => ?_) I.bare
  · have q := hf b hb
    exact ⟨q.2.2.2.1, q.2.1, q.2.2.2.2.1, q.2.2.2.2.2⟩
  · obtain ⟨o, es, ep, ho, r⟩ := hm
    exact ⟨o, es, ep, k _ o (fun z => (hf _ z).2.1 rfl) ho, r⟩
  · by_cases hb : b = p
    · subst hb
      rw [upd_same] at e
      cases e
      exact ⟨hx, us, r, ht⟩
    · rw [upd_ne hb] at e
      refine (I.hok b u e).stay (fun c v hc q => k c v ?_ q) (fun c q => ?_) fun c ys q => ?_
      · rcases hc with z | z
        · rw [z]; exact nit b u e
        · exact nit c _ z
      · rw [upd_ne (ne_of_none q fr)]; exact q
      · rw [upd_ne (ne_of_none q fr)]; exact q
theorem Inv.turnedM {X : Cx} {pins : List (Addr × Obj)} {σ : St} {H : Hp} {s : Shared} {h' : Heap} {ch : List Addr} {t' : Nat} (I : Inv X pins σ H s) (hf : ∀ b ∈ ch, FpOk X pins H b) (k : ∀ b o, b ∉ ch → s.heap.get? b = some o → h'.get? b = some o) : Inv X pins σ H { s with heap := h', toks := t' } := by
  have nit : ∀ b u, H b = some u → b ∉ ch := fun b u e z => by rw [(hf b z).1] at e; cases e
  refine I.step (g' := s.gens) (d' := s.drawn) (ch := ch) (fun b hb => ?_) (fun b o _ _ hc e _ => k b o hc e) (fun b o _ _ hc e _ => ⟨o.slots, k b o hc e⟩) (fun b o _ e n => n)
    (fun b o hc e => ⟨o, k b o hc e⟩) (fun b ys e => e) (fun b o u e => e) (fun b ps e => ⟨#[], by rw [e]; simp⟩) (fun m hm => ?_) (fun b u e => ?_) I.bare
  · have q := hf b hb
    exact ⟨q.2.2.2.1, q.2.1, q.2.2.2.2.1, q.2.2.2.2.2⟩
  · obtain ⟨o, es, ep, ho, r⟩ := hm
    exact ⟨o, es, ep, k _ o (fun z => (hf _ z).2.1 rfl) ho, r⟩
  · refine (I.hok b u e).stay (fun c v hc q => k c v ?_ q) (fun c q => q) fun c ys q => q
    rcases hc with z | z
    · rw [z]; exact nit b u e
    · exact nit c _ z
def ZipSt (k1 k2 : Bool) (z TI TO i1 i2 l1 l2 : Addr) (i : Nat) (h : Heap) : Prop := IsZip h z TI TO .none ∧ IsPair h TI (.ref i1) (.ref i2) ∧ (∃ a b, IsPair h TO a b) ∧ itk k1 h i1 l1 i ∧ itk k2 h i2 l2 i
theorem turn_zip {P : Program} {w : World} {K : PySem.W.Frag} {elts : List Expr} {x1 : Nat} {pos : Pos} (k1 k2 : Bool) (z TI TO i1 i2 l1 l2 : Addr) (A : ZipApart z TI TO i1 i2 l1 l2) :
    Turn P w K (.Tuple elts x1 pos) (Itz K k1 k2 l1 l2) [z, TI, TO, i1, i2] z (ZipSt k1 k2 z TI TO i1 i2 l1 l2) where
  mem := by simp
  obj := fun i h st b hb => by
    obtain ⟨hz, hTI, ⟨a, c, hTO⟩, h1, h2⟩ := st
    simp only [List.mem_cons, List.not_mem_nil, or_false] at hb
    rcases hb with rfl | rfl | rfl | rfl | rfl
    · exact ⟨_, hz, fun v q => by cases (show Data.fields _ = Data.cell v from q)⟩
    · exact ⟨_, hTI, fun v q => by cases (show Data.seq _ _ = Data.cell v from q)⟩
    · exact ⟨_, hTO, fun v q => by cases (show Data.seq _ _ = Data.cell v from q)⟩
    · exact h1.obj
    · exact h2.obj
  keep := fun i h h' st k => by
    obtain ⟨hz, hTI, ⟨a, c, hTO⟩, h1, h2⟩ := st
    exact ⟨k z (by simp) _ hz, k TI (by simp) _ hTI, ⟨a, c, k TO (by simp) _ hTO⟩, h1.kept fun o e => k i1 (by simp) o e, h2.kept fun o e => k i2 (by simp) o e⟩
  item := by
    intro X hP hw hK hc i pins s σ H E I hf st hg
    subst hP hw hK
    obtain ⟨xs, ys, x, y, hx, hy, ex, ey⟩ := hg
    obtain ⟨hz, hTI, ⟨a, c, hTO⟩, h1, h2⟩ := st
    obtain ⟨its, r1, q1⟩ := I.sqk hx
    obtain ⟨its2, r2, q2⟩ := I.sqk hy
    obtain ⟨u, eu, ru⟩ := r1.get ex
    obtain ⟨v, ev, rv⟩ := r2.get ey
    have hT : s.TypeIs (.ref z) "zip" := ⟨_, hz, rfl⟩
    unfold pyNext
    have nx := F.slot_zip_next
    refine wpAny_bind (wpAny_attempt (wpAny_callSpecial?_slot (name := Str.ofString "__next__") hT nx (wpAny_call_entry nx hT F.entry_zip_next
      (zipx_item A hz hTI hTO (h1.at q1) (h2.at q2) (x := u) (y := v) (by simpa using eu) (by simpa using ev) fun h' z' to' a1 a2 t' sz kp => wpAny_pure ?_) (F.args_zip_next_1 _))))
    refine ⟨.ref s.heap.objs.size, rfl, wpAny_letOwnedTupleGo_zip z' fun h2' z2 sb => ?_⟩
    have ltT : ∀ b o, s.heap.get? b = some o → b ≠ s.heap.objs.size := fun b o e => Nat.ne_of_lt (Heap.lt_size e)
    have kp2 : ∀ b o, b ∉ [z, TI, TO, i1, i2] → s.heap.get? b = some o → h2'.get? b = some o := fun b o hb e => by
      simp only [List.mem_cons, List.not_mem_nil, or_false, not_or] at hb
      exact sb.extBut b o hb.1 (kp b o hb.1 hb.2.2.1 hb.2.2.2.1 hb.2.2.2.2 e)
    have zT : s.heap.objs.size ≠ z := fun q => ltT z _ hz q.symm
    have tT : IsPair h2' s.heap.objs.size u v := sb.extBut _ _ zT t'
    have upz : ∀ b o, b ≠ z → h'.get? b = some o → h2'.get? b = some o := fun b o hb e => sb.extBut b o hb e
    have q1' : sqk k1 h' l1 its.toArray := by
      cases k1 with
      | true => obtain ⟨o, e, r⟩ := q1; exact ⟨o, kp l1 o A.l1z A.l1TO A.l1i1 A.l1i2 e, r⟩
      | false => obtain ⟨o, e, r⟩ := q1; exact ⟨o, kp l1 o A.l1z A.l1TO A.l1i1 A.l1i2 e, r⟩
    have q2' : sqk k2 h' l2 its2.toArray := by
      cases k2 with
      | true => obtain ⟨o, e, r⟩ := q2; exact ⟨o, kp l2 o A.l2z A.l2TO A.l2i1 A.l2i2 e, r⟩
      | false => obtain ⟨o, e, r⟩ := q2; exact ⟨o, kp l2 o A.l2z A.l2TO A.l2i1 A.l2i2 e, r⟩
    have st' : ZipSt k1 k2 z TI TO i1 i2 l1 l2 (i + 1) h2' :=
      ⟨z2, upz _ _ A.TIz (kp _ _ A.TIz A.TITO A.TIi1 A.TIi2 hTI), ⟨u, v, upz _ _ A.TOz to'⟩, (itk.of a1 q1').kept fun o e => upz _ o A.i1z e, (itk.of a2 q2').kept fun o e => upz _ o A.i2z e⟩
    have fT : H s.heap.objs.size = none := I.fresh
    refine ⟨.ref s.heap.objs.size, upd H s.heap.objs.size (.tup [x, y]), I.turnedT (t' := s.toks) (us := [u, v]) hf (Nat.le_refl _) kp2 (fun b hb => ?_) (.cons ru (.cons rv .nil)) (by show 2 ≤ sizeLine; decide) ⟨_, tT, rfl, _, rfl⟩, rfl, ⟨_, fT, rfl, fun xs' ys' hx' hy' => ?_⟩, st', fun b hb => ?_⟩
    · obtain ⟨z3, ti3, ⟨a3, b3, to3⟩, i13, i23⟩ := st'
      simp only [List.mem_cons, List.not_mem_nil, or_false] at hb
      rcases hb with rfl | rfl | rfl | rfl | rfl
      · exact ⟨_, z3⟩
      · exact ⟨_, ti3⟩
      · exact ⟨_, to3⟩
      · obtain ⟨o, e, _⟩ := i13.obj; exact ⟨o, e⟩
      · obtain ⟨o, e, _⟩ := i23.obj; exact ⟨o, e⟩
    · have e1 := I.sq_inj hx' hx
      have e2 := I.sq_inj hy' hy
      subst e1 e2
      exact ⟨x, y, ex, ey, rfl⟩
    · obtain ⟨o, e, _⟩ : ∃ o, s.heap.get? b = some o ∧ True := by
        simp only [List.mem_cons, List.not_mem_nil, or_false] at hb
        rcases hb with rfl | rfl | rfl | rfl | rfl
        · exact ⟨_, hz, trivial⟩
        · exact ⟨_, hTI, trivial⟩
        · exact ⟨_, hTO, trivial⟩
        · obtain ⟨o, e, _⟩ := h1.obj; exact ⟨o, e, trivial⟩
        · obtain ⟨o, e, _⟩ := h2.obj; exact ⟨o, e, trivial⟩
      rw [upd_ne (ltT b o e)]
      exact (hf b hb).1
  done := by
    intro X hP hw hK hc i pins s σ H E I hf st hg
    subst hP hw hK
    obtain ⟨xs, ys, hx, hy, hend⟩ := hg
    obtain ⟨hz, hTI, ⟨a, c, hTO⟩, h1, h2⟩ := st
    obtain ⟨its, r1, q1⟩ := I.sqk hx
    obtain ⟨its2, r2, q2⟩ := I.sqk hy
    have hT : s.TypeIs (.ref z) "zip" := ⟨_, hz, rfl⟩
    have l1 := r1.length
    have l2 := r2.length
    unfold pyNext
    have nx := F.slot_zip_next
    refine wpAny_bind (wpAny_attempt (wpAny_callSpecial?_slot (name := Str.ofString "__next__") hT nx (wpAny_call_entry nx hT F.entry_zip_next
      (zipx_end (I.ok.hd hc) A hz hTI hTO (h1.at q1) (h2.at q2) ?_ fun h' e kp he => ?_) (F.args_zip_next_1 _))))
    · rcases hend with z | z
      · exact .inl (by simp; omega)
      · exact .inr (by simp; omega)
    · obtain ⟨o, ho, hcl⟩ := he
      refine wpAny_bind (wpAny_isInstance (T := "StopIteration") (b := true) ⟨o, ho, hcl⟩ isSubtype_stop ?_)
      refine wpAny_pure ⟨rfl, I.turnedM (t' := s.toks) hf fun b o hb e => ?_⟩
      simp only [List.mem_cons, List.not_mem_nil, or_false, not_or] at hb
      exact kp b o hb.1 hb.2.2.1 hb.2.2.2.1 hb.2.2.2.2 e
  self := fun _ _ _ _ _ st h => wpAny_pyIter_zip st.1 h
def iterObj (kind : Bool) (l : Addr) : Obj := { cls := .type (if kind then "list_iterator" else "tuple_iterator"), data := .fields #[.ref l, .int 0 0] }
theorem pyIter_k {prog : Program} {w : World} {A : Around} {E : Value → Shared → Prop} {s : Shared} {kind : Bool} {l : Addr} {xs : Array Value} {Q : Value → Shared → Prop} (h : sqk kind s.heap l xs) (hQ : Q (.ref s.heap.objs.size) { s with heap := s.heap.push (iterObj kind l) }) : wpAny (model prog w) A (pyIter (.ref l)) Q E s := by
  cases kind with
  | true => exact wpAny_pyIter_list h hQ
  | false => exact wpAny_pyIter_tuple h hQ
theorem sqk.push {kind : Bool} {h : Heap} {l : Addr} {xs : Array Value} (a : sqk kind h l xs) (o : Obj) : sqk kind (h.push o) l xs := by
  cases kind with
  | true => exact Heap.IsList.push a o
  | false => exact Heap.IsTuple.push a o
theorem itk.new {kind : Bool} {h : Heap} {l it : Addr} (e : h.get? it = some (iterObj kind l)) : itk kind h it l 0 := by
  cases kind with
  | true => exact ⟨_, e, rfl, rfl⟩
  | false => exact ⟨_, e, rfl, rfl⟩
theorem zip_new (k1 k2 : Bool) (l1 l2 : Addr) (xs ys : Array Value) :
    Meets (Builtin.«zip.__new__» ⟨[.type "zip", .ref l1, .ref l2], []⟩) (fun _ R s => sqk k1 s.heap l1 xs ∧ sqk k2 s.heap l2 ys ∧
      R (.ok (.ret (.ref ((((s.heap.push (iterObj k1 l1)).push (iterObj k2 l2)).push { cls := .type "tuple", data := .seq #[.ref s.heap.objs.size, .ref (s.heap.push (iterObj k1 l1)).objs.size] }).push { cls := .type "tuple", data := .seq #[.none, .none] }).objs.size)))
        { s with heap := ((((s.heap.push (iterObj k1 l1)).push (iterObj k2 l2)).push { cls := .type "tuple", data := .seq #[.ref s.heap.objs.size, .ref (s.heap.push (iterObj k1 l1)).objs.size] }).push { cls := .type "tuple", data := .seq #[.none, .none] }).push { cls := .type "zip", data := .fields #[.none, .bool false, .bool false, .ref ((s.heap.push (iterObj k1 l1)).push (iterObj k2 l2)).objs.size, .ref (((s.heap.push (iterObj k1 l1)).push (iterObj k2 l2)).push { cls := .type "tuple", data := .seq #[.ref s.heap.objs.size, .ref (s.heap.push (iterObj k1 l1)).objs.size] }).objs.size] } }) :=
  .of_wp fun prog w A R s h => by
    obtain ⟨hp, g, d, tk, os⟩ := s
    obtain ⟨hl1, hl2, h⟩ := h
    have hsub := sub_zip
    have hL1 : sqk k1 (Shared.heap ⟨hp, g, d, tk, os⟩) l1 xs := hl1
    have hL2 : sqk k2 (Shared.heap ⟨hp.push (iterObj k1 l1), g, d, tk, os⟩) l2 ys := hl2.push _
    wp_walk using pyIter_k hL1, pyIter_k hL2
    exact ⟨_, rfl, h⟩
theorem call_zipk {prog : Program} {w : World} {A : Around} {E : Value → Shared → Prop} {s : Shared} {k1 k2 : Bool} {l1 l2 : Addr} {xs ys : Array Value} {Q : Value → Shared → Prop} (hl1 : sqk k1 s.heap l1 xs) (hl2 : sqk k2 s.heap l2 ys)
    (h : ∀ h', ZipSt k1 k2 (s.heap.objs.size + 4) (s.heap.objs.size + 2) (s.heap.objs.size + 3) s.heap.objs.size (s.heap.objs.size + 1) l1 l2 0 h' → (∀ c o, s.heap.get? c = some o → h'.get? c = some o) → Q (.ref (s.heap.objs.size + 4)) { s with heap := h' }) :
    wpAny (model prog w) A (call (.type "zip") [.ref l1, .ref l2]) Q E s := by
  refine callType_new F.called_zip (by decide) (F.typeCall_zip_2 _ _) (F.newCall_zip_2 _ _) (fun obj => F.args_object_init_3 obj _ _) F.entry_zip_new (zip_new k1 k2 l1 l2 xs ys) ⟨hl1, hl2, ?_⟩
  generalize hh1 : s.heap.push (iterObj k1 l1) = h1
  have s1 : h1.objs.size = s.heap.objs.size + 1 := by rw [← hh1, Heap.size_push]
  generalize hh2 : h1.push (iterObj k2 l2) = h2
  have s2 : h2.objs.size = s.heap.objs.size + 2 := by rw [← hh2, Heap.size_push, s1]
  generalize hh3 : h2.push { cls := .type "tuple", data := .seq #[.ref s.heap.objs.size, .ref h1.objs.size] } = h3
  have s3 : h3.objs.size = s.heap.objs.size + 3 := by rw [← hh3, Heap.size_push, s2]
  generalize hh4 : h3.push { cls := .type "tuple", data := .seq #[.none, .none] } = h4
  have s4 : h4.objs.size = s.heap.objs.size + 4 := by rw [← hh4, Heap.size_push, s3]
  have g1 : h1.get? s.heap.objs.size = some (iterObj k1 l1) := by rw [← hh1]; exact Heap.get?_push_size _ (by rfl)
  have g2 : h2.get? h1.objs.size = some (iterObj k2 l2) := by rw [← hh2]; exact Heap.get?_push_size _ (by rfl)
  have g3 : IsPair h3 h2.objs.size (.ref s.heap.objs.size) (.ref h1.objs.size) := by rw [← hh3]; exact Heap.get?_push_size _ rfl
  have g4 : IsPair h4 h3.objs.size .none .none := by rw [← hh4]; exact Heap.get?_push_size _ rfl
  have g5 := Heap.get?_push_size h4 (o := { cls := .type "zip", data := .fields #[.none, .bool false, .bool false, .ref h2.objs.size, .ref h3.objs.size] }) rfl
  have u12 : ∀ c o, h1.get? c = some o → h2.get? c = some o := fun c o e => by rw [← hh2]; exact Heap.get?_push_of_some _ e
  have u23 : ∀ c o, h2.get? c = some o → h3.get? c = some o := fun c o e => by rw [← hh3]; exact Heap.get?_push_of_some _ e
  have u34 : ∀ c o, h3.get? c = some o → h4.get? c = some o := fun c o e => by rw [← hh4]; exact Heap.get?_push_of_some _ e
  have u01 : ∀ c o, s.heap.get? c = some o → h1.get? c = some o := fun c o e => by rw [← hh1]; exact Heap.get?_push_of_some _ e
  rw [s1] at g2 g3
  rw [s2] at g3 g5
  rw [s3] at g4 g5
  rw [s4] at g5
  rw [s2, s3, s4]
  refine ⟨⟨_, g5, rfl⟩, h _ ⟨g5, Heap.get?_push_of_some _ (u34 _ _ g3), ⟨_, _, Heap.get?_push_of_some _ g4⟩, itk.new (Heap.get?_push_of_some _ (u34 _ _ (u23 _ _ (u12 _ _ g1)))), itk.new (Heap.get?_push_of_some _ (u34 _ _ (u23 _ _ g2)))⟩ fun c o e => Heap.get?_push_of_some _ (u34 _ _ (u23 _ _ (u12 _ _ (u01 _ _ e))))⟩
section
variable {X : Cx}
def iZip (K : PySem.W.Frag) (k1 k2 : Bool) (ta : TA) : TI := fun σ H R => ta σ H fun vs H1 => ∃ p q xs ys, vs = [.ref p, .ref q] ∧ (if k1 then SqL K H1 p xs else SqT K H1 p xs) ∧ (if k2 then SqL K H1 q ys else SqT K H1 q ys) ∧ R (Itz K k1 k2 p q) H1
theorem pi_zip {a b : Expr} {ta : TA} {p pos pos' : Pos} {elts : List Expr} {x1 : Nat} (k1 k2 : Bool) (hg : Gl X "zip") (hm : X.mg "zip" = none) (hbt : bootBuiltins "zip" = some (.type "zip")) (ha : PA X [a, b] ta) (hs : starEach [a, b] X.env = [(false, eval a X.env), (false, eval b X.env)] := by rfl) (hs2 : starEach [b] X.env = [(false, eval b X.env)] := by rfl) :
    PI X (.Tuple elts x1 pos') (.Call (.Name "zip" p) [a, b] [] pos) (iZip X.K k1 k2 ta) := by
  intro pins s σ H R I h
  refine Call_ (ld_blt I hg hm hbt (PyProof.Rows.callWith_type1 (thn (ha pos pins s σ H _ I h) fun us s1 ⟨vs, H1, I1, r1, q1⟩ => ?_) (by rw [hs, hs2]) (by rw [hs2]; rfl)))
  obtain ⟨l1, l2, xs, ys, e, hx, hy, q⟩ := q1
  subst e
  cases r1 with
  | cons r rr =>
    cases rr with
    | cons r' rr =>
      cases rr
      cases r
      cases r'
      obtain ⟨its, v1, w1⟩ := I1.sqk hx
      obtain ⟨its2, v2, w2⟩ := I1.sqk hy
      have lt1 : l1 < s1.heap.objs.size := by
        cases k1 with
        | true => obtain ⟨o, e, _⟩ := w1; exact Heap.lt_size e
        | false => obtain ⟨o, e, _⟩ := w1; exact Heap.lt_size e
      have lt2 : l2 < s1.heap.objs.size := by
        cases k2 with
        | true => obtain ⟨o, e, _⟩ := w2; exact Heap.lt_size e
        | false => obtain ⟨o, e, _⟩ := w2; exact Heap.lt_size e
      refine call_zipk w1 w2 fun h' st kp => ?_
      refine wpAny_pyIter_zip st.1 ?_
      have I2 : Inv X pins σ H1 { s1 with heap := h' } := I1.kept (t' := s1.toks) kp
      generalize hn : s1.heap.objs.size = n at *
      have lt1' : @LT.lt Nat _ l1 n := lt1
      have lt2' : @LT.lt Nat _ l2 n := lt2
      have ap : ZipApart (n + 4) (n + 2) (n + 3) n (n + 1) l1 l2 := by constructor <;> (intro z; have z' : @Eq Nat _ _ := z; omega)
      refine ⟨n + 4, _, _, _, H1, rfl, I2, turn_zip k1 k2 (n + 4) (n + 2) (n + 3) n (n + 1) l1 l2 ap, st, fun b hb => ?_, q⟩
      have hb' : n ≤ b := by
        simp only [List.mem_cons, List.not_mem_nil, or_false] at hb
        rcases hb with rfl | rfl | rfl | rfl | rfl <;> first | exact Nat.le_refl _ | exact Nat.le_add_right _ _
      exact I1.fpOk (by rw [hn]; exact hb') (I1.hok.fresh (by rw [hn]; exact hb'))
variable {a b c e : Expr} {es : List Expr} {pos : Pos} {ga gb : GE}
/-- zip of two tuples -/
def gZip (ga gb : GE) : GF := fun δ Q => ga δ fun d => gb δ fun d2 => match d, d2 with
  | .tup xs, .tup ys => Q (List.zipWith (fun x y => D.tup [x, y]) xs ys)
  | _, _ => False
theorem walk_zip {K : PySem.W.Frag} {C1 : Hp} {p q : Addr} {xs ys : List V} {ds es : List D} (hx : SqT K C1 p xs) (hy : SqT K C1 q ys) (hd : Dens K C1 xs ds) (he : Dens K C1 ys es) : Walk K (Itz K false false p q) (List.zipWith (fun x y => D.tup [x, y]) ds es) C1 := by
  intro C2 H2 c1 c2 i
  have hx2 := c2.seqT (c1.seqT hx)
  have hy2 := c2.seqT (c1.seqT hy)
  refine ⟨fun d e => ?_, fun hl => ⟨xs, ys, hx2, hy2, ?_⟩⟩
  · rw [List.getElem?_zipWith] at e
    cases e1 : ds[i]? with
    | none => rw [e1] at e; cases e
    | some d1 =>
      cases e2 : es[i]? with
      | none => rw [e1, e2] at e; cases e
      | some d2 =>
        rw [e1, e2] at e
        cases e
        obtain ⟨v1, ev1, n1⟩ := hd.get e1
        obtain ⟨v2, ev2, n2⟩ := he.get e2
        refine ⟨⟨xs, ys, v1, v2, hx2, hy2, ev1, ev2⟩, fun x H3 y => ?_⟩
        obtain ⟨t, ht, rfl, k⟩ := y
        obtain ⟨u, v, eu, ev, rfl⟩ := k xs ys hx2 hy2
        rw [ev1] at eu
        cases eu
        rw [ev2] at ev
        cases ev
        refine ⟨upd C2 t (.tup [v1, v2]), Ext.new c2 ht, den_tup.mpr ⟨t, _, rfl, SqT.of upd_same, ?_⟩⟩
        have up := Same.upd (o := .tup [v1, v2]) (c2.free ht)
        exact .cons ((n1.mono c1).mono up) (.cons ((n2.mono c1).mono up) .nil)
  · rw [List.length_zipWith] at hl
    rw [hd.length, he.length]
    omega
theorem di_zip {p pos' : Pos} {elts : List Expr} {x1 : Nat} (hg : Gl X "zip") (hm : X.mg "zip" = none) (hbt : bootBuiltins "zip" = some (.type "zip")) (ha : DE X a ga) (hb : DE X b gb) (hs : starEach [a, b] X.env = [(false, eval a X.env), (false, eval b X.env)] := by rfl) (hs2 : starEach [b] X.env = [(false, eval b X.env)] := by rfl) :
    DI X (.Tuple elts x1 pos') (.Call (.Name "zip" p) [a, b] [] pos) (gZip ga gb) := by
  obtain ⟨t1, p1, h1⟩ := ha
  obtain ⟨t2, p2, h2⟩ := hb
  refine ⟨_, pi_zip false false hg hm hbt (pa_cons p1 (pa_cons p2 pa_nil hs2) (by rw [hs, hs2])) hs hs2, fun C0 H0 δ σ C H Q R rp g k => h1 C0 H0 δ σ C H _ _ rp g fun d v C1 H1 q e1 n1 => h2 C0 H0 δ σ C1 H1 _ _ (rp.grow e1) q fun d2 v2 C2 H2 q2 e2 n2 => ?_⟩
  have n1' := n1.mono e2.cc
  cases d with
  | tup ds =>
    cases d2 with
    | tup es =>
      obtain ⟨p, xs, rfl, hx, hd⟩ := den_tup.mp n1'
      obtain ⟨p', ys, rfl, hy, he⟩ := den_tup.mp n2
      exact ⟨p, p', xs, ys, rfl, e2.ch.seqT hx, e2.ch.seqT hy, k _ _ C2 H2 q2 (e1.trans e2) (walk_zip hx hy hd he)⟩
    | _ => exact q2.elim
  | _ => exact q2.elim
end
end L2
namespace L2
open PySem PySem.Spec PyProof.Rows
/-! ### a def by a relation over data -/
def gOptP (o : Option (D → Prop)) (Q : D → Prop) : Prop := match o with
  | some p => ∀ d, p d → Q d
  | none => False
def spR (K : PySem.W.Frag) (F : List D → Option (D → Prop)) : Sp := fun vs H Q _ => ∃ C ds p, Same C H ∧ Dens K C vs ds ∧ F ds = some p ∧ ∀ d v C' H', p d → Ext C H C' H' → Den K C' v d → Q v H'
def DFnR (P : Program) (w : World) (K : PySem.W.Frag) (mg : Str → Option Value) (base : Heap) (k : Nat) (x : Str) (F : List D → Option (D → Prop)) : Prop :=
  ∃ f fd ps, FnOk P w K mg base CX0 k f fd ps (spR K F) ∧ mg x = some (.ref f) ∧ PySem.W.keepIn K (.ref f) = true ∧ Binds K fd ps []
section
variable {X : Cx} {a b c e : Expr} {es : List Expr} {pos : Pos} {ga gb gc gd : GE} {gf : GF} {ta tb : GT}
def gCallR (F : List D → Option (D → Prop)) (gf : GF) : GE := fun δ Q => gf δ fun ds => gOptP (F ds) Q
theorem de_callR {F : List D → Option (D → Prop)} {k : Nat} {x : Str} {p : Pos} (h : DFnR X.prog X.w X.K X.mg X.base k x F) (hr : Room k X.A) (hg : Gl X x) (ha : DA X (e :: es) gf) (hdb : (x == ("__debug__" : Str)) = false := by decide)
    (he : starEach (e :: es) X.env = (false, eval e X.env) :: starEach es X.env := by rfl) (hpl : (backTo pos (starEach es X.env)).any (·.1) = false := by rfl) : DE X (.Call (.Name x p) (e :: es) [] pos) (gCallR F gf) := by
  obtain ⟨f, fd, ps, Fk, hm, hk, hb⟩ := h
  obtain ⟨t, pa, h⟩ := ha
  refine ⟨_, pe_call Fk hr hg hm hk hb .nil pass0 pa hdb he hpl, fun C0 H0 δ σ C H Q R rp g k => h C0 H0 δ σ C H _ _ rp g fun ds vs C1 H1 q e1 n1 => ?_⟩
  cases e2 : F ds with
  | none => rw [e2] at q; exact q.elim
  | some p =>
    rw [e2] at q
    exact ⟨C1, ds, p, e1.ch, by rw [List.append_nil]; exact n1, e2, fun d v C' H' hp ex nv => k d v C' H' (q d hp) (e1.trans ex) nv⟩
theorem de_callG {x : Str} {f : Value} {g : List D → (D → Prop) → Prop} {pos' : Pos} (hc : DCall X f g) (ha : DA X (e :: es) gf)
    (hp : ∀ {t : TA} {r : List V → Hp → VK → Prop}, CallR X f r → PA X (e :: es) t → PE X (.Call (.Name x pos') (e :: es) [] pos) (tCB r t)) : DE X (.Call (.Name x pos') (e :: es) [] pos) (gCallB g gf) := by
  obtain ⟨r, pr, hr⟩ := hc
  obtain ⟨t, p, h⟩ := ha
  refine ⟨_, hp pr p, fun C0 H0 δ σ C H Q R rp g k => h C0 H0 δ σ C H _ _ rp g fun ds vs C1 H1 q e1 n1 => ?_⟩
  exact hr vs ds C1 H1 Q R e1.ch n1 q fun d v C2 H2 q2 e2 n2 => k d v C2 H2 q2 (e1.trans e2) n2
theorem compOk_of {scope sc : Scope} {N Nc : List Str} {fr : List (Option Nat)} (h1 : X.env.scope = sc) (h2 : X.N = N) (h : compOk sc scope N Nc fr = true) : compOk X.env.scope scope X.N Nc fr = true := by rw [h1, h2]; exact h
end
theorem fnR {P : Program} {w : World} {K : PySem.W.Frag} {mg : Str → Option Value} {base : Heap} {x qual : Str} {st : Stmt} {f : Addr} {fd : FuncData} {N ps : List Str} {k : Nat} {F : List D → Option (D → Prop)} {g : GS} (Fn : Fun K x qual st f fd) (S : FnScope N ps (defScope st))
    (hl : ∀ ds p, F ds = some p → ds.length = ps.length)
    (hb : ∀ (cdv : Value) (A : Around) (outer : List Env) (s : Shared) (H : Hp) (E : XK), Room k (A.deeper (envOfC qual (defScope st) s.heap.objs.size f cdv)) → DSs (cxOf CX0 P w K mg base N qual (defScope st) f cdv A outer s H E).nox (defBody st) g)
    (hv : ∀ ds p, F ds = some p → g { nx := fun _ => p .non, rt := p } (dstart N ds)) (hm : mg x = some (.ref f)) (bi : Binds K fd ps []) : DFnR P w K mg base (k + 1) x F := by
  refine ⟨f, fd, ps, Fn.ok S (fun vs H Q E h => ?_) (fun cdv A outer s H vs Q E hr h => ?_), hm, Fn.kp, bi⟩
  · obtain ⟨C, ds, p, _, n, e, _⟩ := h
    rw [n.length]
    exact hl ds p e
  · obtain ⟨C, ds, pd, ch, n, e, q⟩ := h
    obtain ⟨t, p, h⟩ := hb cdv A outer s H E hr
    refine ⟨t, p, h C H (dstart N ds) (start N vs) C H _ _ (rep_start ch n) (hv ds pd e) ⟨fun δ σ C' H' rp z => ?_, fun r v C' H' ex nv z => ?_, fun _ _ _ _ _ z => z.elim, fun _ _ _ _ _ z => z.elim⟩⟩
    · exact q .non _ C' H' z rp.ext (den_non.mpr rfl)
    · exact q r v C' H' z ex nv
theorem bt_len : bootBuiltins "len" = some (.builtin "len") := by decide +kernel
theorem bt_all : bootBuiltins "all" = some (.builtin "all") := by decide +kernel
theorem bt_sorted : bootBuiltins "sorted" = some (.builtin "sorted") := by decide +kernel
theorem bt_isinstance : bootBuiltins "isinstance" = some (.builtin "isinstance") := by decide +kernel
theorem bt_tuple : bootBuiltins "tuple" = some (.type "tuple") := by decide +kernel
theorem bt_int : bootBuiltins "int" = some (.type "int") := by decide +kernel
theorem bt_bool : bootBuiltins "bool" = some (.type "bool") := by decide +kernel
theorem bt_zip : bootBuiltins "zip" = some (.type "zip") := by decide +kernel
end L2
namespace L2
open PySem PySem.Spec PyProof.Rows
/-! ### a def as it stands behind the top, its name, its binding -/
def FunAt (K : PySem.W.Frag) (mg : Str → Option Value) (x : Str) (st : Stmt) (ps : List Str) : Prop := ∃ f fd, Fun K x x st f fd ∧ mg x = some (.ref f) ∧ Binds K fd ps []
theorem funAt_of {K : PySem.W.Frag} {h : Heap} {mg : Str → Option Value} {x : Str} {st : Stmt} {ps : List Str} {f : Addr} {od an : Option Addr} {sl : Array (Option Value)} {oc kV dc pm cd ct : Value} (X : K.In h) (G : h.Ns mainGlobals mg)
    (a : PySem.W.nsIn K mainGlobals x = some (some (.ref f))) (l : K.lookup f = some ⟨oc, od, .func (PySem.W.fnOf x x (defArgs st) (defBody st) (defScope st) .none kV dc pm an cd ct), sl⟩) (c : PySem.W.codeIn K cd x = true) (k : PySem.W.keepIn K (.ref f) = true)
    (hb : ∀ (kV doc pm : Value) (an : Option Addr) (cdv ct : Value) (us : List Value), us.length = ps.length → bindArgs (PySem.W.fnOf x x (defArgs st) (defBody st) (defScope st) .none kV doc pm an cdv ct) ⟨us, []⟩ = pure (ps.zip us)) : FunAt K mg x st ps :=
  ⟨f, _, fun_mk (st := st) l c k, PySem.W.mg_of X G a, (fun_mk (st := st) l c k).binds hb⟩
theorem fnR0 {P : Program} {w : World} {K : PySem.W.Frag} {mg : Str → Option Value} {base : Heap} {x qual : Str} {st : Stmt} {f : Addr} {fd : FuncData} {N ps : List Str} {k : Nat} {F : List D → Option (D → Prop)} {g : GS} (Fn : Fun K x qual st f fd) (S : FnScope N ps (defScope st))
    (hl : ∀ ds p, F ds = some p → ds.length = ps.length)
    (hb : ∀ (cdv : Value) (A : Around) (outer : List Env) (s : Shared) (H : Hp) (E : XK), Room k (A.deeper (envOfC qual (defScope st) s.heap.objs.size f cdv)) → DSs (cxOf CX0 P w K mg base N qual (defScope st) f cdv A outer s H E).nox (defBody st) g)
    (hv : ∀ ds p, F ds = some p → g { nx := fun _ => p .non, rt := p } (dstart N ds)) : FnOk P w K mg base CX0 (k + 1) f fd ps (spR K F) := by
  refine Fn.ok S (fun vs H Q E h => ?_) (fun cdv A outer s H vs Q E hr h => ?_)
  · obtain ⟨C, ds, p, _, n, e, _⟩ := h
    rw [n.length]
    exact hl ds p e
  · obtain ⟨C, ds, pd, ch, n, e, q⟩ := h
    obtain ⟨t, p, h⟩ := hb cdv A outer s H E hr
    refine ⟨t, p, h C H (dstart N ds) (start N vs) C H _ _ (rep_start ch n) (hv ds pd e) ⟨fun δ σ C' H' rp z => ?_, fun r v C' H' ex nv z => ?_, fun _ _ _ _ _ z => z.elim, fun _ _ _ _ _ z => z.elim⟩⟩
    · exact q .non _ C' H' z rp.ext (den_non.mpr rfl)
    · exact q r v C' H' z ex nv
end L2
namespace L2
open PySem PySem.Spec PyProof.Rows
/-! ### x in ds, ds.index(x): the items' answers -/
def ansD (x : D) : List D → Option (List Bool)
  | [] => some []
  | y :: ys => match eqD y x, ansD x ys with
    | some a, some b => some (a :: b)
    | _, _ => none
theorem ansD_at {x : D} : ∀ {ds : List D} {bs : List Bool}, ansD x ds = some bs → bs.length = ds.length ∧ ∀ (j : Nat) d, ds[j]? = some d → ∃ b, bs[j]? = some b ∧ eqD d x = some b
  | [], bs, h => by
    cases h
    exact ⟨rfl, fun j d e => by simp at e⟩
  | y :: ys, bs, h => by
    unfold ansD at h
    cases e1 : eqD y x with
    | none => rw [e1] at h; cases h
    | some a =>
      cases e2 : ansD x ys with
      | none => rw [e1, e2] at h; cases h
      | some b =>
        rw [e1, e2] at h
        cases h
        obtain ⟨h1, h2⟩ := ansD_at e2
        refine ⟨by simp [h1], fun j d e => ?_⟩
        cases j with
        | zero => cases e; exact ⟨a, rfl, e1⟩
        | succ j => exact h2 j d e
section
variable {X : Cx} {pins : List (Addr × Obj)} {σ : St} {H C : Hp} {s : Shared}
open Classical in
noncomputable def ansU (K : PySem.W.Frag) (C : Hp) (x : D) (u : Value) : Bool := decide (∃ z d, RelV z u ∧ Den K C z d ∧ eqD d x = some true)
open Classical in
theorem ans_core (I : Inv X pins σ H s) (ch : Same C H) {A : Around} {dx : D} {x : V} {v : Value} {xs : List V} {its : List Value} {ds : List D} {bs : List Bool} (hu : A.units + 32 < cLine) (hd : deps ds ≤ 32) (rx : RelV x v) (nx : Den X.K C x dx)
    (r : Vals xs its) (n : Dens X.K C xs ds) (h : ansD dx ds = some bs) : (∀ y ∈ its, SeqAt.EqAt A s y v (ansU X.K C dx y)) ∧ its.map (ansU X.K C dx) = bs := by
  obtain ⟨h1, h2⟩ := ansD_at h
  have key : ∀ (j : Nat) y, its[j]? = some y → ∃ b, bs[j]? = some b ∧ ansU X.K C dx y = b ∧ SeqAt.EqAt A s y v b := by
    intro j y e
    have hj : j < its.length := (List.getElem?_eq_some_iff.mp e).1
    have hl := r.length
    have hl2 := n.length
    have ed : ds[j]? = some (ds[j]'(by omega)) := List.getElem?_eq_getElem _
    obtain ⟨z, ez, nz⟩ := n.get ed
    obtain ⟨y', ey, ry⟩ := r.get ez
    rw [e] at ey
    cases ey
    obtain ⟨b, eb, q⟩ := h2 j _ ed
    refine ⟨b, eb, ?_, eqAt_D I ch 32 _ dx b A z x y v (Nat.le_trans (deps_at ed) hd) hu q ry rx nz nx⟩
    cases b with
    | true =>
      unfold ansU
      exact decide_eq_true ⟨z, _, ry, nz, q⟩
    | false =>
      unfold ansU
      refine decide_eq_false fun ⟨z', d', r', n', q'⟩ => ?_
      have e1 := r'.inj ry
      subst e1
      have e2 := den_inj I ch _ _ n' nz
      subst e2
      rw [q] at q'
      cases q'
  refine ⟨fun y hy => ?_, ?_⟩
  · obtain ⟨j, hj, rfl⟩ := List.mem_iff_getElem.mp hy
    obtain ⟨b, _, e, q⟩ := key j _ (List.getElem?_eq_getElem hj)
    rw [e]; exact q
  · refine List.ext_getElem? fun j => ?_
    rw [List.getElem?_map]
    cases e : its[j]? with
    | none =>
      have : its.length ≤ j := List.getElem?_eq_none_iff.mp e
      have hl := r.length
      have hl2 := n.length
      exact (List.getElem?_eq_none_iff.mpr (by omega)).symm
    | some y =>
      obtain ⟨b, eb, e2, _⟩ := key j y e
      rw [eb, Option.map_some, e2]
end
section
variable {X : Cx} {a b c e o : Expr} {es : List Expr} {pos : Pos} {ga gb gc gd : GE} {gf : GF}
def seqOf : D → Option (List D)
  | .tup ds => some ds
  | .lst ds => some ds
  | _ => none
def oIn : GO := fun x y Q => match seqOf y with
  | some ds => deps ds ≤ 32 ∧ match ansD x ds with
    | some bs => Q (.bl (bs.any id))
    | none => False
  | none => False
def rInD (K : PySem.W.Frag) (neg : Bool) : R2 := fun x y H R => ∃ C dx p xs ds bs, Same C H ∧ Den K C x dx ∧ y = .ref p ∧ (SqL K H p xs ∨ SqT K H p xs) ∧ Dens K C xs ds ∧ deps ds ≤ 32 ∧ ansD dx ds = some bs ∧ R (.bl (if neg then !bs.any id else bs.any id)) H
theorem any_arr (its : List Value) (f : Value → Bool) : its.toArray.any f = (its.map f).any id := by
  simp [List.any_map, Function.comp_def]
theorem seq_den {K : PySem.W.Frag} {C H : Hp} {v : V} {y : D} {ds : List D} (ch : Same C H) (n : Den K C v y) (e : seqOf y = some ds) : ∃ p xs, v = .ref p ∧ (SqL K H p xs ∨ SqT K H p xs) ∧ Dens K C xs ds := by
  cases y with
  | tup ys => cases e; obtain ⟨p, xs, rfl, hx, hd⟩ := den_tup.mp n; exact ⟨p, xs, rfl, .inr (ch.seqT hx), hd⟩
  | lst ys => cases e; obtain ⟨p, xs, rfl, hx, hd⟩ := den_lst.mp n; exact ⟨p, xs, rfl, .inl (ch.seq hx), hd⟩
  | _ => cases e
theorem do_in (hu : X.A.units + 64 < cLine) : DOp X (compareOp .In) oIn := by
  refine ⟨rInD X.K false, fun pins s σ H x y v u Q I rx ry h => ?_, fun x y dx dy C H Q R ch n1 n2 q k => ?_⟩
  · obtain ⟨C, dx, p, xs, ds, bs, ch, nx, rfl, hq, nd, hd, ha, q⟩ := h
    cases ry
    rcases hq with hq | hq
    · obtain ⟨its, r, pl, hz⟩ := I.list hq
      obtain ⟨h1, h2⟩ := ans_core I ch (A := X.A.in1) (by show X.A.units + 1 + 32 < cLine; omega) hd rx nx r nd ha
      refine SeqAt.in_listAt (ansU X.K C dx) pl.isList (fun w hw => h1 w (by simpa using hw)) ⟨.bl _, H, I, rfl, ?_⟩
      rw [any_arr, h2]
      exact q
    · obtain ⟨its, r, pl, hz⟩ := I.tuple hq
      obtain ⟨h1, h2⟩ := ans_core I ch (A := X.A.in1) (by show X.A.units + 1 + 32 < cLine; omega) hd rx nx r nd ha
      refine SeqAt.in_tupleAt (ansU X.K C dx) pl (fun w hw => h1 w (by simpa using hw)) ⟨.bl _, H, I, rfl, ?_⟩
      rw [any_arr, h2]
      exact q
  · unfold oIn at q
    split at q
    · rename_i ds e
      obtain ⟨hd, q⟩ := q
      split at q
      · rename_i bs e2
        obtain ⟨p, xs, rfl, hx, nd⟩ := seq_den ch n2 e
        exact ⟨C, dx, p, xs, ds, bs, ch, n1, rfl, hx, nd, hd, e2, k _ _ C H q (Ext.refl ch) (den_bl.mpr rfl)⟩
      · exact q.elim
    · exact q.elim
/-! ### ds.index(x) of a list -/
def rIndexD (K : PySem.W.Frag) : V → List V → Hp → VK → Prop := fun l vs H R => ∃ C dx x p xs ds bs, ∃ j : Nat, Same C H ∧ vs = [x] ∧ Den K C x dx ∧ l = .ref p ∧ SqL K H p xs ∧ Dens K C xs ds ∧ deps ds ≤ 32 ∧ ansD dx ds = some bs ∧ bs[j]? = some true ∧ (∀ i : Nat, i < j → bs[i]? = some false) ∧ R (.int (j : Int)) H
theorem mt_index (hu : X.A.units + 64 < cLine) : MtR X "list.index" (rIndexD X.K) := by
  intro pins s σ H l vs v us Q I rl rv h
  obtain ⟨C, dx, x, p, xs, ds, bs, j, ch, rfl, nx, rfl, hq, nd, hd, ha, hj, hno, q⟩ := h
  cases rl
  obtain ⟨u, rfl, rx⟩ := vals1 rv
  obtain ⟨its, r, pl, hz⟩ := I.list hq
  have hlen := r.length
  obtain ⟨⟨cls, dd, data, sl⟩, ho, hc, n, hdt⟩ := id pl.isList
  simp only at hc hdt
  subst hc hdt
  obtain ⟨h1, h2⟩ := ans_core I ch (A := X.A.in1.in1) (by show X.A.units + 1 + 1 + 32 < cLine; omega) hd rx nx r nd ha
  obtain ⟨h1', _⟩ := ans_core I ch (A := X.A.in1) (by show X.A.units + 1 + 32 < cLine; omega) hd rx nx r nd ha
  have hjl : j < its.length := by
    have := (List.getElem?_eq_some_iff.mp hj).1
    rw [← h2, List.length_map] at this
    exact this
  have at_ : ∀ (i : Nat) (hi : i < its.toArray.size) (b : Bool), bs[i]? = some b → ansU X.K C dx its.toArray[i] = b := by
    intro i hi b e
    have hi' : i < its.length := by simpa using hi
    rw [← h2, List.getElem?_map, List.getElem?_eq_getElem hi'] at e
    simpa using e
  have hz2 : (sizeLine : Int) < 2 ^ 63 - 1 := by decide
  refine call_meets F.slot_list_index ⟨_, ho, rfl⟩ F.entry_list_index (F.args_list_index_2 _ _) (SeqAt.list_indexAt p its.toArray n dd sl u (ansU X.K C dx) j (by simpa using hjl) (by omega) (at_ j _ true hj) (fun m hm hmj => at_ m hm false (hno m hmj))) ⟨ho, ?_, ?_⟩
  · intro y hy
    first | exact h1 y (by simpa using hy) | exact h1' y (by simpa using hy)
  · exact ⟨.int j, H, I.tok _, ⟨_, rfl⟩, q⟩
/-- where the first true stands -/
def firstT : List Bool → Option Nat
  | [] => none
  | true :: _ => some 0
  | false :: r => (firstT r).map (· + 1)
theorem firstT_at : ∀ {bs : List Bool} {j : Nat}, firstT bs = some j → bs[j]? = some true ∧ ∀ i : Nat, i < j → bs[i]? = some false
  | true :: r, j, h => by cases h; exact ⟨rfl, fun i hi => by omega⟩
  | false :: r, j, h => by
    unfold firstT at h
    cases e : firstT r with
    | none => rw [e] at h; cases h
    | some k =>
      rw [e] at h
      cases h
      obtain ⟨h1, h2⟩ := firstT_at e
      refine ⟨h1, fun i hi => ?_⟩
      cases i with
      | zero => rfl
      | succ i => exact h2 i (by simp at hi; omega)
def gIndex (ga gb : GE) : GE := fun δ Q => ga δ fun d => match d with
  | .lst ds => gb δ fun x => deps ds ≤ 32 ∧ match ansD x ds with
    | some bs => match firstT bs with
      | some j => Q (.int j)
      | none => False
    | none => False
  | _ => False
theorem de_index {p2 : Pos} (hu : X.A.units + 64 < cLine) (ha : DE X a ga) (hb : DE X b gb)
    (hp : ∀ {to : TE} {t : TA}, PE X a to → PA X [b] t → PE X (.Call (.Attribute a "index" p2) [b] [] pos) (tBM X.K "list" (rIndexD X.K) to t)) (hs : starEach [b] X.env = [(false, eval b X.env)] := by rfl) : DE X (.Call (.Attribute a "index" p2) [b] [] pos) (gIndex ga gb) := by
  obtain ⟨t1, p1, h1⟩ := ha
  obtain ⟨t2, p2, h2⟩ := hb
  refine ⟨_, hp p1 (pa_cons p2 pa_nil hs), fun C0 H0 δ σ C H Q R rp g k => ?_⟩
  refine h1 C0 H0 δ σ C H _ _ rp g fun d v C1 H1 q e1 n1 => ?_
  cases d with
  | lst ds =>
    obtain ⟨p, xs, rfl, hx, hd⟩ := den_lst.mp n1
    refine ⟨.inl ⟨rfl, xs, e1.ch.seq hx⟩, h2 C0 H0 δ σ C1 H1 _ _ (rp.grow e1) q fun d2 v2 C2 H2 q2 e2 n2 => ?_⟩
    obtain ⟨hdp, q2⟩ := q2
    split at q2
    · rename_i bs ea
      split at q2
      · rename_i j ej
        obtain ⟨f1, f2⟩ := firstT_at ej
        exact ⟨C2, d2, v2, p, xs, ds, bs, j, e2.ch, rfl, n2, rfl, e2.ch.seq (e2.cc.seq hx), hd.mono e2.cc, hdp, ea, f1, f2, k _ _ C2 H2 q2 (e1.trans e2) (den_int.mpr rfl)⟩
      · exact q2.elim
    · exact q2.elim
  | _ => exact q.elim
end
end L2
namespace L2
open PySem PySem.Spec PyProof.Rows
open AutoSeq1 (wpAny_loadPart')
/-! ### enumerate(a): a a list or a tuple -/
section
variable {prog : Program} {w : World} {A : Around} {E : Value → Shared → Prop} {s : Shared}
theorem enumx_item {e it src : Addr} {k : Nat} {xs : Array Value} {x old : Value} {Q : Value → Shared → Prop} (he : IsEnum s.heap e it k old) (a : At s.heap it src k xs) (hx : xs[k]? = some x) (ne : e ≠ it) (ns : src ≠ it) (nse : src ≠ e)
    (hQ : ∀ h', IsEnumOut h' e it ((k : Int) + 1) x s.heap.objs.size → At h' it src (k + 1) xs → IsPair h' s.heap.objs.size (.int k s.toks) x → (∀ b o, b ≠ e → b ≠ it → s.heap.get? b = some o → h'.get? b = some o) → Q (.ref s.heap.objs.size) { s with heap := h', toks := s.toks + 1 }) :
    wpAny (model prog w) A (Builtin.«enumerate.__next__» ⟨[.ref e], []⟩) (fun fin s' => ∃ v, fin = .done (.ret v) ∧ Q v s') E s := by
  obtain ⟨hp, g, d, tk, os⟩ := s
  refine wpAny_bind (m := field (.ref e) 2) (wpAny_field he rfl (x := .ref it) rfl ?_)
  refine wpAny_bind (next_at a ns hx fun h1 a1 sb1 => ?_)
  replace sb1 : Heap.SameBut it hp h1 := sb1
  have en1 : IsEnum h1 e it k old := (sb1.2 e ne).trans he
  refine wpAny_bind (m := field (.ref e) 3) (wpAny_field en1 rfl (x := rawInt k) rfl ?_)
  refine wpAny_bind (m := field (.ref e) 4) (wpAny_field en1 rfl (x := .none) rfl ?_)
  refine wpAny_bind (m := mkInt k) (wpAny_mkInt ?_)
  refine wpAny_bind (m := setField (.ref e) 3 (rawInt ((k : Int) + 1))) (wpAny_setField_rec en1 (by simp) fun h2 en2 sb2 => ?_)
  replace sb2 : Heap.SameBut e h1 h2 := sb2
  replace en2 : IsEnum h2 e it ((k : Int) + 1) old := en2
  refine wpAny_bind (m := setField (.ref e) 4 .none) (wpAny_setField_rec en2 (by simp) fun h3 en3 sb3 => ?_)
  replace sb3 : Heap.SameBut e h2 h3 := sb3
  replace en3 : IsEnum h3 e it ((k : Int) + 1) old := en3
  refine wpAny_bind (m := newTuple [.int k tk, x]) (wpAny_newTuple ?_)
  have en4 : IsEnum (h3.push { cls := .type "tuple", data := .seq #[.int k tk, x] }) e it ((k : Int) + 1) old := Heap.get?_push_of_some _ en3
  generalize hh4 : h3.push { cls := .type "tuple", data := .seq #[.int k tk, x] } = h4 at en4
  show wpAny _ A _ _ E ⟨h4, g, d, tk + 1, os⟩
  have z3 : h3.objs.size = hp.objs.size := by rw [sb3.1, sb2.1, sb1.1]
  have lte : e < hp.objs.size := Heap.lt_size he
  have t4 : IsPair h4 hp.objs.size (.int k tk) x := by rw [← hh4, ← z3]; exact Heap.get?_push_size _ rfl
  have k4 : ∀ b o, b ≠ e → b ≠ it → hp.get? b = some o → h4.get? b = some o := fun b o n1 n2 q => by
    rw [← hh4]
    exact Heap.get?_push_of_some _ (sb3.extBut b o n1 (sb2.extBut b o n1 (sb1.extBut b o n2 q)))
  have a4 : At h4 it src (k + 1) xs := by
    rw [← hh4]
    exact ((a1.but sb2.extBut (Ne.symm ne) nse).but sb3.extBut (Ne.symm ne) nse).kept (fun o q => Heap.get?_push_of_some _ q) fun o q => Heap.get?_push_of_some _ q
  refine wpAny_bind (m := Builtin.SmallTypes.ownedTupleIsFree (.ref e)) ?_
  rw [z3]
  clear hh4 en3 sb3 en2 sb2 en1 sb1 a1 z3 h3 h2 h1
  unfold Builtin.SmallTypes.ownedTupleIsFree
  refine wpAny_bind (wpAny_field en4 rfl (x := .none) rfl (wpAny_pure ?_))
  simp only [if_true]
  refine wpAny_bind (wpAny_rule ?_)
  refine wpAny_bind (m := field (.ref e) 5) (wpAny_field en4 rfl (x := old) rfl ?_)
  refine wpAny_bind (wpAny_setField_rec en4 (by simp) fun h5 en5 sb5 => ?_)
  replace sb5 : Heap.SameBut e h4 h5 := sb5
  replace en5 : IsEnum h5 e it ((k : Int) + 1) x := en5
  refine wpAny_bind (m := Builtin.SmallTypes.ownedTupleHandOut (.ref e) (.ref hp.objs.size)) ?_
  unfold Builtin.SmallTypes.ownedTupleHandOut
  refine wpAny_bind (wpAny_setField_rec en5 (by simp) fun h6 en6 sb6 => ?_)
  replace sb6 : Heap.SameBut e h5 h6 := sb6
  replace en6 : IsEnumOut h6 e it ((k : Int) + 1) x hp.objs.size := en6
  refine wpAny_setField_rec en6 (by simp) fun h7 en7 sb7 => ?_
  replace sb7 : Heap.SameBut e h6 h7 := sb7
  replace en7 : IsEnumOut h7 e it ((k : Int) + 1) x hp.objs.size := en7
  have up : ∀ b o, b ≠ e → h4.get? b = some o → h7.get? b = some o := fun b o n1 q => sb7.extBut b o n1 (sb6.extBut b o n1 (sb5.extBut b o n1 q))
  refine wpAny_bind (wpAny_letGo (wpAny_pure ⟨_, rfl, hQ h7 en7 (a4.kept (fun o q => up _ o (Ne.symm ne) q) fun o q => up _ o nse q) (up _ _ (Nat.ne_of_gt lte) t4) fun b o n1 n2 q => up b o n1 (k4 b o n1 n2 q)⟩))
theorem enumx_end {e it src : Addr} {k : Nat} {xs : Array Value} {old : Value} {Q : Option Value → Shared → Prop} (hh : A.handled = none) (he : IsEnum s.heap e it k old) (a : At s.heap it src k xs) (hx : xs[k]? = none)
    (hQ : ∀ h', Heap.ExtBut it s.heap h' → Q none { s with heap := h' }) : wpAny (model prog w) A (pyNext (.ref e)) Q E s := by
  have hT : s.TypeIs (.ref e) "enumerate" := ⟨_, he, rfl⟩
  have nx := F.slot_enumerate_next
  unfold pyNext
  refine wpAny_bind (wpAny_attempt (wpAny_callSpecial?_slot (name := Str.ofString "__next__") hT nx (wpAny_call_entry nx hT F.entry_enumerate_next ?_ (F.args_enumerate_next_1 _))))
  refine wpAny_bind (m := field (.ref e) 2) (wpAny_field he rfl (x := .ref it) rfl ?_)
  refine wpAny_bind (next_end hh a hx fun h' x he' hx' => ?_)
  obtain ⟨o, ho, hc⟩ := hx'
  exact wpAny_bind (wpAny_isInstance (T := "StopIteration") (b := true) ⟨o, ho, hc⟩ isSubtype_stop (wpAny_pure (hQ _ he')))
end
/-- enumerate's turns: pairs (k, item) -/
def Ite (K : PySem.W.Frag) (kd : Bool) (l : Addr) : It :=
  ⟨fun i H => ∃ xs x, (if kd then SqL K H l xs else SqT K H l xs) ∧ xs[i]? = some x,
   fun i H v H' => ∃ t, H t = none ∧ v = .ref t ∧ ∀ xs, (if kd then SqL K H l xs else SqT K H l xs) → ∃ x, xs[i]? = some x ∧ H' = upd H t (.tup [.int i, x]),
   fun i H => ∃ xs, (if kd then SqL K H l xs else SqT K H l xs) ∧ xs.length ≤ i⟩
def EnumSt (kd : Bool) (e it l : Addr) (i : Nat) (h : Heap) : Prop := (∃ old, IsEnum h e it i old) ∧ itk kd h it l i
theorem turn_enum {P : Program} {w : World} {K : PySem.W.Frag} {elts : List Expr} {x1 : Nat} {pos : Pos} (kd : Bool) (e it l : Addr) (ne : e ≠ it) (nle : l ≠ e) (nli : l ≠ it) :
    Turn P w K (.Tuple elts x1 pos) (Ite K kd l) [e, it] e (EnumSt kd e it l) where
  mem := by simp
  obj := fun i h st b hb => by
    obtain ⟨⟨old, he⟩, h1⟩ := st
    simp only [List.mem_cons, List.not_mem_nil, or_false] at hb
    rcases hb with rfl | rfl
    · exact ⟨_, he, fun v q => by cases (show Data.fields _ = Data.cell v from q)⟩
    · exact h1.obj
  keep := fun i h h' st k => by
    obtain ⟨⟨old, he⟩, h1⟩ := st
    exact ⟨⟨old, k e (by simp) _ he⟩, h1.kept fun o q => k it (by simp) o q⟩
  item := by
    intro X hP hw hK hc i pins s σ H E I hf st hg
    subst hP hw hK
    obtain ⟨xs, x, hx, ex⟩ := hg
    obtain ⟨⟨old, he⟩, h1⟩ := st
    obtain ⟨its, r1, q1⟩ := I.sqk hx
    obtain ⟨u, eu, ru⟩ := r1.get ex
    have hT : s.TypeIs (.ref e) "enumerate" := ⟨_, he, rfl⟩
    have ltT : ∀ b o, s.heap.get? b = some o → b ≠ s.heap.objs.size := fun b o q => Nat.ne_of_lt (Heap.lt_size q)
    unfold pyNext
    have nx := F.slot_enumerate_next
    refine wpAny_bind (wpAny_attempt (wpAny_callSpecial?_slot (name := Str.ofString "__next__") hT nx (wpAny_call_entry nx hT F.entry_enumerate_next
      (enumx_item he (h1.at q1) (x := u) (by simpa using eu) ne nli nle fun h' e' a' t' kp => wpAny_pure ?_) (F.args_enumerate_next_1 _))))
    refine ⟨.ref s.heap.objs.size, rfl, wpAny_letOwnedTupleGo_enum e' fun h2 e2 sb => ?_⟩
    have up : ∀ b o, b ≠ e → h'.get? b = some o → h2.get? b = some o := fun b o hb q => sb.extBut b o hb q
    have kp2 : ∀ b o, b ∉ [e, it] → s.heap.get? b = some o → h2.get? b = some o := fun b o hb q => by
      simp only [List.mem_cons, List.not_mem_nil, or_false, not_or] at hb
      exact up b o hb.1 (kp b o hb.1 hb.2 q)
    have eT : s.heap.objs.size ≠ e := fun q => ltT e _ he q.symm
    have tT : IsPair h2 s.heap.objs.size (.int i s.toks) u := up _ _ eT t'
    have q1' : sqk kd h' l its.toArray := by
      cases kd with
      | true => obtain ⟨o, q, r⟩ := q1; exact ⟨o, kp l o nle nli q, r⟩
      | false => obtain ⟨o, q, r⟩ := q1; exact ⟨o, kp l o nle nli q, r⟩
    have st' : EnumSt kd e it l (i + 1) h2 := ⟨⟨u, by simpa using e2⟩, (itk.of a' q1').kept fun o q => up _ o (Ne.symm ne) q⟩
    have fT : H s.heap.objs.size = none := I.fresh
    refine ⟨.ref s.heap.objs.size, upd H s.heap.objs.size (.tup [.int i, x]), I.turnedT (t' := s.toks + 1) (us := [.int i s.toks, u]) hf (Nat.le_refl _) kp2 (fun b hb => ?_) (.cons ⟨_, rfl⟩ (.cons ru .nil)) (by show 2 ≤ sizeLine; decide) ⟨_, tT, rfl, _, rfl⟩, rfl, ⟨_, fT, rfl, fun xs' hx' => ?_⟩, st', fun b hb => ?_⟩
    · obtain ⟨⟨o3, e3⟩, i3⟩ := st'
      simp only [List.mem_cons, List.not_mem_nil, or_false] at hb
      rcases hb with rfl | rfl
      · exact ⟨_, e3⟩
      · obtain ⟨o, q, _⟩ := i3.obj; exact ⟨o, q⟩
    · have e1 := I.sq_inj hx' hx
      subst e1
      exact ⟨x, ex, rfl⟩
    · obtain ⟨o, q⟩ : ∃ o, s.heap.get? b = some o := by
        simp only [List.mem_cons, List.not_mem_nil, or_false] at hb
        rcases hb with rfl | rfl
        · exact ⟨_, he⟩
        · obtain ⟨o, q, _⟩ := h1.obj; exact ⟨o, q⟩
      rw [upd_ne (ltT b o q)]
      exact (hf b hb).1
  done := by
    intro X hP hw hK hc i pins s σ H E I hf st hg
    subst hP hw hK
    obtain ⟨xs, hx, hend⟩ := hg
    obtain ⟨⟨old, he⟩, h1⟩ := st
    obtain ⟨its, r1, q1⟩ := I.sqk hx
    have l1 := r1.length
    refine enumx_end (I.ok.hd hc) he (h1.at q1) (by simp; omega) fun h' kp => ⟨rfl, I.turnedM (t' := s.toks) hf fun b o hb q => ?_⟩
    simp only [List.mem_cons, List.not_mem_nil, or_false, not_or] at hb
    exact kp b o hb.2 q
  self := fun _ _ _ _ _ st h => by
    obtain ⟨⟨old, he⟩, _⟩ := st
    exact wpAny_pyIter_enum he h
theorem enum_new (kd : Bool) (l : Addr) (xs : Array Value) :
    Meets (Builtin.«enumerate.__new__» ⟨[.type "enumerate", .ref l], []⟩) (fun _ R s => sqk kd s.heap l xs ∧
      R (.ok (.ret (.ref (s.heap.push (iterObj kd l)).objs.size))) { s with heap := (s.heap.push (iterObj kd l)).push { cls := .type "enumerate", data := .fields #[.none, .bool false, .ref s.heap.objs.size, rawInt 0, .none, .none] } }) :=
  .of_wp fun prog w A R s h => by
    obtain ⟨hp, g, d, tk, os⟩ := s
    obtain ⟨hl, h⟩ := h
    have hsub := sub_enumerate
    have hL : sqk kd (Shared.heap ⟨hp, g, d, tk, os⟩) l xs := hl
    wp_walk using pyIter_k hL
    refine wpAny_stack_any fun st => wpAny_pure ?_
    split
    · rename_i c _ _ _ _ _
      cases (c == Value.type "enumerate")
      · wp_walk using pyIter_k hL
        exact ⟨_, rfl, h⟩
      · wp_walk using pyIter_k hL
        exact ⟨_, rfl, h⟩
    · wp_walk using pyIter_k hL
      exact ⟨_, rfl, h⟩
theorem call_enumk {prog : Program} {w : World} {A : Around} {E : Value → Shared → Prop} {s : Shared} {kd : Bool} {l : Addr} {xs : Array Value} {Q : Value → Shared → Prop} (hl : sqk kd s.heap l xs)
    (h : ∀ h', EnumSt kd (s.heap.objs.size + 1) s.heap.objs.size l 0 h' → (∀ c o, s.heap.get? c = some o → h'.get? c = some o) → Q (.ref (s.heap.objs.size + 1)) { s with heap := h' }) :
    wpAny (model prog w) A (call (.type "enumerate") [.ref l]) Q E s := by
  refine callType_new F.called_enumerate (by decide) (F.typeCall_enumerate_1 _) (F.newCall_enumerate_1 _) (fun obj => F.args_object_init_2 obj _) F.entry_enumerate_new (enum_new kd l xs) ⟨hl, ?_⟩
  generalize hh1 : s.heap.push (iterObj kd l) = h1
  have s1 : h1.objs.size = s.heap.objs.size + 1 := by rw [← hh1, Heap.size_push]
  have g1 : h1.get? s.heap.objs.size = some (iterObj kd l) := by rw [← hh1]; exact Heap.get?_push_size _ (by rfl)
  have g5 := Heap.get?_push_size h1 (o := { cls := .type "enumerate", data := .fields #[.none, .bool false, .ref s.heap.objs.size, rawInt 0, .none, .none] }) rfl
  have u01 : ∀ c o, s.heap.get? c = some o → h1.get? c = some o := fun c o e => by rw [← hh1]; exact Heap.get?_push_of_some _ e
  rw [s1] at g5
  rw [s1]
  exact ⟨⟨_, g5, rfl⟩, h _ ⟨⟨_, g5⟩, itk.new (Heap.get?_push_of_some _ g1)⟩ fun c o e => Heap.get?_push_of_some _ (u01 _ _ e)⟩
section
variable {X : Cx}
def iEnum (K : PySem.W.Frag) (kd : Bool) (ta : TA) : TI := fun σ H R => ta σ H fun vs H1 => ∃ p xs, vs = [.ref p] ∧ (if kd then SqL K H1 p xs else SqT K H1 p xs) ∧ R (Ite K kd p) H1
theorem pi_enum {a : Expr} {ta : TA} {p pos pos' : Pos} {elts : List Expr} {x1 : Nat} (kd : Bool) (hg : Gl X "enumerate") (hm : X.mg "enumerate" = none) (hbt : bootBuiltins "enumerate" = some (.type "enumerate")) (ha : PA X [a] ta) (hs : starEach [a] X.env = [(false, eval a X.env)] := by rfl) :
    PI X (.Tuple elts x1 pos') (.Call (.Name "enumerate" p) [a] [] pos) (iEnum X.K kd ta) := by
  intro pins s σ H R I h
  refine Call_ (ld_blt I hg hm hbt (PyProof.Rows.callWith_type1 (thn (ha pos pins s σ H _ I h) fun us s1 ⟨vs, H1, I1, r1, q1⟩ => ?_) (by rw [hs]; rfl) (by rfl)))
  obtain ⟨l, xs, e, hx, q⟩ := q1
  subst e
  obtain ⟨u, rfl, r⟩ := vals1 r1
  cases r
  obtain ⟨its, v1, w1⟩ := I1.sqk hx
  have lt1 : l < s1.heap.objs.size := by
    cases kd with
    | true => obtain ⟨o, e, _⟩ := w1; exact Heap.lt_size e
    | false => obtain ⟨o, e, _⟩ := w1; exact Heap.lt_size e
  refine call_enumk w1 fun h' st kp => ?_
  obtain ⟨⟨old, he⟩, hit⟩ := id st
  refine wpAny_pyIter_enum he ?_
  have I2 : Inv X pins σ H1 { s1 with heap := h' } := I1.kept (t' := s1.toks) kp
  generalize hn : s1.heap.objs.size = n at *
  have lt1' : @LT.lt Nat _ l n := lt1
  refine ⟨n + 1, _, _, _, H1, rfl, I2, turn_enum kd (n + 1) n l (fun z => by have z' : @Eq Nat _ _ := z; omega) (fun z => by have z' : @Eq Nat _ _ := z; omega) (fun z => by have z' : @Eq Nat _ _ := z; omega), st, fun b hb => ?_, q⟩
  have hb' : n ≤ b := by
    simp only [List.mem_cons, List.not_mem_nil, or_false] at hb
    rcases hb with rfl | rfl <;> first | exact Nat.le_refl _ | exact Nat.le_add_right _ _
  exact I1.fpOk (by rw [hn]; exact hb') (I1.hok.fresh (by rw [hn]; exact hb'))
variable {a b c e : Expr} {es : List Expr} {pos : Pos} {ga gb : GE}
def enumD (ds : List D) : List D := (List.range ds.length).zipWith (fun (k : Nat) d => D.tup [.int k, d]) ds
theorem enumD_at (ds : List D) (i : Nat) : (enumD ds)[i]? = (ds[i]?).map fun d => D.tup [.int i, d] := by
  unfold enumD
  rw [List.getElem?_zipWith]
  by_cases h : i < ds.length
  · rw [List.getElem?_range h, List.getElem?_eq_getElem h]
    rfl
  · have h1 : ds[i]? = none := List.getElem?_eq_none_iff.mpr (by omega)
    rw [h1]
    cases (List.range ds.length)[i]? <;> rfl
theorem enumD_length (ds : List D) : (enumD ds).length = ds.length := by simp [enumD]
def gEnumT (ga : GE) : GF := fun δ Q => ga δ fun d => match d with
  | .tup xs => Q (enumD xs)
  | _ => False
def gEnumL (ga : GE) : GF := fun δ Q => ga δ fun d => match d with
  | .lst xs => Q (enumD xs)
  | _ => False
theorem walk_enum {K : PySem.W.Frag} {C1 : Hp} {p : Addr} {xs : List V} {ds : List D} (kd : Bool) (hx : if kd then SqL K C1 p xs else SqT K C1 p xs) (hd : Dens K C1 xs ds) : Walk K (Ite K kd p) (enumD ds) C1 := by
  intro C2 H2 c1 c2 i
  have hx2 : if kd then SqL K H2 p xs else SqT K H2 p xs := by
    cases kd with
    | true => exact c2.seq (c1.seq hx)
    | false => exact c2.seqT (c1.seqT hx)
  refine ⟨fun d e => ?_, fun hl => ⟨xs, hx2, by rw [enumD_length] at hl; rw [hd.length]; exact hl⟩⟩
  rw [enumD_at] at e
  cases e1 : ds[i]? with
  | none => rw [e1] at e; cases e
  | some d1 =>
    rw [e1] at e
    cases e
    obtain ⟨v1, ev1, n1⟩ := hd.get e1
    refine ⟨⟨xs, v1, hx2, ev1⟩, fun x H3 y => ?_⟩
    obtain ⟨t, ht, rfl, k⟩ := y
    obtain ⟨u, eu, rfl⟩ := k xs hx2
    rw [ev1] at eu
    cases eu
    refine ⟨upd C2 t (.tup [.int i, v1]), Ext.new c2 ht, den_tup.mpr ⟨t, _, rfl, SqT.of upd_same, ?_⟩⟩
    have up := Same.upd (o := .tup [.int i, v1]) (c2.free ht)
    exact .cons (den_int.mpr rfl) (.cons ((n1.mono c1).mono up) .nil)
theorem di_enumT {p pos' : Pos} {elts : List Expr} {x1 : Nat} (hg : Gl X "enumerate") (hm : X.mg "enumerate" = none) (hbt : bootBuiltins "enumerate" = some (.type "enumerate")) (ha : DE X a ga) (hs : starEach [a] X.env = [(false, eval a X.env)] := by rfl) :
    DI X (.Tuple elts x1 pos') (.Call (.Name "enumerate" p) [a] [] pos) (gEnumT ga) := by
  obtain ⟨t1, p1, h1⟩ := ha
  refine ⟨_, pi_enum false hg hm hbt (pa_cons p1 pa_nil hs) hs, fun C0 H0 δ σ C H Q R rp g k => h1 C0 H0 δ σ C H _ _ rp g fun d v C1 H1 q e1 n1 => ?_⟩
  cases d with
  | tup ds =>
    obtain ⟨p, xs, rfl, hx, hd⟩ := den_tup.mp n1
    exact ⟨p, xs, rfl, e1.ch.seqT hx, k _ _ C1 H1 q e1 (walk_enum false hx hd)⟩
  | _ => exact q.elim
theorem di_enumL {p pos' : Pos} {elts : List Expr} {x1 : Nat} (hg : Gl X "enumerate") (hm : X.mg "enumerate" = none) (hbt : bootBuiltins "enumerate" = some (.type "enumerate")) (ha : DE X a ga) (hs : starEach [a] X.env = [(false, eval a X.env)] := by rfl) :
    DI X (.Tuple elts x1 pos') (.Call (.Name "enumerate" p) [a] [] pos) (gEnumL ga) := by
  obtain ⟨t1, p1, h1⟩ := ha
  refine ⟨_, pi_enum true hg hm hbt (pa_cons p1 pa_nil hs) hs, fun C0 H0 δ σ C H Q R rp g k => h1 C0 H0 δ σ C H _ _ rp g fun d v C1 H1 q e1 n1 => ?_⟩
  cases d with
  | lst ds =>
    obtain ⟨p, xs, rfl, hx, hd⟩ := den_lst.mp n1
    exact ⟨p, xs, rfl, e1.ch.seq hx, k _ _ C1 H1 q e1 (walk_enum true hx hd)⟩
  | _ => exact q.elim
end
theorem bt_enumerate : bootBuiltins "enumerate" = some (.type "enumerate") := by decide +kernel
theorem bt_min : bootBuiltins "min" = some (.builtin "min") := by decide +kernel
theorem bt_max : bootBuiltins "max" = some (.builtin "max") := by decide +kernel
end L2
namespace L2
open PySem PySem.Spec PyProof.Rows
/-! ### min, max, sum of a list or a tuple of ints -/
def minI : List Int → Int
  | [] => 0
  | [x] => x
  | x :: y :: r => if x ≤ minI (y :: r) then x else minI (y :: r)
def maxI : List Int → Int
  | [] => 0
  | [x] => x
  | x :: y :: r => if maxI (y :: r) ≤ x then x else maxI (y :: r)
theorem minI_mem : ∀ {ns : List Int}, ns ≠ [] → minI ns ∈ ns ∧ ∀ a ∈ ns, minI ns ≤ a
  | [], h => absurd rfl h
  | [x], _ => by simp [minI]
  | x :: y :: r, _ => by
    obtain ⟨h1, h2⟩ := minI_mem (ns := y :: r) (by simp)
    unfold minI
    split
    · rename_i hx
      refine ⟨List.mem_cons_self, fun a ha => ?_⟩
      rcases List.mem_cons.mp ha with rfl | ha
      · omega
      · have := h2 a ha; omega
    · rename_i hx
      refine ⟨List.mem_cons_of_mem _ h1, fun a ha => ?_⟩
      rcases List.mem_cons.mp ha with rfl | ha
      · omega
      · exact h2 a ha
theorem maxI_mem : ∀ {ns : List Int}, ns ≠ [] → maxI ns ∈ ns ∧ ∀ a ∈ ns, a ≤ maxI ns
  | [], h => absurd rfl h
  | [x], _ => by simp [maxI]
  | x :: y :: r, _ => by
    obtain ⟨h1, h2⟩ := maxI_mem (ns := y :: r) (by simp)
    unfold maxI
    split
    · rename_i hx
      refine ⟨List.mem_cons_self, fun a ha => ?_⟩
      rcases List.mem_cons.mp ha with rfl | ha
      · omega
      · have := h2 a ha; omega
    · rename_i hx
      refine ⟨List.mem_cons_of_mem _ h1, fun a ha => ?_⟩
      rcases List.mem_cons.mp ha with rfl | ha
      · omega
      · exact h2 a ha
section
variable {prog : Program} {w : World} {A : Around}
theorem walks_k (hh : A.handled = none) (kd : Bool) (I l : Addr) (hne : l ≠ I) (xs : Array Value) : Walks prog w A I [I, l] [I] xs.size (fun i v => xs[i]? = some v) (fun i h => itk kd h I l i ∧ sqk kd h l xs) := by
  cases kd with
  | true => exact Walks.list hh I l hne xs
  | false => exact Walks.tuple hh I l hne xs
theorem sqk_lt {kd : Bool} {h : Heap} {l : Addr} {xs : Array Value} (q : sqk kd h l xs) : l < h.objs.size := by
  cases kd with
  | true => obtain ⟨o, e, _⟩ := q; exact Heap.lt_size e
  | false => obtain ⟨o, e, _⟩ := q; exact Heap.lt_size e
theorem fp_lt {h : Heap} {l : Addr} {o : Obj} (hl : l < h.objs.size) : ∀ b ∈ [h.objs.size, l], b < (h.push o).objs.size := fun b hb => by
  rw [Heap.size_push]
  rcases List.mem_cons.mp hb with rfl | hb
  · exact Nat.lt_succ_self _
  · rw [List.mem_singleton.mp hb]; exact Nat.lt_succ_of_lt hl
theorem st_new {kd : Bool} {h : Heap} {l : Addr} {xs : Array Value} (q : sqk kd h l xs) : itk kd (h.push (iterObj kd l)) h.objs.size l 0 ∧ sqk kd (h.push (iterObj kd l)) l xs :=
  ⟨itk.new (Heap.get?_push_size _ (by cases kd <;> rfl)), q.push _⟩
theorem vals_num {its : List Value} {ns : List Int} (r : Vals (ns.map V.int) its) : ∀ (i : Nat) v, its.toArray[i]? = some v → ∃ t, v = .int (ns.getD i 0) t := fun i v e => by
  have e' : its[i]? = some v := by simpa using e
  have hi : i < its.length := (List.getElem?_eq_some_iff.mp e').1
  have hl := r.length
  rw [List.length_map] at hl
  have en : (ns.map V.int)[i]? = some (.int (ns.getD i 0)) := by
    rw [List.getElem?_map, List.getElem?_eq_getElem (by omega)]
    simp [List.getD_eq_getElem?_getD, List.getElem?_eq_getElem (show i < ns.length by omega)]
  obtain ⟨u, eu, ru⟩ := r.get en
  rw [e'] at eu
  cases eu
  exact ru
end
section
variable {X : Cx}
def rNums (K : PySem.W.Frag) (ok : List Int → Prop) (f : List Int → Int) : List V → Hp → VK → Prop := fun xs H Q => ∃ p kd ns, xs = [.ref p] ∧ (if kd = true then SqL K H p (ns.map V.int) else SqT K H p (ns.map V.int)) ∧ ok ns ∧ Q (.int (f ns)) H
theorem call_minI (hc : X.calm = true) : CallR X (.builtin "min") (rNums X.K (· ≠ []) minI) := by
  intro pins s σ H xs us Q I r h
  obtain ⟨p, kd, ns, rfl, hq, hne, q⟩ := h
  obtain ⟨u, rfl, rx⟩ := vals1 r
  cases rx
  obtain ⟨its, r', w1⟩ := I.sqk hq
  have hl := r'.length
  rw [List.length_map] at hl
  have hn : 0 < ns.length := List.length_pos_iff.mpr hne
  refine call_min_walk (pyIter_k w1 ?_)
  refine ⟨s.heap.objs.size, _, _, its.toArray.size, _, _, fun i j => decide (ns.getD i 0 < ns.getD j 0), rfl, walks_k (A := X.A.in1) (I.ok.hd hc) kd _ p (Nat.ne_of_lt (sqk_lt w1)) its.toArray, st_new w1, fp_lt (sqk_lt w1), by rw [List.size_toArray]; omega,
    CmpOf.ints_lt (fun i => ns.getD i 0) (vals_num r'), fun v h' tk hP hk => ?_⟩
  obtain ⟨t, rfl⟩ := vals_num r' _ _ hP
  obtain ⟨b1, b2⟩ := argBest_lt (fun i => ns.getD i 0) (its.toArray.size - 1)
  have e : ns.getD (argBest (fun i j => decide (ns.getD i 0 < ns.getD j 0)) (its.toArray.size - 1)) 0 = minI ns := by
    obtain ⟨m1, m2⟩ := minI_mem hne
    rw [List.size_toArray] at b1 b2 ⊢
    have hi : argBest (fun i j => decide (ns.getD i 0 < ns.getD j 0)) (its.length - 1) < ns.length := by omega
    have c1 : ns.getD (argBest (fun i j => decide (ns.getD i 0 < ns.getD j 0)) (its.length - 1)) 0 ∈ ns := by
      rw [List.getD_eq_getElem?_getD, List.getElem?_eq_getElem hi, Option.getD_some]
      exact List.getElem_mem hi
    obtain ⟨j, hj, ej⟩ := List.mem_iff_getElem.mp m1
    have c2 := b2 j (by omega)
    have e2 : ns.getD j 0 = minI ns := by
      rw [List.getD_eq_getElem?_getD, List.getElem?_eq_getElem hj, Option.getD_some]
      exact ej
    rw [e2] at c2
    have := m2 _ c1
    omega
  rw [e]
  exact ⟨.int (minI ns), H, I.kept (t' := tk) (iter_up hk), ⟨t, rfl⟩, q⟩
theorem call_maxI (hc : X.calm = true) : CallR X (.builtin "max") (rNums X.K (· ≠ []) maxI) := by
  intro pins s σ H xs us Q I r h
  obtain ⟨p, kd, ns, rfl, hq, hne, q⟩ := h
  obtain ⟨u, rfl, rx⟩ := vals1 r
  cases rx
  obtain ⟨its, r', w1⟩ := I.sqk hq
  have hl := r'.length
  rw [List.length_map] at hl
  have hn : 0 < ns.length := List.length_pos_iff.mpr hne
  refine call_max_walk (pyIter_k w1 ?_)
  refine ⟨s.heap.objs.size, _, _, its.toArray.size, _, _, fun i j => decide (ns.getD i 0 > ns.getD j 0), rfl, walks_k (A := X.A.in1) (I.ok.hd hc) kd _ p (Nat.ne_of_lt (sqk_lt w1)) its.toArray, st_new w1, fp_lt (sqk_lt w1), by rw [List.size_toArray]; omega,
    CmpOf.ints_gt (fun i => ns.getD i 0) (vals_num r'), fun v h' tk hP hk => ?_⟩
  obtain ⟨t, rfl⟩ := vals_num r' _ _ hP
  obtain ⟨b1, b2⟩ := argBest_gt (fun i => ns.getD i 0) (its.toArray.size - 1)
  have e : ns.getD (argBest (fun i j => decide (ns.getD i 0 > ns.getD j 0)) (its.toArray.size - 1)) 0 = maxI ns := by
    obtain ⟨m1, m2⟩ := maxI_mem hne
    rw [List.size_toArray] at b1 b2 ⊢
    have hi : argBest (fun i j => decide (ns.getD i 0 > ns.getD j 0)) (its.length - 1) < ns.length := by omega
    have c1 : ns.getD (argBest (fun i j => decide (ns.getD i 0 > ns.getD j 0)) (its.length - 1)) 0 ∈ ns := by
      rw [List.getD_eq_getElem?_getD, List.getElem?_eq_getElem hi, Option.getD_some]
      exact List.getElem_mem hi
    obtain ⟨j, hj, ej⟩ := List.mem_iff_getElem.mp m1
    have c2 := b2 j (by omega)
    have e2 : ns.getD j 0 = maxI ns := by
      rw [List.getD_eq_getElem?_getD, List.getElem?_eq_getElem hj, Option.getD_some]
      exact ej
    rw [e2] at c2
    have := m2 _ c1
    omega
  rw [e]
  exact ⟨.int (maxI ns), H, I.kept (t' := tk) (iter_up hk), ⟨t, rfl⟩, q⟩
def cNums (ok : List Int → Prop) (f : List Int → Int) : List D → (D → Prop) → Prop := fun ds Q => match ds with
  | [d] => match seqOf d with
    | some xs => match intsD xs with
      | some ns => ok ns ∧ Q (.int (f ns))
      | none => False
    | none => False
  | _ => False
theorem dc_nums {id : String} {ok : List Int → Prop} {f : List Int → Int} (h : CallR X (.builtin id) (rNums X.K ok f)) : DCall X (.builtin id) (cNums ok f) := by
  refine ⟨_, h, fun xs ds C H Q R ch n q k => ?_⟩
  unfold cNums at q
  split at q
  · rename_i d
    obtain ⟨v, rfl, n1⟩ := dens_one n
    split at q
    · rename_i ys e
      split at q
      · rename_i ns e2
        obtain ⟨p, zs, rfl, hx, nd⟩ := seq_den ch n1 e
        rw [ints_eq e2] at nd
        have e3 := nd.ints
        subst e3
        rcases hx with hx | hx
        · exact ⟨p, true, ns, rfl, hx, q.1, k _ _ C H q.2 (Ext.refl ch) (den_int.mpr rfl)⟩
        · exact ⟨p, false, ns, rfl, hx, q.1, k _ _ C H q.2 (Ext.refl ch) (den_int.mpr rfl)⟩
      · exact q.elim
    · exact q.elim
  · exact q.elim
abbrev cMin := cNums (· ≠ []) minI
abbrev cMax := cNums (· ≠ []) maxI
theorem dc_min (hc : X.calm = true) : DCall X (.builtin "min") cMin := dc_nums (call_minI hc)
theorem dc_max (hc : X.calm = true) : DCall X (.builtin "max") cMax := dc_nums (call_maxI hc)
/-- int(b) of a truth or an int -/
def cInt : List D → (D → Prop) → Prop := fun ds Q => match ds with
  | [.bl b] => Q (.int (if b then 1 else 0))
  | [.int i] => Q (.int i)
  | _ => False
theorem dc_int : DCall X (.type "int") cInt := by
  refine ⟨_, call_int1, fun xs ds C H Q R ch n q k => ?_⟩
  unfold cInt at q
  split at q
  · obtain ⟨v, rfl, n1⟩ := dens_one n
    rw [den_bl.mp n1]
    exact .inr ⟨_, rfl, k _ _ C H q (Ext.refl ch) (den_int.mpr rfl)⟩
  · obtain ⟨v, rfl, n1⟩ := dens_one n
    rw [den_int.mp n1]
    exact .inl ⟨_, rfl, k _ _ C H q (Ext.refl ch) (den_int.mpr rfl)⟩
  · exact q.elim
/-! ### is None, is not None; is True .. -/
variable {a b c e : Expr} {es : List Expr} {pos : Pos} {ga gb gc : GE} {gf : GF}
/-! ### a new list times a number -/
def gRepL (gf : GF) (gb : GE) : GF := fun δ Q => gf δ fun ds => gb δ fun k => match k with
  | .int k => (-(2 ^ 63) ≤ k ∧ k < 2 ^ 63 ∧ ds.length * k.toNat ≤ sizeLine) ∧ Q (List.replicate k.toNat ds).flatten
  | _ => False
theorem df_rep (ha : DF X a gf) (hb : DE X b gb) : DF X (.BinOp a .Mult b pos) (gRepL gf gb) := by
  obtain ⟨t1, p1, h1⟩ := ha
  obtain ⟨t2, p2, h2⟩ := hb
  refine ⟨_, pe_op op_rep p1 p2, fun C0 H0 δ σ C H Q R rp g k => ?_⟩
  refine h1 C0 H0 δ σ C H _ _ rp g fun ds p xs C1 H1 q e1 hc hn hl hd => h2 C0 H0 δ σ C1 H1 _ _ (rp.grow e1) q fun d2 v2 C2 H2 q2 e2 n2 => ?_
  cases d2 with
  | int j =>
    obtain ⟨⟨c1, c2, c3⟩, q2⟩ := q2
    rw [den_int.mp n2]
    have e12 := e1.trans e2
    exact ⟨p, j, xs, rfl, rfl, e2.hh _ _ hl, c1, c2, by rw [hd.length]; exact c3, fun l hl2 => k _ l _ C2 _ q2 (e12.trans (Ext.newO e2.ch hl2)) (e2.ch.free hl2) (e12.hh.free hl2) upd_same ((hd.mono e2.cc).rep _)⟩
  | _ => exact q2.elim
/-! ### slices of a list -/
def gSlL (ga : GE) (gl gh : GP) : GF := fun δ Q => ga δ fun d => gl δ fun lo => gh δ fun hi => match d with
  | .lst ds => Q (cutD ds lo hi)
  | _ => False
theorem df_slL {lo hi : Option Expr} {gl gh : GP} {p2 : Pos} (ha : DE X a ga) (hl : DO X lo gl) (hh : DO X hi gh) : DF X (.Subscript a (.Slice lo hi none p2) pos) (gSlL ga gl gh) := by
  obtain ⟨t1, p1, h1⟩ := ha
  obtain ⟨t2, p2', h2⟩ := hl
  obtain ⟨t3, p3, h3⟩ := hh
  refine ⟨_, pe_slice sl_list p1 p2' p3, fun C0 H0 δ σ C H Q R rp g k => ?_⟩
  refine h1 C0 H0 δ σ C H _ _ rp g fun d v C1 H1 q e1 n1 => h2 C0 H0 δ σ C1 H1 _ _ (rp.grow e1) q fun o C2 H2 q2 e2 => h3 C0 H0 δ σ C2 H2 _ _ ((rp.grow e1).grow e2) q2 fun o2 C3 H3 q3 e3 => ?_
  have n1' := (n1.mono e2.cc).mono e3.cc
  have e123 := e1.trans (e2.trans e3)
  cases d with
  | lst ds =>
    obtain ⟨p, xs, rfl, hx, hd⟩ := den_lst.mp n1'
    exact ⟨p, xs, rfl, e3.ch.seq hx, fun p' hp => k _ p' _ C3 _ q3 (e123.trans (Ext.newO e3.ch hp)) (e3.ch.free hp) (e123.hh.free hp) upd_same (dens_cut hd)⟩
  | _ => exact q3.elim
/-! ### three targets -/
/-! ### a, b = x, y -/
def gPar (i j : Nat) (ga gb : GE) : GS := fun De δ => ga δ fun x => gb δ fun y => De.nx ((δ.set i (.im x)).set j (.im y))
/-! ### xs.pop() of a list of one's own: name = xs.pop() -/
end
end L2
namespace L2
open PySem PySem.Spec PyProof.Rows
section
variable {X : Cx} {a b c e : Expr} {es : List Expr} {pos : Pos} {ga gb gc : GE} {gf : GF} {ta : TE}
/-! ### not e, as a value, whatever e is -/
theorem pe_notT (ha : PE X a ta) : PE X (.UnaryOp .Not a pos) (fun σ H Q => ta σ H fun x H' => ∃ k, TruV X.K x H' k ∧ Q (.bl (!k)) H') := by
  intro pins s σ H Q I h
  refine UnaryOp_ (thn (ha pins s σ H _ I h) fun v s1 ⟨x, H1, I1, r1, q1⟩ => ?_)
  exact not_of (thn (tru_ok pins s1 σ H1 x v (fun k H' => Q (.bl (!k)) H') I1 r1 q1) fun k s2 ⟨H2, I2, q2⟩ => ⟨.bl (!k), H2, I2, rfl, q2⟩)
def truD (d : D) (Q : Bool → Prop) : Prop := match d with
  | .bl b => Q b
  | .int i => Q (i != 0)
  | .non => Q false
  | .str x => x.length ≤ sizeLine ∧ Q ((x.length : Int) != 0)
  | .tup ds => Q (!ds.isEmpty)
  | .lst ds => Q (!ds.isEmpty)
def gNotT (ga : GE) : GE := fun δ Q => ga δ fun d => truD d fun k => Q (.bl (!k))
theorem de_notT (ha : DE X a ga) : DE X (.UnaryOp .Not a pos) (gNotT ga) := by
  obtain ⟨t1, p1, h1⟩ := ha
  refine ⟨_, pe_notT p1, fun C0 H0 δ σ C H Q R rp g k => h1 C0 H0 δ σ C H _ _ rp g fun d v C1 H1 q e1 n1 => ?_⟩
  have fin : ∀ b : Bool, Q (.bl (!b)) → R (.bl (!b)) H1 := fun b q => k _ _ C1 H1 q e1 (den_bl.mpr rfl)
  cases d with
  | bl b => rw [den_bl.mp n1]; exact ⟨b, rfl, fin _ q⟩
  | int i => rw [den_int.mp n1]; exact ⟨_, rfl, fin _ q⟩
  | non => rw [den_non.mp n1]; exact ⟨_, rfl, fin _ q⟩
  | str i => rw [den_str.mp n1]; exact ⟨_, ⟨q.1, rfl⟩, fin _ q.2⟩
  | tup ds =>
    obtain ⟨p, xs, rfl, hx, hd⟩ := den_tup.mp n1
    refine ⟨_, .inr (.inl ⟨xs, e1.ch.seqT hx, rfl⟩), fin _ ?_⟩
    rw [dens_empty hd]; exact q
  | lst ds =>
    obtain ⟨p, xs, rfl, hx, hd⟩ := den_lst.mp n1
    refine ⟨_, .inl ⟨xs, e1.ch.seq hx, rfl⟩, fin _ ?_⟩
    rw [dens_empty hd]; exact q
end
/-! ### max of a list of pairs of ints -/
def lexG (p q : Int × Int) : Bool := decide (p.1 > q.1) || (decide (p.1 = q.1) && decide (p.2 > q.2))
section
variable {prog : Program} {w : World} {A : Around} {R : Result → Shared → Prop}
/-- the loop of max, its items in the heap: Kp stays as long as nothing but wr and S changes -/
theorem max_loopH {I : Addr} {fp wr : List Addr} {n : Nat} {P : Nat → Value → Prop} {St : Nat → Heap → Prop} (W : Walks prog w A.in1 I fp wr n P St) (Kp : Heap → Prop) (S : Addr) (hSf : S ∉ fp)
    (hK : ∀ h h', Kp h → (∀ b o, b ∉ wr → b ≠ S → h.get? b = some o → h'.get? b = some o) → Kp h') (bt : Nat → Nat → Bool)
    (hcmp : ∀ i j vi vj (s : Shared) (Q : Value → Shared → Prop) (E : Value → Shared → Prop), Kp s.heap → P i vi → P j vj → Q (.bool (bt i j)) s → wpAny (model prog w) A.in1 (richCompare .Gt vi vj) Q E s) :
    ∀ (k j : Nat) (s : Shared) (vb : Value) (c : Nat), n - (j + 1) = k → j + 1 ≤ n → St (j + 1) s.heap → Kp s.heap → P (argBest bt j) vb → s.heap.get? S = some { cls := .type "list", dict := none, data := .seq #[vb, vb] c, slots := #[] } →
    (∀ v h' tk, P (argBest bt (n - 1)) v → (∀ b o, b ∉ wr → b ≠ S → s.heap.get? b = some o → h'.get? b = some o) → R (.ok (.ret v)) { s with heap := h', toks := tk }) →
    codeAny (model prog w) A (.builtin "max.loop" ⟨[.ref I, .none, .ref S], []⟩) R s := by
  have nSw : S ∉ wr := fun z => hSf (W.sub _ z)
  have nm : (toString "max" ++ toString ".loop" : String) = "max.loop" := by decide
  intro k
  induction k with
  | zero =>
    intro j s vb c hk hj hst hkp hPb hS hR
    have en : j + 1 = n := by omega
    refine codeAny_builtin F.entry_max_loop ?_
    rw [Around.under_plainId F.plain_max_loop _]
    refine wpAny_bind (m := seqItems? (.ref S)) (wpAny_seqItems hS rfl ?_)
    refine wpAny_bind (m := tryCatch (pyNext (.ref I)) _) (wpAny_tryCatch (W.done s _ _ (en ▸ hst) fun h' tk kp => ?_))
    have hS' := kp S _ nSw hS
    refine wpAny_bind (m := updateSeq S (fun _ => #[])) (wpAny_updateSeq hS' rfl (wpAny_bind (wpAny_letGo (wpAny_pure ?_))))
    exact hR vb _ tk (by rw [← en]; exact hPb) fun b o z1 z2 q => (Heap.get?_update_other _ _ (Ne.symm z2)).trans (kp b o z1 q)
  | succ k ih =>
    intro j s vb c hk hj hst hkp hPb hS hR
    have hlt : j + 1 < n := by omega
    refine codeAny_builtin F.entry_max_loop ?_
    rw [Around.under_plainId F.plain_max_loop _]
    refine wpAny_bind (m := seqItems? (.ref S)) (wpAny_seqItems hS rfl ?_)
    refine wpAny_bind (m := tryCatch (pyNext (.ref I)) _) (wpAny_tryCatch (W.item (j + 1) s _ _ hlt hst fun v h' tk hP hst' kp => ?_))
    have hS' := kp S _ nSw hS
    have hkp' : Kp h' := hK _ _ hkp fun b o z1 z2 q => kp b o z1 q
    refine wpAny_bind (m := tryCatch (holding [v, v] (richCompare .Gt v vb >>= _)) _) (wpAny_tryCatch (wpAny_holding (wpAny_bind (hcmp (j + 1) (argBest bt j) v vb _ _ _ hkp' hP hPb ?_))))
    refine wpAny_bind (wpAny_holding (wpAny_truthy_bool ?_))
    refine wpAny_bind (wpAny_letGo (wpAny_pure ?_))
    cases hb : bt (j + 1) (argBest bt j) with
    | true =>
      simp only [if_true]
      refine wpAny_bind (wpAny_updateSeq hS' rfl (wpAny_bind (wpAny_letGo ?_)))
      rw [nm]
      refine wpAny_pure ⟨plainId_quiet F.plain_max_loop _, ih (j + 1) _ v _ (by omega) hlt (W.frame _ _ _ hst' fun b z o q => ?_) (hK _ _ hkp' fun b o z1 z2 q => ?_) (by simp only [argBest, hb, if_true]; exact hP) (Heap.get?_update_self _ hS' rfl) fun v' h2 tk2 hP' kp2 => ?_⟩
      · exact (Heap.get?_update_other _ _ (fun z2 : S = b => hSf (by rw [z2]; exact z))).trans q
      · exact (Heap.get?_update_other _ _ (Ne.symm z2)).trans q
      · exact hR v' h2 tk2 hP' fun b o z1 z2 q => kp2 b o z1 z2 ((Heap.get?_update_other _ _ (Ne.symm z2)).trans (kp b o z1 q))
    | false =>
      simp only [Bool.false_eq_true, if_false]
      refine wpAny_bind (wpAny_letGo ?_)
      rw [nm]
      exact wpAny_pure ⟨plainId_quiet F.plain_max_loop _, ih (j + 1) _ vb c (by omega) hlt hst' hkp' (by simp only [argBest, hb, Bool.false_eq_true, if_false]; exact hPb) hS' fun v' h2 tk2 hP' kp2 => hR v' h2 tk2 hP' fun b o z1 z2 q => kp2 b o z1 z2 (kp b o z1 q)⟩
theorem call_max_walkH {E : Value → Shared → Prop} {s : Shared} {x : Value} {Q : Value → Shared → Prop}
    (h : wpAny (model prog w) A.in1 (pyIter x) (fun it s₂ => ∃ I fp wr n P St bt, ∃ Kp : Heap → Prop, it = .ref I ∧ Walks prog w A.in1 I fp wr n P St ∧ St 0 s₂.heap ∧ (∀ b ∈ fp, b < s₂.heap.objs.size) ∧ 0 < n ∧ Kp s₂.heap ∧
      (∀ h h' : Heap, Kp h → (∀ b o, b ∉ wr → b ≠ s₂.heap.objs.size → h.get? b = some o → h'.get? b = some o) → Kp h') ∧
      (∀ i j vi vj (s : Shared) (Q : Value → Shared → Prop) (E : Value → Shared → Prop), Kp s.heap → P i vi → P j vj → Q (.bool (bt i j)) s → wpAny (model prog w) A.in1 (richCompare .Gt vi vj) Q E s) ∧
      ∀ v h' tk, P (argBest bt (n - 1)) v → (∀ b o, b ∉ wr → s₂.heap.get? b = some o → h'.get? b = some o) → Q v { s₂ with heap := h', toks := tk }) E s) :
    wpAny (model prog w) A (call (.builtin "max") [x]) Q E s := by
  have nm : (toString "max" ++ toString ".loop" : String) = "max.loop" := by decide
  refine call_function_tree F.kind_max F.plain_max F.entry_max (F.args_max1 _) ?_
  refine wpAny_bind (m := Builtin.Builtins.bindParams "max" ["key", "default"] 0 ⟨[], []⟩) (wpAny_of_eq (a := [none, none]) rfl ?_)
  refine wpAny_bind (wpAny_pure ?_)
  refine wpAny_bind (m := pyIter x) (wpAny_mono h (fun it s₂ h₂ => ?_) fun _ _ e => e)
  obtain ⟨I, fp, wr, n, P, St, bt, Kp, rfl, W, hst, hfp, hn, hkp, hK, hcmp, hQ⟩ := h₂
  refine wpAny_bind (wpAny_newObj_type ?_)
  have hSf : s₂.heap.objs.size ∉ fp := fun hm => Nat.lt_irrefl _ (hfp _ hm)
  have nSw : s₂.heap.objs.size ∉ wr := fun z => hSf (W.sub _ z)
  rw [nm]
  generalize hS0 : s₂.heap.objs.size = S at *
  refine wpAny_pure ⟨plainId_quiet F.plain_max_loop _, codeAny_builtin F.entry_max_loop ?_⟩
  rw [Around.under_plainId F.plain_max_loop _]
  have hS : (s₂.heap.push { cls := .type "list", data := .seq #[] }).get? S = some { cls := .type "list", dict := none, data := .seq #[] 0, slots := #[] } := by rw [← hS0]; exact Heap.get?_push_size _ rfl
  have up0 : ∀ b o, s₂.heap.get? b = some o → (s₂.heap.push { cls := .type "list", data := .seq #[] }).get? b = some o := fun b o e => Heap.get?_push_of_some _ e
  refine wpAny_bind (m := seqItems? (.ref S)) (wpAny_seqItems hS rfl ?_)
  refine wpAny_bind (m := tryCatch (pyNext (.ref I)) _) (wpAny_tryCatch (W.item 0 _ _ _ hn (W.frame _ _ _ hst fun b _ o e => up0 b o e) fun v h' tk hP hst' kp => ?_))
  have hS' := kp S _ nSw hS
  have hkp' : Kp h' := hK _ _ hkp fun b o z1 z2 q => kp b o z1 (up0 b o q)
  refine wpAny_bind (m := updateSeq S (fun _ => #[v, v])) (wpAny_updateSeq hS' rfl ?_)
  rw [nm]
  refine wpAny_pure ⟨plainId_quiet F.plain_max_loop _, max_loopH W Kp S hSf hK bt hcmp _ 0 _ v _ rfl hn (W.frame _ _ _ hst' fun b z o q => ?_) (hK _ _ hkp' fun b o z1 z2 q => (Heap.get?_update_other _ _ (Ne.symm z2)).trans q) hP (Heap.get?_update_self _ hS' rfl) fun v' h2 tk2 hP' kp2 => ?_⟩
  · exact (Heap.get?_update_other _ _ (fun z2 : S = b => hSf (by rw [z2]; exact z))).trans q
  · refine hQ v' h2 tk2 hP' fun b o z q => ?_
    have z2 : b ≠ S := by rw [← hS0]; exact Nat.ne_of_lt (Heap.lt_size q)
    exact kp2 b o z z2 ((Heap.get?_update_other _ _ (Ne.symm z2)).trans (kp b o z (up0 b o q)))
end
end L2
namespace L2
open PySem PySem.Spec PyProof.Rows
/-! ### t > u of tuples of ints; max of a list of pairs of ints -/
namespace HG
def lexGt : List Int → List Int → Bool
  | [], [] => false
  | [], _ :: _ => false
  | _ :: _, [] => true
  | x :: xs, y :: ys => if x = y then lexGt xs ys else decide (x > y)
theorem lexGt_cons (x y : Int) (xs ys : List Int) : lexGt (x :: xs) (y :: ys) = if x = y then lexGt xs ys else decide (x > y) := rfl
theorem lexGt_nil_nil : lexGt [] [] = false := rfl
theorem lexGt_nil_cons (y : Int) (ys : List Int) : lexGt [] (y :: ys) = false := rfl
theorem lexGt_cons_nil (x : Int) (xs : List Int) : lexGt (x :: xs) [] = true := rfl
theorem rcGt_int (A : Around) (s : Shared) (a : Int) (t : Tok) (c : Int) (u : Tok) (prog : Program) (w : World) (E : Value → Shared → Prop) (Q : Value → Shared → Prop) (h : Q (.bool (decide (a > c))) s) :
    wpAny (model prog w) A (richCompare .Gt (.int a t) (.int c u)) Q E s :=
  (PyProof.Rows.gt_int h : wpAny (model prog w) A (compareOp .Gt (.int a t) (.int c u)) Q E s)
section
open PySem.SeqAt
open PySem.AutoSeq1 (wpAny_loadPart')
open PySem.MeetsSeq PySem.MeetsSeq2 PySem.MeetsSeq3
theorem tuple_gt_ints (l b : Addr) (items items2 : Array Value) (n n2 : Nat) (dd dd2 : Option Addr) (sl sl2 : Array (Option Value)) (ns ms : List Int) (hi : IntsAre items.toList ns) (hj : IntsAre items2.toList ms) :
    Meets (Builtin.«tuple.__gt__» ⟨[.ref l, .ref b], []⟩)
      (fun _ R s => s.heap.get? l = some { cls := .type "tuple", dict := dd, data := .seq items n, slots := sl } ∧ s.heap.get? b = some { cls := .type "tuple", dict := dd2, data := .seq items2 n2, slots := sl2 } ∧
        R (.ok (.ret (.bool (lexGt ns ms)))) s) :=
  .of_wp fun prog w A R s h => by
    obtain ⟨hp, g, d, tk, os⟩ := s; obtain ⟨hl, hb, h⟩ := h
    have f2 := AutoSeq1.sub_tuple_tuple
    have z1 : items.size = ns.length := by rw [← hi.length]; simp
    have z2 : items2.size = ms.length := by rw [← hj.length]; simp
    wp_walk using wpAny_loadPart' hl, wpAny_loadPart' hb, wpAny_forIn_list _ (fun rest b s' => b.1 = none ∧ s' = ⟨hp, g, d, tk, os⟩ ∧ ∃ (vs ws : List Value) (ns' ms' : List Int), rest = vs.zip ws ∧
      IntsAre vs ns' ∧ IntsAre ws ms' ∧ ns'.length + items2.size = ms'.length + items.size ∧ R (.ok (.ret (.bool (lexGt ns' ms')))) ⟨hp, g, d, tk, os⟩) _
    case turn =>
      rintro ⟨y, x⟩ rest b s' ⟨hb', rfl, vs, ws, ns', ms', hz, hvi, hwi, hlen, hR⟩
      cases hvi with
      | nil => rw [List.zip_nil_left] at hz; cases hz
      | cons a t hvi' =>
        cases hwi with
        | nil => rw [List.zip_nil_right] at hz; cases hz
        | cons c u hwi' =>
          rw [List.zip_cons_cons] at hz
          injection hz with hyx hrest
          injection hyx with hy hx
          subst hy hx
          rw [lexGt_cons] at hR
          simp only [List.length_cons] at hlen
          obtain ⟨e, he, hiff⟩ := _root_.HT.eqAt_int A.in1 ⟨hp, g, d, tk, os⟩ a t c u
          refine wpAny_bind (he prog w _ _ ?_)
          cases e with
          | true =>
            rw [if_pos (hiff.mp rfl)] at hR
            wp_walk
            exact ⟨rfl, rfl, _, _, _, _, hrest, hvi', hwi', by omega, hR⟩
          | false =>
            rw [if_neg (fun q => absurd (hiff.mpr q) Bool.false_ne_true)] at hR
            have hri := rcGt_int A.in1 ⟨hp, g, d, tk, os⟩ a t c u prog w
            wp_walk using hri
            exact ⟨_, rfl, by simpa using hR⟩
    case fin =>
      rintro ⟨b1, b2⟩ s' ⟨hb', rfl, vs, ws, ns', ms', hz, hvi, hwi, hlen, hR⟩
      simp only at hb'
      subst hb'
      have hv : lexGt ns' ms' = decide (items.size > items2.size) := by
        cases hvi with
        | nil =>
          cases hwi with
          | nil =>
            simp only [List.length_nil] at hlen
            rw [lexGt_nil_nil]
            exact (decide_eq_false (by omega)).symm
          | cons c u hw =>
            simp only [List.length_nil, List.length_cons] at hlen
            rw [lexGt_nil_cons]
            exact (decide_eq_false (by omega)).symm
        | cons a t hv =>
          cases hwi with
          | nil =>
            simp only [List.length_nil, List.length_cons] at hlen
            rw [lexGt_cons_nil]
            exact (decide_eq_true (by omega)).symm
          | cons c u hw =>
            rw [List.zip_cons_cons] at hz
            cases hz
      rw [hv] at hR
      wp_walk
      exact ⟨_, rfl, by simpa [Builtin.Tuple.tupleCompareSizes] using hR⟩
    case h =>
      exact ⟨rfl, rfl, items.toList, items2.toList, ns, ms, rfl, hi, hj, by omega, h⟩
end
theorem rc_gt {prog : Program} {w : World} {A : Around} {E : Value → Shared → Prop} {s : Shared} {l b : Addr} {its its2 : Array Value} {ns ms : List Int} {Q : Value → Shared → Prop} (hl : IsTup s.heap l its) (hb : IsTup s.heap b its2) (hi : IntsAre its.toList ns) (hj : IntsAre its2.toList ms)
    (hu : A.units < cLine) (h : Q (.bool (lexGt ns ms)) s) : wpAny (model prog w) A (richCompare .Gt (.ref l) (.ref b)) Q E s := by
  obtain ⟨⟨cls, dd, data, sl⟩, ho, hc, n, hd⟩ := id hl
  obtain ⟨⟨cls2, dd2, data2, sl2⟩, ho2, hc2, n2, hd2⟩ := id hb
  simp only at hc hd hc2 hd2
  subst hc hd hc2 hd2
  exact richCompare_meets_room (op := .Gt) ⟨_, ho, rfl⟩ ⟨_, ho2, rfl⟩ PySem.F.slot_tuple_gt PySem.F.entry_tuple_gt (PySem.F.args_tuple_gt_2 _ _) (tuple_gt_ints l b its its2 n n2 dd dd2 sl sl2 ns ms hi hj)
    ⟨ho, ho2, show Value.bool (lexGt ns ms) ≠ Value.notImplemented ∧ Q (.bool (lexGt ns ms)) s from ⟨(fun x => nomatch x), h⟩⟩ hu
end HG
theorem lexG_eq (p q : Int × Int) : HG.lexGt [p.1, p.2] [q.1, q.2] = lexG p q := by
  rw [HG.lexGt_cons, HG.lexGt_cons, HG.lexGt_nil_nil]
  unfold lexG
  by_cases h1 : p.1 = q.1
  · by_cases h2 : p.2 = q.2
    · simp [h1, h2]
    · simp [h1, h2]
  · simp [h1]
def maxP : List (Int × Int) → Int × Int
  | [] => (0, 0)
  | [x] => x
  | x :: y :: r => if lexG (maxP (y :: r)) x = true then maxP (y :: r) else x
theorem lexG_total (p q : Int × Int) (h : lexG p q = false) (h2 : lexG q p = false) : p = q := by
  unfold lexG at h h2
  simp only [Bool.or_eq_false_iff, Bool.and_eq_false_iff, decide_eq_false_iff_not] at h h2
  have : p.1 = q.1 := by omega
  have : p.2 = q.2 := by omega
  exact Prod.ext (by omega) (by omega)
theorem lexG_trans {p q r : Int × Int} (h : lexG p q = false) (h2 : lexG q r = false) : lexG p r = false := by
  unfold lexG at *
  simp only [Bool.or_eq_false_iff, Bool.and_eq_false_iff, decide_eq_false_iff_not] at *
  omega
theorem lexG_asymm {p q : Int × Int} (h : lexG p q = true) : lexG q p = false := by
  unfold lexG at *
  simp only [Bool.or_eq_false_iff, Bool.and_eq_false_iff, decide_eq_false_iff_not, Bool.or_eq_true, Bool.and_eq_true, decide_eq_true_eq] at *
  omega
theorem lexG_irr (p : Int × Int) : lexG p p = false := by
  unfold lexG
  simp
theorem maxP_mem : ∀ {ps : List (Int × Int)}, ps ≠ [] → maxP ps ∈ ps ∧ ∀ a ∈ ps, lexG a (maxP ps) = false
  | [], h => absurd rfl h
  | [x], _ => by
    simp only [maxP, List.mem_singleton, true_and]
    rintro a rfl
    exact lexG_irr a
  | x :: y :: r, _ => by
    obtain ⟨h1, h2⟩ := maxP_mem (ps := y :: r) (by simp)
    unfold maxP
    split
    · rename_i hx
      refine ⟨List.mem_cons_of_mem _ h1, fun a ha => ?_⟩
      rcases List.mem_cons.mp ha with rfl | ha
      · exact lexG_asymm hx
      · exact h2 a ha
    · rename_i hx
      have hx' : lexG (maxP (y :: r)) x = false := by simpa using hx
      refine ⟨List.mem_cons_self, fun a ha => ?_⟩
      rcases List.mem_cons.mp ha with rfl | ha
      · exact lexG_irr a
      · exact lexG_trans (h2 a ha) hx'
theorem argBest_P (f : Nat → Int × Int) : ∀ k, argBest (fun i j => lexG (f i) (f j)) k ≤ k ∧ ∀ j, j ≤ k → lexG (f j) (f (argBest (fun i j => lexG (f i) (f j)) k)) = false
  | 0 => ⟨Nat.le_refl _, fun j hj => by
    have : j = 0 := by omega
    subst this
    exact lexG_irr _⟩
  | k + 1 => by
    obtain ⟨h1, h2⟩ := argBest_P f k
    unfold argBest
    split
    · rename_i hb
      refine ⟨Nat.le_refl _, fun j hj => ?_⟩
      by_cases e : j = k + 1
      · subst e; exact lexG_irr _
      · exact lexG_trans (h2 j (by omega)) (lexG_asymm hb)
    · rename_i hb
      refine ⟨by omega, fun j hj => ?_⟩
      by_cases e : j = k + 1
      · subst e; simpa using hb
      · exact h2 j (by omega)
/-- the pairs of a list -/
def pairsD : List D → Option (List (Int × Int))
  | [] => some []
  | .tup [.int a, .int b] :: r => (pairsD r).map ((a, b) :: ·)
  | _ :: _ => none
theorem pairs_eq : ∀ {ds : List D} {ps : List (Int × Int)}, pairsD ds = some ps → ds = ps.map fun p => D.tup [.int p.1, .int p.2]
  | [], ps, h => by cases h; rfl
  | d :: r, ps, h => by
    unfold pairsD at h
    split at h
    · rename_i e; cases e
    · rename_i a b r' e
      cases e
      cases e2 : pairsD r with
      | none => rw [e2] at h; cases h
      | some qs => rw [e2] at h; cases h; rw [List.map_cons, ← pairs_eq e2]
    · cases h
theorem pairs_map (ps : List (Int × Int)) : pairsD (ps.map fun p => D.tup [.int p.1, .int p.2]) = some ps := by
  induction ps with
  | nil => rfl
  | cons p ps ih => rw [List.map_cons, pairsD, ih]; rfl
section
variable {X : Cx}
def rMaxP (K : PySem.W.Frag) : List V → Hp → VK → Prop := fun xs H Q => ∃ C p vs ps, Same C H ∧ xs = [.ref p] ∧ SqL K H p vs ∧ Dens K C vs (ps.map fun p => D.tup [.int p.1, .int p.2]) ∧ ps ≠ [] ∧ ∀ v, Den K C v (D.tup [.int (maxP ps).1, .int (maxP ps).2]) → Q v H
theorem call_maxP (hc : X.calm = true) (hu : X.A.units + 64 < cLine) : CallR X (.builtin "max") (rMaxP X.K) := by
  intro pins s σ H xs us Q I r h
  obtain ⟨C, p, vs, ps, ch, rfl, hq, nd, hne, q⟩ := h
  obtain ⟨u, rfl, rx⟩ := vals1 r
  cases rx
  obtain ⟨its, r', w1⟩ := I.sqk (kind := true) hq
  have hl := r'.length
  have hl2 := nd.length
  rw [List.length_map] at hl2
  have hn : 0 < ps.length := List.length_pos_iff.mpr hne
  have hp : p < s.heap.objs.size := sqk_lt w1
  -- an item's tuple, in the heap ahead of the call
  have at_ : ∀ (i : Nat) u, its.toArray[i]? = some u → ∃ v t us', vs[i]? = some v ∧ RelV v u ∧ u = .ref t ∧ IsTup s.heap t us' ∧ IntsAre us'.toList [(ps.getD i (0, 0)).1, (ps.getD i (0, 0)).2] ∧ Den X.K C v (D.tup [.int (ps.getD i (0, 0)).1, .int (ps.getD i (0, 0)).2]) := by
    intro i u e
    have e' : its[i]? = some u := by simpa using e
    have hi : i < its.length := (List.getElem?_eq_some_iff.mp e').1
    have ed : (ps.map fun p => D.tup [.int p.1, .int p.2])[i]? = some (D.tup [.int (ps.getD i (0, 0)).1, .int (ps.getD i (0, 0)).2]) := by
      rw [List.getElem?_map, List.getElem?_eq_getElem (show i < ps.length by omega)]
      simp [List.getD_eq_getElem?_getD, List.getElem?_eq_getElem (show i < ps.length by omega)]
    obtain ⟨v, ev, nv⟩ := nd.get ed
    obtain ⟨u', eu, ru⟩ := r'.get ev
    rw [e'] at eu
    cases eu
    obtain ⟨t, zs, rfl, hz, nz⟩ := den_tup.mp nv
    obtain ⟨a, b, rfl, na, nb⟩ := dens_two nz
    rw [den_int.mp na, den_int.mp nb] at hz
    cases ru
    obtain ⟨us', ru', ht, _⟩ := I.tuple (ch.seqT hz)
    exact ⟨.ref t, t, us'.toArray, ev, rfl, rfl, ht, intsAre_of (ns := [_, _]) ru', nv⟩
  refine call_max_walkH (pyIter_k w1 ?_)
  refine ⟨s.heap.objs.size, _, _, its.toArray.size, _, _, fun i j => lexG (ps.getD i (0, 0)) (ps.getD j (0, 0)), fun h => ∀ b o, s.heap.get? b = some o → h.get? b = some o, rfl, walks_k (A := X.A.in1) (I.ok.hd hc) true _ p (Nat.ne_of_lt hp) its.toArray, st_new w1, fp_lt hp, by rw [List.size_toArray]; omega,
    fun b o e => Heap.get?_push_of_some _ e, fun h h' k1 k2 b o e => ?_, fun i j vi vj s' Q' E' k1 hi hj hQ => ?_, fun v h' tk hP hk => ?_⟩
  · have lt := Heap.lt_size e
    refine k2 b o (fun z => ?_) ?_ (k1 b o e)
    · rw [List.mem_singleton.mp z] at lt; exact Nat.lt_irrefl _ lt
    · rw [Heap.size_push]; exact Nat.ne_of_lt (Nat.lt_succ_of_lt lt)
  · obtain ⟨_, t, ys, _, _, rfl, h1, h2, _⟩ := at_ i vi hi
    obtain ⟨_, t2, ys2, _, _, rfl, h3, h4, _⟩ := at_ j vj hj
    have up : ∀ {t ys}, IsTup s.heap t ys → IsTup s'.heap t ys := fun ⟨o, e, z⟩ => ⟨o, k1 _ o e, z⟩
    refine HG.rc_gt (up h1) (up h3) h2 h4 (by show X.A.units + 1 < cLine; omega) ?_
    rw [lexG_eq]
    exact hQ
  · obtain ⟨v', t, ys, ev, rv, rfl, h1, h2, n2⟩ := at_ _ v hP
    obtain ⟨b1, b2⟩ := argBest_P (fun i => ps.getD i (0, 0)) (its.toArray.size - 1)
    have e : ps.getD (argBest (fun i j => lexG (ps.getD i (0, 0)) (ps.getD j (0, 0))) (its.toArray.size - 1)) (0, 0) = maxP ps := by
      obtain ⟨m1, m2⟩ := maxP_mem hne
      rw [List.size_toArray] at b1 b2 ⊢
      have hi : argBest (fun i j => lexG (ps.getD i (0, 0)) (ps.getD j (0, 0))) (its.length - 1) < ps.length := by omega
      have c1 : ps.getD (argBest (fun i j => lexG (ps.getD i (0, 0)) (ps.getD j (0, 0))) (its.length - 1)) (0, 0) ∈ ps := by
        rw [List.getD_eq_getElem?_getD, List.getElem?_eq_getElem hi, Option.getD_some]
        exact List.getElem_mem hi
      obtain ⟨j, hj, ej⟩ := List.mem_iff_getElem.mp m1
      have c2 := b2 j (by omega)
      have e2 : ps.getD j (0, 0) = maxP ps := by
        rw [List.getD_eq_getElem?_getD, List.getElem?_eq_getElem hj, Option.getD_some]
        exact ej
      rw [e2] at c2
      exact lexG_total _ _ (m2 _ c1) c2
    rw [e] at n2
    exact ⟨v', H, I.kept (t' := tk) (iter_up hk), rv, q v' n2⟩
def cMaxP : List D → (D → Prop) → Prop := fun ds Q => match ds with
  | [.lst xs] => match pairsD xs with
    | some ps => ps ≠ [] ∧ Q (.tup [.int (maxP ps).1, .int (maxP ps).2])
    | none => False
  | _ => False
theorem dc_maxP (hc : X.calm = true) (hu : X.A.units + 64 < cLine) : DCall X (.builtin "max") cMaxP := by
  refine ⟨_, call_maxP hc hu, fun xs ds C H Q R ch n q k => ?_⟩
  unfold cMaxP at q
  split at q
  · split at q
    · rename_i ps e
      obtain ⟨v, rfl, n1⟩ := dens_one n
      obtain ⟨p, ys, rfl, hy, hd⟩ := den_lst.mp n1
      rw [pairs_eq e] at hd
      exact ⟨C, p, ys, ps, ch, rfl, ch.seq hy, hd, q.1, fun v nv => k _ v C H q.2 (Ext.refl ch) nv⟩
    · exact q.elim
  · exact q.elim
end
end L2
namespace L2
open PySem PySem.Spec PyProof.Rows
/-! # Exceptions: how one lies behind a call -/
section
variable {P : Program} {w : World} {outer : List Env} {H H' : Hp} {s : Shared} {B h' h'' : Heap} {a : Addr} {cls a0 : Value}
end

section
variable {P : Program} {w : World} {K : PySem.W.Frag} {mg : Str → Option Value} {base : Heap} {N : List Str} {qual : Str} {scope : Scope} {f : Addr} {cd : Value} {A : Around} {outer : List Env} {s : Shared} {H : Hp} {E E' : XK}
end
/-! ### a def that may raise -/
end L2
namespace L2
open PySem PySem.Spec PyProof.Rows
/-! # Statements that may raise, by data -/
section
variable {X : Cx} {EE : XK} {a b c e tg iter : Expr} {st : Stmt} {sts s2 : List Stmt} {es : List Expr} {pos : Pos} {ge : GE} {gi gf : GF} {gt : GT} {gg : GG} {g1 g2 : GX} {gx : GEX} {ss : List Nat}
/-! ### return e, target = e, where e may raise -/
/-! ### a def that may raise, by what it tells -/
/-! ### raise C(..) -/
end
end L2
namespace L2
open PySem PySem.Spec PyProof.Rows
/-! # try: .. except C: .. -/
section
variable {X : Cx} {pins pins' pn : List (Addr × Obj)} {xe : Value → Shared → Prop} {σ : St} {H : Hp} {s : Shared} {e : Value}
end
section
variable {X : Cx} {EE : XK} {body suite : List Stmt} {b₀ : Stmt} {x : Str} {cl : Value} {np hpos pos : Pos} {tb ts : TS}
end
end L2
namespace L2
open PySem PySem.Spec PyProof.Rows
/-! # try, by data -/
end L2
namespace L2
open PySem PySem.Spec PyProof.Rows PySem.W
open Builtin Builtin.ObjectAttr Builtin.Getset_descriptor
/-! # isinstance(e, C) of a caught exception of an own class -/
section
variable {prog : Program} {w : World} {A : Around} {E : Value → Shared → Prop} {K : Frag} {x C : Addr} {R : Result → Shared → Prop} {hh : Heap} {g : Array GenState} {dr : Drawn} {t : Nat} {os : OsState} {o : Obj}
end
end L2
namespace L2
open PySem PySem.Spec PyProof.Rows
/-! # try: .. except C as n: if <isinstance(n, ..)>: .. -/
section
variable {X : Cx} {pins : List (Addr × Obj)} {σ : St} {H : Hp} {s : Shared}
end
section
variable {X : Cx} {a : Addr} {oe : Obj} {C : Addr} {i : Nat} {n y : Str} {vy : V} {b : Bool} {p p1 p2 pos : Pos}
end
end L2
namespace L2
open PySem PySem.Spec PyProof.Rows
section
variable {X : Cx} {EE : XK} {body suite : List Stmt} {b₀ : Stmt} {x n : Str} {i : Nat} {cl : Value} {np hpos pos : Pos} {tb : TS} {ts : Addr → Value → TS}
end
/-! ### by data: the suite is «if <tests of n>: st» -/
end L2
namespace L2
open PySem PySem.Spec PyProof.Rows
/-! ### a list of one's own is looked at, and stays one's own -/
mutual
def noL : D → Bool
  | .lst _ => false
  | .tup ds => noLs ds
  | _ => true
def noLs : List D → Bool
  | [] => true
  | d :: ds => noL d && noLs ds
end
section
variable {X : Cx} {e : Expr} {ge : GE} {gt : GT} {gf : GF}
def gPeek (i : Nat) (ge : GE) : GE := fun δ Q => match δ[i]? with
  | some (.ow ds) => ge (δ.set i (.im (.lst ds))) fun d => noL d = true ∧ Q d
  | _ => False
def gPeekT (i : Nat) (gt : GT) : GT := fun δ Q => match δ[i]? with
  | some (.ow ds) => gt (δ.set i (.im (.lst ds))) Q
  | _ => False
def gPeekF (i : Nat) (gf : GF) : GF := fun δ Q => match δ[i]? with
  | some (.ow ds) => gf (δ.set i (.im (.lst ds))) fun es => noLs es = true ∧ Q es
  | _ => False
end
end L2
namespace L2
open PySem PySem.Spec PyProof.Rows
/-! ### name = a new list, the list's reading apart -/
section
variable {X : Cx} {st : Stmt} {i : Nat} {gf : GF} {tg iter elt : Expr} {pos : Pos} {ge : GE} {gi : GF} {gt : GT} {gg : GG} {scope : Scope} {Nc : List Str} {fr : List (Option Nat)} {ss : List Nat}
end
end L2
namespace L2
open PySem PySem.Spec PyProof.Rows
/-! # What the defs of the text are worth, over data -/
def isWhole : D → Bool
  | .int _ => true
  | _ => false
@[reducible] def dInts (ns : List Int) : D := .tup (ns.map D.int)
def rowStep (rows : List (List Int)) (m : Int) : List (List Int) := rows.flatMap fun r => (List.range m.toNat).map fun (k : Nat) => r ++ [(k : Int)]
def rowsL (ns : List Int) : List (List Int) := ns.foldl rowStep [[]]
def okDeeds (ns : List Int) : Bool := decide (ns.length ≤ 3) && ns.all fun n => decide (1 ≤ n) && decide (n ≤ 3)
def onDeeds (ds : List D) (f : List Int → D) : Option D := match intsD ds with
  | some ns => if okDeeds ns = true then some (f ns) else none
  | none => none
def F_rows_of : List D → Option D
  | [.tup ds] => onDeeds ds fun ns => .tup ((rowsL ns).map dInts)
  | _ => none
def F_all_rows : List D → Option D
  | [.tup [.tup ds, _]] => onDeeds ds fun ns => .tup ((rowsL ns).map dInts)
  | _ => none
def F__law_rows : List D → Option D
  | [.tup ds] => onDeeds ds fun ns => .lst ((rowsL ns).map dInts)
  | _ => none
def mix (c p m : Int) : Int := c * 48271 % p % m
def F__law_mix : List D → Option D
  | [.int c, .int p, .int m] => if 0 < p ∧ 0 < m then some (.int (mix c p m)) else none
  | _ => none
/-- a meeting, by its numbers -/
structure MeetOk (ns : List Int) (pay : List (List Int)) : Prop where
  two : 2 ≤ ns.length
  ok : okDeeds ns = true
  many : pay.length = (rowsL ns).length
  rows : ∀ r ∈ pay, r.length = ns.length ∧ ∀ x ∈ r, -9 ≤ x ∧ x ≤ 9
@[reducible] def meetD (ns : List Int) (pay : List (List Int)) : D := .tup [dInts ns, .tup (pay.map dInts)]
def F__law_meeting : List D → Option (D → Prop)
  | [.int _] => some fun d => ∃ ns pay, d = meetD ns pay ∧ MeetOk ns pay
  | _ => none
@[reducible] def planD (pl : List (List Int × List Int)) : D := .tup (pl.map fun s => .tup [dInts s.1, dInts s.2])
def F_law : List D → Option (D → Prop)
  | [.lst ds] => match intsD ds with
    | some _ => some fun d => d = .bl true
    | none => none
  | _ => none
end L2
namespace L2
open PySem PySem.Spec PyProof.Rows
/-! ### rows -/
theorem rowStep_length (rows : List (List Int)) (m : Int) : (rowStep rows m).length = rows.length * m.toNat := by
  unfold rowStep
  induction rows with
  | nil => simp
  | cons r rows ih => rw [List.flatMap_cons, List.length_append, ih, List.length_map, List.length_range, List.length_cons, Nat.succ_mul, Nat.add_comm]
theorem rowStep_append (a b : List (List Int)) (m : Int) : rowStep (a ++ b) m = rowStep a m ++ rowStep b m := by
  unfold rowStep
  rw [List.flatMap_append]
theorem rowStep_one (r : List Int) (m : Int) : rowStep [r] m = (List.range m.toNat).map fun (k : Nat) => r ++ [(k : Int)] := by
  unfold rowStep
  simp
theorem rowsL_snoc (ns : List Int) (m : Int) : rowsL (ns ++ [m]) = rowStep (rowsL ns) m := by
  unfold rowsL
  rw [List.foldl_append]
  rfl
/-- what a row is -/
def RowOf (ns r : List Int) : Prop := r.length = ns.length ∧ ∀ (i : Nat) (x n : Int), r[i]? = some x → ns[i]? = some n → 0 ≤ x ∧ x < n
theorem rowOf_snoc {ns r : List Int} {m k : Int} (h : RowOf ns r) (h0 : 0 ≤ k) (h1 : k < m) : RowOf (ns ++ [m]) (r ++ [k]) := by
  refine ⟨by simp [h.1], fun i x n e1 e2 => ?_⟩
  by_cases hi : i < r.length
  · rw [List.getElem?_append_left hi] at e1
    rw [List.getElem?_append_left (by rw [← h.1]; exact hi)] at e2
    exact h.2 i x n e1 e2
  · rw [List.getElem?_append_right (by omega)] at e1
    rw [List.getElem?_append_right (by rw [← h.1]; omega)] at e2
    rw [h.1] at e1
    cases hj : i - ns.length with
    | zero =>
      rw [hj] at e1 e2
      cases e1
      cases e2
      exact ⟨h0, h1⟩
    | succ j =>
      rw [hj] at e1
      simp at e1
theorem rows_rev : ∀ (ms : List Int), ∀ r ∈ rowsL ms.reverse, RowOf ms.reverse r
  | [], r, h => by
    have : r = [] := by simpa [rowsL] using h
    subst this
    exact ⟨rfl, fun i x n e => by simp at e⟩
  | m :: ms, r, h => by
    rw [List.reverse_cons, rowsL_snoc] at h
    rw [List.reverse_cons]
    unfold rowStep at h
    obtain ⟨r0, h0, h1⟩ := List.mem_flatMap.mp h
    obtain ⟨k, hk, rfl⟩ := List.mem_map.mp h1
    have hk' := List.mem_range.mp hk
    exact rowOf_snoc (rows_rev ms r0 h0) (by omega) (by omega)
theorem rows_row {ns r : List Int} (h : r ∈ rowsL ns) : RowOf ns r := by
  have := rows_rev ns.reverse r (by rw [List.reverse_reverse]; exact h)
  rwa [List.reverse_reverse] at this
theorem okDeeds_take {ns : List Int} (h : okDeeds ns = true) (i : Nat) : okDeeds (ns.take i) = true := by
  unfold okDeeds at h ⊢
  rw [Bool.and_eq_true, decide_eq_true_eq, List.all_eq_true] at h ⊢
  exact ⟨by rw [List.length_take]; omega, fun x hx => h.2 x (List.mem_of_mem_take hx)⟩
theorem okDeeds_mem {ns : List Int} (h : okDeeds ns = true) : ns.length ≤ 3 ∧ ∀ n ∈ ns, 1 ≤ n ∧ n ≤ 3 := by
  unfold okDeeds at h
  rw [Bool.and_eq_true, decide_eq_true_eq, List.all_eq_true] at h
  refine ⟨h.1, fun n hn => ?_⟩
  have := h.2 n hn
  simpa using this
theorem rows_len_rev : ∀ (ms : List Int), (∀ n ∈ ms, 1 ≤ n ∧ n ≤ 3) → 1 ≤ (rowsL ms.reverse).length ∧ (rowsL ms.reverse).length ≤ 3 ^ ms.length
  | [], _ => by simp [rowsL]
  | m :: ms, h => by
    rw [List.reverse_cons, rowsL_snoc, rowStep_length, List.length_cons, Nat.pow_succ]
    obtain ⟨h1, h2⟩ := rows_len_rev ms fun n hn => h n (List.mem_cons_of_mem _ hn)
    obtain ⟨h3, h4⟩ := h m List.mem_cons_self
    have h5 : 1 ≤ m.toNat := by omega
    have h6 : m.toNat ≤ 3 := by omega
    exact ⟨Nat.mul_le_mul h1 h5, Nat.mul_le_mul h2 h6⟩
theorem rows_len {ns : List Int} (h : okDeeds ns = true) : 1 ≤ (rowsL ns).length ∧ (rowsL ns).length ≤ 27 := by
  obtain ⟨h1, h2⟩ := okDeeds_mem h
  have q := rows_len_rev ns.reverse fun n hn => h2 n (List.mem_reverse.mp hn)
  rw [List.reverse_reverse, List.length_reverse] at q
  refine ⟨q.1, Nat.le_trans q.2 ?_⟩
  exact Nat.le_trans (Nat.pow_le_pow_right (n := 3) (by decide) h1) (by decide)
theorem onDeeds_eq {ds : List D} {f : List Int → D} {d : D} (h : onDeeds ds f = some d) : ∃ ns, ds = ns.map D.int ∧ okDeeds ns = true ∧ d = f ns := by
  unfold onDeeds at h
  split at h
  · rename_i ns e
    split at h
    · rename_i ho
      cases h
      exact ⟨ns, ints_eq e, ho, rfl⟩
    · cases h
  · cases h
theorem onDeeds_of {ns : List Int} (f : List Int → D) (h : okDeeds ns = true) : onDeeds (ns.map D.int) f = some (f ns) := by
  unfold onDeeds
  rw [ints_map]
  simp [h]
end L2
namespace L2
open PySem PySem.Spec PyProof.Rows
/-! # Meetings, rows and hands out of data; one meeting -/
def rowD : D → Option (List Int)
  | .tup ds => intsD ds
  | _ => none
def rowsD : List D → Option (List (List Int))
  | [] => some []
  | d :: ds => match rowD d, rowsD ds with
    | some r, some rs => some (r :: rs)
    | _, _ => none
def meetOf : D → Option (List Int × List (List Int))
  | .tup [a, .tup ps] => match rowD a, rowsD ps with
    | some ns, some pay => some (ns, pay)
    | _, _ => none
  | _ => none
theorem rowD_of (r : List Int) : rowD (dInts r) = some r := ints_map r
theorem rowD_eq {d : D} {r : List Int} (h : rowD d = some r) : d = dInts r := by
  unfold rowD at h
  split at h
  · rw [ints_eq h]
  · cases h
theorem rowsD_of : ∀ rs : List (List Int), rowsD (rs.map dInts) = some rs
  | [] => rfl
  | r :: rs => by rw [List.map_cons, rowsD, rowD_of, rowsD_of rs]
theorem rowsD_eq : ∀ {ds : List D} {rs : List (List Int)}, rowsD ds = some rs → ds = rs.map dInts
  | [], rs, h => by cases h; rfl
  | d :: ds, rs, h => by
    unfold rowsD at h
    split at h
    · rename_i r rs' e1 e2
      cases h
      rw [rowD_eq e1, rowsD_eq e2]
      rfl
    · cases h
theorem meetOf_of (ns : List Int) (pay : List (List Int)) : meetOf (meetD ns pay) = some (ns, pay) := by
  unfold meetD meetOf
  simp only [rowD_of, rowsD_of]
theorem meetOf_eq {d : D} {ns : List Int} {pay : List (List Int)} (h : meetOf d = some (ns, pay)) : d = meetD ns pay := by
  unfold meetOf at h
  split at h
  · split at h
    · rename_i e1 e2
      cases h
      rw [rowD_eq e1, rowsD_eq e2]
    · cases h
  · cases h
open Classical in
noncomputable def onMeet (m : D) (f : List Int → List (List Int) → Option D) : Option D := match meetOf m with
  | some (ns, pay) => if MeetOk ns pay then f ns pay else none
  | none => none
def onRow (ns : List Int) (d : D) (f : List Int → Option D) : Option D := match rowD d with
  | some r => if r ∈ rowsL ns then f r else none
  | none => none
def onHand (n : Nat) (d : D) (f : Nat → Option D) : Option D := match d with
  | .int h => if 0 ≤ h ∧ h < n then f h.toNat else none
  | _ => none
theorem onMeet_of {ns : List Int} {pay : List (List Int)} {f : List Int → List (List Int) → Option D} (h : MeetOk ns pay) : onMeet (meetD ns pay) f = f ns pay := by
  unfold onMeet
  rw [meetOf_of]
  exact if_pos h
theorem onMeet_eq {m d : D} {f : List Int → List (List Int) → Option D} (h : onMeet m f = some d) : ∃ ns pay, m = meetD ns pay ∧ MeetOk ns pay ∧ f ns pay = some d := by
  unfold onMeet at h
  split at h
  · rename_i ns pay e
    split at h
    · rename_i ho
      exact ⟨ns, pay, meetOf_eq e, ho, h⟩
    · cases h
  · cases h
theorem onRow_of {ns r : List Int} {f : List Int → Option D} (h : r ∈ rowsL ns) : onRow ns (dInts r) f = f r := by
  unfold onRow
  rw [rowD_of]
  exact if_pos h
theorem onRow_eq {ns : List Int} {m d : D} {f : List Int → Option D} (h : onRow ns m f = some d) : ∃ r, m = dInts r ∧ r ∈ rowsL ns ∧ f r = some d := by
  unfold onRow at h
  split at h
  · rename_i r e
    split at h
    · rename_i ho
      exact ⟨r, rowD_eq e, ho, h⟩
    · cases h
  · cases h
theorem onHand_of {n h : Nat} {f : Nat → Option D} (hh : h < n) : onHand n (.int h) f = f h := by
  show (if (0 : Int) ≤ (h : Int) ∧ (h : Int) < n then f (h : Int).toNat else none) = f h
  rw [if_pos ⟨by omega, by omega⟩]
  rfl
theorem onHand_eq {n : Nat} {m d : D} {f : Nat → Option D} (h : onHand n m f = some d) : ∃ k : Nat, m = .int k ∧ k < n ∧ f k = some d := by
  unfold onHand at h
  split at h
  · rename_i i
    split at h
    · rename_i ho
      exact ⟨i.toNat, by rw [Int.toNat_of_nonneg ho.1], by omega, h⟩
    · cases h
  · cases h
/-! ### what a row pays, and the best deeds -/
def payAt (ns : List Int) (pay : List (List Int)) (r : List Int) : List Int := pay.getD ((rowsL ns).idxOf r) []
def payH (ns : List Int) (pay : List (List Int)) (r : List Int) (h : Nat) : Int := (payAt ns pay r).getD h 0
def deedsL (ns : List Int) (h : Nat) : List Int := (List.range (ns.getD h 0).toNat).map fun (k : Nat) => (k : Int)
def topH (ns : List Int) (pay : List (List Int)) (h : Nat) (r : List Int) : Int := maxI ((deedsL ns h).map fun k => payH ns pay (r.set h k) h)
def bestL (ns : List Int) (pay : List (List Int)) (h : Nat) (r : List Int) : List Int := (deedsL ns h).filter fun k => decide (payH ns pay (r.set h k) h = topH ns pay h r)
def isCalm (ns : List Int) (pay : List (List Int)) (r : List Int) : Bool := (List.range ns.length).all fun h => (bestL ns pay h r).contains (r.getD h 0)
def calmL (ns : List Int) (pay : List (List Int)) : List (List Int) := (rowsL ns).filter (isCalm ns pay)
def heldH (ns : List Int) (pay : List (List Int)) (h : Nat) : Int := minI ((rowsL ns).map (topH ns pay h))
def lowH (ns : List Int) (pay : List (List Int)) (h : Nat) (k : Int) : Int := minI (((rowsL ns).filter fun r => decide (r.getD h 0 = k)).map fun r => payH ns pay r h)
def sureH (ns : List Int) (pay : List (List Int)) (h : Nat) : Int := maxI ((deedsL ns h).map (lowH ns pay h))
noncomputable def F_paid : List D → Option D
  | [m, r] => onMeet m fun ns pay => onRow ns r fun r => some (dInts (payAt ns pay r))
  | _ => none
noncomputable def F__law_paid : List D → Option D
  | [m, r] => onMeet m fun ns pay => onRow ns r fun r => some (dInts (payAt ns pay r))
  | _ => none
def F__law_stray : List D → Option D
  | [d, .int h, .int k] => match rowD d with
    | some r => if r.length ≤ 1000 ∧ 0 ≤ h ∧ h < r.length then some (dInts (r.set h.toNat k)) else none
    | none => none
  | _ => none
def F__law_whole : List D → Option D
  | [d] => some (.bl (isWhole d))
  | _ => none
noncomputable def F__law_best : List D → Option D
  | [m, h, r] => onMeet m fun ns pay => onHand ns.length h fun h => onRow ns r fun r => some (.lst ((bestL ns pay h r).map D.int))
  | _ => none
noncomputable def F_best_deeds : List D → Option D
  | [m, h, r] => onMeet m fun ns pay => onHand ns.length h fun h => onRow ns r fun r => some (dInts (bestL ns pay h r))
  | _ => none
noncomputable def F_calm : List D → Option D
  | [m] => onMeet m fun ns pay => some (.tup ((calmL ns pay).map dInts))
  | _ => none
noncomputable def F_held_to : List D → Option D
  | [m, h] => onMeet m fun ns pay => onHand ns.length h fun h => some (.int (heldH ns pay h))
  | _ => none
noncomputable def F_sure : List D → Option D
  | [m, h] => onMeet m fun ns pay => onHand ns.length h fun h => some (.int (sureH ns pay h))
  | _ => none
end L2
namespace L2
open PySem PySem.Spec PyProof.Rows
/-! ### rows, once more -/
theorem row_in_rev : ∀ (ms : List Int) (r : List Int), RowOf ms.reverse r → r ∈ rowsL ms.reverse
  | [], r, h => by
    have : r = [] := List.eq_nil_of_length_eq_zero h.1
    subst this
    simp [rowsL]
  | m :: ms, r, h => by
    rw [List.reverse_cons] at h ⊢
    rw [rowsL_snoc]
    have hl : r.length = ms.reverse.length + 1 := by rw [h.1, List.length_append]; rfl
    have hne : r ≠ [] := fun z => by rw [z] at hl; simp at hl
    have er := (List.dropLast_concat_getLast hne).symm
    generalize hx : r.getLast hne = x at er
    generalize hd : r.dropLast = r0 at er
    have hl0 : r0.length = ms.reverse.length := by rw [er, List.length_append] at hl; simpa using hl
    subst er
    have h0 : RowOf ms.reverse r0 := ⟨hl0, fun i y n e1 e2 => h.2 i y n (by rw [List.getElem?_append_left ((List.getElem?_eq_some_iff.mp e1).1)]; exact e1) (by rw [List.getElem?_append_left ((List.getElem?_eq_some_iff.mp e2).1)]; exact e2)⟩
    have hk := h.2 r0.length x m (by simp) (by rw [hl0]; simp)
    unfold rowStep
    refine List.mem_flatMap.mpr ⟨r0, row_in_rev ms r0 h0, List.mem_map.mpr ⟨x.toNat, List.mem_range.mpr (by omega), ?_⟩⟩
    rw [Int.toNat_of_nonneg hk.1]
theorem row_in {ns r : List Int} (h : RowOf ns r) : r ∈ rowsL ns := by
  have := row_in_rev ns.reverse r (by rw [List.reverse_reverse]; exact h)
  rwa [List.reverse_reverse] at this
theorem row_len {ns r : List Int} (h : r ∈ rowsL ns) : r.length = ns.length := (rows_row h).1
theorem row_set {ns r : List Int} (h : r ∈ rowsL ns) {i : Nat} {k : Int} (h0 : 0 ≤ k) (h1 : k < ns.getD i 0) : r.set i k ∈ rowsL ns := by
  have q := rows_row h
  refine row_in ⟨by rw [List.length_set]; exact q.1, fun j x n e1 e2 => ?_⟩
  rcases getE_set e1 with ⟨rfl, e3, hl⟩ | ⟨hj, e3⟩
  · subst e3
    rw [List.getD_eq_getElem?_getD, e2] at h1
    exact ⟨h0, h1⟩
  · exact q.2 j x n e3 e2
theorem eqD_int (i j : Int) : eqD (.int i) (.int j) = some (i == j) := by unfold eqD; rfl
theorem eqDs_ints : ∀ (a b : List Int), eqDs (a.map D.int) (b.map D.int) = some ((a.zip b).all fun p => p.1 == p.2)
  | [], _ => by unfold eqDs; rfl
  | _ :: _, [] => by unfold eqDs; rfl
  | x :: a, y :: b => by
    rw [List.map_cons, List.map_cons, eqDs, eqD_int, eqDs_ints a b]
    rfl
theorem zipAll_eq : ∀ (a b : List Int), (((a.zip b).all fun p => p.1 == p.2) && a.length == b.length) = (a == b)
  | [], [] => rfl
  | [], _ :: _ => rfl
  | _ :: _, [] => rfl
  | x :: a, y :: b => by
    have := zipAll_eq a b
    rw [List.zip_cons_cons, List.all_cons, List.length_cons, List.length_cons, List.cons_beq_cons, ← this, Bool.and_assoc]
    congr 2
    simp
theorem eqD_dInts (a b : List Int) : eqD (dInts a) (dInts b) = some (a == b) := by
  unfold dInts eqD
  rw [eqDs_ints, List.length_map, List.length_map, Option.map_some, zipAll_eq]
theorem ansD_rows (r : List Int) : ∀ rs : List (List Int), ansD (dInts r) (rs.map dInts) = some (rs.map fun x => x == r)
  | [] => rfl
  | x :: rs => by
    rw [List.map_cons, ansD, eqD_dInts, ansD_rows r rs]
    rfl
theorem ansD_ints (k : Int) : ∀ rs : List Int, ansD (.int k) (rs.map D.int) = some (rs.map fun x => x == k)
  | [] => rfl
  | x :: rs => by
    rw [List.map_cons, ansD, eqD_int, ansD_ints k rs]
    rfl
theorem firstT_idx (r : List Int) : ∀ {rs : List (List Int)}, r ∈ rs → firstT (rs.map fun x => x == r) = some (rs.idxOf r)
  | x :: rs, h => by
    rw [List.map_cons, List.idxOf_cons]
    cases e : (x == r) with
    | true => rfl
    | false =>
      have hm : r ∈ rs := by
        rcases List.mem_cons.mp h with rfl | h
        · simp at e
        · exact h
      unfold firstT
      rw [firstT_idx r hm]
      rfl
theorem deps_ints : ∀ ns : List Int, deps (ns.map D.int) = 0
  | [] => by unfold deps; rfl
  | n :: ns => by
    rw [List.map_cons, deps, deps_ints ns]
    unfold dep
    rfl
theorem dep_dInts (r : List Int) : dep (dInts r) = 1 := by
  unfold dInts dep
  rw [deps_ints]
theorem deps_rows : ∀ rs : List (List Int), deps (rs.map dInts) ≤ 1
  | [] => by rw [List.map_nil, deps]; omega
  | r :: rs => by
    rw [List.map_cons, deps, dep_dInts]
    have := deps_rows rs
    omega
theorem getD_of {α : Type} {l : List α} {i : Nat} (h : i < l.length) (d : α) : l.getD i d = l[i] := by
  rw [List.getD_eq_getElem?_getD, List.getElem?_eq_getElem h, Option.getD_some]
theorem atI_of {l : List D} {i : Nat} (h : i < l.length) : atI l (i : Int) = some l[i] := by
  simp [atI, ixN, h]
theorem atI_ints {l : List Int} {i : Nat} (h : i < l.length) : atI (l.map D.int) (i : Int) = some (.int (l.getD i 0)) := by
  rw [atI_of (by rw [List.length_map]; exact h), List.getElem_map, getD_of h]
theorem atI_rows {l : List (List Int)} {i : Nat} (h : i < l.length) : atI (l.map dInts) (i : Int) = some (dInts (l.getD i [])) := by
  rw [atI_of (by rw [List.length_map]; exact h), List.getElem_map, getD_of h]
section
variable {ns : List Int} {pay : List (List Int)} {r : List Int} {h : Nat}
theorem payAt_ix (ho : MeetOk ns pay) (hr : r ∈ rowsL ns) : (rowsL ns).idxOf r < pay.length := by
  rw [ho.many]
  exact List.idxOf_lt_length_of_mem hr
theorem payAt_ok (ho : MeetOk ns pay) (hr : r ∈ rowsL ns) : (payAt ns pay r).length = ns.length ∧ ∀ x ∈ payAt ns pay r, -9 ≤ x ∧ x ≤ 9 := by
  unfold payAt
  rw [getD_of (payAt_ix ho hr)]
  exact ho.rows _ (List.getElem_mem _)
theorem deed_mem {k : Int} : k ∈ deedsL ns h ↔ 0 ≤ k ∧ k < ns.getD h 0 := by
  unfold deedsL
  rw [List.mem_map]
  constructor
  · rintro ⟨j, hj, rfl⟩
    have := List.mem_range.mp hj
    omega
  · intro hk
    exact ⟨k.toNat, List.mem_range.mpr (by omega), by omega⟩
theorem deeds_ne (ho : MeetOk ns pay) (hh : h < ns.length) : 1 ≤ ns.getD h 0 ∧ ns.getD h 0 ≤ 3 := by
  rw [getD_of hh]
  exact (okDeeds_mem ho.ok).2 _ (List.getElem_mem hh)
theorem deedsL_ne (ho : MeetOk ns pay) (hh : h < ns.length) : deedsL ns h ≠ [] := by
  have := deeds_ne ho hh
  exact List.ne_nil_of_mem (deed_mem.mpr ⟨Int.le_refl 0, by omega⟩)
theorem topH_ge (ho : MeetOk ns pay) (hh : h < ns.length) {k : Int} (hk : k ∈ deedsL ns h) : payH ns pay (r.set h k) h ≤ topH ns pay h r := by
  unfold topH
  exact (maxI_mem (by simpa using deedsL_ne ho hh)).2 _ (List.mem_map.mpr ⟨k, hk, rfl⟩)
theorem topH_at (ho : MeetOk ns pay) (hh : h < ns.length) : ∃ k ∈ deedsL ns h, payH ns pay (r.set h k) h = topH ns pay h r := by
  unfold topH
  obtain ⟨k, hk, e⟩ := List.mem_map.mp (maxI_mem (ns := (deedsL ns h).map fun k => payH ns pay (r.set h k) h) (by simpa using deedsL_ne ho hh)).1
  exact ⟨k, hk, e⟩
theorem bestL_ne (ho : MeetOk ns pay) (hh : h < ns.length) : bestL ns pay h r ≠ [] := by
  obtain ⟨k, hk, e⟩ := topH_at (r := r) ho hh
  exact List.ne_nil_of_mem (List.mem_filter.mpr ⟨hk, by simpa using e⟩)
theorem set_self {i : Nat} (hi : i < r.length) : r.set i (r.getD i 0) = r := by
  rw [getD_of hi]
  exact List.set_getElem_self hi
theorem rows_ne (ho : MeetOk ns pay) : rowsL ns ≠ [] := by
  have := (rows_len ho.ok).1
  intro z
  rw [z] at this
  simp at this
/-- no hand can be held to less than it is sure of -/
theorem sure_le (ho : MeetOk ns pay) (hh : h < ns.length) : sureH ns pay h ≤ heldH ns pay h := by
  unfold sureH heldH
  obtain ⟨k, hk, e1⟩ := List.mem_map.mp (maxI_mem (ns := (deedsL ns h).map (lowH ns pay h)) (by simpa using deedsL_ne ho hh)).1
  obtain ⟨r, hr, e2⟩ := List.mem_map.mp (minI_mem (ns := (rowsL ns).map (topH ns pay h)) (by simpa using rows_ne ho)).1
  rw [← e1, ← e2]
  refine Int.le_trans ?_ (topH_ge (r := r) ho hh hk)
  unfold lowH
  have hs : r.set h k ∈ (rowsL ns).filter fun r => decide (r.getD h 0 = k) := by
    refine List.mem_filter.mpr ⟨row_set hr (deed_mem.mp hk).1 (deed_mem.mp hk).2, ?_⟩
    have hl : h < (r.set h k).length := by rw [List.length_set, row_len hr]; exact hh
    rw [getD_of hl]
    simp
  have hm : payH ns pay (r.set h k) h ∈ ((rowsL ns).filter fun r => decide (r.getD h 0 = k)).map fun r => payH ns pay r h := List.mem_map.mpr ⟨_, hs, rfl⟩
  exact (minI_mem (List.ne_nil_of_mem hm)).2 _ hm
/-- in a calm row each is paid at least what it can be held to -/
theorem calm_held (ho : MeetOk ns pay) (hr : r ∈ calmL ns pay) (hh : h < ns.length) : heldH ns pay h ≤ payH ns pay r h := by
  obtain ⟨hr, hc⟩ := List.mem_filter.mp hr
  unfold isCalm at hc
  have := List.all_eq_true.mp hc h (List.mem_range.mpr hh)
  have hb : r.getD h 0 ∈ bestL ns pay h r := by simpa using this
  have e := (List.mem_filter.mp hb).2
  rw [set_self (by rw [row_len hr]; exact hh)] at e
  rw [of_decide_eq_true e]
  unfold heldH
  exact (minI_mem (by simpa using rows_ne ho)).2 _ (List.mem_map.mpr ⟨r, hr, rfl⟩)
end
theorem any_beq (k : Int) (l : List Int) : (l.map fun x => x == k).any id = l.contains k := by
  induction l with
  | nil => rfl
  | cons x l ih => rw [List.map_cons, List.any_cons, ih, List.contains_cons, id]; rw [Bool.beq_comm]
theorem range_deeds {ns : List Int} {h : Nat} : rangeD 0 (ns.getD h 0).toNat = (deedsL ns h).map D.int := by
  unfold rangeD deedsL
  rw [List.map_map]
  refine List.map_congr_left fun k _ => ?_
  simp
end L2
namespace L2
open PySem PySem.Spec PyProof.Rows
/-! # The program's own helpers of one meeting -/
/-- the place of a row, by its digits -/
def placeI (r ns : List Int) : Int := (r.zip ns).foldl (fun p x => p * x.2 + x.1) 0
theorem idxOf_range' (r : List Int) : ∀ (n s j : Nat), j < n → ((List.range' s n).map fun (k : Nat) => r ++ [(k : Int)]).idxOf (r ++ [((s + j : Nat) : Int)]) = j
  | n + 1, s, 0, _ => by
    rw [List.range'_succ, List.map_cons, List.idxOf_cons, Nat.add_zero]
    simp
  | n + 1, s, j + 1, h => by
    rw [List.range'_succ, List.map_cons, List.idxOf_cons]
    have ne : ((r ++ [(s : Int)]) == (r ++ [((s + (j + 1) : Nat) : Int)])) = false := by
      rw [beq_eq_false_iff_ne]
      intro e
      have := List.append_cancel_left e
      simp at this
      omega
    rw [ne]
    have := idxOf_range' r n (s + 1) j (by omega)
    rw [show s + (j + 1) = s + 1 + j by omega, this]
    rfl
theorem idxOf_range (r : List Int) {m : Int} {k : Int} (h0 : 0 ≤ k) (h1 : k < m) : ((List.range m.toNat).map fun (k : Nat) => r ++ [(k : Int)]).idxOf (r ++ [k]) = k.toNat := by
  rw [List.range_eq_range']
  have := idxOf_range' r m.toNat 0 k.toNat (by omega)
  rw [Nat.zero_add, Int.toNat_of_nonneg h0] at this
  exact this
theorem idxOf_step {m k : Int} (h0 : 0 ≤ k) (h1 : k < m) {r : List Int} : ∀ {R : List (List Int)}, r ∈ R → (rowStep R m).idxOf (r ++ [k]) = R.idxOf r * m.toNat + k.toNat
  | x :: R, h => by
    have e1 : rowStep (x :: R) m = ((List.range m.toNat).map fun (k : Nat) => x ++ [(k : Int)]) ++ rowStep R m := by
      unfold rowStep
      rw [List.flatMap_cons]
    rw [e1, List.idxOf_append, List.idxOf_cons]
    by_cases e : x = r
    · subst e
      have hm : x ++ [k] ∈ (List.range m.toNat).map fun (k : Nat) => x ++ [(k : Int)] := List.mem_map.mpr ⟨k.toNat, List.mem_range.mpr (by omega), by rw [Int.toNat_of_nonneg h0]⟩
      rw [if_pos hm, idxOf_range x h0 h1]
      simp
    · have hm : ¬ r ++ [k] ∈ (List.range m.toNat).map fun (k : Nat) => x ++ [(k : Int)] := by
        intro z
        obtain ⟨j, _, ej⟩ := List.mem_map.mp z
        exact e (List.append_inj_left' ej rfl)
      have hr : r ∈ R := by
        rcases List.mem_cons.mp h with z | z
        · exact absurd z.symm e
        · exact z
      rw [if_neg hm, idxOf_step h0 h1 hr, List.length_map, List.length_range]
      have eb : (x == r) = false := beq_eq_false_iff_ne.mpr e
      rw [eb]
      simp only [cond_false]
      rw [Nat.succ_mul]
      omega
theorem placeI_snoc {r ns : List Int} (h : r.length = ns.length) (k m : Int) : placeI (r ++ [k]) (ns ++ [m]) = placeI r ns * m + k := by
  unfold placeI
  rw [List.zip_append h, List.foldl_append]
  rfl
theorem place_rev : ∀ (ms : List Int) (r : List Int), r ∈ rowsL ms.reverse → placeI r ms.reverse = ((rowsL ms.reverse).idxOf r : Nat)
  | [], r, h => by
    have : r = [] := by simpa [rowsL] using h
    subst this
    simp [placeI, rowsL]
  | m :: ms, r, h => by
    rw [List.reverse_cons] at h ⊢
    rw [rowsL_snoc] at h ⊢
    have h' := h
    unfold rowStep at h'
    obtain ⟨r0, hr0, h1⟩ := List.mem_flatMap.mp h'
    obtain ⟨k, hk, rfl⟩ := List.mem_map.mp h1
    have hk' := List.mem_range.mp hk
    rw [placeI_snoc (row_len hr0), place_rev ms r0 hr0, idxOf_step (by omega) (by omega) hr0, Int.natCast_add, Int.natCast_mul, Int.toNat_of_nonneg (by omega : 0 ≤ m)]
    simp
theorem place_idx {ns r : List Int} (h : r ∈ rowsL ns) : placeI r ns = ((rowsL ns).idxOf r : Nat) := by
  have := place_rev ns.reverse r (by rw [List.reverse_reverse]; exact h)
  rwa [List.reverse_reverse] at this
theorem row_take {ns r : List Int} (h : r ∈ rowsL ns) (i : Nat) : r.take i ∈ rowsL (ns.take i) := by
  have q := rows_row h
  refine row_in ⟨by rw [List.length_take, List.length_take, q.1], fun j x n e1 e2 => ?_⟩
  rw [List.getElem?_take] at e1 e2
  split at e1
  · rename_i hj
    rw [if_pos hj] at e2
    exact q.2 j x n e1 e2
  · cases e1
theorem place_bd {ns r : List Int} (ho : okDeeds ns = true) (h : r ∈ rowsL ns) (i : Nat) : 0 ≤ placeI (r.take i) (ns.take i) ∧ placeI (r.take i) (ns.take i) ≤ 27 := by
  rw [place_idx (row_take h i)]
  have := List.idxOf_lt_length_of_mem (row_take h i)
  have := (rows_len (okDeeds_take ho i)).2
  omega
theorem placeI_take {ns r : List Int} {i : Nat} (h1 : i < r.length) (h2 : i < ns.length) (hl : r.length = ns.length) : placeI (r.take (i + 1)) (ns.take (i + 1)) = placeI (r.take i) (ns.take i) * ns[i] + r[i] := by
  rw [List.take_succ, List.take_succ, List.getElem?_eq_getElem h1, List.getElem?_eq_getElem h2, Option.toList_some, Option.toList_some, placeI_snoc (by rw [List.length_take, List.length_take, hl])]
theorem zip_ints (r ns : List Int) : List.zipWith (fun x y => D.tup [x, y]) (r.map D.int) (ns.map D.int) = (r.zip ns).map fun p => D.tup [.int p.1, .int p.2] := by
  rw [List.zipWith_map_left, List.zipWith_map_right, List.zip, List.map_zipWith]
theorem enumD_ints (r : List Int) : enumD (r.map D.int) = (List.range r.length).map fun (k : Nat) => D.tup [.int k, .int (r.getD k 0)] := by
  refine List.ext_getElem? fun i => ?_
  rw [enumD_at, List.getElem?_map, List.getElem?_map]
  by_cases h : i < r.length
  · rw [List.getElem?_range h, List.getElem?_eq_getElem h, Option.map_some, Option.map_some, Option.map_some, getD_of h]
  · rw [List.getElem?_eq_none (by simpa using h), List.getElem?_eq_none (by simpa using h)]
    rfl
def F_place_of : List D → Option D
  | [r, .tup ds] => match rowD r, intsD ds with
    | some r, some ns => if okDeeds ns = true ∧ r ∈ rowsL ns then some (.int ((rowsL ns).idxOf r : Nat)) else none
    | _, _ => none
  | _ => none
def F_with_deed : List D → Option D
  | [d, .int h, .int k] => match rowD d with
    | some r => if r.length ≤ 1000 ∧ 0 ≤ h ∧ h < r.length then some (dInts (r.set h.toNat k)) else none
    | none => none
  | _ => none
noncomputable def F_pays_by_deed : List D → Option D
  | [m, h, r] => onMeet m fun ns pay => onHand ns.length h fun h => onRow ns r fun r => some (.lst (((deedsL ns h).map fun k => payH ns pay (r.set h k) h).map D.int))
  | _ => none
noncomputable def F_is_calm : List D → Option D
  | [m, r] => onMeet m fun ns pay => onRow ns r fun r => some (.bl (isCalm ns pay r))
  | _ => none
noncomputable def F_least_paid : List D → Option D
  | [m, h, k] => onMeet m fun ns pay => onHand ns.length h fun h => onHand (ns.getD h 0).toNat k fun k => some (.int (lowH ns pay h (k : Int)))
  | _ => none
end L2
namespace L2
open PySem PySem.Spec PyProof.Rows
noncomputable def g_rows_of_1 : GS := (gSeq (gFor (gIt (gVar 0)) (gNm 2) (gSeq (gAsgO 3 (gLst gNilA)) (gSeq (gFor (gIl (gVar 1)) (gNm 4) (gFor (gRng1 (gVar 2)) (gNm 5) (gApp 3 (gOp oAdd (gVar 4) (gTupE (gConsA (gVar 5) gNilA)))))) (gFrz 3 (gAsg (gVar 3) (gNm 1)))))) (gRet (gCallB cTuple (gConsA (gVar 1) gNilA))))
noncomputable def g_rows_of : GS := (gSeq (gAsg (gF (gLst (gConsA (gTupE gNilA) gNilA))) (gNm 1)) g_rows_of_1)
noncomputable def g_place_of_1 : GS := (gSeq (gFor (gZip (gVar 0) (gVar 1)) (gNm2 3 4) (gAsg (gOp oAdd (gOp oMul (gVar 2) (gVar 4)) (gVar 3)) (gNm 2))) (gRet (gVar 2)))
noncomputable def g_place_of : GS := (gSeq (gAsg (gC (.int 0)) (gNm 2)) g_place_of_1)
noncomputable def g_with_deed : GS := (gRet (gOp oAdd (gOp oAdd (gSlT (gVar 0) gNoP (gPart (gVar 1))) (gTupE (gConsA (gVar 2) gNilA))) (gSlT (gVar 0) (gPart (gOp oAdd (gVar 1) (gC (.int 1)))) gNoP)))
noncomputable def g__law_mix : GS := (gRet (gOp oMod (gOp oMod (gOp oMul (gVar 0) (gC (.int 48271))) (gVar 1)) (gVar 2)))
noncomputable def g__law_rows_1 : GS := (gSeq (gFor (gIt (gVar 0)) (gNm 2) (gSeq (gAsgO 3 (gLst gNilA)) (gSeq (gFor (gIl (gVar 1)) (gNm 4) (gExt 3 (gComp [none, some 4] (gRng1 (gVar 2)) (gNm 0) (gOp oAdd (gVar 1) (gTupE (gConsA (gVar 0) gNilA)))))) (gFrz 3 (gAsg (gVar 3) (gNm 1)))))) (gRet (gVar 1)))
noncomputable def g__law_rows : GS := (gSeq (gAsg (gF (gLst (gConsA (gTupE gNilA) gNilA))) (gNm 1)) g__law_rows_1)
noncomputable def g__law_stray : GS := (gRet (gOp oAdd (gOp oAdd (gSlT (gVar 0) gNoP (gPart (gVar 1))) (gTupE (gConsA (gVar 2) gNilA))) (gSlT (gVar 0) (gPart (gOp oAdd (gVar 1) (gC (.int 1)))) gNoP)))
noncomputable def g__law_whole : GS := (gRet (gAndV (gInst "int" (gVar 0)) (gNotT (gInst "bool" (gVar 0)))))
noncomputable def g_all_rows : GS := (gRet (gCallD F_rows_of (gConsA (gOp gIx (gVar 0) (gC (.int 0))) gNilA)))
noncomputable def g_paid : GS := (gRet (gOp gIx (gOp gIx (gVar 0) (gC (.int 1))) (gCallD F_place_of (gConsA (gVar 1) (gConsA (gOp gIx (gVar 0) (gC (.int 0))) gNilA)))))
noncomputable def g__law_meeting_6 : GS := (gFrz 3 (gRet (gTupE (gConsA (gVar 1) (gConsA (gCallB cTuple (gConsA (gVar 3) gNilA)) gNilA)))))
noncomputable def g__law_meeting_5 : GS := (gSeq (gIfS (gTest (gOp oEq (gOp oMod (gVar 0) (gC (.int 9))) (gC (.int 0)))) (gSeq (gAsg (gF (gCallF cSorted (gConsA (gF (gComp [none, some 0] (gRng1 (gC (.int 4))) (gNm 0) (gOp oSub (gCallD F__law_mix (gConsA (gOp oAdd (gVar 1) (gVar 0)) (gConsA (gC (.int 9931)) (gConsA (gC (.int 19)) gNilA)))) (gC (.int 9))))) gNilA))) (gNm 7)) (gAsgO 3 (gLst (gConsA (gTupE (gConsA (gOp gIx (gVar 7) (gC (.int 2))) (gConsA (gOp gIx (gVar 7) (gC (.int 2))) gNilA))) (gConsA (gTupE (gConsA (gOp gIx (gVar 7) (gC (.int 0))) (gConsA (gOp gIx (gVar 7) (gC (.int 3))) gNilA))) (gConsA (gTupE (gConsA (gOp gIx (gVar 7) (gC (.int 3))) (gConsA (gOp gIx (gVar 7) (gC (.int 0))) gNilA))) (gConsA (gTupE (gConsA (gOp gIx (gVar 7) (gC (.int 1))) (gConsA (gOp gIx (gVar 7) (gC (.int 1))) gNilA))) gNilA))))))) gNext) g__law_meeting_6)
noncomputable def g__law_meeting_4 : GS := (gSeq (gFor (gRng1 (gCallB cLen (gConsA (gCallD F__law_rows (gConsA (gVar 1) gNilA)) gNilA))) (gNm 4) (gSeq (gAsg (gOp oAdd (gVar 0) (gOp oMul (gC (.int 13)) (gVar 4))) (gNm 5)) (gSeq (gAsgO 6 (gComp [none, some 2, some 5] (gRng1 (gCallB cLen (gConsA (gVar 1) gNilA))) (gNm 0) (gOp oSub (gOp oAdd (gCallD F__law_mix (gConsA (gOp oAdd (gVar 2) (gOp oMul (gC (.int 5)) (gVar 0))) (gConsA (gC (.int 9941)) (gConsA (gOp oSub (gOp oMul (gC (.int 2)) (gVar 1)) (gC (.int 1))) gNilA)))) (gC (.int 1))) (gVar 1)))) (gFrz 6 (gApp 3 (gCallB cTuple (gConsA (gVar 6) gNilA))))))) g__law_meeting_5)
noncomputable def g__law_meeting_2 : GS := (gSeq (gAsg (gOp gIx (gF (gLst (gConsA (gC (.int 2)) (gConsA (gC (.int 5)) (gConsA (gC (.int 10)) gNilA))))) (gCallD F__law_mix (gConsA (gVar 0) (gConsA (gC (.int 9949)) (gConsA (gC (.int 3)) gNilA))))) (gNm 2)) (gSeq (gAsgO 3 (gLst gNilA)) g__law_meeting_4))
noncomputable def g__law_meeting_1 : GS := (gSeq (gIfS (gTest (gOp oEq (gOp oMod (gVar 0) (gC (.int 3))) (gC (.int 0)))) (gAsg (gTupE (gConsA (gC (.int 2)) (gConsA (gC (.int 2)) gNilA))) (gNm 1)) gNext) g__law_meeting_2)
noncomputable def g__law_meeting : GS := (gSeq (gAsg (gCallB cTuple (gConsA (gF (gComp [none, some 0] (gRng1 (gOp oAdd (gC (.int 2)) (gOp oDiv (gCallD F__law_mix (gConsA (gVar 0) (gConsA (gC (.int 9967)) (gConsA (gC (.int 4)) gNilA)))) (gC (.int 3))))) (gNm 0) (gOp oAdd (gC (.int 1)) (gCallD F__law_mix (gConsA (gOp oAdd (gVar 1) (gOp oMul (gC (.int 7)) (gVar 0))) (gConsA (gC (.int 9973)) (gConsA (gC (.int 3)) gNilA))))))) gNilA)) (gNm 1)) g__law_meeting_1)
noncomputable def g__law_paid : GS := (gRet (gOp gIx (gOp gIx (gVar 0) (gC (.int 1))) (gIndex (gCallD F__law_rows (gConsA (gOp gIx (gVar 0) (gC (.int 0))) gNilA)) (gVar 1))))
noncomputable def g_pays_by_deed : GS := (gRet (gF (gComp [none, some 1, some 0, some 2] (gRng1 (gOp gIx (gOp gIx (gVar 0) (gC (.int 0))) (gVar 1))) (gNm 0) (gOp gIx (gCallD F_paid (gConsA (gVar 2) (gConsA (gCallD F_with_deed (gConsA (gVar 3) (gConsA (gVar 1) (gConsA (gVar 0) gNilA)))) gNilA))) (gVar 1)))))
noncomputable def g_least_paid : GS := (gRet (gCallB cMin (gConsA (gF (gCompIf [none, some 1, some 0, some 2] (gIt (gCallD F_all_rows (gConsA (gVar 0) gNilA))) (gNm 0) (gTest (gOp oEq (gOp gIx (gVar 0) (gVar 1)) (gVar 3))) (gOp gIx (gCallD F_paid (gConsA (gVar 2) (gConsA (gVar 0) gNilA))) (gVar 1)))) gNilA)))
noncomputable def g__law_best_1 : GS := (gRet (gF (gCompIf [none, none, some 3] (gIl (gVar 3)) (gNm2 0 1) (gTest (gOp oEq (gVar 0) (gOp gIx (gCallB cMaxP (gConsA (gVar 2) gNilA)) (gC (.int 0))))) (gVar 1))))
noncomputable def g__law_best : GS := (gSeq (gAsg (gF (gComp [none, some 1, some 0, some 2] (gRng1 (gOp gIx (gOp gIx (gVar 0) (gC (.int 0))) (gVar 1))) (gNm 0) (gTupE (gConsA (gOp gIx (gCallD F__law_paid (gConsA (gVar 2) (gConsA (gCallD F__law_stray (gConsA (gVar 3) (gConsA (gVar 1) (gConsA (gVar 0) gNilA)))) gNilA))) (gVar 1)) (gConsA (gVar 0) gNilA))))) (gNm 3)) g__law_best_1)
noncomputable def g_best_deeds_2 : GS := (gRet (gCallB cTuple (gConsA (gF (gCompIf [none, none, some 4] (gEnumL (gVar 3)) (gNm2 0 1) (gTest (gOp oEq (gVar 1) (gVar 2))) (gVar 0))) gNilA)))
noncomputable def g_best_deeds_1 : GS := (gSeq (gAsg (gCallB cMax (gConsA (gVar 3) gNilA)) (gNm 4)) g_best_deeds_2)
noncomputable def g_best_deeds : GS := (gSeq (gAsg (gCallD F_pays_by_deed (gConsA (gVar 0) (gConsA (gVar 1) (gConsA (gVar 2) gNilA)))) (gNm 3)) g_best_deeds_1)
noncomputable def g_held_to : GS := (gRet (gCallB cMin (gConsA (gF (gComp [none, some 0, some 1] (gIt (gCallD F_all_rows (gConsA (gVar 0) gNilA))) (gNm 0) (gCallB cMax (gConsA (gCallD F_pays_by_deed (gConsA (gVar 1) (gConsA (gVar 2) (gConsA (gVar 0) gNilA)))) gNilA)))) gNilA)))
noncomputable def g_sure : GS := (gRet (gCallB cMax (gConsA (gF (gComp [none, some 0, some 1] (gRng1 (gOp gIx (gOp gIx (gVar 0) (gC (.int 0))) (gVar 1))) (gNm 0) (gCallD F_least_paid (gConsA (gVar 1) (gConsA (gVar 2) (gConsA (gVar 0) gNilA)))))) gNilA)))
noncomputable def g_is_calm : GS := (gRet (gCallB cAll (gConsA (gF (gComp [none, none, some 0, some 1] (gEnumT (gVar 1)) (gNm2 0 1) (gOp oIn (gVar 1) (gCallD F_best_deeds (gConsA (gVar 2) (gConsA (gVar 0) (gConsA (gVar 3) gNilA))))))) gNilA)))
noncomputable def g_calm : GS := (gRet (gCallB cTuple (gConsA (gF (gCompIf [none, some 0] (gIt (gCallD F_all_rows (gConsA (gVar 0) gNilA))) (gNm 0) (gTru (gCallD F_is_calm (gConsA (gVar 1) (gConsA (gVar 0) gNilA)))) (gVar 0))) gNilA)))
noncomputable def g_law_f6 : GS := (gApp 12 (gCallB cMin (gConsA (gF (gCompIf [none, some 7, some 2, some 13] (gIl (gVar 3)) (gNm 0) (gTest (gOp oEq (gOp gIx (gVar 0) (gVar 1)) (gVar 3))) (gOp gIx (gCallD F__law_paid (gConsA (gVar 2) (gConsA (gVar 0) gNilA))) (gVar 1)))) gNilA)))
noncomputable def g_law_f5 : GS := (gSeq (gAsg (gOp gIx (gCallD F__law_best (gConsA (gVar 2) (gConsA (gVar 7) (gConsA (gVar 5) gNilA)))) (gC (.int 0))) (gNm 11)) (gApp 10 (gOp gIx (gCallD F__law_paid (gConsA (gVar 2) (gConsA (gCallD F__law_stray (gConsA (gVar 5) (gConsA (gVar 7) (gConsA (gVar 11) gNilA)))) gNilA))) (gVar 7))))
noncomputable def g_law_f4 : GS := (gSeq (gAsgO 10 (gLst gNilA)) (gSeq (gFor (gIl (gVar 3)) (gNm 5) g_law_f5) (gSeq (gAsgO 12 (gLst gNilA)) (gSeq (gFor (gRng1 (gVar 9)) (gNm 13) g_law_f6) (gSeq (gAsg (gTupE (gConsA (gCallD F_held_to (gConsA (gVar 2) (gConsA (gVar 7) gNilA))) (gConsA (gCallD F_sure (gConsA (gVar 2) (gConsA (gVar 7) gNilA))) gNilA))) (gNm 14)) (gFrz 12 (gFrz 10 (gSeq (gIfS (gOr (gTest (gOp oNe (gVar 14) (gTupE (gConsA (gCallB cMin (gConsA (gVar 10) gNilA)) (gConsA (gCallB cMax (gConsA (gVar 12) gNilA)) gNilA))))) (gTest (gOp oLt (gOp gIx (gVar 14) (gC (.int 0))) (gOp gIx (gVar 14) (gC (.int 1)))))) (gRet (gC (.bl false))) gNext) (gSeq (gIfS (gOr (gNot (gTru (gCallD F__law_whole (gConsA (gOp gIx (gVar 14) (gC (.int 0))) gNilA)))) (gNot (gTru (gCallD F__law_whole (gConsA (gOp gIx (gVar 14) (gC (.int 1))) gNilA))))) (gRet (gC (.bl false))) gNext) (gIfS (gTru (gF (gCompIf [none, some 7, some 14, some 2] (gIl (gVar 4)) (gNm 0) (gTest (gOp oLt (gOp gIx (gCallD F__law_paid (gConsA (gVar 3) (gConsA (gVar 0) gNilA))) (gVar 1)) (gOp gIx (gVar 2) (gC (.int 0))))) (gVar 0)))) (gRet (gC (.bl false))) gNext))))))))))
noncomputable def g_law_f3 : GS := (gSeq (gAsg (gCallD F__law_best (gConsA (gVar 2) (gConsA (gVar 7) (gConsA (gVar 5) gNilA)))) (gNm 8)) (gSeq (gIfS (gTest (gOp oNe (gCallD F_best_deeds (gConsA (gVar 2) (gConsA (gVar 7) (gConsA (gVar 5) gNilA)))) (gCallB cTuple (gConsA (gVar 8) gNilA)))) (gRet (gC (.bl false))) gNext) (gAsg (gAndV (gVar 6) (gOp oIn (gOp gIx (gVar 5) (gVar 7)) (gVar 8))) (gNm 6))))
noncomputable def g_law_f2 : GS := (gSeq (gIfS (gTest (gOp oNe (gCallD F_paid (gConsA (gVar 2) (gConsA (gVar 5) gNilA))) (gCallD F__law_paid (gConsA (gVar 2) (gConsA (gVar 5) gNilA))))) (gRet (gC (.bl false))) gNext) (gSeq (gAsg (gC (.bl true)) (gNm 6)) (gSeq (gFor (gRng1 (gCallB cLen (gConsA (gVar 5) gNilA))) (gNm 7) g_law_f3) (gAsg (gF (gCatL (gVar 4) (gF (gRepL (gLst (gConsA (gVar 5) gNilA)) (gCallB cInt (gConsA (gVar 6) gNilA)))))) (gNm 4)))))
noncomputable def g_law_f1 : GS := (gSeq (gAsg (gCallR F__law_meeting (gConsA (gVar 1) gNilA)) (gNm 2)) (gSeq (gAsg (gCallD F__law_rows (gConsA (gOp gIx (gVar 2) (gC (.int 0))) gNilA)) (gNm 3)) (gSeq (gAsg (gF (gLst gNilA)) (gNm 4)) (gSeq (gFor (gIl (gVar 3)) (gNm 5) g_law_f2) (gSeq (gIfS (gTest (gOp oNe (gCallD F_calm (gConsA (gVar 2) gNilA)) (gCallB cTuple (gConsA (gVar 4) gNilA)))) (gRet (gC (.bl false))) gNext) (gFor (gEnumT (gOp gIx (gVar 2) (gC (.int 0)))) (gNm2 7 9) g_law_f4))))))
noncomputable def g_law : GS := (gSeq (gFor (gIl (gF (gSlL (gVar 0) gNoP (gPart (gC (.int 4)))))) (gNm 1) g_law_f1) (gRet (gC (.bl true))))
end L2
namespace L2
open PySem PySem.Spec PyProof.Rows
def top (i : Nat) : Stmt := PySem.Challenge.pw_pactkeep_k03_one_meeting.main.body.getD i (.Pass ⟨0, 0, 0, 0⟩)
abbrev s_all_rows : Stmt := top 1
abbrev s_rows_of : Stmt := top 2
abbrev s_place_of : Stmt := top 3
abbrev s_with_deed : Stmt := top 4
abbrev s_paid : Stmt := top 6
abbrev s_best_deeds : Stmt := top 7
abbrev s_calm : Stmt := top 8
abbrev s_held_to : Stmt := top 9
abbrev s_sure : Stmt := top 10
abbrev s_pays_by_deed : Stmt := top 11
abbrev s_is_calm : Stmt := top 12
abbrev s_least_paid : Stmt := top 13
abbrev s__law_mix : Stmt := top 16
abbrev s__law_rows : Stmt := top 17
abbrev s__law_meeting : Stmt := top 18
abbrev s__law_paid : Stmt := top 20
abbrev s__law_stray : Stmt := top 21
abbrev s__law_whole : Stmt := top 22
abbrev s__law_best : Stmt := top 23
abbrev s_law : Stmt := top 24
structure Txt (K : PySem.W.Frag) (mg : Str → Option Value) : Prop where
  n_all : mg "all" = none
  n_bool : mg "bool" = none
  n_enumerate : mg "enumerate" = none
  n_int : mg "int" = none
  n_isinstance : mg "isinstance" = none
  n_len : mg "len" = none
  n_max : mg "max" = none
  n_min : mg "min" = none
  n_range : mg "range" = none
  n_sorted : mg "sorted" = none
  n_tuple : mg "tuple" = none
  n_zip : mg "zip" = none
section
variable {P : Program} {w : World} {K : PySem.W.Frag} {mg : Str → Option Value} {base : Heap}
theorem sc_rows_of : FnScope ["deeds", "rows", "many", "longer", "row", "deed"] ["deeds"] (defScope s_rows_of) := ⟨rfl, rfl, rfl, by decide +kernel, rfl, by decide +kernel, by decide +kernel⟩
set_option maxHeartbeats 8000000 in
theorem body_rows_of (T : Txt K mg)  {f : Addr} {cdv : Value} {A : Around} {outer : List Env} {s : Shared} {H : Hp} {E : XK} (hr : Room 0 (A.deeper (envOfC "rows_of" (defScope s_rows_of) s.heap.objs.size f cdv))) :
    DSs (cxOf CX0 P w K mg base ["deeds", "rows", "many", "longer", "row", "deed"] "rows_of" (defScope s_rows_of) f cdv A outer s H E).nox (defBody s_rows_of) g_rows_of := by
  have hu := hr.units
  exact (dss_cons (ds_asg (DF.toE (df_lst (da_cons (de_tup da_nil) da_nil))) (dg_name (pg_name (i := 1) sc_rows_of.nd rfl (Or.inl rfl))) (fun h1 h2 => ps_asg h1 h2)) (dss_cons (ds_for rfl PassesOwn.never (di_tup (de_var (pv 0))) (dg_name (pg_name (i := 2) sc_rows_of.nd rfl (Or.inl rfl))) (dss_cons (ds_asgO (i := 3) (df_lst da_nil) (fun h => ps_set (i := 3) sc_rows_of.nd rfl (Or.inl rfl) h)) (dss_cons (ds_for rfl PassesOwn.never (di_lst (de_var (pv 1))) (dg_name (pg_name (i := 4) sc_rows_of.nd rfl (Or.inl rfl))) (dss_one (ds_for rfl PassesOwn.never (di_rng1 rfl T.n_range (de_var (pv 2))) (dg_name (pg_name (i := 5) sc_rows_of.nd rfl (Or.inl rfl))) (dss_one (ds_app (i := 3) (de_op do_add (de_var (pv 4)) (de_tup (da_cons (de_var (pv 5)) da_nil))) (fun h => ps_expr (pe_bm PySem.F.plainAttrs_list PySem.F.slot_list_append PySem.F.type_list_append mt_append (pv 3) (pa_cons h pa_nil)))))))) (dss_frz 3 (dss_one (ds_asg (de_var (pv 3)) (dg_name (pg_name (i := 1) sc_rows_of.nd rfl (Or.inl rfl))) (fun h1 h2 => ps_asg h1 h2))))))) (dss_one (ds_ret (de_callG dc_tuple (da_cons (de_var (pv 1)) da_nil) (fun h1 h2 => pe_callTy h1 rfl T.n_tuple bt_tuple h2))))))
theorem sc_place_of : FnScope ["row", "deeds", "place", "deed", "many"] ["row", "deeds"] (defScope s_place_of) := ⟨rfl, rfl, rfl, by decide +kernel, rfl, by decide +kernel, by decide +kernel⟩
set_option maxHeartbeats 8000000 in
theorem body_place_of (T : Txt K mg)  {f : Addr} {cdv : Value} {A : Around} {outer : List Env} {s : Shared} {H : Hp} {E : XK} (hr : Room 0 (A.deeper (envOfC "place_of" (defScope s_place_of) s.heap.objs.size f cdv))) :
    DSs (cxOf CX0 P w K mg base ["row", "deeds", "place", "deed", "many"] "place_of" (defScope s_place_of) f cdv A outer s H E).nox (defBody s_place_of) g_place_of := by
  have hu := hr.units
  exact (dss_cons (ds_asg de_int (dg_name (pg_name (i := 2) sc_place_of.nd rfl (Or.inl rfl))) (fun h1 h2 => ps_asg h1 h2)) (dss_cons (ds_for rfl PassesOwn.never (di_zip rfl T.n_zip bt_zip (de_var (pv 0)) (de_var (pv 1))) (dg_two (pg_name (i := 3) sc_place_of.nd rfl (Or.inl rfl)) (pg_name (i := 4) sc_place_of.nd rfl (Or.inl rfl)) (fun h1 h2 => pg_tup rfl (pgs_cons h1 (pgs_cons h2 pgs_nil)))) (dss_one (ds_asg (de_op do_add (de_op do_mul (de_var (pv 2)) (de_var (pv 4))) (de_var (pv 3))) (dg_name (pg_name (i := 2) sc_place_of.nd rfl (Or.inl rfl))) (fun h1 h2 => ps_asg h1 h2)))) (dss_one (ds_ret (de_var (pv 2))))))
theorem sc_with_deed : FnScope ["row", "hand", "deed"] ["row", "hand", "deed"] (defScope s_with_deed) := ⟨rfl, rfl, rfl, by decide +kernel, rfl, by decide +kernel, by decide +kernel⟩
set_option maxHeartbeats 8000000 in
theorem body_with_deed (T : Txt K mg)  {f : Addr} {cdv : Value} {A : Around} {outer : List Env} {s : Shared} {H : Hp} {E : XK} (hr : Room 0 (A.deeper (envOfC "with_deed" (defScope s_with_deed) s.heap.objs.size f cdv))) :
    DSs (cxOf CX0 P w K mg base ["row", "hand", "deed"] "with_deed" (defScope s_with_deed) f cdv A outer s H E).nox (defBody s_with_deed) g_with_deed := by
  have hu := hr.units
  exact (dss_one (ds_ret (de_op do_add (de_op do_add (de_slT (de_var (pv 0)) do_none (do_some (de_var (pv 1)))) (de_tup (da_cons (de_var (pv 2)) da_nil))) (de_slT (de_var (pv 0)) (do_some (de_op do_add (de_var (pv 1)) de_int)) do_none))))
theorem sc__law_mix : FnScope ["_law_cell_here", "_law_prime", "_law_many"] ["_law_cell_here", "_law_prime", "_law_many"] (defScope s__law_mix) := ⟨rfl, rfl, rfl, by decide +kernel, rfl, by decide +kernel, by decide +kernel⟩
set_option maxHeartbeats 8000000 in
theorem body__law_mix (T : Txt K mg)  {f : Addr} {cdv : Value} {A : Around} {outer : List Env} {s : Shared} {H : Hp} {E : XK} (hr : Room 0 (A.deeper (envOfC "_law_mix" (defScope s__law_mix) s.heap.objs.size f cdv))) :
    DSs (cxOf CX0 P w K mg base ["_law_cell_here", "_law_prime", "_law_many"] "_law_mix" (defScope s__law_mix) f cdv A outer s H E).nox (defBody s__law_mix) g__law_mix := by
  have hu := hr.units
  exact (dss_one (ds_ret (de_op do_mod (de_op do_mod (de_op do_mul (de_var (pv 0)) de_int) (de_var (pv 1))) (de_var (pv 2)))))
theorem sc__law_rows : FnScope ["_law_deeds", "_law_found", "_law_many", "_law_more", "_law_row"] ["_law_deeds"] (defScope s__law_rows) := ⟨rfl, rfl, rfl, by decide +kernel, rfl, by decide +kernel, by decide +kernel⟩
set_option maxHeartbeats 8000000 in
theorem body__law_rows (T : Txt K mg)  {f : Addr} {cdv : Value} {A : Around} {outer : List Env} {s : Shared} {H : Hp} {E : XK} (hr : Room 0 (A.deeper (envOfC "_law_rows" (defScope s__law_rows) s.heap.objs.size f cdv))) :
    DSs (cxOf CX0 P w K mg base ["_law_deeds", "_law_found", "_law_many", "_law_more", "_law_row"] "_law_rows" (defScope s__law_rows) f cdv A outer s H E).nox (defBody s__law_rows) g__law_rows := by
  have hu := hr.units
  exact (dss_cons (ds_asg (DF.toE (df_lst (da_cons (de_tup da_nil) da_nil))) (dg_name (pg_name (i := 1) sc__law_rows.nd rfl (Or.inl rfl))) (fun h1 h2 => ps_asg h1 h2)) (dss_cons (ds_for rfl PassesOwn.never (di_tup (de_var (pv 0))) (dg_name (pg_name (i := 2) sc__law_rows.nd rfl (Or.inl rfl))) (dss_cons (ds_asgO (i := 3) (df_lst da_nil) (fun h => ps_set (i := 3) sc__law_rows.nd rfl (Or.inl rfl) h)) (dss_cons (ds_for rfl PassesOwn.never (di_lst (de_var (pv 1))) (dg_name (pg_name (i := 4) sc__law_rows.nd rfl (Or.inr rfl))) (dss_one (ds_ext (i := 3) (df_comp (Nc := ["_law_deed", "_law_row"]) (fr := [none, some 4]) (ss := [0]) (compOk_of (sc := (defScope s__law_rows)) (N := ["_law_deeds", "_law_found", "_law_many", "_law_more", "_law_row"]) rfl rfl (by decide +kernel)) (by decide) rfl (di_rng1 rfl T.n_range (de_var (pv 2))) (fun Cc pins fp s3 H3 => dg_name (pg_name (i := 0) (show (["_law_deed", "_law_row"] : List Str).Nodup by decide +kernel) rfl (Or.inl rfl))) (fun Cc pins fp s3 H3 => (de_op do_add (de_var (pv 1)) (de_tup (da_cons (de_var (pv 0)) da_nil)))) mono_nm) (fun h => ps_expr (pe_bm PySem.F.plainAttrs_list PySem.F.slot_list_extend PySem.F.type_list_extend mt_extend (pv 3) (pa_cons h pa_nil)))))) (dss_frz 3 (dss_one (ds_asg (de_var (pv 3)) (dg_name (pg_name (i := 1) sc__law_rows.nd rfl (Or.inl rfl))) (fun h1 h2 => ps_asg h1 h2))))))) (dss_one (ds_ret (de_var (pv 1))))))
theorem sc__law_stray : FnScope ["_law_row", "_law_hand", "_law_deed"] ["_law_row", "_law_hand", "_law_deed"] (defScope s__law_stray) := ⟨rfl, rfl, rfl, by decide +kernel, rfl, by decide +kernel, by decide +kernel⟩
set_option maxHeartbeats 8000000 in
theorem body__law_stray (T : Txt K mg)  {f : Addr} {cdv : Value} {A : Around} {outer : List Env} {s : Shared} {H : Hp} {E : XK} (hr : Room 0 (A.deeper (envOfC "_law_stray" (defScope s__law_stray) s.heap.objs.size f cdv))) :
    DSs (cxOf CX0 P w K mg base ["_law_row", "_law_hand", "_law_deed"] "_law_stray" (defScope s__law_stray) f cdv A outer s H E).nox (defBody s__law_stray) g__law_stray := by
  have hu := hr.units
  exact (dss_one (ds_ret (de_op do_add (de_op do_add (de_slT (de_var (pv 0)) do_none (do_some (de_var (pv 1)))) (de_tup (da_cons (de_var (pv 2)) da_nil))) (de_slT (de_var (pv 0)) (do_some (de_op do_add (de_var (pv 1)) de_int)) do_none))))
theorem sc__law_whole : FnScope ["_law_found"] ["_law_found"] (defScope s__law_whole) := ⟨rfl, rfl, rfl, by decide +kernel, rfl, by decide +kernel, by decide +kernel⟩
set_option maxHeartbeats 8000000 in
theorem body__law_whole (T : Txt K mg)  {f : Addr} {cdv : Value} {A : Around} {outer : List Env} {s : Shared} {H : Hp} {E : XK} (hr : Room 0 (A.deeper (envOfC "_law_whole" (defScope s__law_whole) s.heap.objs.size f cdv))) :
    DSs (cxOf CX0 P w K mg base ["_law_found"] "_law_whole" (defScope s__law_whole) f cdv A outer s H E).nox (defBody s__law_whole) g__law_whole := by
  have hu := hr.units
  exact (dss_one (ds_ret (de_and (de_inst (T := "int") (by decide) (de_var (pv 0)) (pe_bltn rfl T.n_int bt_int rfl) (fun h1 h2 => pe_callB h1 rfl T.n_isinstance bt_isinstance h2)) (de_one (de_notT (de_inst (T := "bool") (by decide) (de_var (pv 0)) (pe_bltn rfl T.n_bool bt_bool rfl) (fun h1 h2 => pe_callB h1 rfl T.n_isinstance bt_isinstance h2)))))))
theorem sc_all_rows : FnScope ["meeting"] ["meeting"] (defScope s_all_rows) := ⟨rfl, rfl, rfl, by decide +kernel, rfl, by decide +kernel, by decide +kernel⟩
set_option maxHeartbeats 8000000 in
theorem body_all_rows (T : Txt K mg) (h_rows_of : DFn P w K mg base 1 "rows_of" F_rows_of) {f : Addr} {cdv : Value} {A : Around} {outer : List Env} {s : Shared} {H : Hp} {E : XK} (hr : Room 1 (A.deeper (envOfC "all_rows" (defScope s_all_rows) s.heap.objs.size f cdv))) :
    DSs (cxOf CX0 P w K mg base ["meeting"] "all_rows" (defScope s_all_rows) f cdv A outer s H E).nox (defBody s_all_rows) g_all_rows := by
  have hu := hr.units
  exact (dss_one (ds_ret (de_call h_rows_of (hr.mono (by decide)) rfl (da_cons (de_ix (de_var (pv 0)) de_int (fun _ _ => rfl)) da_nil))))
theorem sc_paid : FnScope ["meeting", "row"] ["meeting", "row"] (defScope s_paid) := ⟨rfl, rfl, rfl, by decide +kernel, rfl, by decide +kernel, by decide +kernel⟩
set_option maxHeartbeats 8000000 in
theorem body_paid (T : Txt K mg) (h_place_of : DFn P w K mg base 1 "place_of" F_place_of) {f : Addr} {cdv : Value} {A : Around} {outer : List Env} {s : Shared} {H : Hp} {E : XK} (hr : Room 1 (A.deeper (envOfC "paid" (defScope s_paid) s.heap.objs.size f cdv))) :
    DSs (cxOf CX0 P w K mg base ["meeting", "row"] "paid" (defScope s_paid) f cdv A outer s H E).nox (defBody s_paid) g_paid := by
  have hu := hr.units
  exact (dss_one (ds_ret (de_ix (de_ix (de_var (pv 0)) de_int (fun _ _ => rfl)) (de_call h_place_of (hr.mono (by decide)) rfl (da_cons (de_var (pv 1)) (da_cons (de_ix (de_var (pv 0)) de_int (fun _ _ => rfl)) da_nil))) (fun _ _ => rfl))))
theorem sc__law_meeting : FnScope ["_law_cell_here", "_law_deeds", "_law_wide", "_law_pay", "_law_k", "_law_seed", "_law_one", "_law_few"] ["_law_cell_here"] (defScope s__law_meeting) := ⟨rfl, rfl, rfl, by decide +kernel, rfl, by decide +kernel, by decide +kernel⟩
set_option maxHeartbeats 8000000 in
theorem body__law_meeting (T : Txt K mg) (h__law_mix : DFn P w K mg base 1 "_law_mix" F__law_mix) (h__law_rows : DFn P w K mg base 1 "_law_rows" F__law_rows) {f : Addr} {cdv : Value} {A : Around} {outer : List Env} {s : Shared} {H : Hp} {E : XK} (hr : Room 1 (A.deeper (envOfC "_law_meeting" (defScope s__law_meeting) s.heap.objs.size f cdv))) :
    DSs (cxOf CX0 P w K mg base ["_law_cell_here", "_law_deeds", "_law_wide", "_law_pay", "_law_k", "_law_seed", "_law_one", "_law_few"] "_law_meeting" (defScope s__law_meeting) f cdv A outer s H E).nox (defBody s__law_meeting) g__law_meeting := by
  have hu := hr.units
  exact (dss_cons (ds_asg (de_callG dc_tuple (da_cons (DF.toE (df_comp (Nc := ["_law_k", "_law_cell_here"]) (fr := [none, some 0]) (ss := [0]) (compOk_of (sc := (defScope s__law_meeting)) (N := ["_law_cell_here", "_law_deeds", "_law_wide", "_law_pay", "_law_k", "_law_seed", "_law_one", "_law_few"]) rfl rfl (by decide +kernel)) (by decide) rfl (di_rng1 rfl T.n_range (de_op do_add de_int (de_op do_div (de_call h__law_mix (hr.mono (by decide)) rfl (da_cons (de_var (pv 0)) (da_cons de_int (da_cons de_int da_nil)))) de_int))) (fun Cc pins fp s3 H3 => dg_name (pg_name (i := 0) (show (["_law_k", "_law_cell_here"] : List Str).Nodup by decide +kernel) rfl (Or.inl rfl))) (fun Cc pins fp s3 H3 => (de_op do_add de_int (de_call h__law_mix (hr.mono (by decide)) rfl (da_cons (de_op do_add (de_var (pv 1)) (de_op do_mul de_int (de_var (pv 0)))) (da_cons de_int (da_cons de_int da_nil)))))) mono_nm)) da_nil) (fun h1 h2 => pe_callTy h1 rfl T.n_tuple bt_tuple h2)) (dg_name (pg_name (i := 1) sc__law_meeting.nd rfl (Or.inl rfl))) (fun h1 h2 => ps_asg h1 h2)) (dss_cons (ds_if (dt_cmp (do_eq hu) (de_op do_mod (de_var (pv 0)) de_int) de_int) (dss_one (ds_asg (de_tup (da_cons de_int (da_cons de_int da_nil))) (dg_name (pg_name (i := 1) sc__law_meeting.nd rfl (Or.inl rfl))) (fun h1 h2 => ps_asg h1 h2))) dss_nil) (dss_cons (ds_asg (de_ix (DF.toE (df_lst (da_cons de_int (da_cons de_int (da_cons de_int da_nil))))) (de_call h__law_mix (hr.mono (by decide)) rfl (da_cons (de_var (pv 0)) (da_cons de_int (da_cons de_int da_nil)))) (fun _ _ => rfl)) (dg_name (pg_name (i := 2) sc__law_meeting.nd rfl (Or.inr rfl))) (fun h1 h2 => ps_asg h1 h2)) (dss_cons (ds_asgO (i := 3) (df_lst da_nil) (fun h => ps_set (i := 3) sc__law_meeting.nd rfl (Or.inl rfl) h)) (dss_cons (ds_for rfl PassesOwn.never (di_rng1 rfl T.n_range (de_callG dc_len (da_cons (de_call h__law_rows (hr.mono (by decide)) rfl (da_cons (de_var (pv 1)) da_nil)) da_nil) (fun h1 h2 => pe_callB h1 rfl T.n_len bt_len h2))) (dg_name (pg_name (i := 4) sc__law_meeting.nd rfl (Or.inl rfl))) (dss_cons (ds_asg (de_op do_add (de_var (pv 0)) (de_op do_mul de_int (de_var (pv 4)))) (dg_name (pg_name (i := 5) sc__law_meeting.nd rfl (Or.inr rfl))) (fun h1 h2 => ps_asg h1 h2)) (dss_cons (ds_compO0 (i := 6) (Nc := ["_law_hand", "_law_wide", "_law_seed"]) (fr := [none, some 2, some 5]) (ss := [0]) (compOk_of (sc := (defScope s__law_meeting)) (N := ["_law_cell_here", "_law_deeds", "_law_wide", "_law_pay", "_law_k", "_law_seed", "_law_one", "_law_few"]) rfl rfl (by decide +kernel)) (by decide) rfl sc__law_meeting.nd rfl (Or.inl rfl) (di_rng1 rfl T.n_range (de_callG dc_len (da_cons (de_var (pv 1)) da_nil) (fun h1 h2 => pe_callB h1 rfl T.n_len bt_len h2))) (fun Cc pins fp s3 H3 => dg_name (pg_name (i := 0) (show (["_law_hand", "_law_wide", "_law_seed"] : List Str).Nodup by decide +kernel) rfl (Or.inl rfl))) (fun Cc pins fp s3 H3 => (de_op do_sub (de_op do_add (de_call h__law_mix (hr.mono (by decide)) rfl (da_cons (de_op do_add (de_var (pv 2)) (de_op do_mul de_int (de_var (pv 0)))) (da_cons de_int (da_cons (de_op do_sub (de_op do_mul de_int (de_var (pv 1))) de_int) da_nil)))) de_int) (de_var (pv 1)))) mono_nm rfl) (dss_frz 6 (dss_one (ds_app (i := 3) (de_callG dc_tuple (da_cons (de_var (pv 6)) da_nil) (fun h1 h2 => pe_callTy h1 rfl T.n_tuple bt_tuple h2)) (fun h => ps_expr (pe_bm PySem.F.plainAttrs_list PySem.F.slot_list_append PySem.F.type_list_append mt_append (pv 3) (pa_cons h pa_nil))))))))) (dss_cons (ds_if (dt_cmp (do_eq hu) (de_op do_mod (de_var (pv 0)) de_int) de_int) (dss_cons (ds_asg (DF.toE (df_call dc_sorted (da_cons (DF.toE (df_comp (Nc := ["_law_k", "_law_cell_here"]) (fr := [none, some 0]) (ss := [0]) (compOk_of (sc := (defScope s__law_meeting)) (N := ["_law_cell_here", "_law_deeds", "_law_wide", "_law_pay", "_law_k", "_law_seed", "_law_one", "_law_few"]) rfl rfl (by decide +kernel)) (by decide) rfl (di_rng1 rfl T.n_range de_int) (fun Cc pins fp s3 H3 => dg_name (pg_name (i := 0) (show (["_law_k", "_law_cell_here"] : List Str).Nodup by decide +kernel) rfl (Or.inl rfl))) (fun Cc pins fp s3 H3 => (de_op do_sub (de_call h__law_mix (hr.mono (by decide)) rfl (da_cons (de_op do_add (de_var (pv 1)) (de_var (pv 0))) (da_cons de_int (da_cons de_int da_nil)))) de_int)) mono_nm)) da_nil) (fun h1 h2 => pe_callB h1 rfl T.n_sorted bt_sorted h2))) (dg_name (pg_name (i := 7) sc__law_meeting.nd rfl (Or.inl rfl))) (fun h1 h2 => ps_asg h1 h2)) (dss_one (ds_asgO (i := 3) (df_lst (da_cons (de_tup (da_cons (de_ix (de_var (pv 7)) de_int (fun _ _ => rfl)) (da_cons (de_ix (de_var (pv 7)) de_int (fun _ _ => rfl)) da_nil))) (da_cons (de_tup (da_cons (de_ix (de_var (pv 7)) de_int (fun _ _ => rfl)) (da_cons (de_ix (de_var (pv 7)) de_int (fun _ _ => rfl)) da_nil))) (da_cons (de_tup (da_cons (de_ix (de_var (pv 7)) de_int (fun _ _ => rfl)) (da_cons (de_ix (de_var (pv 7)) de_int (fun _ _ => rfl)) da_nil))) (da_cons (de_tup (da_cons (de_ix (de_var (pv 7)) de_int (fun _ _ => rfl)) (da_cons (de_ix (de_var (pv 7)) de_int (fun _ _ => rfl)) da_nil))) da_nil))))) (fun h => ps_set (i := 3) sc__law_meeting.nd rfl (Or.inl rfl) h)))) dss_nil) (dss_frz 3 (dss_one (ds_ret (de_tup (da_cons (de_var (pv 1)) (da_cons (de_callG dc_tuple (da_cons (de_var (pv 3)) da_nil) (fun h1 h2 => pe_callTy h1 rfl T.n_tuple bt_tuple h2)) da_nil))))))))))))
theorem sc__law_paid : FnScope ["_law_meeting_here", "_law_row"] ["_law_meeting_here", "_law_row"] (defScope s__law_paid) := ⟨rfl, rfl, rfl, by decide +kernel, rfl, by decide +kernel, by decide +kernel⟩
set_option maxHeartbeats 8000000 in
theorem body__law_paid (T : Txt K mg) (h__law_rows : DFn P w K mg base 1 "_law_rows" F__law_rows) {f : Addr} {cdv : Value} {A : Around} {outer : List Env} {s : Shared} {H : Hp} {E : XK} (hr : Room 1 (A.deeper (envOfC "_law_paid" (defScope s__law_paid) s.heap.objs.size f cdv))) :
    DSs (cxOf CX0 P w K mg base ["_law_meeting_here", "_law_row"] "_law_paid" (defScope s__law_paid) f cdv A outer s H E).nox (defBody s__law_paid) g__law_paid := by
  have hu := hr.units
  exact (dss_one (ds_ret (de_ix (de_ix (de_var (pv 0)) de_int (fun _ _ => rfl)) (de_index hu (de_call h__law_rows (hr.mono (by decide)) rfl (da_cons (de_ix (de_var (pv 0)) de_int (fun _ _ => rfl)) da_nil)) (de_var (pv 1)) (fun h1 h2 => pe_bm PySem.F.plainAttrs_list PySem.F.slot_list_index PySem.F.type_list_index (mt_index hu) h1 h2)) (fun _ _ => rfl))))
theorem sc_pays_by_deed : FnScope ["meeting", "hand", "row"] ["meeting", "hand", "row"] (defScope s_pays_by_deed) := ⟨rfl, rfl, rfl, by decide +kernel, rfl, by decide +kernel, by decide +kernel⟩
set_option maxHeartbeats 8000000 in
theorem body_pays_by_deed (T : Txt K mg) (h_with_deed : DFn P w K mg base 1 "with_deed" F_with_deed) (h_paid : DFn P w K mg base 2 "paid" F_paid) {f : Addr} {cdv : Value} {A : Around} {outer : List Env} {s : Shared} {H : Hp} {E : XK} (hr : Room 2 (A.deeper (envOfC "pays_by_deed" (defScope s_pays_by_deed) s.heap.objs.size f cdv))) :
    DSs (cxOf CX0 P w K mg base ["meeting", "hand", "row"] "pays_by_deed" (defScope s_pays_by_deed) f cdv A outer s H E).nox (defBody s_pays_by_deed) g_pays_by_deed := by
  have hu := hr.units
  exact (dss_one (ds_ret (DF.toE (df_comp (Nc := ["deed", "hand", "meeting", "row"]) (fr := [none, some 1, some 0, some 2]) (ss := [0]) (compOk_of (sc := (defScope s_pays_by_deed)) (N := ["meeting", "hand", "row"]) rfl rfl (by decide +kernel)) (by decide) rfl (di_rng1 rfl T.n_range (de_ix (de_ix (de_var (pv 0)) de_int (fun _ _ => rfl)) (de_var (pv 1)) (fun _ _ => rfl))) (fun Cc pins fp s3 H3 => dg_name (pg_name (i := 0) (show (["deed", "hand", "meeting", "row"] : List Str).Nodup by decide +kernel) rfl (Or.inl rfl))) (fun Cc pins fp s3 H3 => (de_ix (de_call h_paid (hr.mono (by decide)) rfl (da_cons (de_var (pv 2)) (da_cons (de_call h_with_deed (hr.mono (by decide)) rfl (da_cons (de_var (pv 3)) (da_cons (de_var (pv 1)) (da_cons (de_var (pv 0)) da_nil)))) da_nil))) (de_var (pv 1)) (fun _ _ => rfl))) mono_nm))))
theorem sc_least_paid : FnScope ["meeting", "hand", "deed"] ["meeting", "hand", "deed"] (defScope s_least_paid) := ⟨rfl, rfl, rfl, by decide +kernel, rfl, by decide +kernel, by decide +kernel⟩
set_option maxHeartbeats 8000000 in
theorem body_least_paid (T : Txt K mg) (h_all_rows : DFn P w K mg base 2 "all_rows" F_all_rows) (h_paid : DFn P w K mg base 2 "paid" F_paid) {f : Addr} {cdv : Value} {A : Around} {outer : List Env} {s : Shared} {H : Hp} {E : XK} (hr : Room 2 (A.deeper (envOfC "least_paid" (defScope s_least_paid) s.heap.objs.size f cdv))) :
    DSs (cxOf CX0 P w K mg base ["meeting", "hand", "deed"] "least_paid" (defScope s_least_paid) f cdv A outer s H E).nox (defBody s_least_paid) g_least_paid := by
  have hu := hr.units
  exact (dss_one (ds_ret (de_callG (dc_min rfl) (da_cons (DF.toE (df_compIf (ifs := [_]) (Nc := ["row", "hand", "meeting", "deed"]) (fr := [none, some 1, some 0, some 2]) (ss := [0]) (compOk_of (sc := (defScope s_least_paid)) (N := ["meeting", "hand", "deed"]) rfl rfl (by decide +kernel)) (by decide) rfl (di_tup (de_call h_all_rows (hr.mono (by decide)) rfl (da_cons (de_var (pv 0)) da_nil))) (fun Cc pins fp s3 H3 => dg_name (pg_name (i := 0) (show (["row", "hand", "meeting", "deed"] : List Str).Nodup by decide +kernel) rfl (Or.inl rfl))) (fun Cc pins fp s3 H3 => difs_one (dt_cmp (do_eq hu) (de_ix (de_var (pv 0)) (de_var (pv 1)) (fun _ _ => rfl)) (de_var (pv 3)))) (fun Cc pins fp s3 H3 => (de_ix (de_call h_paid (hr.mono (by decide)) rfl (da_cons (de_var (pv 2)) (da_cons (de_var (pv 0)) da_nil))) (de_var (pv 1)) (fun _ _ => rfl))))) da_nil) (fun h1 h2 => pe_callB h1 rfl T.n_min bt_min h2))))
theorem sc__law_best : FnScope ["_law_meeting_here", "_law_hand", "_law_row", "_law_some"] ["_law_meeting_here", "_law_hand", "_law_row"] (defScope s__law_best) := ⟨rfl, rfl, rfl, by decide +kernel, rfl, by decide +kernel, by decide +kernel⟩
set_option maxHeartbeats 8000000 in
theorem body__law_best (T : Txt K mg) (h__law_stray : DFn P w K mg base 1 "_law_stray" F__law_stray) (h__law_paid : DFn P w K mg base 2 "_law_paid" F__law_paid) {f : Addr} {cdv : Value} {A : Around} {outer : List Env} {s : Shared} {H : Hp} {E : XK} (hr : Room 2 (A.deeper (envOfC "_law_best" (defScope s__law_best) s.heap.objs.size f cdv))) :
    DSs (cxOf CX0 P w K mg base ["_law_meeting_here", "_law_hand", "_law_row", "_law_some"] "_law_best" (defScope s__law_best) f cdv A outer s H E).nox (defBody s__law_best) g__law_best := by
  have hu := hr.units
  exact (dss_cons (ds_asg (DF.toE (df_comp (Nc := ["_law_deed", "_law_hand", "_law_meeting_here", "_law_row"]) (fr := [none, some 1, some 0, some 2]) (ss := [0]) (compOk_of (sc := (defScope s__law_best)) (N := ["_law_meeting_here", "_law_hand", "_law_row", "_law_some"]) rfl rfl (by decide +kernel)) (by decide) rfl (di_rng1 rfl T.n_range (de_ix (de_ix (de_var (pv 0)) de_int (fun _ _ => rfl)) (de_var (pv 1)) (fun _ _ => rfl))) (fun Cc pins fp s3 H3 => dg_name (pg_name (i := 0) (show (["_law_deed", "_law_hand", "_law_meeting_here", "_law_row"] : List Str).Nodup by decide +kernel) rfl (Or.inl rfl))) (fun Cc pins fp s3 H3 => (de_tup (da_cons (de_ix (de_call h__law_paid (hr.mono (by decide)) rfl (da_cons (de_var (pv 2)) (da_cons (de_call h__law_stray (hr.mono (by decide)) rfl (da_cons (de_var (pv 3)) (da_cons (de_var (pv 1)) (da_cons (de_var (pv 0)) da_nil)))) da_nil))) (de_var (pv 1)) (fun _ _ => rfl)) (da_cons (de_var (pv 0)) da_nil)))) mono_nm)) (dg_name (pg_name (i := 3) sc__law_best.nd rfl (Or.inr rfl))) (fun h1 h2 => ps_asg h1 h2)) (dss_one (ds_ret (DF.toE (df_compIf (ifs := [_]) (Nc := ["_law_pay", "_law_deed", "_law_some"]) (fr := [none, none, some 3]) (ss := [0, 1]) (compOk_of (sc := (defScope s__law_best)) (N := ["_law_meeting_here", "_law_hand", "_law_row", "_law_some"]) rfl rfl (by decide +kernel)) (by decide) rfl (di_lst (de_var (pv 3))) (fun Cc pins fp s3 H3 => dg_two (pg_name (i := 0) (show (["_law_pay", "_law_deed", "_law_some"] : List Str).Nodup by decide +kernel) rfl (Or.inl rfl)) (pg_name (i := 1) (show (["_law_pay", "_law_deed", "_law_some"] : List Str).Nodup by decide +kernel) rfl (Or.inl rfl)) (fun h1 h2 => pg_tup rfl (pgs_cons h1 (pgs_cons h2 pgs_nil)))) (fun Cc pins fp s3 H3 => difs_one (dt_cmp (do_eq hu) (de_var (pv 0)) (de_ix (de_callG (dc_maxP rfl hu) (da_cons (de_var (pv 2)) da_nil) (fun h1 h2 => pe_callB h1 rfl T.n_max bt_max h2)) de_int (fun _ _ => rfl)))) (fun Cc pins fp s3 H3 => (de_var (pv 1))))))))
theorem sc_best_deeds : FnScope ["meeting", "hand", "row", "pays", "most"] ["meeting", "hand", "row"] (defScope s_best_deeds) := ⟨rfl, rfl, rfl, by decide +kernel, rfl, by decide +kernel, by decide +kernel⟩
set_option maxHeartbeats 8000000 in
theorem body_best_deeds (T : Txt K mg) (h_pays_by_deed : DFn P w K mg base 3 "pays_by_deed" F_pays_by_deed) {f : Addr} {cdv : Value} {A : Around} {outer : List Env} {s : Shared} {H : Hp} {E : XK} (hr : Room 3 (A.deeper (envOfC "best_deeds" (defScope s_best_deeds) s.heap.objs.size f cdv))) :
    DSs (cxOf CX0 P w K mg base ["meeting", "hand", "row", "pays", "most"] "best_deeds" (defScope s_best_deeds) f cdv A outer s H E).nox (defBody s_best_deeds) g_best_deeds := by
  have hu := hr.units
  exact (dss_cons (ds_asg (de_call h_pays_by_deed (hr.mono (by decide)) rfl (da_cons (de_var (pv 0)) (da_cons (de_var (pv 1)) (da_cons (de_var (pv 2)) da_nil)))) (dg_name (pg_name (i := 3) sc_best_deeds.nd rfl (Or.inl rfl))) (fun h1 h2 => ps_asg h1 h2)) (dss_cons (ds_asg (de_callG (dc_max rfl) (da_cons (de_var (pv 3)) da_nil) (fun h1 h2 => pe_callB h1 rfl T.n_max bt_max h2)) (dg_name (pg_name (i := 4) sc_best_deeds.nd rfl (Or.inr rfl))) (fun h1 h2 => ps_asg h1 h2)) (dss_one (ds_ret (de_callG dc_tuple (da_cons (DF.toE (df_compIf (ifs := [_]) (Nc := ["deed", "pay", "most"]) (fr := [none, none, some 4]) (ss := [0, 1]) (compOk_of (sc := (defScope s_best_deeds)) (N := ["meeting", "hand", "row", "pays", "most"]) rfl rfl (by decide +kernel)) (by decide) rfl (di_enumL rfl T.n_enumerate bt_enumerate (de_var (pv 3))) (fun Cc pins fp s3 H3 => dg_two (pg_name (i := 0) (show (["deed", "pay", "most"] : List Str).Nodup by decide +kernel) rfl (Or.inl rfl)) (pg_name (i := 1) (show (["deed", "pay", "most"] : List Str).Nodup by decide +kernel) rfl (Or.inl rfl)) (fun h1 h2 => pg_tup rfl (pgs_cons h1 (pgs_cons h2 pgs_nil)))) (fun Cc pins fp s3 H3 => difs_one (dt_cmp (do_eq hu) (de_var (pv 1)) (de_var (pv 2)))) (fun Cc pins fp s3 H3 => (de_var (pv 0))))) da_nil) (fun h1 h2 => pe_callTy h1 rfl T.n_tuple bt_tuple h2))))))
theorem sc_held_to : FnScope ["meeting", "hand"] ["meeting", "hand"] (defScope s_held_to) := ⟨rfl, rfl, rfl, by decide +kernel, rfl, by decide +kernel, by decide +kernel⟩
set_option maxHeartbeats 8000000 in
theorem body_held_to (T : Txt K mg) (h_all_rows : DFn P w K mg base 2 "all_rows" F_all_rows) (h_pays_by_deed : DFn P w K mg base 3 "pays_by_deed" F_pays_by_deed) {f : Addr} {cdv : Value} {A : Around} {outer : List Env} {s : Shared} {H : Hp} {E : XK} (hr : Room 3 (A.deeper (envOfC "held_to" (defScope s_held_to) s.heap.objs.size f cdv))) :
    DSs (cxOf CX0 P w K mg base ["meeting", "hand"] "held_to" (defScope s_held_to) f cdv A outer s H E).nox (defBody s_held_to) g_held_to := by
  have hu := hr.units
  exact (dss_one (ds_ret (de_callG (dc_min rfl) (da_cons (DF.toE (df_comp (Nc := ["row", "meeting", "hand"]) (fr := [none, some 0, some 1]) (ss := [0]) (compOk_of (sc := (defScope s_held_to)) (N := ["meeting", "hand"]) rfl rfl (by decide +kernel)) (by decide) rfl (di_tup (de_call h_all_rows (hr.mono (by decide)) rfl (da_cons (de_var (pv 0)) da_nil))) (fun Cc pins fp s3 H3 => dg_name (pg_name (i := 0) (show (["row", "meeting", "hand"] : List Str).Nodup by decide +kernel) rfl (Or.inl rfl))) (fun Cc pins fp s3 H3 => (de_callG (dc_max rfl) (da_cons (de_call h_pays_by_deed (hr.mono (by decide)) rfl (da_cons (de_var (pv 1)) (da_cons (de_var (pv 2)) (da_cons (de_var (pv 0)) da_nil)))) da_nil) (fun h1 h2 => pe_callB h1 rfl T.n_max bt_max h2))) mono_nm)) da_nil) (fun h1 h2 => pe_callB h1 rfl T.n_min bt_min h2))))
theorem sc_sure : FnScope ["meeting", "hand"] ["meeting", "hand"] (defScope s_sure) := ⟨rfl, rfl, rfl, by decide +kernel, rfl, by decide +kernel, by decide +kernel⟩
set_option maxHeartbeats 8000000 in
theorem body_sure (T : Txt K mg) (h_least_paid : DFn P w K mg base 3 "least_paid" F_least_paid) {f : Addr} {cdv : Value} {A : Around} {outer : List Env} {s : Shared} {H : Hp} {E : XK} (hr : Room 3 (A.deeper (envOfC "sure" (defScope s_sure) s.heap.objs.size f cdv))) :
    DSs (cxOf CX0 P w K mg base ["meeting", "hand"] "sure" (defScope s_sure) f cdv A outer s H E).nox (defBody s_sure) g_sure := by
  have hu := hr.units
  exact (dss_one (ds_ret (de_callG (dc_max rfl) (da_cons (DF.toE (df_comp (Nc := ["deed", "meeting", "hand"]) (fr := [none, some 0, some 1]) (ss := [0]) (compOk_of (sc := (defScope s_sure)) (N := ["meeting", "hand"]) rfl rfl (by decide +kernel)) (by decide) rfl (di_rng1 rfl T.n_range (de_ix (de_ix (de_var (pv 0)) de_int (fun _ _ => rfl)) (de_var (pv 1)) (fun _ _ => rfl))) (fun Cc pins fp s3 H3 => dg_name (pg_name (i := 0) (show (["deed", "meeting", "hand"] : List Str).Nodup by decide +kernel) rfl (Or.inl rfl))) (fun Cc pins fp s3 H3 => (de_call h_least_paid (hr.mono (by decide)) rfl (da_cons (de_var (pv 1)) (da_cons (de_var (pv 2)) (da_cons (de_var (pv 0)) da_nil))))) mono_nm)) da_nil) (fun h1 h2 => pe_callB h1 rfl T.n_max bt_max h2))))
theorem sc_is_calm : FnScope ["meeting", "row"] ["meeting", "row"] (defScope s_is_calm) := ⟨rfl, rfl, rfl, by decide +kernel, rfl, by decide +kernel, by decide +kernel⟩
set_option maxHeartbeats 8000000 in
theorem body_is_calm (T : Txt K mg) (h_best_deeds : DFn P w K mg base 4 "best_deeds" F_best_deeds) {f : Addr} {cdv : Value} {A : Around} {outer : List Env} {s : Shared} {H : Hp} {E : XK} (hr : Room 4 (A.deeper (envOfC "is_calm" (defScope s_is_calm) s.heap.objs.size f cdv))) :
    DSs (cxOf CX0 P w K mg base ["meeting", "row"] "is_calm" (defScope s_is_calm) f cdv A outer s H E).nox (defBody s_is_calm) g_is_calm := by
  have hu := hr.units
  exact (dss_one (ds_ret (de_callG (dc_all rfl) (da_cons (DF.toE (df_comp (Nc := ["hand", "deed", "meeting", "row"]) (fr := [none, none, some 0, some 1]) (ss := [0, 1]) (compOk_of (sc := (defScope s_is_calm)) (N := ["meeting", "row"]) rfl rfl (by decide +kernel)) (by decide) rfl (di_enumT rfl T.n_enumerate bt_enumerate (de_var (pv 1))) (fun Cc pins fp s3 H3 => dg_two (pg_name (i := 0) (show (["hand", "deed", "meeting", "row"] : List Str).Nodup by decide +kernel) rfl (Or.inl rfl)) (pg_name (i := 1) (show (["hand", "deed", "meeting", "row"] : List Str).Nodup by decide +kernel) rfl (Or.inl rfl)) (fun h1 h2 => pg_tup rfl (pgs_cons h1 (pgs_cons h2 pgs_nil)))) (fun Cc pins fp s3 H3 => (de_cmp (do_in hu) (de_var (pv 1)) (de_call h_best_deeds (hr.mono (by decide)) rfl (da_cons (de_var (pv 2)) (da_cons (de_var (pv 0)) (da_cons (de_var (pv 3)) da_nil)))))) mono_nm2)) da_nil) (fun h1 h2 => pe_callB h1 rfl T.n_all bt_all h2))))
theorem sc_calm : FnScope ["meeting"] ["meeting"] (defScope s_calm) := ⟨rfl, rfl, rfl, by decide +kernel, rfl, by decide +kernel, by decide +kernel⟩
set_option maxHeartbeats 8000000 in
theorem body_calm (T : Txt K mg) (h_all_rows : DFn P w K mg base 2 "all_rows" F_all_rows) (h_is_calm : DFn P w K mg base 5 "is_calm" F_is_calm) {f : Addr} {cdv : Value} {A : Around} {outer : List Env} {s : Shared} {H : Hp} {E : XK} (hr : Room 5 (A.deeper (envOfC "calm" (defScope s_calm) s.heap.objs.size f cdv))) :
    DSs (cxOf CX0 P w K mg base ["meeting"] "calm" (defScope s_calm) f cdv A outer s H E).nox (defBody s_calm) g_calm := by
  have hu := hr.units
  exact (dss_one (ds_ret (de_callG dc_tuple (da_cons (DF.toE (df_compIf (ifs := [_]) (Nc := ["row", "meeting"]) (fr := [none, some 0]) (ss := [0]) (compOk_of (sc := (defScope s_calm)) (N := ["meeting"]) rfl rfl (by decide +kernel)) (by decide) rfl (di_tup (de_call h_all_rows (hr.mono (by decide)) rfl (da_cons (de_var (pv 0)) da_nil))) (fun Cc pins fp s3 H3 => dg_name (pg_name (i := 0) (show (["row", "meeting"] : List Str).Nodup by decide +kernel) rfl (Or.inl rfl))) (fun Cc pins fp s3 H3 => difs_one (dt_tru (de_call h_is_calm (hr.mono (by decide)) rfl (da_cons (de_var (pv 1)) (da_cons (de_var (pv 0)) da_nil))) (fun _ => rfl))) (fun Cc pins fp s3 H3 => (de_var (pv 0))))) da_nil) (fun h1 h2 => pe_callTy h1 rfl T.n_tuple bt_tuple h2))))
theorem sc_law : FnScope ["_law_script", "_law_cell_here", "_law_meeting_here", "_law_some", "_law_quiet", "_law_row", "_law_good", "_law_hand", "_law_due", "_law_many", "_law_tops", "_law_best_here", "_law_lows", "_law_deed", "_law_told"] ["_law_script"] (defScope s_law) := ⟨rfl, rfl, rfl, by decide +kernel, rfl, by decide +kernel, by decide +kernel⟩
set_option maxHeartbeats 8000000 in
theorem body_law (T : Txt K mg) (h__law_meeting : DFnR P w K mg base 2 "_law_meeting" F__law_meeting) (h__law_rows : DFn P w K mg base 1 "_law_rows" F__law_rows) (h_paid : DFn P w K mg base 2 "paid" F_paid) (h__law_paid : DFn P w K mg base 2 "_law_paid" F__law_paid) (h__law_best : DFn P w K mg base 3 "_law_best" F__law_best) (h_best_deeds : DFn P w K mg base 4 "best_deeds" F_best_deeds) (h_calm : DFn P w K mg base 6 "calm" F_calm) (h__law_stray : DFn P w K mg base 1 "_law_stray" F__law_stray) (h_sure : DFn P w K mg base 4 "sure" F_sure) (h_held_to : DFn P w K mg base 4 "held_to" F_held_to) (h__law_whole : DFn P w K mg base 1 "_law_whole" F__law_whole) {f : Addr} {cdv : Value} {A : Around} {outer : List Env} {s : Shared} {H : Hp} {E : XK} (hr : Room 6 (A.deeper (envOfC "law" (defScope s_law) s.heap.objs.size f cdv))) :
    DSs (cxOf CX0 P w K mg base ["_law_script", "_law_cell_here", "_law_meeting_here", "_law_some", "_law_quiet", "_law_row", "_law_good", "_law_hand", "_law_due", "_law_many", "_law_tops", "_law_best_here", "_law_lows", "_law_deed", "_law_told"] "law" (defScope s_law) f cdv A outer s H E).nox (defBody s_law) g_law := by
  have hu := hr.units
  exact (dss_cons (ds_for rfl PassesOwn.never (di_lst (DF.toE (df_slL (de_var (pv 0)) do_none (do_some de_int)))) (dg_name (pg_name (i := 1) sc_law.nd rfl (Or.inl rfl))) (dss_cons (ds_asg (de_callR h__law_meeting (hr.mono (by decide)) rfl (da_cons (de_var (pv 1)) da_nil)) (dg_name (pg_name (i := 2) sc_law.nd rfl (Or.inr rfl))) (fun h1 h2 => ps_asg h1 h2)) (dss_cons (ds_asg (de_call h__law_rows (hr.mono (by decide)) rfl (da_cons (de_ix (de_var (pv 2)) de_int (fun _ _ => rfl)) da_nil)) (dg_name (pg_name (i := 3) sc_law.nd rfl (Or.inl rfl))) (fun h1 h2 => ps_asg h1 h2)) (dss_cons (ds_asg (DF.toE (df_lst da_nil)) (dg_name (pg_name (i := 4) sc_law.nd rfl (Or.inl rfl))) (fun h1 h2 => ps_asg h1 h2)) (dss_cons (ds_for rfl PassesOwn.never (di_lst (de_var (pv 3))) (dg_name (pg_name (i := 5) sc_law.nd rfl (Or.inl rfl))) (dss_cons (ds_if (dt_cmp (do_ne hu) (de_call h_paid (hr.mono (by decide)) rfl (da_cons (de_var (pv 2)) (da_cons (de_var (pv 5)) da_nil))) (de_call h__law_paid (hr.mono (by decide)) rfl (da_cons (de_var (pv 2)) (da_cons (de_var (pv 5)) da_nil)))) (dss_one (ds_ret de_bl)) dss_nil) (dss_cons (ds_asg de_bl (dg_name (pg_name (i := 6) sc_law.nd rfl (Or.inl rfl))) (fun h1 h2 => ps_asg h1 h2)) (dss_cons (ds_for rfl PassesOwn.never (di_rng1 rfl T.n_range (de_callG dc_len (da_cons (de_var (pv 5)) da_nil) (fun h1 h2 => pe_callB h1 rfl T.n_len bt_len h2))) (dg_name (pg_name (i := 7) sc_law.nd rfl (Or.inr rfl))) (dss_cons (ds_asg (de_call h__law_best (hr.mono (by decide)) rfl (da_cons (de_var (pv 2)) (da_cons (de_var (pv 7)) (da_cons (de_var (pv 5)) da_nil)))) (dg_name (pg_name (i := 8) sc_law.nd rfl (Or.inl rfl))) (fun h1 h2 => ps_asg h1 h2)) (dss_cons (ds_if (dt_cmp (do_ne hu) (de_call h_best_deeds (hr.mono (by decide)) rfl (da_cons (de_var (pv 2)) (da_cons (de_var (pv 7)) (da_cons (de_var (pv 5)) da_nil)))) (de_callG dc_tuple (da_cons (de_var (pv 8)) da_nil) (fun h1 h2 => pe_callTy h1 rfl T.n_tuple bt_tuple h2))) (dss_one (ds_ret de_bl)) dss_nil) (dss_one (ds_asg (de_and (de_var (pv 6)) (de_one (de_cmp (do_in hu) (de_ix (de_var (pv 5)) (de_var (pv 7)) (fun _ _ => rfl)) (de_var (pv 8))))) (dg_name (pg_name (i := 6) sc_law.nd rfl (Or.inl rfl))) (fun h1 h2 => ps_asg h1 h2)))))) (dss_one (ds_asg (DF.toE (df_cat (de_var (pv 4)) (DF.toE (df_rep (df_lst (da_cons (de_var (pv 5)) da_nil)) (de_callG dc_int (da_cons (de_var (pv 6)) da_nil) (fun h1 h2 => pe_callTy h1 rfl T.n_int bt_int h2)))))) (dg_name (pg_name (i := 4) sc_law.nd rfl (Or.inl rfl))) (fun h1 h2 => ps_asg h1 h2))))))) (dss_cons (ds_if (dt_cmp (do_ne hu) (de_call h_calm (hr.mono (by decide)) rfl (da_cons (de_var (pv 2)) da_nil)) (de_callG dc_tuple (da_cons (de_var (pv 4)) da_nil) (fun h1 h2 => pe_callTy h1 rfl T.n_tuple bt_tuple h2))) (dss_one (ds_ret de_bl)) dss_nil) (dss_one (ds_for rfl PassesOwn.never (di_enumT rfl T.n_enumerate bt_enumerate (de_ix (de_var (pv 2)) de_int (fun _ _ => rfl))) (dg_two (pg_name (i := 7) sc_law.nd rfl (Or.inr rfl)) (pg_name (i := 9) sc_law.nd rfl (Or.inl rfl)) (fun h1 h2 => pg_tup rfl (pgs_cons h1 (pgs_cons h2 pgs_nil)))) (dss_cons (ds_asgO (i := 10) (df_lst da_nil) (fun h => ps_set (i := 10) sc_law.nd rfl (Or.inl rfl) h)) (dss_cons (ds_for rfl PassesOwn.never (di_lst (de_var (pv 3))) (dg_name (pg_name (i := 5) sc_law.nd rfl (Or.inl rfl))) (dss_cons (ds_asg (de_ix (de_call h__law_best (hr.mono (by decide)) rfl (da_cons (de_var (pv 2)) (da_cons (de_var (pv 7)) (da_cons (de_var (pv 5)) da_nil)))) de_int (fun _ _ => rfl)) (dg_name (pg_name (i := 11) sc_law.nd rfl (Or.inl rfl))) (fun h1 h2 => ps_asg h1 h2)) (dss_one (ds_app (i := 10) (de_ix (de_call h__law_paid (hr.mono (by decide)) rfl (da_cons (de_var (pv 2)) (da_cons (de_call h__law_stray (hr.mono (by decide)) rfl (da_cons (de_var (pv 5)) (da_cons (de_var (pv 7)) (da_cons (de_var (pv 11)) da_nil)))) da_nil))) (de_var (pv 7)) (fun _ _ => rfl)) (fun h => ps_expr (pe_bm PySem.F.plainAttrs_list PySem.F.slot_list_append PySem.F.type_list_append mt_append (pv 10) (pa_cons h pa_nil))))))) (dss_cons (ds_asgO (i := 12) (df_lst da_nil) (fun h => ps_set (i := 12) sc_law.nd rfl (Or.inl rfl) h)) (dss_cons (ds_for rfl PassesOwn.never (di_rng1 rfl T.n_range (de_var (pv 9))) (dg_name (pg_name (i := 13) sc_law.nd rfl (Or.inr rfl))) (dss_one (ds_app (i := 12) (de_callG (dc_min rfl) (da_cons (DF.toE (df_compIf (ifs := [_]) (Nc := ["_law_row", "_law_hand", "_law_meeting_here", "_law_deed"]) (fr := [none, some 7, some 2, some 13]) (ss := [0]) (compOk_of (sc := (defScope s_law)) (N := ["_law_script", "_law_cell_here", "_law_meeting_here", "_law_some", "_law_quiet", "_law_row", "_law_good", "_law_hand", "_law_due", "_law_many", "_law_tops", "_law_best_here", "_law_lows", "_law_deed", "_law_told"]) rfl rfl (by decide +kernel)) (by decide) rfl (di_lst (de_var (pv 3))) (fun Cc pins fp s3 H3 => dg_name (pg_name (i := 0) (show (["_law_row", "_law_hand", "_law_meeting_here", "_law_deed"] : List Str).Nodup by decide +kernel) rfl (Or.inl rfl))) (fun Cc pins fp s3 H3 => difs_one (dt_cmp (do_eq hu) (de_ix (de_var (pv 0)) (de_var (pv 1)) (fun _ _ => rfl)) (de_var (pv 3)))) (fun Cc pins fp s3 H3 => (de_ix (de_call h__law_paid (hr.mono (by decide)) rfl (da_cons (de_var (pv 2)) (da_cons (de_var (pv 0)) da_nil))) (de_var (pv 1)) (fun _ _ => rfl))))) da_nil) (fun h1 h2 => pe_callB h1 rfl T.n_min bt_min h2)) (fun h => ps_expr (pe_bm PySem.F.plainAttrs_list PySem.F.slot_list_append PySem.F.type_list_append mt_append (pv 12) (pa_cons h pa_nil)))))) (dss_cons (ds_asg (de_tup (da_cons (de_call h_held_to (hr.mono (by decide)) rfl (da_cons (de_var (pv 2)) (da_cons (de_var (pv 7)) da_nil))) (da_cons (de_call h_sure (hr.mono (by decide)) rfl (da_cons (de_var (pv 2)) (da_cons (de_var (pv 7)) da_nil))) da_nil))) (dg_name (pg_name (i := 14) sc_law.nd rfl (Or.inr rfl))) (fun h1 h2 => ps_asg h1 h2)) (dss_frz 12 (dss_frz 10 (dss_cons (ds_if (DW.t (dw_or (dt_cmp (do_ne hu) (de_var (pv 14)) (de_tup (da_cons (de_callG (dc_min rfl) (da_cons (de_var (pv 10)) da_nil) (fun h1 h2 => pe_callB h1 rfl T.n_min bt_min h2)) (da_cons (de_callG (dc_max rfl) (da_cons (de_var (pv 12)) da_nil) (fun h1 h2 => pe_callB h1 rfl T.n_max bt_max h2)) da_nil)))) (dw_or1 (dt_cmp do_lt (de_ix (de_var (pv 14)) de_int (fun _ _ => rfl)) (de_ix (de_var (pv 14)) de_int (fun _ _ => rfl)))))) (dss_one (ds_ret de_bl)) dss_nil) (dss_cons (ds_if (DW.t (dw_or (dt_not (dt_tru (de_call h__law_whole (hr.mono (by decide)) rfl (da_cons (de_ix (de_var (pv 14)) de_int (fun _ _ => rfl)) da_nil)) (fun _ => rfl))) (dw_or1 (dt_not (dt_tru (de_call h__law_whole (hr.mono (by decide)) rfl (da_cons (de_ix (de_var (pv 14)) de_int (fun _ _ => rfl)) da_nil)) (fun _ => rfl)))))) (dss_one (ds_ret de_bl)) dss_nil) (dss_one (ds_if (dt_tru (DF.toE (df_compIf (ifs := [_]) (Nc := ["_law_row", "_law_hand", "_law_told", "_law_meeting_here"]) (fr := [none, some 7, some 14, some 2]) (ss := [0]) (compOk_of (sc := (defScope s_law)) (N := ["_law_script", "_law_cell_here", "_law_meeting_here", "_law_some", "_law_quiet", "_law_row", "_law_good", "_law_hand", "_law_due", "_law_many", "_law_tops", "_law_best_here", "_law_lows", "_law_deed", "_law_told"]) rfl rfl (by decide +kernel)) (by decide) rfl (di_lst (de_var (pv 4))) (fun Cc pins fp s3 H3 => dg_name (pg_name (i := 0) (show (["_law_row", "_law_hand", "_law_told", "_law_meeting_here"] : List Str).Nodup by decide +kernel) rfl (Or.inl rfl))) (fun Cc pins fp s3 H3 => difs_one (dt_cmp do_lt (de_ix (de_call h__law_paid (hr.mono (by decide)) rfl (da_cons (de_var (pv 3)) (da_cons (de_var (pv 0)) da_nil))) (de_var (pv 1)) (fun _ _ => rfl)) (de_ix (de_var (pv 2)) de_int (fun _ _ => rfl)))) (fun Cc pins fp s3 H3 => (de_var (pv 0))))) (fun _ => rfl)) (dss_one (ds_ret de_bl)) dss_nil))))))))))))))))))) (dss_one (ds_ret de_bl)))
end
end L2
namespace L2
open PySem PySem.Spec PyProof.Rows
theorem ends_le {n : Nat} (h : n ≤ 1000) : n ≤ sizeLine := Nat.le_of_lt (small1000 h)
theorem isSub_int (d : D) : isSub (tyD d) "int" = (match d with
  | .int _ => true
  | .bl _ => true
  | _ => false) := by cases d <;> rfl
theorem isSub_bool (d : D) : isSub (tyD d) "bool" = (match d with
  | .bl _ => true
  | _ => false) := by cases d <;> rfl
theorem isSub_tuple (d : D) : isSub (tyD d) "tuple" = (match d with
  | .tup _ => true
  | _ => false) := by cases d <;> rfl
theorem oMulI {i j : Int} {Q : D → Prop} : oMul (.int i) (.int j) Q = (CMul i j ∧ Q (.int (i * j))) := rfl
abbrev retD (d : D) : DEnds := { nx := fun _ => d = .non, rt := fun r => r = d }
theorem rowStep_take (R : List (List Int)) (n : Int) (j : Nat) (h : j < R.length) : rowStep (R.take (j + 1)) n = rowStep (R.take j) n ++ (List.range n.toNat).map fun (k : Nat) => R[j] ++ [(k : Int)] := by
  rw [List.take_succ, List.getElem?_eq_getElem h, Option.toList_some, rowStep_append, rowStep_one]
theorem rowsL_take (ns : List Int) (i : Nat) (h : i < ns.length) : rowsL (ns.take (i + 1)) = rowStep (rowsL (ns.take i)) ns[i] := by
  rw [List.take_succ, List.getElem?_eq_getElem h, Option.toList_some, rowsL_snoc]
theorem getm_map {α β : Type} {f : α → β} {l : List α} {i : Nat} {d : β} (e : (l.map f)[i]? = some d) : ∃ h : i < l.length, d = f l[i] := by
  rw [List.getElem?_map] at e
  cases e2 : l[i]? with
  | none => rw [e2] at e; cases e
  | some x =>
    rw [e2] at e
    obtain ⟨h, e3⟩ := List.getElem?_eq_some_iff.mp e2
    cases e
    exact ⟨h, by rw [e3]⟩
/-- what the loops over rows want -/
theorem row_facts {ns : List Int} (ho : okDeeds ns = true) {i : Nat} (hi : i < ns.length) : 1 ≤ ns[i] ∧ ns[i] ≤ 3 ∧ (rowsL (ns.take i)).length ≤ 27 ∧ ∀ r ∈ rowsL (ns.take i), r.length ≤ 3 := by
  obtain ⟨m1, m2⟩ := okDeeds_mem ho
  have h1 := m2 ns[i] (List.getElem_mem hi)
  refine ⟨h1.1, h1.2, (rows_len (okDeeds_take ho i)).2, fun r hr => ?_⟩
  rw [(rows_row hr).1, List.length_take]
  omega
abbrev retP (p : D → Prop) : DEnds := { nx := fun _ => p .non, rt := p }
theorem mix_nn {c p m : Int} (h : 0 < m) : 0 ≤ mix c p m := Int.emod_nonneg _ (by omega)
theorem mix_lt {c p m : Int} (h : 0 < m) : mix c p m < m := Int.emod_lt_of_pos _ h
theorem Fmix {c p m : Int} (hp : 0 < p) (hm : 0 < m) : F__law_mix [.int c, .int p, .int m] = some (.int (mix c p m)) := if_pos ⟨hp, hm⟩
theorem okD {ns : List Int} (h1 : ns.length ≤ 3) (h2 : ∀ n ∈ ns, 1 ≤ n ∧ n ≤ 3) : okDeeds ns = true := by
  unfold okDeeds
  rw [Bool.and_eq_true, decide_eq_true_eq, List.all_eq_true]
  exact ⟨h1, fun n hn => by simpa using h2 n hn⟩
abbrev meetP : D → Prop := fun d => ∃ ns pay, d = meetD ns pay ∧ MeetOk ns pay
theorem rangeD_len (a : Int) (n : Nat) : (rangeD a n).length = n := by simp [rangeD]
theorem Frows {ns : List Int} (ho : okDeeds ns = true) : F__law_rows [dInts ns] = some (.lst ((rowsL ns).map dInts)) := onDeeds_of _ ho
theorem vc__law_mix : ∀ ds d, F__law_mix ds = some d → g__law_mix (retD d) (dstart ["_law_cell_here", "_law_prime", "_law_many"] ds)
  | [.int c, .int p, .int m], d, h => by
    have h : (if 0 < p ∧ 0 < m then some (D.int (mix c p m)) else none) = some d := h
    split at h
    · rename_i hp
      cases h
      show g__law_mix _ [.im (.int c), .im (.int p), .im (.int m)]
      simp only [g__law_mix, gRet, gAndV, gOrV, gNotV, gInst, isSub_int, isSub_bool, isSub_tuple, gVar, gSeq, gAsg, gNm, gC, gF, gLst, gConsA, gNilA, gTupE, gCallB, gCallF, gCallD, gCallR, gOpt, gOptP, cLen, cAbs, cAll, cTuple, cList, gOp, oInt, oIntC, oAdd, oMul, oNe, oEq, oIs, oIsnot, eqD, dep, gIx, gChain, gChain3, gTest, isBl, gIfS, gIt, gIl, gRng1, gRng2, gApp, gExt, gFrz, gAsgO, gNext, gTru, gNot, gAnd, gOr, gPart, gNoP, gSlT, gCatL, gNeg, gNm2, gZip, gNotT, truD, gPeek, gPeekT, gPeekF, gEnumT, gEnumL, cInt, gPar, gIfE, eq_self, if_true, ↓reduceIte, Bool.false_eq_true, if_false, List.getElem?_cons_zero, List.getElem?_cons_succ, List.set_cons_zero, List.set_cons_succ, List.getElem?_cons_zero, List.getElem?_cons_succ, mix]
      exact ⟨Or.inr ⟨by decide, by decide⟩, hp.1, hp.2, trivial⟩
    · cases h
theorem vc__law_rows : ∀ ds d, F__law_rows ds = some d → g__law_rows (retD d) (dstart ["_law_deeds", "_law_found", "_law_many", "_law_more", "_law_row"] ds)
  | [.tup es], d, h => by
    obtain ⟨ns, rfl, ho, rfl⟩ := onDeeds_eq (show onDeeds es (fun ns => D.lst ((rowsL ns).map dInts)) = some d from h)
    show g__law_rows _ [.im (.tup (ns.map D.int)), .un, .un, .un, .un]
    simp only [g__law_rows, g__law_rows_1, gRet, gAndV, gOrV, gNotV, gInst, isSub_int, isSub_bool, isSub_tuple, gVar, gSeq, gAsg, gNm, gC, gF, gLst, gConsA, gNilA, gTupE, gCallB, gCallF, gCallD, gCallR, gOpt, gOptP, cLen, cAbs, cAll, cTuple, cList, gOp, oInt, oIntC, oAdd, oMul, oNe, oEq, oIs, oIsnot, eqD, dep, gIx, gChain, gChain3, gTest, isBl, gIfS, gIt, gIl, gRng1, gRng2, gApp, gExt, gFrz, gAsgO, gNext, gTru, gNot, gAnd, gOr, gPart, gNoP, gSlT, gCatL, gNeg, gNm2, gZip, gNotT, truD, gPeek, gPeekT, gPeekF, gEnumT, gEnumL, cInt, gPar, gIfE, eq_self, if_true, ↓reduceIte, Bool.false_eq_true, if_false, List.getElem?_cons_zero, List.getElem?_cons_succ, List.set_cons_zero, List.set_cons_succ, gFor]
    refine ⟨by decide, by decide, fun i δ => ∃ a b c, δ = [.im (.tup (ns.map D.int)), .im (.lst ((rowsL (ns.take i)).map dInts)), a, b, c], ⟨.un, .un, .un, rfl⟩, ?_, ?_⟩
    · rintro i d δ ed ⟨a, b, c, rfl⟩
      obtain ⟨hi, rfl⟩ := getm_map ed
      obtain ⟨f1, f2, f3, f4⟩ := row_facts ho hi
      generalize hR : rowsL (ns.take i) = R at *
      generalize hn : ns[i] = n at *
      simp only [gRet, gAndV, gOrV, gNotV, gInst, isSub_int, isSub_bool, isSub_tuple, gVar, gSeq, gAsg, gNm, gC, gF, gLst, gConsA, gNilA, gTupE, gCallB, gCallF, gCallD, gCallR, gOpt, gOptP, cLen, cAbs, cAll, cTuple, cList, gOp, oInt, oIntC, oAdd, oMul, oNe, oEq, oIs, oIsnot, eqD, dep, gIx, gChain, gChain3, gTest, isBl, gIfS, gIt, gIl, gRng1, gRng2, gApp, gExt, gFrz, gAsgO, gNext, gTru, gNot, gAnd, gOr, gPart, gNoP, gSlT, gCatL, gNeg, gNm2, gZip, gNotT, truD, gPeek, gPeekT, gPeekF, gEnumT, gEnumL, cInt, gPar, gIfE, eq_self, if_true, ↓reduceIte, Bool.false_eq_true, if_false, List.getElem?_cons_zero, List.getElem?_cons_succ, List.set_cons_zero, List.set_cons_succ]
      refine ⟨by decide, fun j δ => ∃ c, δ = [.im (.tup (ns.map D.int)), .im (.lst (R.map dInts)), .im (.int n), .ow ((rowStep (R.take j) n).map dInts), c], ⟨c, rfl⟩, ?_, ?_⟩
      · rintro j d δ ed ⟨c, rfl⟩
        obtain ⟨hj, rfl⟩ := getm_map ed
        have fr := f4 R[j] (List.getElem_mem hj)
        have hl : (rowStep (R.take j) n).length ≤ 81 := by
          rw [rowStep_length, List.length_take]
          exact Nat.le_trans (Nat.mul_le_mul (Nat.le_trans (Nat.min_le_right _ _) f3) (show n.toNat ≤ 3 by omega)) (by decide)
        simp only [gRet, gAndV, gOrV, gNotV, gInst, isSub_int, isSub_bool, isSub_tuple, gVar, gSeq, gAsg, gNm, gC, gF, gLst, gConsA, gNilA, gTupE, gCallB, gCallF, gCallD, gCallR, gOpt, gOptP, cLen, cAbs, cAll, cTuple, cList, gOp, oInt, oIntC, oAdd, oMul, oNe, oEq, oIs, oIsnot, eqD, dep, gIx, gChain, gChain3, gTest, isBl, gIfS, gIt, gIl, gRng1, gRng2, gApp, gExt, gFrz, gAsgO, gNext, gTru, gNot, gAnd, gOr, gPart, gNoP, gSlT, gCatL, gNeg, gNm2, gZip, gNotT, truD, gPeek, gPeekT, gPeekF, gEnumT, gEnumL, cInt, gPar, gIfE, eq_self, if_true, ↓reduceIte, Bool.false_eq_true, if_false, List.getElem?_cons_zero, List.getElem?_cons_succ, List.set_cons_zero, List.set_cons_succ, gComp]
        refine ⟨by omega, ?_, fun d => match d with
          | .int k => dInts (R[j] ++ [k])
          | _ => .non, fun d hd => ?_, ?_, ?_⟩
        · unfold rangeD
          rw [List.length_map, List.length_range]
          exact ends_le (by omega)
        · unfold rangeD at hd
          obtain ⟨k, hk, rfl⟩ := List.mem_map.mp hd
          simp only [δc, List.map_cons, List.map_nil, gRet, gAndV, gOrV, gNotV, gInst, isSub_int, isSub_bool, isSub_tuple, gVar, gSeq, gAsg, gNm, gC, gF, gLst, gConsA, gNilA, gTupE, gCallB, gCallF, gCallD, gCallR, gOpt, gOptP, cLen, cAbs, cAll, cTuple, cList, gOp, oInt, oIntC, oAdd, oMul, oNe, oEq, oIs, oIsnot, eqD, dep, gIx, gChain, gChain3, gTest, isBl, gIfS, gIt, gIl, gRng1, gRng2, gApp, gExt, gFrz, gAsgO, gNext, gTru, gNot, gAnd, gOr, gPart, gNoP, gSlT, gCatL, gNeg, gNm2, gZip, gNotT, truD, gPeek, gPeekT, gPeekF, gEnumT, gEnumL, cInt, gPar, gIfE, eq_self, if_true, ↓reduceIte, Bool.false_eq_true, if_false, List.getElem?_cons_zero, List.getElem?_cons_succ, List.set_cons_zero, List.set_cons_succ, dInts, List.length_cons, List.length_nil, List.length_map]
          exact ⟨by decide, ends_le (by omega), by rw [List.map_append]; rfl⟩
        · unfold rangeD
          simp only [List.length_map, List.length_range]
          exact ends_le (by omega)
        · refine ⟨.im (dInts R[j]), ?_⟩
          rw [rowStep_take R n j hj, List.map_append, List.map_map]
          simp [rangeD, Function.comp_def]
      · rintro δ ⟨c, rfl⟩
        simp only [gRet, gAndV, gOrV, gNotV, gInst, isSub_int, isSub_bool, isSub_tuple, gVar, gSeq, gAsg, gNm, gC, gF, gLst, gConsA, gNilA, gTupE, gCallB, gCallF, gCallD, gCallR, gOpt, gOptP, cLen, cAbs, cAll, cTuple, cList, gOp, oInt, oIntC, oAdd, oMul, oNe, oEq, oIs, oIsnot, eqD, dep, gIx, gChain, gChain3, gTest, isBl, gIfS, gIt, gIl, gRng1, gRng2, gApp, gExt, gFrz, gAsgO, gNext, gTru, gNot, gAnd, gOr, gPart, gNoP, gSlT, gCatL, gNeg, gNm2, gZip, gNotT, truD, gPeek, gPeekT, gPeekF, gEnumT, gEnumL, cInt, gPar, gIfE, eq_self, if_true, ↓reduceIte, Bool.false_eq_true, if_false, List.getElem?_cons_zero, List.getElem?_cons_succ, List.set_cons_zero, List.set_cons_succ]
        rw [rowsL_take ns i hi, hR, hn, List.length_map, List.take_length]
        exact ⟨_, _, _, rfl⟩
    · rintro δ ⟨a, b, c, rfl⟩
      simp only [gRet, gAndV, gOrV, gNotV, gInst, isSub_int, isSub_bool, isSub_tuple, gVar, gSeq, gAsg, gNm, gC, gF, gLst, gConsA, gNilA, gTupE, gCallB, gCallF, gCallD, gCallR, gOpt, gOptP, cLen, cAbs, cAll, cTuple, cList, gOp, oInt, oIntC, oAdd, oMul, oNe, oEq, oIs, oIsnot, eqD, dep, gIx, gChain, gChain3, gTest, isBl, gIfS, gIt, gIl, gRng1, gRng2, gApp, gExt, gFrz, gAsgO, gNext, gTru, gNot, gAnd, gOr, gPart, gNoP, gSlT, gCatL, gNeg, gNm2, gZip, gNotT, truD, gPeek, gPeekT, gPeekF, gEnumT, gEnumL, cInt, gPar, gIfE, eq_self, if_true, ↓reduceIte, Bool.false_eq_true, if_false, List.getElem?_cons_zero, List.getElem?_cons_succ, List.set_cons_zero, List.set_cons_succ]
      rw [List.length_map, List.take_length]
/-- the end of _law_meeting: the four numbers, or the pays as they are -/
theorem meet_end (c : Int) (ns : List Int) (hns : ns.length ≤ 3) (h2 : 2 ≤ ns.length) (ho : okDeeds ns = true) (h3 : c % 3 = 0 → ns = [2, 2]) (w : Sl) (pay : List (List Int)) (hp : MeetOk ns pay) (a b d e : Sl) :
    g__law_meeting_5 (retP meetP) [.im (.int c), .im (dInts ns), w, .ow (pay.map dInts), a, b, d, e] := by
  obtain ⟨l1, l2⟩ := rows_len ho
  have fin : ∀ (pay : List (List Int)) (a b d e : Sl), MeetOk ns pay → g__law_meeting_6 (retP meetP) [.im (.int c), .im (dInts ns), w, .ow (pay.map dInts), a, b, d, e] := by
    intro pay a b d e hp
    simp only [g__law_meeting_6, gRet, gAndV, gOrV, gNotV, gInst, isSub_int, isSub_bool, isSub_tuple, gVar, gSeq, gAsg, gNm, gC, gF, gLst, gConsA, gNilA, gTupE, gCallB, gCallF, gCallD, gCallR, gOpt, gOptP, cLen, cAbs, cAll, cTuple, cList, gOp, oInt, oIntC, oAdd, oMul, oNe, oEq, oIs, oIsnot, eqD, dep, gIx, gChain, gChain3, gTest, isBl, gIfS, gIt, gIl, gRng1, gRng2, gApp, gExt, gFrz, gAsgO, gNext, gTru, gNot, gAnd, gOr, gPart, gNoP, gSlT, gCatL, gNeg, gNm2, gZip, gNotT, truD, gPeek, gPeekT, gPeekF, gEnumT, gEnumL, cInt, gPar, gIfE, eq_self, if_true, ↓reduceIte, Bool.false_eq_true, if_false, List.getElem?_cons_zero, List.getElem?_cons_succ, List.set_cons_zero, List.set_cons_succ, List.length_cons, List.length_nil]
    exact ⟨by decide, ns, pay, rfl, hp⟩
  simp only [g__law_meeting_5, gRet, gAndV, gOrV, gNotV, gInst, isSub_int, isSub_bool, isSub_tuple, gVar, gSeq, gAsg, gNm, gC, gF, gLst, gConsA, gNilA, gTupE, gCallB, gCallF, gCallD, gCallR, gOpt, gOptP, cLen, cAbs, cAll, cTuple, cList, gOp, oInt, oIntC, oAdd, oMul, oNe, oEq, oIs, oIsnot, eqD, dep, gIx, gChain, gChain3, gTest, isBl, gIfS, gIt, gIl, gRng1, gRng2, gApp, gExt, gFrz, gAsgO, gNext, gTru, gNot, gAnd, gOr, gPart, gNoP, gSlT, gCatL, gNeg, gNm2, gZip, gNotT, truD, gPeek, gPeekT, gPeekF, gEnumT, gEnumL, cInt, gPar, gIfE, eq_self, if_true, ↓reduceIte, Bool.false_eq_true, if_false, List.getElem?_cons_zero, List.getElem?_cons_succ, List.set_cons_zero, List.set_cons_succ]
  refine ⟨by decide, by decide, ?_⟩
  by_cases e9 : c % 9 = 0
  · have e9' : (c % 9 == 0) = true := by simpa using e9
    simp only [e9', gRet, gAndV, gOrV, gNotV, gInst, isSub_int, isSub_bool, isSub_tuple, gVar, gSeq, gAsg, gNm, gC, gF, gLst, gConsA, gNilA, gTupE, gCallB, gCallF, gCallD, gCallR, gOpt, gOptP, cLen, cAbs, cAll, cTuple, cList, gOp, oInt, oIntC, oAdd, oMul, oNe, oEq, oIs, oIsnot, eqD, dep, gIx, gChain, gChain3, gTest, isBl, gIfS, gIt, gIl, gRng1, gRng2, gApp, gExt, gFrz, gAsgO, gNext, gTru, gNot, gAnd, gOr, gPart, gNoP, gSlT, gCatL, gNeg, gNm2, gZip, gNotT, truD, gPeek, gPeekT, gPeekF, gEnumT, gEnumL, cInt, gPar, gIfE, eq_self, if_true, ↓reduceIte, Bool.false_eq_true, if_false, List.getElem?_cons_zero, List.getElem?_cons_succ, List.set_cons_zero, List.set_cons_succ, gComp]
    have e3 : ns = [2, 2] := h3 (by omega)
    refine ⟨by decide, by decide, fun x => match x with
      | .int k => .int (mix (c + k) 9931 19 - 9)
      | _ => .non, fun x hx => ?_, ?_⟩
    · unfold rangeD at hx
      obtain ⟨k, hk, rfl⟩ := List.mem_map.mp hx
      simp only [δc, List.map_cons, List.map_nil, gRet, gAndV, gOrV, gNotV, gInst, isSub_int, isSub_bool, isSub_tuple, gVar, gSeq, gAsg, gNm, gC, gF, gLst, gConsA, gNilA, gTupE, gCallB, gCallF, gCallD, gCallR, gOpt, gOptP, cLen, cAbs, cAll, cTuple, cList, gOp, oInt, oIntC, oAdd, oMul, oNe, oEq, oIs, oIsnot, eqD, dep, gIx, gChain, gChain3, gTest, isBl, gIfS, gIt, gIl, gRng1, gRng2, gApp, gExt, gFrz, gAsgO, gNext, gTru, gNot, gAnd, gOr, gPart, gNoP, gSlT, gCatL, gNeg, gNm2, gZip, gNotT, truD, gPeek, gPeekT, gPeekF, gEnumT, gEnumL, cInt, gPar, gIfE, eq_self, if_true, ↓reduceIte, Bool.false_eq_true, if_false, List.getElem?_cons_zero, List.getElem?_cons_succ, List.set_cons_zero, List.set_cons_succ, Fmix (show (0 : Int) < 9931 by decide) (show (0 : Int) < 19 by decide)]
    · have em : (rangeD 0 (4 : Int).toNat).map (fun x => match x with
          | .int k => D.int (mix (c + k) 9931 19 - 9)
          | _ => .non) = ((List.range 4).map fun (k : Nat) => mix (c + (0 + (k : Int))) 9931 19 - 9).map D.int := by
        simp [rangeD, Function.comp_def]
      rw [em]
      simp only [cSorted, ints_map]
      refine ⟨by simp, fun ms hpm hso => ?_⟩
      have hlen : ms.length = 4 := by rw [hpm.length_eq]; simp
      have hb : ∀ x ∈ ms, -9 ≤ x ∧ x ≤ 9 := by
        intro x hx
        have hx' := hpm.mem_iff.mp hx
        obtain ⟨k, hk, rfl⟩ := List.mem_map.mp hx'
        have := mix_nn (c := c + (0 + (k : Int))) (p := 9931) (show (0 : Int) < 19 by decide)
        have := mix_lt (c := c + (0 + (k : Int))) (p := 9931) (show (0 : Int) < 19 by decide)
        omega
      match ms, hlen, hb with
      | [m0, m1, m2, m3], _, hb =>
        have i0 : atI ([m0, m1, m2, m3].map D.int) 0 = some (.int m0) := rfl
        have i1 : atI ([m0, m1, m2, m3].map D.int) 1 = some (.int m1) := rfl
        have i2 : atI ([m0, m1, m2, m3].map D.int) 2 = some (.int m2) := rfl
        have i3 : atI ([m0, m1, m2, m3].map D.int) 3 = some (.int m3) := rfl
        simp only [gRet, gAndV, gOrV, gNotV, gInst, isSub_int, isSub_bool, isSub_tuple, gVar, gSeq, gAsg, gNm, gC, gF, gLst, gConsA, gNilA, gTupE, gCallB, gCallF, gCallD, gCallR, gOpt, gOptP, cLen, cAbs, cAll, cTuple, cList, gOp, oInt, oIntC, oAdd, oMul, oNe, oEq, oIs, oIsnot, eqD, dep, gIx, gChain, gChain3, gTest, isBl, gIfS, gIt, gIl, gRng1, gRng2, gApp, gExt, gFrz, gAsgO, gNext, gTru, gNot, gAnd, gOr, gPart, gNoP, gSlT, gCatL, gNeg, gNm2, gZip, gNotT, truD, gPeek, gPeekT, gPeekF, gEnumT, gEnumL, cInt, gPar, gIfE, eq_self, if_true, ↓reduceIte, Bool.false_eq_true, if_false, List.getElem?_cons_zero, List.getElem?_cons_succ, List.set_cons_zero, List.set_cons_succ, i0, i1, i2, i3, List.length_cons, List.length_nil]
        refine ⟨by decide, by decide, by decide, by decide, by decide, ?_⟩
        have b0 := hb m0 (by simp)
        have b1 := hb m1 (by simp)
        have b2 := hb m2 (by simp)
        have b3 := hb m3 (by simp)
        refine fin [[m2, m2], [m0, m3], [m3, m0], [m1, m1]] _ _ _ _ ⟨h2, ho, ?_, ?_⟩
        · rw [e3]; rfl
        · intro r hr
          rw [e3]
          simp only [List.mem_cons, List.not_mem_nil, or_false] at hr
          rcases hr with rfl | rfl | rfl | rfl <;> refine ⟨rfl, fun x hx => ?_⟩ <;> simp only [List.mem_cons, List.not_mem_nil, or_false] at hx <;> rcases hx with rfl | rfl <;> assumption
  · have e9' : (c % 9 == 0) = false := by simpa using e9
    simp only [e9', gRet, gAndV, gOrV, gNotV, gInst, isSub_int, isSub_bool, isSub_tuple, gVar, gSeq, gAsg, gNm, gC, gF, gLst, gConsA, gNilA, gTupE, gCallB, gCallF, gCallD, gCallR, gOpt, gOptP, cLen, cAbs, cAll, cTuple, cList, gOp, oInt, oIntC, oAdd, oMul, oNe, oEq, oIs, oIsnot, eqD, dep, gIx, gChain, gChain3, gTest, isBl, gIfS, gIt, gIl, gRng1, gRng2, gApp, gExt, gFrz, gAsgO, gNext, gTru, gNot, gAnd, gOr, gPart, gNoP, gSlT, gCatL, gNeg, gNm2, gZip, gNotT, truD, gPeek, gPeekT, gPeekF, gEnumT, gEnumL, cInt, gPar, gIfE, eq_self, if_true, ↓reduceIte, Bool.false_eq_true, if_false, List.getElem?_cons_zero, List.getElem?_cons_succ, List.set_cons_zero, List.set_cons_succ]
    exact fin pay a b d e hp

theorem meet_rest (c : Int) (ns : List Int) (hns : ns.length ≤ 3) (h2 : 2 ≤ ns.length) (ho : okDeeds ns = true) (h3 : c % 3 = 0 → ns = [2, 2]) :
    g__law_meeting_2 (retP meetP) [.im (.int c), .im (dInts ns), .un, .un, .un, .un, .un, .un] := by
  obtain ⟨l1, l2⟩ := rows_len ho
  have w0 := mix_nn (c := c) (p := 9949) (show (0 : Int) < 3 by decide)
  have w1 := mix_lt (c := c) (p := 9949) (show (0 : Int) < 3 by decide)
  have hw : ∃ wd : Int, atI [D.int 2, .int 5, .int 10] (mix c 9949 3) = some (.int wd) ∧ 2 ≤ wd ∧ wd ≤ 10 := by
    have : mix c 9949 3 = 0 ∨ mix c 9949 3 = 1 ∨ mix c 9949 3 = 2 := by omega
    rcases this with e | e | e <;> rw [e]
    · exact ⟨2, rfl, by decide, by decide⟩
    · exact ⟨5, rfl, by decide, by decide⟩
    · exact ⟨10, rfl, by decide, by decide⟩
  obtain ⟨wd, ew, wd1, wd2⟩ := hw
  simp only [g__law_meeting_2, g__law_meeting_4, gRet, gAndV, gOrV, gNotV, gInst, isSub_int, isSub_bool, isSub_tuple, gVar, gSeq, gAsg, gNm, gC, gF, gLst, gConsA, gNilA, gTupE, gCallB, gCallF, gCallD, gCallR, gOpt, gOptP, cLen, cAbs, cAll, cTuple, cList, gOp, oInt, oIntC, oAdd, oMul, oNe, oEq, oIs, oIsnot, eqD, dep, gIx, gChain, gChain3, gTest, isBl, gIfS, gIt, gIl, gRng1, gRng2, gApp, gExt, gFrz, gAsgO, gNext, gTru, gNot, gAnd, gOr, gPart, gNoP, gSlT, gCatL, gNeg, gNm2, gZip, gNotT, truD, gPeek, gPeekT, gPeekF, gEnumT, gEnumL, cInt, gPar, gIfE, eq_self, if_true, ↓reduceIte, Bool.false_eq_true, if_false, List.getElem?_cons_zero, List.getElem?_cons_succ, List.set_cons_zero, List.set_cons_succ, Fmix (show (0 : Int) < 9949 by decide) (show (0 : Int) < 3 by decide), ew, Frows ho, gFor, List.length_cons, List.length_nil]
  refine ⟨by decide, by decide, ⟨by omega, by rw [List.length_map]; omega⟩, fun i δ => ∃ a b d e, ∃ pay : List (List Int), δ = [.im (.int c), .im (dInts ns), .im (.int wd), .ow (pay.map dInts), a, b, d, e] ∧ pay.length = i ∧ i ≤ (rowsL ns).length ∧ ∀ r ∈ pay, r.length = ns.length ∧ ∀ x ∈ r, -9 ≤ x ∧ x ≤ 9, ⟨.un, .un, .un, .un, [], rfl, rfl, Nat.zero_le _, fun r hr => by simp at hr⟩, ?_, ?_⟩
  · rintro i x δ ed ⟨a, b, d, e, pay, rfl, hpl, hil, hpb⟩
    unfold rangeD at ed
    obtain ⟨hi, rfl⟩ := getm_map ed
    rw [List.length_range, List.length_map] at hi
    have hi' : i < (rowsL ns).length := by omega
    simp only [gRet, gAndV, gOrV, gNotV, gInst, isSub_int, isSub_bool, isSub_tuple, gVar, gSeq, gAsg, gNm, gC, gF, gLst, gConsA, gNilA, gTupE, gCallB, gCallF, gCallD, gCallR, gOpt, gOptP, cLen, cAbs, cAll, cTuple, cList, gOp, oInt, oIntC, oAdd, oMul, oNe, oEq, oIs, oIsnot, eqD, dep, gIx, gChain, gChain3, gTest, isBl, gIfS, gIt, gIl, gRng1, gRng2, gApp, gExt, gFrz, gAsgO, gNext, gTru, gNot, gAnd, gOr, gPart, gNoP, gSlT, gCatL, gNeg, gNm2, gZip, gNotT, truD, gPeek, gPeekT, gPeekF, gEnumT, gEnumL, cInt, gPar, gIfE, eq_self, if_true, ↓reduceIte, Bool.false_eq_true, if_false, List.getElem?_cons_zero, List.getElem?_cons_succ, List.set_cons_zero, List.set_cons_succ, gComp, dInts, List.length_map, List.getElem_range]
    generalize hsd : c + 13 * (0 + (i : Int)) = sd
    have m1 : 0 < 2 * wd - 1 := by omega
    refine ⟨Or.inl ⟨by decide, by decide⟩, ⟨by omega, by omega⟩, by rw [rangeD_len]; exact ends_le (by omega), fun y => match y with
      | .int k => .int (mix (sd + 5 * k) 9941 (2 * wd - 1) + 1 - wd)
      | _ => .non, fun y hy => ?_, ?_⟩
    · unfold rangeD at hy
      obtain ⟨k, hk, rfl⟩ := List.mem_map.mp hy
      simp only [δc, List.map_cons, List.map_nil, gRet, gAndV, gOrV, gNotV, gInst, isSub_int, isSub_bool, isSub_tuple, gVar, gSeq, gAsg, gNm, gC, gF, gLst, gConsA, gNilA, gTupE, gCallB, gCallF, gCallD, gCallR, gOpt, gOptP, cLen, cAbs, cAll, cTuple, cList, gOp, oInt, oIntC, oAdd, oMul, oNe, oEq, oIs, oIsnot, eqD, dep, gIx, gChain, gChain3, gTest, isBl, gIfS, gIt, gIl, gRng1, gRng2, gApp, gExt, gFrz, gAsgO, gNext, gTru, gNot, gAnd, gOr, gPart, gNoP, gSlT, gCatL, gNeg, gNm2, gZip, gNotT, truD, gPeek, gPeekT, gPeekF, gEnumT, gEnumL, cInt, gPar, gIfE, eq_self, if_true, ↓reduceIte, Bool.false_eq_true, if_false, List.getElem?_cons_zero, List.getElem?_cons_succ, List.set_cons_zero, List.set_cons_succ, Fmix (show (0 : Int) < 9941 by decide) m1]
      exact ⟨Or.inl ⟨by decide, by decide⟩, Or.inl ⟨by decide, by decide⟩, trivial⟩
    · have em : (rangeD 0 (ns.length : Int).toNat).map (fun y => match y with
          | .int k => D.int (mix (sd + 5 * k) 9941 (2 * wd - 1) + 1 - wd)
          | _ => .non) = ((List.range ns.length).map fun (k : Nat) => mix (sd + 5 * (0 + (k : Int))) 9941 (2 * wd - 1) + 1 - wd).map D.int := by
        simp [rangeD, Function.comp_def]
      rw [em]
      have hrow : ∀ x ∈ (List.range ns.length).map fun (k : Nat) => mix (sd + 5 * (0 + (k : Int))) 9941 (2 * wd - 1) + 1 - wd, -9 ≤ x ∧ x ≤ 9 := by
        intro x hx
        obtain ⟨k, hk, rfl⟩ := List.mem_map.mp hx
        have := mix_nn (c := sd + 5 * (0 + (k : Int))) (p := 9941) m1
        have := mix_lt (c := sd + 5 * (0 + (k : Int))) (p := 9941) m1
        omega
      have hrl : ((List.range ns.length).map fun (k : Nat) => mix (sd + 5 * (0 + (k : Int))) 9941 (2 * wd - 1) + 1 - wd).length = ns.length := by simp
      generalize ((List.range ns.length).map fun (k : Nat) => mix (sd + 5 * (0 + (k : Int))) 9941 (2 * wd - 1) + 1 - wd) = row at hrow hrl
      have e5 : pay.map dInts ++ [D.tup (row.map D.int)] = (pay ++ [row]).map dInts := by
        rw [List.map_append]
        rfl
      rw [e5]
      refine ⟨small1000 (by omega), _, _, _, _, _, rfl, by simp [hpl], hi', fun r hr => ?_⟩
      rcases List.mem_append.mp hr with hr | hr
      · exact hpb r hr
      · obtain rfl := List.mem_singleton.mp hr
        exact ⟨hrl, hrow⟩
  · rintro δ ⟨a, b, d, e, pay, rfl, hpl, hil, hpb⟩
    rw [rangeD_len, List.length_map] at hpl
    exact meet_end c ns hns h2 ho h3 _ pay ⟨h2, ho, by omega, hpb⟩ a b d e
theorem vc__law_meeting : ∀ ds p, F__law_meeting ds = some p → g__law_meeting (retP p) (dstart ["_law_cell_here", "_law_deeds", "_law_wide", "_law_pay", "_law_k", "_law_seed", "_law_one", "_law_few"] ds)
  | [.int c], p, h => by
    cases h
    show g__law_meeting _ [.im (.int c), .un, .un, .un, .un, .un, .un, .un]
    have a0 := mix_nn (c := c) (p := 9967) (show (0 : Int) < 4 by decide)
    have a1 := mix_lt (c := c) (p := 9967) (show (0 : Int) < 4 by decide)
    unfold g__law_meeting g__law_meeting_1
    simp only [gRet, gAndV, gOrV, gNotV, gInst, isSub_int, isSub_bool, isSub_tuple, gVar, gSeq, gAsg, gNm, gC, gF, gLst, gConsA, gNilA, gTupE, gCallB, gCallF, gCallD, gCallR, gOpt, gOptP, cLen, cAbs, cAll, cTuple, cList, gOp, oInt, oIntC, oAdd, oMul, oNe, oEq, oIs, oIsnot, eqD, dep, gIx, gChain, gChain3, gTest, isBl, gIfS, gIt, gIl, gRng1, gRng2, gApp, gExt, gFrz, gAsgO, gNext, gTru, gNot, gAnd, gOr, gPart, gNoP, gSlT, gCatL, gNeg, gNm2, gZip, gNotT, truD, gPeek, gPeekT, gPeekF, gEnumT, gEnumL, cInt, gPar, gIfE, eq_self, if_true, ↓reduceIte, Bool.false_eq_true, if_false, List.getElem?_cons_zero, List.getElem?_cons_succ, List.set_cons_zero, List.set_cons_succ, Fmix (show (0 : Int) < 9967 by decide) (show (0 : Int) < 4 by decide), gComp]
    have n1 : 2 ≤ 2 + mix c 9967 4 / 3 := by omega
    have n2 : 2 + mix c 9967 4 / 3 ≤ 3 := by omega
    generalize hn : 2 + mix c 9967 4 / 3 = n at *
    refine ⟨⟨by decide, by decide⟩, ⟨by omega, by omega⟩, by rw [rangeD_len]; exact ends_le (by omega), fun y => match y with
      | .int k => .int (1 + mix (c + 7 * k) 9973 3)
      | _ => .non, fun y hy => ?_, ?_⟩
    · unfold rangeD at hy
      obtain ⟨k, hk, rfl⟩ := List.mem_map.mp hy
      simp only [δc, List.map_cons, List.map_nil, gRet, gAndV, gOrV, gNotV, gInst, isSub_int, isSub_bool, isSub_tuple, gVar, gSeq, gAsg, gNm, gC, gF, gLst, gConsA, gNilA, gTupE, gCallB, gCallF, gCallD, gCallR, gOpt, gOptP, cLen, cAbs, cAll, cTuple, cList, gOp, oInt, oIntC, oAdd, oMul, oNe, oEq, oIs, oIsnot, eqD, dep, gIx, gChain, gChain3, gTest, isBl, gIfS, gIt, gIl, gRng1, gRng2, gApp, gExt, gFrz, gAsgO, gNext, gTru, gNot, gAnd, gOr, gPart, gNoP, gSlT, gCatL, gNeg, gNm2, gZip, gNotT, truD, gPeek, gPeekT, gPeekF, gEnumT, gEnumL, cInt, gPar, gIfE, eq_self, if_true, ↓reduceIte, Bool.false_eq_true, if_false, List.getElem?_cons_zero, List.getElem?_cons_succ, List.set_cons_zero, List.set_cons_succ, Fmix (show (0 : Int) < 9973 by decide) (show (0 : Int) < 3 by decide)]
      exact ⟨Or.inl ⟨by decide, by decide⟩, trivial⟩
    · have em : (rangeD 0 n.toNat).map (fun y => match y with
          | .int k => D.int (1 + mix (c + 7 * k) 9973 3)
          | _ => .non) = ((List.range n.toNat).map fun (k : Nat) => 1 + mix (c + 7 * (0 + (k : Int))) 9973 3).map D.int := by
        simp [rangeD, Function.comp_def]
      rw [em]
      refine ⟨by decide, by decide, ?_⟩
      by_cases e3 : c % 3 = 0
      · have e3' : (c % 3 == 0) = true := by simpa using e3
        simp only [e3', gRet, gAndV, gOrV, gNotV, gInst, isSub_int, isSub_bool, isSub_tuple, gVar, gSeq, gAsg, gNm, gC, gF, gLst, gConsA, gNilA, gTupE, gCallB, gCallF, gCallD, gCallR, gOpt, gOptP, cLen, cAbs, cAll, cTuple, cList, gOp, oInt, oIntC, oAdd, oMul, oNe, oEq, oIs, oIsnot, eqD, dep, gIx, gChain, gChain3, gTest, isBl, gIfS, gIt, gIl, gRng1, gRng2, gApp, gExt, gFrz, gAsgO, gNext, gTru, gNot, gAnd, gOr, gPart, gNoP, gSlT, gCatL, gNeg, gNm2, gZip, gNotT, truD, gPeek, gPeekT, gPeekF, gEnumT, gEnumL, cInt, gPar, gIfE, eq_self, if_true, ↓reduceIte, Bool.false_eq_true, if_false, List.getElem?_cons_zero, List.getElem?_cons_succ, List.set_cons_zero, List.set_cons_succ, List.length_cons, List.length_nil]
        exact ⟨by decide, meet_rest c [2, 2] (by decide) (by decide) (by decide) fun _ => rfl⟩
      · have e3' : (c % 3 == 0) = false := by simpa using e3
        simp only [e3', gRet, gAndV, gOrV, gNotV, gInst, isSub_int, isSub_bool, isSub_tuple, gVar, gSeq, gAsg, gNm, gC, gF, gLst, gConsA, gNilA, gTupE, gCallB, gCallF, gCallD, gCallR, gOpt, gOptP, cLen, cAbs, cAll, cTuple, cList, gOp, oInt, oIntC, oAdd, oMul, oNe, oEq, oIs, oIsnot, eqD, dep, gIx, gChain, gChain3, gTest, isBl, gIfS, gIt, gIl, gRng1, gRng2, gApp, gExt, gFrz, gAsgO, gNext, gTru, gNot, gAnd, gOr, gPart, gNoP, gSlT, gCatL, gNeg, gNm2, gZip, gNotT, truD, gPeek, gPeekT, gPeekF, gEnumT, gEnumL, cInt, gPar, gIfE, eq_self, if_true, ↓reduceIte, Bool.false_eq_true, if_false, List.getElem?_cons_zero, List.getElem?_cons_succ, List.set_cons_zero, List.set_cons_succ]
        have hl : ((List.range n.toNat).map fun (k : Nat) => 1 + mix (c + 7 * (0 + (k : Int))) 9973 3).length = n.toNat := by simp
        refine meet_rest c _ (by omega) (by omega) (okD (by omega) fun x hx => ?_) fun z => absurd z e3
        obtain ⟨k, hk, rfl⟩ := List.mem_map.mp hx
        have := mix_nn (c := c + 7 * (0 + (k : Int))) (p := 9973) (show (0 : Int) < 3 by decide)
        have := mix_lt (c := c + 7 * (0 + (k : Int))) (p := 9973) (show (0 : Int) < 3 by decide)
        omega
end L2
namespace L2
open PySem PySem.Spec PyProof.Rows
theorem Fpaid {ns : List Int} {pay : List (List Int)} {r : List Int} (ho : MeetOk ns pay) (hr : r ∈ rowsL ns) : F__law_paid [meetD ns pay, dInts r] = some (dInts (payAt ns pay r)) := by
  simp only [F__law_paid, onMeet_of ho, onRow_of hr]
theorem vc__law_paid : ∀ ds d, F__law_paid ds = some d → g__law_paid (retD d) (dstart ["_law_meeting_here", "_law_row"] ds)
  | [m, x], d, h => by
    obtain ⟨ns, pay, rfl, ho, h⟩ := onMeet_eq (show onMeet m _ = some d from h)
    obtain ⟨r, rfl, hr, h⟩ := onRow_eq h
    cases h
    show g__law_paid _ [.im (meetD ns pay), .im (dInts r)]
    have e0 : atI [dInts ns, D.tup (pay.map dInts)] 0 = some (dInts ns) := rfl
    have e1 : atI [dInts ns, D.tup (pay.map dInts)] 1 = some (D.tup (pay.map dInts)) := rfl
    have e2 : atI (pay.map dInts) ((rowsL ns).idxOf r : Nat) = some (dInts (payAt ns pay r)) := atI_rows (payAt_ix ho hr)
    simp only [g__law_paid, gRet, gAndV, gOrV, gNotV, gInst, isSub_int, isSub_bool, isSub_tuple, gVar, gSeq, gAsg, gNm, gC, gF, gLst, gConsA, gNilA, gTupE, gCallB, gCallF, gCallD, gCallR, gOpt, gOptP, cLen, cAbs, cAll, cTuple, cList, gOp, oInt, oIntC, oAdd, oMul, oNe, oEq, oIs, oIsnot, eqD, dep, gIx, gChain, gChain3, gTest, isBl, gIfS, gIt, gIl, gRng1, gRng2, gApp, gExt, gFrz, gAsgO, gNext, gTru, gNot, gAnd, gOr, gPart, gNoP, gSlT, gCatL, gNeg, gNm2, gZip, gNotT, truD, gPeek, gPeekT, gPeekF, gEnumT, gEnumL, cInt, gPar, gIfE, eq_self, if_true, ↓reduceIte, Bool.false_eq_true, if_false, List.getElem?_cons_zero, List.getElem?_cons_succ, List.set_cons_zero, List.set_cons_succ, meetD, gIndex, e0, e1, Frows ho.ok, ansD_rows, firstT_idx r hr, e2]
    exact ⟨Nat.le_trans (deps_rows _) (by decide), trivial⟩
theorem cut_set (r : List Int) (h : Nat) (k : Int) (hh : h < r.length) : r.take h ++ [k] ++ r.drop (h + 1) = r.set h k := by
  rw [List.set_eq_take_append_cons_drop, if_pos hh]
  simp
theorem cutD_to (r : List Int) (h : Nat) (hh : h < r.length) : cutD (r.map D.int) none (some (h : Int)) = (r.take h).map D.int := by
  unfold cutD
  rw [HT.sIx_none, HT.sIx_nat, List.length_map, Nat.min_eq_left (by omega), List.drop_zero, List.map_take]
  rfl
theorem cutD_from (r : List Int) (h : Nat) (hh : h ≤ r.length) : cutD (r.map D.int) (some (h : Int)) none = (r.drop h).map D.int := by
  unfold cutD
  rw [HT.sIx_none, HT.sIx_nat, List.length_map, Nat.min_eq_left hh, List.map_drop]
  refine List.take_of_length_le ?_
  rw [List.length_drop, List.length_map]
  omega
theorem Fstray {r : List Int} {h : Nat} {k : Int} (hl : r.length ≤ 1000) (hh : h < r.length) : F__law_stray [dInts r, .int h, .int k] = some (dInts (r.set h k)) := by
  simp only [F__law_stray, rowD_of]
  rw [if_pos ⟨hl, by omega, by omega⟩]
  rfl
theorem vc__law_stray : ∀ ds d, F__law_stray ds = some d → g__law_stray (retD d) (dstart ["_law_row", "_law_hand", "_law_deed"] ds)
  | [x, .int i, .int k], d, h => by
    cases e : rowD x with
    | none => simp [F__law_stray, e] at h
    | some r =>
      simp only [F__law_stray, e] at h
      rw [rowD_eq e]
      split at h
      · rename_i hc
        cases h
        obtain ⟨n, rfl⟩ : ∃ n : Nat, i = n := ⟨i.toNat, by omega⟩
        show g__law_stray _ [.im (dInts r), .im (.int n), .im (.int k)]
        have hn : n < r.length := by omega
        have e3 : ((n : Int) + 1) = ((n + 1 : Nat) : Int) := by omega
        simp only [g__law_stray, gRet, gAndV, gOrV, gNotV, gInst, isSub_int, isSub_bool, isSub_tuple, gVar, gSeq, gAsg, gNm, gC, gF, gLst, gConsA, gNilA, gTupE, gCallB, gCallF, gCallD, gCallR, gOpt, gOptP, cLen, cAbs, cAll, cTuple, cList, gOp, oInt, oIntC, oAdd, oMul, oNe, oEq, oIs, oIsnot, eqD, dep, gIx, gChain, gChain3, gTest, isBl, gIfS, gIt, gIl, gRng1, gRng2, gApp, gExt, gFrz, gAsgO, gNext, gTru, gNot, gAnd, gOr, gPart, gNoP, gSlT, gCatL, gNeg, gNm2, gZip, gNotT, truD, gPeek, gPeekT, gPeekF, gEnumT, gEnumL, cInt, gPar, gIfE, eq_self, if_true, ↓reduceIte, Bool.false_eq_true, if_false, List.getElem?_cons_zero, List.getElem?_cons_succ, List.set_cons_zero, List.set_cons_succ, dInts, e3, cutD_to r n hn, cutD_from r (n + 1) hn, List.length_append, List.length_map, List.length_cons, List.length_nil, List.length_take, List.length_drop]
        refine ⟨by decide, ends_le (by omega), ends_le (by omega), ?_⟩
        rw [Int.toNat_natCast, ← cut_set r n k hn]
        simp
      · cases h
theorem vc__law_whole : ∀ ds d, F__law_whole ds = some d → g__law_whole (retD d) (dstart ["_law_found"] ds)
  | [x], d, h => by
    cases h
    show g__law_whole _ [.im x]
    cases x <;> simp [g__law_whole, gRet, gAndV, gOrV, gNotV, gInst, isSub_int, isSub_bool, isSub_tuple, gVar, gSeq, gAsg, gNm, gC, gF, gLst, gConsA, gNilA, gTupE, gCallB, gCallF, gCallD, gCallR, gOpt, gOptP, cLen, cAbs, cAll, cTuple, cList, gOp, oInt, oIntC, oAdd, oMul, oNe, oEq, oIs, oIsnot, eqD, dep, gIx, gChain, gChain3, gTest, isBl, gIfS, gIt, gIl, gRng1, gRng2, gApp, gExt, gFrz, gAsgO, gNext, gTru, gNot, gAnd, gOr, gPart, gNoP, gSlT, gCatL, gNeg, gNm2, gZip, gNotT, truD, gPeek, gPeekT, gPeekF, gEnumT, gEnumL, cInt, gPar, gIfE, eq_self, if_true, ↓reduceIte, Bool.false_eq_true, if_false, List.getElem?_cons_zero, List.getElem?_cons_succ, List.set_cons_zero, List.set_cons_succ, isWhole]
end L2
namespace L2
open PySem PySem.Spec PyProof.Rows
theorem maxP_fst {ps : List (Int × Int)} (h : ps ≠ []) : (maxP ps).1 = maxI (ps.map Prod.fst) := by
  obtain ⟨m1, m2⟩ := maxP_mem h
  obtain ⟨k1, k2⟩ := maxI_mem (ns := ps.map Prod.fst) (by simpa using h)
  have a := k2 _ (List.mem_map.mpr ⟨_, m1, rfl⟩)
  obtain ⟨p, hp, e⟩ := List.mem_map.mp k1
  have b := m2 p hp
  unfold lexG at b
  rw [Bool.or_eq_false_iff, decide_eq_false_iff_not] at b
  omega
theorem Fbest {ns : List Int} {pay : List (List Int)} {r : List Int} {h : Nat} (ho : MeetOk ns pay) (hh : h < ns.length) (hr : r ∈ rowsL ns) : F__law_best [meetD ns pay, .int h, dInts r] = some (.lst ((bestL ns pay h r).map D.int)) := by
  simp only [F__law_best, onMeet_of ho, onHand_of hh, onRow_of hr]
theorem vc__law_best : ∀ ds d, F__law_best ds = some d → g__law_best (retD d) (dstart ["_law_meeting_here", "_law_hand", "_law_row", "_law_some"] ds)
  | [m, y, x], d, h => by
    obtain ⟨ns, pay, rfl, ho, h⟩ := onMeet_eq (show onMeet m _ = some d from h)
    obtain ⟨i, rfl, hi, h⟩ := onHand_eq h
    obtain ⟨r, rfl, hr, h⟩ := onRow_eq h
    cases h
    show g__law_best _ [.im (meetD ns pay), .im (.int i), .im (dInts r), .un]
    have e0 : atI [dInts ns, D.tup (pay.map dInts)] 0 = some (dInts ns) := rfl
    have e1 : atI (ns.map D.int) (i : Nat) = some (.int (ns.getD i 0)) := atI_ints hi
    have d3 := deeds_ne ho hi
    have n3 := (okDeeds_mem ho.ok).1
    have hd : (deedsL ns i).length ≤ 3 := by
      unfold deedsL
      simp only [List.length_map, List.length_range]
      omega
    have rl := row_len hr
    simp only [g__law_best, g__law_best_1, gRet, gAndV, gOrV, gNotV, gInst, isSub_int, isSub_bool, isSub_tuple, gVar, gSeq, gAsg, gNm, gC, gF, gLst, gConsA, gNilA, gTupE, gCallB, gCallF, gCallD, gCallR, gOpt, gOptP, cLen, cAbs, cAll, cTuple, cList, gOp, oInt, oIntC, oAdd, oMul, oNe, oEq, oIs, oIsnot, eqD, dep, gIx, gChain, gChain3, gTest, isBl, gIfS, gIt, gIl, gRng1, gRng2, gApp, gExt, gFrz, gAsgO, gNext, gTru, gNot, gAnd, gOr, gPart, gNoP, gSlT, gCatL, gNeg, gNm2, gZip, gNotT, truD, gPeek, gPeekT, gPeekF, gEnumT, gEnumL, cInt, gPar, gIfE, eq_self, if_true, ↓reduceIte, Bool.false_eq_true, if_false, List.getElem?_cons_zero, List.getElem?_cons_succ, List.set_cons_zero, List.set_cons_succ, meetD, e0, gComp]
    simp only [e1]
    refine ⟨⟨by omega, by omega⟩, ?_, fun x => match x with
      | .int k => .tup [.int (payH ns pay (r.set i k) i), .int k]
      | _ => .non, fun x hx => ?_, ?_⟩
    · rw [range_deeds, List.length_map]
      exact ends_le (by omega)
    · rw [range_deeds] at hx
      obtain ⟨k, hk, rfl⟩ := List.mem_map.mp hx
      have hk' := deed_mem.mp hk
      have hs := row_set hr hk'.1 hk'.2
      have ep : F__law_paid [.tup [.tup (ns.map D.int), .tup (pay.map dInts)], dInts (r.set i k)] = some (dInts (payAt ns pay (r.set i k))) := Fpaid ho hs
      have ei : atI ((payAt ns pay (r.set i k)).map D.int) (i : Nat) = some (.int (payH ns pay (r.set i k) i)) := atI_ints (by rw [(payAt_ok ho hs).1]; exact hi)
      simp only [δc, List.map_cons, List.map_nil, gRet, gAndV, gOrV, gNotV, gInst, isSub_int, isSub_bool, isSub_tuple, gVar, gSeq, gAsg, gNm, gC, gF, gLst, gConsA, gNilA, gTupE, gCallB, gCallF, gCallD, gCallR, gOpt, gOptP, cLen, cAbs, cAll, cTuple, cList, gOp, oInt, oIntC, oAdd, oMul, oNe, oEq, oIs, oIsnot, eqD, dep, gIx, gChain, gChain3, gTest, isBl, gIfS, gIt, gIl, gRng1, gRng2, gApp, gExt, gFrz, gAsgO, gNext, gTru, gNot, gAnd, gOr, gPart, gNoP, gSlT, gCatL, gNeg, gNm2, gZip, gNotT, truD, gPeek, gPeekT, gPeekF, gEnumT, gEnumL, cInt, gPar, gIfE, eq_self, if_true, ↓reduceIte, Bool.false_eq_true, if_false, List.getElem?_cons_zero, List.getElem?_cons_succ, List.set_cons_zero, List.set_cons_succ, Fstray (show r.length ≤ 1000 by omega) (show i < r.length by omega), ep]
      simp only [ei, List.length_cons, List.length_nil]
      exact ⟨by decide, trivial⟩
    · rw [range_deeds, List.map_map]
      have em : (deedsL ns i).map ((fun x => match x with
          | .int k => D.tup [.int (payH ns pay (r.set i k) i), .int k]
          | _ => .non) ∘ D.int) = ((deedsL ns i).map fun k => (payH ns pay (r.set i k) i, k)).map fun p => D.tup [.int p.1, .int p.2] := by
        rw [List.map_map]
        rfl
      rw [em]
      generalize hps : ((deedsL ns i).map fun k => (payH ns pay (r.set i k) i, k)) = ps
      have hne : ps ≠ [] := by
        rw [← hps]
        simpa using deedsL_ne ho hi
      have et : (maxP ps).1 = topH ns pay i r := by
        rw [maxP_fst hne, ← hps, List.map_map]
        rfl
      have e2 : atI [D.int (maxP ps).1, D.int (maxP ps).2] 0 = some (.int (maxP ps).1) := rfl
      simp only [g__law_best_1, gRet, gAndV, gOrV, gNotV, gInst, isSub_int, isSub_bool, isSub_tuple, gVar, gSeq, gAsg, gNm, gC, gF, gLst, gConsA, gNilA, gTupE, gCallB, gCallF, gCallD, gCallR, gOpt, gOptP, cLen, cAbs, cAll, cTuple, cList, gOp, oInt, oIntC, oAdd, oMul, oNe, oEq, oIs, oIsnot, eqD, dep, gIx, gChain, gChain3, gTest, isBl, gIfS, gIt, gIl, gRng1, gRng2, gApp, gExt, gFrz, gAsgO, gNext, gTru, gNot, gAnd, gOr, gPart, gNoP, gSlT, gCatL, gNeg, gNm2, gZip, gNotT, truD, gPeek, gPeekT, gPeekF, gEnumT, gEnumL, cInt, gPar, gIfE, eq_self, if_true, ↓reduceIte, Bool.false_eq_true, if_false, List.getElem?_cons_zero, List.getElem?_cons_succ, List.set_cons_zero, List.set_cons_succ, gCompIf]
      refine ⟨by rw [List.length_map, ← hps, List.length_map]; exact ends_le (by omega), fun x => match x with
        | .tup [.int p, .int _] => decide (p = topH ns pay i r)
        | _ => false, fun x => match x with
        | .tup [_, y] => y
        | _ => .non, fun x hx => ?_, ?_⟩
      · obtain ⟨p, hp, rfl⟩ := List.mem_map.mp hx
        simp only [δc, List.map_cons, List.map_nil, gRet, gAndV, gOrV, gNotV, gInst, isSub_int, isSub_bool, isSub_tuple, gVar, gSeq, gAsg, gNm, gC, gF, gLst, gConsA, gNilA, gTupE, gCallB, gCallF, gCallD, gCallR, gOpt, gOptP, cLen, cAbs, cAll, cTuple, cList, gOp, oInt, oIntC, oAdd, oMulI, oNe, oEq, oIs, oIsnot, eqD_int, dep, gIx, gChain, gChain3, gTest, isBl, gIfS, gIt, gIl, gRng1, gRng2, gApp, gExt, gFrz, gAsgO, gNext, gTru, gNot, gAnd, gOr, gPart, gNoP, gSlT, gCatL, gNeg, gNm2, gZip, gNotT, truD, gPeek, gPeekT, gPeekF, gEnumT, gEnumL, cInt, gPar, gIfE, eq_self, if_true, ↓reduceIte, Bool.false_eq_true, if_false, List.getElem?_cons_zero, List.getElem?_cons_succ, List.set_cons_zero, List.set_cons_succ, cMaxP, pairs_map, e2, et]
        refine ⟨hne, by decide, ?_, fun _ => trivial⟩
        rw [Bool.eq_iff_iff]
        simp
      · rw [List.filter_map, List.map_map, ← hps, List.filter_map, List.map_map]
        unfold bestL
        rw [List.map_congr_left (g := D.int) fun k _ => rfl]
        rfl
end L2
namespace L2
open PySem PySem.Spec PyProof.Rows
section
variable {ns : List Int} {pay : List (List Int)} {r : List Int} {h : Nat}
theorem FpaidP (ho : MeetOk ns pay) (hr : r ∈ rowsL ns) : F_paid [meetD ns pay, dInts r] = some (dInts (payAt ns pay r)) := by
  simp only [F_paid, onMeet_of ho, onRow_of hr]
theorem FbestD (ho : MeetOk ns pay) (hh : h < ns.length) (hr : r ∈ rowsL ns) : F_best_deeds [meetD ns pay, .int h, dInts r] = some (.tup ((bestL ns pay h r).map D.int)) := by
  simp only [F_best_deeds, onMeet_of ho, onHand_of hh, onRow_of hr]
theorem Fcalm (ho : MeetOk ns pay) : F_calm [meetD ns pay] = some (.tup ((calmL ns pay).map dInts)) := by
  simp only [F_calm, onMeet_of ho]
theorem Fheld (ho : MeetOk ns pay) (hh : h < ns.length) : F_held_to [meetD ns pay, .int h] = some (.int (heldH ns pay h)) := by
  simp only [F_held_to, onMeet_of ho, onHand_of hh]
theorem Fsure (ho : MeetOk ns pay) (hh : h < ns.length) : F_sure [meetD ns pay, .int h] = some (.int (sureH ns pay h)) := by
  simp only [F_sure, onMeet_of ho, onHand_of hh]
def goodTo (ns : List Int) (pay : List (List Int)) (r : List Int) (h : Nat) : Bool := (List.range h).all fun h => (bestL ns pay h r).contains (r.getD h 0)
theorem good_succ : goodTo ns pay r (h + 1) = (goodTo ns pay r h && (bestL ns pay h r).contains (r.getD h 0)) := by
  unfold goodTo
  rw [List.range_succ, List.all_append]
  simp
theorem gIxM0 {Q : D → Prop} : gIx (meetD ns pay) (.int 0) Q = Q (dInts ns) := rfl
theorem gIxM1 {Q : D → Prop} : gIx (meetD ns pay) (.int 1) Q = Q (.tup (pay.map dInts)) := rfl
theorem gIxR {Q : D → Prop} (hh : h < r.length) : gIx (dInts r) (.int h) Q = Q (.int (r.getD h 0)) := by
  show (match atI (r.map D.int) (h : Int) with
    | some d => Q d
    | none => False) = _
  rw [atI_ints hh]
theorem ix0 (ns : List Int) (pay : List (List Int)) : atI [dInts ns, D.tup (pay.map dInts)] 0 = some (dInts ns) := rfl
theorem l3_hand (ho : MeetOk ns pay) (hr : r ∈ rowsL ns) (hh : h < ns.length) {De : DEnds} {a0 a1 a3 a4 a8 a9 a10 a11 a12 a13 a14 : Sl}
    (hn : De.nx [a0, a1, .im (meetD ns pay), a3, a4, .im (dInts r), .im (.bl (goodTo ns pay r (h + 1))), .im (.int h), .im (.lst ((bestL ns pay h r).map D.int)), a9, a10, a11, a12, a13, a14]) :
    g_law_f3 De [a0, a1, .im (meetD ns pay), a3, a4, .im (dInts r), .im (.bl (goodTo ns pay r h)), .im (.int h), a8, a9, a10, a11, a12, a13, a14] := by
  have hl : h < r.length := by rw [row_len hr]; exact hh
  simp only [g_law_f3, gRet, gAndV, gOrV, gNotV, gInst, isSub_int, isSub_bool, isSub_tuple, gVar, gSeq, gAsg, gNm, gC, gF, gLst, gConsA, gNilA, gTupE, gCallB, gCallF, gCallD, gCallR, gOpt, gOptP, cLen, cAbs, cAll, cTuple, cList, gOp, oInt, oIntC, oAdd, oMulI, oNe, oEq, oIs, oIsnot, eqD_int, eqD_self, Bool.not_true, dep, gIxM0, gIxM1, gChain, gChain3, gTest, isBl, gIfS, gIt, gIl, gRng1, gRng2, gApp, gExt, gFrz, gAsgO, gNext, gTru, gNot, gAnd, gOr, gPart, gNoP, gSlT, gCatL, gNeg, gNm2, gZip, gNotT, truD, gPeek, gPeekT, gPeekF, gEnumT, gEnumL, cInt, gPar, gIfE, eq_self, if_true, ↓reduceIte, Bool.false_eq_true, if_false, List.getElem?_cons_zero, List.getElem?_cons_succ, List.set_cons_zero, List.set_cons_succ, Fbest ho hh hr, FbestD ho hh hr]
  refine ⟨by rw [deps_ints]; decide, ?_⟩
  rw [good_succ] at hn
  cases hg : goodTo ns pay r h with
  | false =>
    rw [hg] at hn
    exact hn
  | true =>
    rw [hg] at hn
    simp only [gRet, gAndV, gOrV, gNotV, gInst, isSub_int, isSub_bool, isSub_tuple, gVar, gSeq, gAsg, gNm, gC, gF, gLst, gConsA, gNilA, gTupE, gCallB, gCallF, gCallD, gCallR, gOpt, gOptP, cLen, cAbs, cAll, cTuple, cList, gOp, oInt, oIntC, oAdd, oMulI, oNe, oEq, oIs, oIsnot, eqD_int, eqD_self, Bool.not_true, dep, gIxM0, gIxM1, gChain, gChain3, gTest, isBl, gIfS, gIt, gIl, gRng1, gRng2, gApp, gExt, gFrz, gAsgO, gNext, gTru, gNot, gAnd, gOr, gPart, gNoP, gSlT, gCatL, gNeg, gNm2, gZip, gNotT, truD, gPeek, gPeekT, gPeekF, gEnumT, gEnumL, cInt, gPar, gIfE, eq_self, if_true, ↓reduceIte, Bool.false_eq_true, if_false, List.getElem?_cons_zero, List.getElem?_cons_succ, List.set_cons_zero, List.set_cons_succ, gIxR hl, oIn, seqOf, ansD_ints, deps_ints, any_beq]
    exact ⟨by decide, hn⟩
theorem filter_snoc {α : Type} (p : α → Bool) (l : List α) (i : Nat) (hi : i < l.length) : (l.take (i + 1)).filter p = (l.take i).filter p ++ (List.replicate (if p l[i] = true then 1 else 0) [l[i]]).flatten := by
  rw [List.take_succ, List.getElem?_eq_getElem hi, Option.toList_some, List.filter_append]
  congr 1
  cases e : p l[i] <;> simp [e]
theorem l3_row (ho : MeetOk ns pay) {i : Nat} (hi : i < (rowsL ns).length) {De : DEnds} {a0 a1 a3 a9 a10 a11 a12 a13 a14 : Sl} {a6 a7 a8 : Sl}
    (hn : ∀ a6 a7 a8, De.nx [a0, a1, .im (meetD ns pay), a3, .im (.lst ((((rowsL ns).take (i + 1)).filter (isCalm ns pay)).map dInts)), .im (dInts (rowsL ns)[i]), a6, a7, a8, a9, a10, a11, a12, a13, a14]) :
    g_law_f2 De [a0, a1, .im (meetD ns pay), a3, .im (.lst ((((rowsL ns).take i).filter (isCalm ns pay)).map dInts)), .im (dInts (rowsL ns)[i]), a6, a7, a8, a9, a10, a11, a12, a13, a14] := by
  have hr : (rowsL ns)[i] ∈ rowsL ns := List.getElem_mem hi
  have hlen : ((rowsL ns).take i).length ≤ 27 := by
    rw [List.length_take]
    have := (rows_len ho.ok).2
    omega
  generalize hrr : (rowsL ns)[i] = r at *
  have rl := row_len hr
  have n3 := (okDeeds_mem ho.ok).1
  have hfl : ((((rowsL ns).take i).filter (isCalm ns pay)).map dInts).length ≤ 27 := by
    rw [List.length_map]
    exact Nat.le_trans (List.length_filter_le _ _) hlen
  have ef := filter_snoc (isCalm ns pay) (rowsL ns) i hi
  rw [hrr] at ef
  generalize hq : ((rowsL ns).take i).filter (isCalm ns pay) = qs at *
  simp only [g_law_f2, gRet, gAndV, gOrV, gNotV, gInst, isSub_int, isSub_bool, isSub_tuple, gVar, gSeq, gAsg, gNm, gC, gF, gLst, gConsA, gNilA, gTupE, gCallB, gCallF, gCallD, gCallR, gOpt, gOptP, cLen, cAbs, cAll, cTuple, cList, gOp, oInt, oIntC, oAdd, oMulI, oNe, oEq, oIs, oIsnot, eqD_int, eqD_self, Bool.not_true, dep, gIxM0, gIxM1, gChain, gChain3, gTest, isBl, gIfS, gIt, gIl, gRng1, gRng2, gApp, gExt, gFrz, gAsgO, gNext, gTru, gNot, gAnd, gOr, gPart, gNoP, gSlT, gCatL, gNeg, gNm2, gZip, gNotT, truD, gPeek, gPeekT, gPeekF, gEnumT, gEnumL, cInt, gPar, gIfE, eq_self, if_true, ↓reduceIte, Bool.false_eq_true, if_false, List.getElem?_cons_zero, List.getElem?_cons_succ, List.set_cons_zero, List.set_cons_succ, FpaidP ho hr, Fpaid ho hr, dep_dInts, gFor]
  refine ⟨by rw [deps_ints]; decide, ?_⟩
  rw [List.length_map, rl]
  refine ⟨⟨by omega, by omega⟩, fun k δ => ∃ a7 a8, δ = [a0, a1, .im (meetD ns pay), a3, .im (.lst (qs.map dInts)), .im (dInts r), .im (.bl (goodTo ns pay r k)), a7, a8, a9, a10, a11, a12, a13, a14], ⟨a7, a8, rfl⟩, ?_, ?_⟩
  · rintro k x δ ed ⟨a7, a8, rfl⟩
    unfold rangeD at ed
    obtain ⟨hk, rfl⟩ := getm_map ed
    rw [List.length_range] at hk
    rw [List.getElem_range, Int.zero_add]
    exact l3_hand ho hr (by omega) ⟨_, _, rfl⟩
  · rintro δ ⟨a7, a8, rfl⟩
    rw [rangeD_len, Int.toNat_natCast]
    have eg : goodTo ns pay r ns.length = isCalm ns pay r := rfl
    rw [eg]
    simp only [gRet, gAndV, gOrV, gNotV, gInst, isSub_int, isSub_bool, isSub_tuple, gVar, gSeq, gAsg, gNm, gC, gF, gLst, gConsA, gNilA, gTupE, gCallB, gCallF, gCallD, gCallR, gOpt, gOptP, cLen, cAbs, cAll, cTuple, cList, gOp, oInt, oIntC, oAdd, oMulI, oNe, oEq, oIs, oIsnot, eqD_int, eqD_self, Bool.not_true, dep, gIxM0, gIxM1, gChain, gChain3, gTest, isBl, gIfS, gIt, gIl, gRng1, gRng2, gApp, gExt, gFrz, gAsgO, gNext, gTru, gNot, gAnd, gOr, gPart, gNoP, gSlT, gCatL, gNeg, gNm2, gZip, gNotT, truD, gPeek, gPeekT, gPeekF, gEnumT, gEnumL, cInt, gPar, gIfE, eq_self, if_true, ↓reduceIte, Bool.false_eq_true, if_false, List.getElem?_cons_zero, List.getElem?_cons_succ, List.set_cons_zero, List.set_cons_succ, gRepL, List.length_cons, List.length_nil]
    refine ⟨by decide, ⟨?_, ?_, ?_⟩, ?_, ?_⟩
    · split <;> decide
    · split <;> decide
    · split <;> decide
    · refine ends_le ?_
      split <;> simp at hfl ⊢ <;> omega
    · have e2 : qs.map dInts ++ (List.replicate (if isCalm ns pay r = true then (1 : Int) else 0).toNat [dInts r]).flatten = (qs ++ (List.replicate (if isCalm ns pay r = true then 1 else 0) [r]).flatten).map dInts := by
        cases isCalm ns pay r <;> simp
      rw [e2, ← ef]
      exact hn _ _ _
end
end L2
namespace L2
open PySem PySem.Spec PyProof.Rows
section
variable {ns : List Int} {pay : List (List Int)} {r : List Int} {h : Nat}
theorem best0 (ho : MeetOk ns pay) (hh : h < ns.length) : ∃ k, atI ((bestL ns pay h r).map D.int) 0 = some (.int k) ∧ 0 ≤ k ∧ k < ns.getD h 0 ∧ payH ns pay (r.set h k) h = topH ns pay h r := by
  cases e : bestL ns pay h r with
  | nil => exact absurd e (bestL_ne ho hh)
  | cons k l =>
    have hk : k ∈ bestL ns pay h r := by rw [e]; exact List.mem_cons_self
    obtain ⟨h1, h2⟩ := List.mem_filter.mp hk
    have := deed_mem.mp h1
    refine ⟨k, ?_, this.1, this.2, of_decide_eq_true h2⟩
    rw [List.map_cons]
    simp [atI, ixN]
theorem l3_top (ho : MeetOk ns pay) (hr : r ∈ rowsL ns) (hh : h < ns.length) {De : DEnds} {ts : List Int} (hts : ts.length ≤ 27) {a0 a1 a3 a4 a6 a8 a9 a11 a12 a13 a14 : Sl}
    (hn : ∀ a11, De.nx [a0, a1, .im (meetD ns pay), a3, a4, .im (dInts r), a6, .im (.int h), a8, a9, .ow ((ts ++ [topH ns pay h r]).map D.int), a11, a12, a13, a14]) :
    g_law_f5 De [a0, a1, .im (meetD ns pay), a3, a4, .im (dInts r), a6, .im (.int h), a8, a9, .ow (ts.map D.int), a11, a12, a13, a14] := by
  obtain ⟨k, e0, k0, k1, ek⟩ := best0 (r := r) ho hh
  have hs := row_set hr k0 k1
  have hl := (payAt_ok ho hs).1
  have rl := row_len hr
  have n3 := (okDeeds_mem ho.ok).1
  have ei : atI ((payAt ns pay (r.set h k)).map D.int) (h : Nat) = some (.int (topH ns pay h r)) := by
    rw [← ek]
    exact atI_ints (by omega)
  simp only [g_law_f5, gRet, gAndV, gOrV, gNotV, gInst, isSub_int, isSub_bool, isSub_tuple, gVar, gSeq, gAsg, gNm, gC, gF, gLst, gConsA, gNilA, gTupE, gCallB, gCallF, gCallD, gCallR, gOpt, gOptP, cLen, cAbs, cAll, cTuple, cList, gOp, oInt, oIntC, oAdd, oMulI, oNe, oEq, oIs, oIsnot, eqD_int, dep, gIx, gChain, gChain3, gTest, isBl, gIfS, gIt, gIl, gRng1, gRng2, gApp, gExt, gFrz, gAsgO, gNext, gTru, gNot, gAnd, gOr, gPart, gNoP, gSlT, gCatL, gNeg, gNm2, gZip, gNotT, truD, gPeek, gPeekT, gPeekF, gEnumT, gEnumL, cInt, gPar, gIfE, eq_self, if_true, ↓reduceIte, Bool.false_eq_true, if_false, List.getElem?_cons_zero, List.getElem?_cons_succ, List.set_cons_zero, List.set_cons_succ, Fbest ho hh hr, e0, Fstray (show r.length ≤ 1000 by omega) (show h < r.length by omega), Fpaid ho hs, ei, List.length_map]
  refine ⟨small1000 (by omega), ?_⟩
  have := hn (.im (.int k))
  rw [List.map_append] at this
  exact this
theorem l3_low (ho : MeetOk ns pay) (hh : h < ns.length) {De : DEnds} {ts : List Int} (hts : ts.length ≤ 27) {k : Int} (hk : k ∈ deedsL ns h) {a0 a1 a4 a5 a6 a8 a9 a10 a11 a14 : Sl}
    (hn : De.nx [a0, a1, .im (meetD ns pay), .im (.lst ((rowsL ns).map dInts)), a4, a5, a6, .im (.int h), a8, a9, a10, a11, .ow ((ts ++ [lowH ns pay h k]).map D.int), .im (.int k), a14]) :
    g_law_f6 De [a0, a1, .im (meetD ns pay), .im (.lst ((rowsL ns).map dInts)), a4, a5, a6, .im (.int h), a8, a9, a10, a11, .ow (ts.map D.int), .im (.int k), a14] := by
  have l2 := (rows_len ho.ok).2
  simp only [g_law_f6, gRet, gAndV, gOrV, gNotV, gInst, isSub_int, isSub_bool, isSub_tuple, gVar, gSeq, gAsg, gNm, gC, gF, gLst, gConsA, gNilA, gTupE, gCallB, gCallF, gCallD, gCallR, gOpt, gOptP, cLen, cAbs, cAll, cTuple, cList, gOp, oInt, oIntC, oAdd, oMulI, oNe, oEq, oIs, oIsnot, eqD_int, dep, gIx, gChain, gChain3, gTest, isBl, gIfS, gIt, gIl, gRng1, gRng2, gApp, gExt, gFrz, gAsgO, gNext, gTru, gNot, gAnd, gOr, gPart, gNoP, gSlT, gCatL, gNeg, gNm2, gZip, gNotT, truD, gPeek, gPeekT, gPeekF, gEnumT, gEnumL, cInt, gPar, gIfE, eq_self, if_true, ↓reduceIte, Bool.false_eq_true, if_false, List.getElem?_cons_zero, List.getElem?_cons_succ, List.set_cons_zero, List.set_cons_succ, gCompIf]
  refine ⟨by rw [List.length_map]; exact ends_le (by omega), fun x => match rowD x with
    | some r => decide (r.getD h 0 = k)
    | none => false, fun x => match rowD x with
    | some r => .int (payH ns pay r h)
    | none => .non, fun x hx => ?_, ?_⟩
  · obtain ⟨r, hr, rfl⟩ := List.mem_map.mp hx
    have hl : h < r.length := by rw [row_len hr]; exact hh
    have hp : h < (payAt ns pay r).length := by rw [(payAt_ok ho hr).1]; exact hh
    have ei : atI ((payAt ns pay r).map D.int) (h : Nat) = some (.int (payH ns pay r h)) := atI_ints hp
    simp only [δc, List.map_cons, List.map_nil, gRet, gAndV, gOrV, gNotV, gInst, isSub_int, isSub_bool, isSub_tuple, gVar, gSeq, gAsg, gNm, gC, gF, gLst, gConsA, gNilA, gTupE, gCallB, gCallF, gCallD, gCallR, gOpt, gOptP, cLen, cAbs, cAll, cTuple, cList, gOp, oInt, oIntC, oAdd, oMulI, oNe, oEq, oIs, oIsnot, eqD_int, dep, gIx, gChain, gChain3, gTest, isBl, gIfS, gIt, gIl, gRng1, gRng2, gApp, gExt, gFrz, gAsgO, gNext, gTru, gNot, gAnd, gOr, gPart, gNoP, gSlT, gCatL, gNeg, gNm2, gZip, gNotT, truD, gPeek, gPeekT, gPeekF, gEnumT, gEnumL, cInt, gPar, gIfE, eq_self, if_true, ↓reduceIte, Bool.false_eq_true, if_false, List.getElem?_cons_zero, List.getElem?_cons_succ, List.set_cons_zero, List.set_cons_succ, atI_ints hl, Fpaid ho hr, ei, rowD_of]
    refine ⟨by decide, ?_, fun _ => trivial⟩
    rw [Bool.eq_iff_iff]
    simp
  · have em : (((rowsL ns).map dInts).filter fun x => match rowD x with
        | some r => decide (r.getD h 0 = k)
        | none => false).map (fun x => match rowD x with
        | some r => D.int (payH ns pay r h)
        | none => .non) = (((rowsL ns).filter fun r => decide (r.getD h 0 = k)).map fun r => payH ns pay r h).map D.int := by
      rw [List.filter_map, List.map_map, List.map_map]
      have e1 : (fun x => match rowD x with
        | some r => decide (r.getD h 0 = k)
        | none => false) ∘ dInts = fun r => decide (r.getD h 0 = k) := by
        funext r
        simp only [Function.comp, rowD_of]
      rw [e1]
      refine List.map_congr_left fun r _ => ?_
      simp only [Function.comp, rowD_of]
    rw [em]
    simp only [cNums, seqOf, ints_map, List.length_map]
    refine ⟨?_, small1000 (by omega), ?_⟩
    · have hr := List.getElem_mem (l := rowsL ns) (n := 0) (by have := (rows_len ho.ok).1; omega)
      generalize (rowsL ns)[0]'(by have := (rows_len ho.ok).1; omega) = r at hr
      have hq := row_set hr (deed_mem.mp hk).1 (deed_mem.mp hk).2
      have hl : h < (r.set h k).length := by rw [List.length_set, row_len hr]; exact hh
      refine List.ne_nil_of_mem (List.mem_map.mpr ⟨r.set h k, List.mem_filter.mpr ⟨hq, ?_⟩, rfl⟩)
      rw [getD_of hl]
      simp
    · rw [List.map_append] at hn
      exact hn
end
end L2
namespace L2
open PySem PySem.Spec PyProof.Rows
section
variable {ns : List Int} {pay : List (List Int)} {r : List Int} {h : Nat}
theorem eqD_two (a b c d : Int) : eqD (.tup [.int a, .int b]) (.tup [.int c, .int d]) = some (a == c && b == d) := by
  have := eqD_dInts [a, b] [c, d]
  refine this.trans ?_
  simp
theorem l3_each (ho : MeetOk ns pay) (hh : h < ns.length) {De : DEnds} {a0 a1 a5 a6 a8 a10 a11 a12 a13 a14 : Sl}
    (hn : ∀ a5 a10 a11 a12 a13 a14, De.nx [a0, a1, .im (meetD ns pay), .im (.lst ((rowsL ns).map dInts)), .im (.lst ((calmL ns pay).map dInts)), a5, a6, .im (.int h), a8, .im (.int (ns.getD h 0)), a10, a11, a12, a13, a14]) :
    g_law_f4 De [a0, a1, .im (meetD ns pay), .im (.lst ((rowsL ns).map dInts)), .im (.lst ((calmL ns pay).map dInts)), a5, a6, .im (.int h), a8, .im (.int (ns.getD h 0)), a10, a11, a12, a13, a14] := by
  have l2 := (rows_len ho.ok).2
  have d3 := deeds_ne ho hh
  simp only [g_law_f4, gRet, gAndV, gOrV, gNotV, gInst, isSub_int, isSub_bool, isSub_tuple, gVar, gSeq, gAsg, gNm, gC, gF, gLst, gConsA, gNilA, gTupE, gCallB, gCallF, gCallD, gCallR, gOpt, gOptP, cLen, cAbs, cAll, cTuple, cList, gOp, oInt, oIntC, oAdd, oMulI, oNe, oEq, oIs, oIsnot, eqD_int, dep, gIx, gChain, gChain3, gTest, isBl, gIfS, gIt, gIl, gRng1, gRng2, gApp, gExt, gFrz, gAsgO, gNext, gTru, gNot, gAnd, gOr, gPart, gNoP, gSlT, gCatL, gNeg, gNm2, gZip, gNotT, truD, gPeek, gPeekT, gPeekF, gEnumT, gEnumL, cInt, gPar, gIfE, eq_self, if_true, ↓reduceIte, Bool.false_eq_true, if_false, List.getElem?_cons_zero, List.getElem?_cons_succ, List.set_cons_zero, List.set_cons_succ, gFor, List.length_nil]
  refine ⟨by decide, fun i δ => ∃ a5 a11, δ = [a0, a1, .im (meetD ns pay), .im (.lst ((rowsL ns).map dInts)), .im (.lst ((calmL ns pay).map dInts)), a5, a6, .im (.int h), a8, .im (.int (ns.getD h 0)), .ow ((((rowsL ns).take i).map (topH ns pay h)).map D.int), a11, a12, a13, a14], ⟨a5, a11, rfl⟩, ?_, ?_⟩
  · rintro i x δ ed ⟨a5, a11, rfl⟩
    obtain ⟨hi, rfl⟩ := getm_map ed
    have hr : (rowsL ns)[i] ∈ rowsL ns := List.getElem_mem hi
    refine l3_top ho hr hh (by simp; omega) fun a11 => ⟨.im (dInts (rowsL ns)[i]), a11, ?_⟩
    rw [List.take_succ, List.getElem?_eq_getElem hi, Option.toList_some]
    simp only [List.map_append, List.map_cons, List.map_nil]
  · rintro δ ⟨a5, a11, rfl⟩
    rw [List.length_map, List.take_length]
    simp only [gRet, gAndV, gOrV, gNotV, gInst, isSub_int, isSub_bool, isSub_tuple, gVar, gSeq, gAsg, gNm, gC, gF, gLst, gConsA, gNilA, gTupE, gCallB, gCallF, gCallD, gCallR, gOpt, gOptP, cLen, cAbs, cAll, cTuple, cList, gOp, oInt, oIntC, oAdd, oMulI, oNe, oEq, oIs, oIsnot, eqD_int, dep, gIx, gChain, gChain3, gTest, isBl, gIfS, gIt, gIl, gRng1, gRng2, gApp, gExt, gFrz, gAsgO, gNext, gTru, gNot, gAnd, gOr, gPart, gNoP, gSlT, gCatL, gNeg, gNm2, gZip, gNotT, truD, gPeek, gPeekT, gPeekF, gEnumT, gEnumL, cInt, gPar, gIfE, eq_self, if_true, ↓reduceIte, Bool.false_eq_true, if_false, List.getElem?_cons_zero, List.getElem?_cons_succ, List.set_cons_zero, List.set_cons_succ, List.length_nil]
    refine ⟨by decide, ⟨by omega, by omega⟩, fun i δ => ∃ a13, δ = [a0, a1, .im (meetD ns pay), .im (.lst ((rowsL ns).map dInts)), .im (.lst ((calmL ns pay).map dInts)), a5, a6, .im (.int h), a8, .im (.int (ns.getD h 0)), .ow (((rowsL ns).map (topH ns pay h)).map D.int), a11, .ow ((((deedsL ns h).take i).map (lowH ns pay h)).map D.int), a13, a14], ⟨a13, rfl⟩, ?_, ?_⟩
    · rintro i x δ ed ⟨a13, rfl⟩
      rw [range_deeds] at ed
      obtain ⟨hi, rfl⟩ := getm_map ed
      have hk : (deedsL ns h)[i] ∈ deedsL ns h := List.getElem_mem hi
      have hdl : (deedsL ns h).length ≤ 3 := by
        unfold deedsL
        simp only [List.length_map, List.length_range]
        omega
      refine l3_low ho hh (by simp; omega) hk ⟨.im (.int (deedsL ns h)[i]), ?_⟩
      rw [List.take_succ, List.getElem?_eq_getElem hi, Option.toList_some]
      simp only [List.map_append, List.map_cons, List.map_nil]
    · rintro δ ⟨a13, rfl⟩
      rw [range_deeds, List.length_map, List.take_length]
      have et : ((rowsL ns).map (topH ns pay h)) ≠ [] := by simpa using rows_ne ho
      have el : ((deedsL ns h).map (lowH ns pay h)) ≠ [] := by simpa using deedsL_ne ho hh
      have i0 : atI [D.int (heldH ns pay h), D.int (sureH ns pay h)] 0 = some (.int (heldH ns pay h)) := rfl
      have i1 : atI [D.int (heldH ns pay h), D.int (sureH ns pay h)] 1 = some (.int (sureH ns pay h)) := rfl
      have sl := sure_le ho hh
      have sl' : decide (heldH ns pay h < sureH ns pay h) = false := decide_eq_false (by omega)
      simp only [gRet, gAndV, gOrV, gNotV, gInst, isSub_int, isSub_bool, isSub_tuple, gVar, gSeq, gAsg, gNm, gC, gF, gLst, gConsA, gNilA, gTupE, gCallB, gCallF, gCallD, gCallR, gOpt, gOptP, cLen, cAbs, cAll, cTuple, cList, gOp, oInt, oIntC, oAdd, oMulI, oNe, oEq, oIs, oIsnot, eqD_int, dep, gIx, gChain, gChain3, gTest, isBl, gIfS, gIt, gIl, gRng1, gRng2, gApp, gExt, gFrz, gAsgO, gNext, gTru, gNot, gAnd, gOr, gPart, gNoP, gSlT, gCatL, gNeg, gNm2, gZip, gNotT, truD, gPeek, gPeekT, gPeekF, gEnumT, gEnumL, cInt, gPar, gIfE, eq_self, if_true, ↓reduceIte, Bool.false_eq_true, if_false, List.getElem?_cons_zero, List.getElem?_cons_succ, List.set_cons_zero, List.set_cons_succ, Fheld ho hh, Fsure ho hh, cNums, seqOf, ints_map, List.length_cons, List.length_nil]
      refine ⟨by decide, et, el, by decide, by simp [deps, dep], ?_⟩
      rw [show minI ((rowsL ns).map (topH ns pay h)) = heldH ns pay h from rfl, show maxI ((deedsL ns h).map (lowH ns pay h)) = sureH ns pay h from rfl, eqD_two]
      simp only [gRet, gAndV, gOrV, gNotV, gInst, isSub_int, isSub_bool, isSub_tuple, gVar, gSeq, gAsg, gNm, gC, gF, gLst, gConsA, gNilA, gTupE, gCallB, gCallF, gCallD, gCallR, gOpt, gOptP, cLen, cAbs, cAll, cTuple, cList, gOp, oInt, oIntC, oAdd, oMulI, oNe, oEq, oIs, oIsnot, eqD_int, dep, gIx, gChain, gChain3, gTest, isBl, gIfS, gIt, gIl, gRng1, gRng2, gApp, gExt, gFrz, gAsgO, gNext, gTru, gNot, gAnd, gOr, gPart, gNoP, gSlT, gCatL, gNeg, gNm2, gZip, gNotT, truD, gPeek, gPeekT, gPeekF, gEnumT, gEnumL, cInt, gPar, gIfE, eq_self, if_true, ↓reduceIte, Bool.false_eq_true, if_false, List.getElem?_cons_zero, List.getElem?_cons_succ, List.set_cons_zero, List.set_cons_succ, beq_self_eq_true, Bool.and_self, Bool.not_true, i0, i1, sl', F__law_whole, isWhole, gCompIf]
      refine ⟨?_, fun x => match rowD x with
        | some r => decide (payH ns pay r h < heldH ns pay h)
        | none => false, fun x => x, fun x hx => ?_, ?_⟩
      · rw [List.length_map]
        exact ends_le (Nat.le_trans (List.length_filter_le _ _) (by omega))
      · obtain ⟨r, hc, rfl⟩ := List.mem_map.mp hx
        have hr := (List.mem_filter.mp hc).1
        have ei : atI ((payAt ns pay r).map D.int) (h : Nat) = some (.int (payH ns pay r h)) := atI_ints (by rw [(payAt_ok ho hr).1]; exact hh)
        simp only [δc, List.map_cons, List.map_nil, gRet, gAndV, gOrV, gNotV, gInst, isSub_int, isSub_bool, isSub_tuple, gVar, gSeq, gAsg, gNm, gC, gF, gLst, gConsA, gNilA, gTupE, gCallB, gCallF, gCallD, gCallR, gOpt, gOptP, cLen, cAbs, cAll, cTuple, cList, gOp, oInt, oIntC, oAdd, oMulI, oNe, oEq, oIs, oIsnot, eqD_int, dep, gIx, gChain, gChain3, gTest, isBl, gIfS, gIt, gIl, gRng1, gRng2, gApp, gExt, gFrz, gAsgO, gNext, gTru, gNot, gAnd, gOr, gPart, gNoP, gSlT, gCatL, gNeg, gNm2, gZip, gNotT, truD, gPeek, gPeekT, gPeekF, gEnumT, gEnumL, cInt, gPar, gIfE, eq_self, if_true, ↓reduceIte, Bool.false_eq_true, if_false, List.getElem?_cons_zero, List.getElem?_cons_succ, List.set_cons_zero, List.set_cons_succ, Fpaid ho hr, ei, i0, rowD_of]
        exact ⟨trivial, fun _ => trivial⟩
      · have en : (((calmL ns pay).map dInts).filter fun x => match rowD x with
            | some r => decide (payH ns pay r h < heldH ns pay h)
            | none => false) = [] := by
          rw [List.filter_eq_nil_iff]
          intro x hx
          obtain ⟨r, hc, rfl⟩ := List.mem_map.mp hx
          have := calm_held ho hc hh
          simp only [rowD_of]
          simp
          omega
        rw [en]
        exact hn _ _ _ _ _ _
end
theorem vc_law : ∀ ds p, F_law ds = some p → g_law (retP p) (dstart ["_law_script", "_law_cell_here", "_law_meeting_here", "_law_some", "_law_quiet", "_law_row", "_law_good", "_law_hand", "_law_due", "_law_many", "_law_tops", "_law_best_here", "_law_lows", "_law_deed", "_law_told"] ds)
  | [.lst xs], p, h => by
    have h' : (match intsD xs with
      | some _ => some (fun d => d = D.bl true)
      | none => none) = some p := h
    clear h
    split at h'
    · rename_i ns0 e
      cases h'
      rw [ints_eq e]
      clear e
      show g_law _ [.im (.lst (ns0.map D.int)), .un, .un, .un, .un, .un, .un, .un, .un, .un, .un, .un, .un, .un, .un]
      have ec : cutD (ns0.map D.int) none (some (4 : Int)) = (ns0.take 4).map D.int := by
        unfold cutD
        rw [HT.sIx_none, show (4 : Int) = ((4 : Nat) : Int) from rfl, HT.sIx_nat, List.length_map, List.drop_zero, Nat.sub_zero, ← List.map_take]
        congr 1
        rw [List.take_eq_take_iff]
        omega
      unfold g_law
      simp only [gRet, gAndV, gOrV, gNotV, gInst, isSub_int, isSub_bool, isSub_tuple, gVar, gSeq, gAsg, gNm, gC, gF, gLst, gConsA, gNilA, gTupE, gCallB, gCallF, gCallD, gCallR, gOpt, gOptP, cLen, cAbs, cAll, cTuple, cList, gOp, oInt, oIntC, oAdd, oMulI, oNe, oEq, oIs, oIsnot, eqD_int, dep, gIx, gChain, gChain3, gTest, isBl, gIfS, gIt, gIl, gRng1, gRng2, gApp, gExt, gFrz, gAsgO, gNext, gTru, gNot, gAnd, gOr, gPart, gNoP, gSlT, gCatL, gNeg, gNm2, gZip, gNotT, truD, gPeek, gPeekT, gPeekF, gEnumT, gEnumL, cInt, gPar, gIfE, eq_self, if_true, ↓reduceIte, Bool.false_eq_true, if_false, List.getElem?_cons_zero, List.getElem?_cons_succ, List.set_cons_zero, List.set_cons_succ, gSlL, ec, gFor]
      refine ⟨fun i δ => ∃ (a1 a2 a3 a4 a5 a6 a7 a8 a9 a10 a11 a12 a13 a14 : Sl), δ = [.im (.lst (ns0.map D.int)), a1, a2, a3, a4, a5, a6, a7, a8, a9, a10, a11, a12, a13, a14], ⟨_, _, _, _, _, _, _, _, _, _, _, _, _, _, rfl⟩, ?_, ?_⟩
      · rintro i x δ ed ⟨a1, a2, a3, a4, a5, a6, a7, a8, a9, a10, a11, a12, a13, a14, rfl⟩
        obtain ⟨hi, rfl⟩ := getm_map ed
        simp only [g_law_f1, gRet, gAndV, gOrV, gNotV, gInst, isSub_int, isSub_bool, isSub_tuple, gVar, gSeq, gAsg, gNm, gC, gF, gLst, gConsA, gNilA, gTupE, gCallB, gCallF, gCallD, gCallR, gOpt, gOptP, cLen, cAbs, cAll, cTuple, cList, gOp, oInt, oIntC, oAdd, oMulI, oNe, oEq, oIs, oIsnot, eqD_int, dep, gIx, gChain, gChain3, gTest, isBl, gIfS, gIt, gIl, gRng1, gRng2, gApp, gExt, gFrz, gAsgO, gNext, gTru, gNot, gAnd, gOr, gPart, gNoP, gSlT, gCatL, gNeg, gNm2, gZip, gNotT, truD, gPeek, gPeekT, gPeekF, gEnumT, gEnumL, cInt, gPar, gIfE, eq_self, if_true, ↓reduceIte, Bool.false_eq_true, if_false, List.getElem?_cons_zero, List.getElem?_cons_succ, List.set_cons_zero, List.set_cons_succ, F__law_meeting, gFor]
        rintro m ⟨ns, pay, rfl, ho⟩
        have e0 : atI [dInts ns, D.tup (pay.map dInts)] 0 = some (dInts ns) := rfl
        simp only [e0, Frows ho.ok, gRet, gAndV, gOrV, gNotV, gInst, isSub_int, isSub_bool, isSub_tuple, gVar, gSeq, gAsg, gNm, gC, gF, gLst, gConsA, gNilA, gTupE, gCallB, gCallF, gCallD, gCallR, gOpt, gOptP, cLen, cAbs, cAll, cTuple, cList, gOp, oInt, oIntC, oAdd, oMulI, oNe, oEq, oIs, oIsnot, eqD_int, dep, gIx, gChain, gChain3, gTest, isBl, gIfS, gIt, gIl, gRng1, gRng2, gApp, gExt, gFrz, gAsgO, gNext, gTru, gNot, gAnd, gOr, gPart, gNoP, gSlT, gCatL, gNeg, gNm2, gZip, gNotT, truD, gPeek, gPeekT, gPeekF, gEnumT, gEnumL, cInt, gPar, gIfE, eq_self, if_true, ↓reduceIte, Bool.false_eq_true, if_false, List.getElem?_cons_zero, List.getElem?_cons_succ, List.set_cons_zero, List.set_cons_succ, List.length_nil]
        refine ⟨by decide, fun i δ => ∃ (a5 a6 a7 a8 : Sl), δ = [.im (.lst (ns0.map D.int)), .im (.int (ns0.take 4)[_]), .im (meetD ns pay), .im (.lst ((rowsL ns).map dInts)), .im (.lst ((((rowsL ns).take i).filter (isCalm ns pay)).map dInts)), a5, a6, a7, a8, a9, a10, a11, a12, a13, a14], ⟨_, _, _, _, rfl⟩, ?_, ?_⟩
        · rintro j x δ ed ⟨a5, a6, a7, a8, rfl⟩
          obtain ⟨hj, rfl⟩ := getm_map ed
          exact l3_row ho hj fun a6 a7 a8 => ⟨_, _, _, _, rfl⟩
        · rintro δ ⟨a5, a6, a7, a8, rfl⟩
          rw [List.length_map, List.take_length]
          rw [show (rowsL ns).filter (isCalm ns pay) = calmL ns pay from rfl]
          have ed : dep (D.tup ((calmL ns pay).map dInts)) ≤ 32 := by
            unfold dep
            have := deps_rows (calmL ns pay)
            omega
          simp only [gRet, gAndV, gOrV, gNotV, gInst, isSub_int, isSub_bool, isSub_tuple, gVar, gSeq, gAsg, gNm, gC, gF, gLst, gConsA, gNilA, gTupE, gCallB, gCallF, gCallD, gCallR, gOpt, gOptP, cLen, cAbs, cAll, cTuple, cList, gOp, oInt, oIntC, oAdd, oMulI, oNe, oEq, oIs, oIsnot, eqD_int, dep, gIx, gChain, gChain3, gTest, isBl, gIfS, gIt, gIl, gRng1, gRng2, gApp, gExt, gFrz, gAsgO, gNext, gTru, gNot, gAnd, gOr, gPart, gNoP, gSlT, gCatL, gNeg, gNm2, gZip, gNotT, truD, gPeek, gPeekT, gPeekF, gEnumT, gEnumL, cInt, gPar, gIfE, eq_self, if_true, ↓reduceIte, Bool.false_eq_true, if_false, List.getElem?_cons_zero, List.getElem?_cons_succ, List.set_cons_zero, List.set_cons_succ, Fcalm ho, eqD_self, Bool.not_true, e0]
          refine ⟨ed, fun i δ => ∃ (a5 a7 a9 a10 a11 a12 a13 a14 : Sl), δ = [.im (.lst (ns0.map D.int)), .im (.int (ns0.take 4)[_]), .im (meetD ns pay), .im (.lst ((rowsL ns).map dInts)), .im (.lst ((calmL ns pay).map dInts)), a5, a6, a7, a8, a9, a10, a11, a12, a13, a14], ⟨_, _, _, _, _, _, _, _, rfl⟩, ?_, ?_⟩
          · rintro j x δ ed ⟨a5, a7, a9, a10, a11, a12, a13, a14, rfl⟩
            rw [enumD_at] at ed
            cases ex : (ns.map D.int)[j]? with
            | none => rw [ex] at ed; cases ed
            | some y =>
              rw [ex] at ed
              cases ed
              obtain ⟨hj, rfl⟩ := getm_map ex
              rw [← getD_of hj 0]
              simp only [gRet, gAndV, gOrV, gNotV, gInst, isSub_int, isSub_bool, isSub_tuple, gVar, gSeq, gAsg, gNm, gC, gF, gLst, gConsA, gNilA, gTupE, gCallB, gCallF, gCallD, gCallR, gOpt, gOptP, cLen, cAbs, cAll, cTuple, cList, gOp, oInt, oIntC, oAdd, oMulI, oNe, oEq, oIs, oIsnot, eqD_int, dep, gIx, gChain, gChain3, gTest, isBl, gIfS, gIt, gIl, gRng1, gRng2, gApp, gExt, gFrz, gAsgO, gNext, gTru, gNot, gAnd, gOr, gPart, gNoP, gSlT, gCatL, gNeg, gNm2, gZip, gNotT, truD, gPeek, gPeekT, gPeekF, gEnumT, gEnumL, cInt, gPar, gIfE, eq_self, if_true, ↓reduceIte, Bool.false_eq_true, if_false, List.getElem?_cons_zero, List.getElem?_cons_succ, List.set_cons_zero, List.set_cons_succ]
              exact l3_each ho hj fun _ _ _ _ _ _ => ⟨_, _, _, _, _, _, _, _, rfl⟩
          · rintro δ ⟨a5, a7, a9, a10, a11, a12, a13, a14, rfl⟩
            exact ⟨_, _, _, _, _, _, _, _, _, _, _, _, _, _, rfl⟩
      · rintro δ ⟨a1, a2, a3, a4, a5, a6, a7, a8, a9, a10, a11, a12, a13, a14, rfl⟩
        trivial
    · cases h'
end L2
namespace L2
open PySem PySem.Spec PyProof.Rows
theorem vc_rows_of : ∀ ds d, F_rows_of ds = some d → g_rows_of (retD d) (dstart ["deeds", "rows", "many", "longer", "row", "deed"] ds)
  | [.tup es], d, h => by
    obtain ⟨ns, rfl, ho, rfl⟩ := onDeeds_eq (show onDeeds es (fun ns => D.tup ((rowsL ns).map dInts)) = some d from h)
    show g_rows_of _ [.im (.tup (ns.map D.int)), .un, .un, .un, .un, .un]
    simp only [g_rows_of, g_rows_of_1, gRet, gAndV, gOrV, gNotV, gInst, isSub_int, isSub_bool, isSub_tuple, gVar, gSeq, gAsg, gNm, gC, gF, gLst, gConsA, gNilA, gTupE, gCallB, gCallF, gCallD, gCallR, gOpt, gOptP, cLen, cAbs, cAll, cTuple, cList, gOp, oInt, oIntC, oAdd, oMul, oNe, oEq, oIs, oIsnot, eqD, dep, gIx, gChain, gChain3, gTest, isBl, gIfS, gIt, gIl, gRng1, gRng2, gApp, gExt, gFrz, gAsgO, gNext, gTru, gNot, gAnd, gOr, gPart, gNoP, gSlT, gCatL, gNeg, gNm2, gZip, gNotT, truD, gPeek, gPeekT, gPeekF, gEnumT, gEnumL, cInt, gPar, gIfE, eq_self, if_true, ↓reduceIte, Bool.false_eq_true, if_false, List.getElem?_cons_zero, List.getElem?_cons_succ, List.set_cons_zero, List.set_cons_succ, gFor]
    refine ⟨by decide, by decide, fun i δ => ∃ a b c e, δ = [.im (.tup (ns.map D.int)), .im (.lst ((rowsL (ns.take i)).map dInts)), a, b, c, e], ⟨.un, .un, .un, .un, rfl⟩, ?_, ?_⟩
    · rintro i d δ ed ⟨a, b, c, e, rfl⟩
      obtain ⟨hi, rfl⟩ := getm_map ed
      obtain ⟨f1, f2, f3, f4⟩ := row_facts ho hi
      generalize hR : rowsL (ns.take i) = R at *
      generalize hn : ns[i] = n at *
      simp only [gRet, gAndV, gOrV, gNotV, gInst, isSub_int, isSub_bool, isSub_tuple, gVar, gSeq, gAsg, gNm, gC, gF, gLst, gConsA, gNilA, gTupE, gCallB, gCallF, gCallD, gCallR, gOpt, gOptP, cLen, cAbs, cAll, cTuple, cList, gOp, oInt, oIntC, oAdd, oMul, oNe, oEq, oIs, oIsnot, eqD, dep, gIx, gChain, gChain3, gTest, isBl, gIfS, gIt, gIl, gRng1, gRng2, gApp, gExt, gFrz, gAsgO, gNext, gTru, gNot, gAnd, gOr, gPart, gNoP, gSlT, gCatL, gNeg, gNm2, gZip, gNotT, truD, gPeek, gPeekT, gPeekF, gEnumT, gEnumL, cInt, gPar, gIfE, eq_self, if_true, ↓reduceIte, Bool.false_eq_true, if_false, List.getElem?_cons_zero, List.getElem?_cons_succ, List.set_cons_zero, List.set_cons_succ]
      refine ⟨by decide, fun j δ => ∃ c e, δ = [.im (.tup (ns.map D.int)), .im (.lst (R.map dInts)), .im (.int n), .ow ((rowStep (R.take j) n).map dInts), c, e], ⟨c, e, rfl⟩, ?_, ?_⟩
      · rintro j d δ ed ⟨c, e, rfl⟩
        obtain ⟨hj, rfl⟩ := getm_map ed
        have fr := f4 R[j] (List.getElem_mem hj)
        simp only [gRet, gAndV, gOrV, gNotV, gInst, isSub_int, isSub_bool, isSub_tuple, gVar, gSeq, gAsg, gNm, gC, gF, gLst, gConsA, gNilA, gTupE, gCallB, gCallF, gCallD, gCallR, gOpt, gOptP, cLen, cAbs, cAll, cTuple, cList, gOp, oInt, oIntC, oAdd, oMul, oNe, oEq, oIs, oIsnot, eqD, dep, gIx, gChain, gChain3, gTest, isBl, gIfS, gIt, gIl, gRng1, gRng2, gApp, gExt, gFrz, gAsgO, gNext, gTru, gNot, gAnd, gOr, gPart, gNoP, gSlT, gCatL, gNeg, gNm2, gZip, gNotT, truD, gPeek, gPeekT, gPeekF, gEnumT, gEnumL, cInt, gPar, gIfE, eq_self, if_true, ↓reduceIte, Bool.false_eq_true, if_false, List.getElem?_cons_zero, List.getElem?_cons_succ, List.set_cons_zero, List.set_cons_succ]
        refine ⟨by omega, fun k δ => ∃ e, δ = [.im (.tup (ns.map D.int)), .im (.lst (R.map dInts)), .im (.int n), .ow ((rowStep (R.take j) n).map dInts ++ ((List.range k).map fun (m : Nat) => dInts (R[j] ++ [(m : Int)]))), .im (dInts R[j]), e], ⟨e, by simp⟩, ?_, ?_⟩
        · rintro k d δ ed ⟨e, rfl⟩
          unfold rangeD at ed
          obtain ⟨hk, rfl⟩ := getm_map ed
          rw [List.length_range] at hk
          simp only [gRet, gAndV, gOrV, gNotV, gInst, isSub_int, isSub_bool, isSub_tuple, gVar, gSeq, gAsg, gNm, gC, gF, gLst, gConsA, gNilA, gTupE, gCallB, gCallF, gCallD, gCallR, gOpt, gOptP, cLen, cAbs, cAll, cTuple, cList, gOp, oInt, oIntC, oAdd, oMul, oNe, oEq, oIs, oIsnot, eqD, dep, gIx, gChain, gChain3, gTest, isBl, gIfS, gIt, gIl, gRng1, gRng2, gApp, gExt, gFrz, gAsgO, gNext, gTru, gNot, gAnd, gOr, gPart, gNoP, gSlT, gCatL, gNeg, gNm2, gZip, gNotT, truD, gPeek, gPeekT, gPeekF, gEnumT, gEnumL, cInt, gPar, gIfE, eq_self, if_true, ↓reduceIte, Bool.false_eq_true, if_false, List.getElem?_cons_zero, List.getElem?_cons_succ, List.set_cons_zero, List.set_cons_succ, dInts, List.getElem_range, Int.zero_add]
          have hl : (rowStep (R.take j) n).length ≤ 81 := by
            rw [rowStep_length, List.length_take]
            exact Nat.le_trans (Nat.mul_le_mul (Nat.le_trans (Nat.min_le_right _ _) f3) (show n.toNat ≤ 3 by omega)) (by decide)
          refine ⟨ends_le (by simp), by simp; exact ends_le (by omega), ?_, ?_⟩
          · refine small1000 ?_
            simp
            omega
          · refine ⟨.im (.int (k : Int)), ?_⟩
            rw [List.range_succ, List.map_append, ← List.append_assoc]
            simp only [List.map_cons, List.map_nil, List.map_append, dInts]
        · rintro δ ⟨e, rfl⟩
          refine ⟨.im (dInts R[j]), e, ?_⟩
          rw [rowStep_take R n j hj, List.map_append, List.map_map]
          simp [rangeD, Function.comp_def]
      · rintro δ ⟨c, e, rfl⟩
        simp only [gRet, gAndV, gOrV, gNotV, gInst, isSub_int, isSub_bool, isSub_tuple, gVar, gSeq, gAsg, gNm, gC, gF, gLst, gConsA, gNilA, gTupE, gCallB, gCallF, gCallD, gCallR, gOpt, gOptP, cLen, cAbs, cAll, cTuple, cList, gOp, oInt, oIntC, oAdd, oMul, oNe, oEq, oIs, oIsnot, eqD, dep, gIx, gChain, gChain3, gTest, isBl, gIfS, gIt, gIl, gRng1, gRng2, gApp, gExt, gFrz, gAsgO, gNext, gTru, gNot, gAnd, gOr, gPart, gNoP, gSlT, gCatL, gNeg, gNm2, gZip, gNotT, truD, gPeek, gPeekT, gPeekF, gEnumT, gEnumL, cInt, gPar, gIfE, eq_self, if_true, ↓reduceIte, Bool.false_eq_true, if_false, List.getElem?_cons_zero, List.getElem?_cons_succ, List.set_cons_zero, List.set_cons_succ]
        rw [rowsL_take ns i hi, hR, hn, List.length_map, List.take_length]
        exact ⟨_, _, _, _, rfl⟩
    · rintro δ ⟨a, b, c, e, rfl⟩
      simp only [gRet, gAndV, gOrV, gNotV, gInst, isSub_int, isSub_bool, isSub_tuple, gVar, gSeq, gAsg, gNm, gC, gF, gLst, gConsA, gNilA, gTupE, gCallB, gCallF, gCallD, gCallR, gOpt, gOptP, cLen, cAbs, cAll, cTuple, cList, gOp, oInt, oIntC, oAdd, oMul, oNe, oEq, oIs, oIsnot, eqD, dep, gIx, gChain, gChain3, gTest, isBl, gIfS, gIt, gIl, gRng1, gRng2, gApp, gExt, gFrz, gAsgO, gNext, gTru, gNot, gAnd, gOr, gPart, gNoP, gSlT, gCatL, gNeg, gNm2, gZip, gNotT, truD, gPeek, gPeekT, gPeekF, gEnumT, gEnumL, cInt, gPar, gIfE, eq_self, if_true, ↓reduceIte, Bool.false_eq_true, if_false, List.getElem?_cons_zero, List.getElem?_cons_succ, List.set_cons_zero, List.set_cons_succ]
      rw [List.length_map, List.take_length]
theorem vc_all_rows : ∀ ds d, F_all_rows ds = some d → g_all_rows (retD d) (dstart ["meeting"] ds)
  | [.tup [.tup es, p]], d, h => by
    obtain ⟨ns, rfl, ho, rfl⟩ := onDeeds_eq (show onDeeds es (fun ns => D.tup ((rowsL ns).map dInts)) = some d from h)
    show g_all_rows _ [.im (.tup [.tup (ns.map D.int), p])]
    simp [g_all_rows, gRet, gAndV, gOrV, gNotV, gInst, isSub_int, isSub_bool, isSub_tuple, gVar, gSeq, gAsg, gNm, gC, gF, gLst, gConsA, gNilA, gTupE, gCallB, gCallF, gCallD, gCallR, gOpt, gOptP, cLen, cAbs, cAll, cTuple, cList, gOp, oInt, oIntC, oAdd, oMul, oNe, oEq, oIs, oIsnot, eqD, dep, gIx, gChain, gChain3, gTest, isBl, gIfS, gIt, gIl, gRng1, gRng2, gApp, gExt, gFrz, gAsgO, gNext, gTru, gNot, gAnd, gOr, gPart, gNoP, gSlT, gCatL, gNeg, gNm2, gZip, gNotT, truD, gPeek, gPeekT, gPeekF, gEnumT, gEnumL, cInt, gPar, gIfE, eq_self, if_true, ↓reduceIte, Bool.false_eq_true, if_false, List.getElem?_cons_zero, List.getElem?_cons_succ, List.set_cons_zero, List.set_cons_succ, atI, ixN, F_rows_of, onDeeds_of _ ho]
theorem Fplace {ns r : List Int} (ho : okDeeds ns = true) (hr : r ∈ rowsL ns) : F_place_of [dInts r, dInts ns] = some (.int ((rowsL ns).idxOf r : Nat)) := by
  simp only [F_place_of, rowD_of, ints_map]
  rw [if_pos ⟨ho, hr⟩]
theorem vc_place_of : ∀ ds d, F_place_of ds = some d → g_place_of (retD d) (dstart ["row", "deeds", "place", "deed", "many"] ds)
  | [x, .tup es], d, h => by
    cases e1 : rowD x with
    | none => simp [F_place_of, e1] at h
    | some r =>
      cases e2 : intsD es with
      | none => simp [F_place_of, e1, e2] at h
      | some ns =>
        simp only [F_place_of, e1, e2] at h
        rw [rowD_eq e1, ints_eq e2]
        split at h
        · rename_i hc
          obtain ⟨ho, hr⟩ := hc
          cases h
          have rl := row_len hr
          show g_place_of _ [.im (dInts r), .im (.tup (ns.map D.int)), .un, .un, .un]
          simp only [g_place_of, g_place_of_1, gRet, gAndV, gOrV, gNotV, gInst, isSub_int, isSub_bool, isSub_tuple, gVar, gSeq, gAsg, gNm, gC, gF, gLst, gConsA, gNilA, gTupE, gCallB, gCallF, gCallD, gCallR, gOpt, gOptP, cLen, cAbs, cAll, cTuple, cList, gOp, oInt, oIntC, oAdd, oMulI, oNe, oEq, oIs, oIsnot, eqD_int, dep, gIx, gChain, gChain3, gTest, isBl, gIfS, gIt, gIl, gRng1, gRng2, gApp, gExt, gFrz, gAsgO, gNext, gTru, gNot, gAnd, gOr, gPart, gNoP, gSlT, gCatL, gNeg, gNm2, gZip, gNotT, truD, gPeek, gPeekT, gPeekF, gEnumT, gEnumL, cInt, gPar, gIfE, eq_self, if_true, ↓reduceIte, Bool.false_eq_true, if_false, List.getElem?_cons_zero, List.getElem?_cons_succ, List.set_cons_zero, List.set_cons_succ, dInts, zip_ints, gFor]
          refine ⟨fun i δ => ∃ a b, δ = [.im (.tup (r.map D.int)), .im (.tup (ns.map D.int)), .im (.int (placeI (r.take i) (ns.take i))), a, b], ⟨.un, .un, rfl⟩, ?_, ?_⟩
          · rintro i d δ ed ⟨a, b, rfl⟩
            obtain ⟨hi, rfl⟩ := getm_map ed
            rw [List.length_zip] at hi
            have h1 : i < r.length := by omega
            have h2 : i < ns.length := by omega
            have bd := place_bd ho hr i
            simp only [gRet, gAndV, gOrV, gNotV, gInst, isSub_int, isSub_bool, isSub_tuple, gVar, gSeq, gAsg, gNm, gC, gF, gLst, gConsA, gNilA, gTupE, gCallB, gCallF, gCallD, gCallR, gOpt, gOptP, cLen, cAbs, cAll, cTuple, cList, gOp, oInt, oIntC, oAdd, oMulI, oNe, oEq, oIs, oIsnot, eqD_int, dep, gIx, gChain, gChain3, gTest, isBl, gIfS, gIt, gIl, gRng1, gRng2, gApp, gExt, gFrz, gAsgO, gNext, gTru, gNot, gAnd, gOr, gPart, gNoP, gSlT, gCatL, gNeg, gNm2, gZip, gNotT, truD, gPeek, gPeekT, gPeekF, gEnumT, gEnumL, cInt, gPar, gIfE, eq_self, if_true, ↓reduceIte, Bool.false_eq_true, if_false, List.getElem?_cons_zero, List.getElem?_cons_succ, List.set_cons_zero, List.set_cons_succ, List.getElem_zip]
            refine ⟨.inl ⟨by omega, by omega⟩, .im (.int r[i]), .im (.int ns[i]), ?_⟩
            rw [placeI_take h1 h2 rl]
          · rintro δ ⟨a, b, rfl⟩
            simp only [gRet, gAndV, gOrV, gNotV, gInst, isSub_int, isSub_bool, isSub_tuple, gVar, gSeq, gAsg, gNm, gC, gF, gLst, gConsA, gNilA, gTupE, gCallB, gCallF, gCallD, gCallR, gOpt, gOptP, cLen, cAbs, cAll, cTuple, cList, gOp, oInt, oIntC, oAdd, oMulI, oNe, oEq, oIs, oIsnot, eqD_int, dep, gIx, gChain, gChain3, gTest, isBl, gIfS, gIt, gIl, gRng1, gRng2, gApp, gExt, gFrz, gAsgO, gNext, gTru, gNot, gAnd, gOr, gPart, gNoP, gSlT, gCatL, gNeg, gNm2, gZip, gNotT, truD, gPeek, gPeekT, gPeekF, gEnumT, gEnumL, cInt, gPar, gIfE, eq_self, if_true, ↓reduceIte, Bool.false_eq_true, if_false, List.getElem?_cons_zero, List.getElem?_cons_succ, List.set_cons_zero, List.set_cons_succ]
            rw [List.length_map, List.length_zip, rl, Nat.min_self, List.take_length, ← rl, List.take_length, place_idx hr]
        · cases h
theorem Fwith {r : List Int} {h : Nat} {k : Int} (hl : r.length ≤ 1000) (hh : h < r.length) : F_with_deed [dInts r, .int h, .int k] = some (dInts (r.set h k)) := by
  simp only [F_with_deed, rowD_of]
  rw [if_pos ⟨hl, by omega, by omega⟩]
  rfl
theorem vc_with_deed : ∀ ds d, F_with_deed ds = some d → g_with_deed (retD d) (dstart ["row", "hand", "deed"] ds)
  | [x, .int i, .int k], d, h => by
    cases e : rowD x with
    | none => simp [F_with_deed, e] at h
    | some r =>
      simp only [F_with_deed, e] at h
      rw [rowD_eq e]
      split at h
      · rename_i hc
        cases h
        obtain ⟨n, rfl⟩ : ∃ n : Nat, i = n := ⟨i.toNat, by omega⟩
        show g_with_deed _ [.im (dInts r), .im (.int n), .im (.int k)]
        have hn : n < r.length := by omega
        have e3 : ((n : Int) + 1) = ((n + 1 : Nat) : Int) := by omega
        simp only [g_with_deed, gRet, gAndV, gOrV, gNotV, gInst, isSub_int, isSub_bool, isSub_tuple, gVar, gSeq, gAsg, gNm, gC, gF, gLst, gConsA, gNilA, gTupE, gCallB, gCallF, gCallD, gCallR, gOpt, gOptP, cLen, cAbs, cAll, cTuple, cList, gOp, oInt, oIntC, oAdd, oMul, oNe, oEq, oIs, oIsnot, eqD, dep, gIx, gChain, gChain3, gTest, isBl, gIfS, gIt, gIl, gRng1, gRng2, gApp, gExt, gFrz, gAsgO, gNext, gTru, gNot, gAnd, gOr, gPart, gNoP, gSlT, gCatL, gNeg, gNm2, gZip, gNotT, truD, gPeek, gPeekT, gPeekF, gEnumT, gEnumL, cInt, gPar, gIfE, eq_self, if_true, ↓reduceIte, Bool.false_eq_true, if_false, List.getElem?_cons_zero, List.getElem?_cons_succ, List.set_cons_zero, List.set_cons_succ, dInts, e3, cutD_to r n hn, cutD_from r (n + 1) hn, List.length_append, List.length_map, List.length_cons, List.length_nil, List.length_take, List.length_drop]
        refine ⟨by decide, ends_le (by omega), ends_le (by omega), ?_⟩
        rw [Int.toNat_natCast, ← cut_set r n k hn]
        simp
      · cases h
theorem FpaidQ {ns : List Int} {pay : List (List Int)} {r : List Int} (ho : MeetOk ns pay) (hr : r ∈ rowsL ns) : F_paid [meetD ns pay, dInts r] = some (dInts (payAt ns pay r)) := by
  simp only [F_paid, onMeet_of ho, onRow_of hr]
theorem vc_paid : ∀ ds d, F_paid ds = some d → g_paid (retD d) (dstart ["meeting", "row"] ds)
  | [m, x], d, h => by
    obtain ⟨ns, pay, rfl, ho, h⟩ := onMeet_eq (show onMeet m _ = some d from h)
    obtain ⟨r, rfl, hr, h⟩ := onRow_eq h
    cases h
    show g_paid _ [.im (meetD ns pay), .im (dInts r)]
    have e0 : atI [dInts ns, D.tup (pay.map dInts)] 0 = some (dInts ns) := rfl
    have e1 : atI [dInts ns, D.tup (pay.map dInts)] 1 = some (D.tup (pay.map dInts)) := rfl
    have e2 : atI (pay.map dInts) ((rowsL ns).idxOf r : Nat) = some (dInts (payAt ns pay r)) := atI_rows (payAt_ix ho hr)
    simp only [g_paid, gRet, gAndV, gOrV, gNotV, gInst, isSub_int, isSub_bool, isSub_tuple, gVar, gSeq, gAsg, gNm, gC, gF, gLst, gConsA, gNilA, gTupE, gCallB, gCallF, gCallD, gCallR, gOpt, gOptP, cLen, cAbs, cAll, cTuple, cList, gOp, oInt, oIntC, oAdd, oMul, oNe, oEq, oIs, oIsnot, eqD, dep, gIx, gChain, gChain3, gTest, isBl, gIfS, gIt, gIl, gRng1, gRng2, gApp, gExt, gFrz, gAsgO, gNext, gTru, gNot, gAnd, gOr, gPart, gNoP, gSlT, gCatL, gNeg, gNm2, gZip, gNotT, truD, gPeek, gPeekT, gPeekF, gEnumT, gEnumL, cInt, gPar, gIfE, eq_self, if_true, ↓reduceIte, Bool.false_eq_true, if_false, List.getElem?_cons_zero, List.getElem?_cons_succ, List.set_cons_zero, List.set_cons_succ, meetD, e0, e1, Fplace ho.ok hr, e2]
theorem Fpays {ns : List Int} {pay : List (List Int)} {r : List Int} {h : Nat} (ho : MeetOk ns pay) (hh : h < ns.length) (hr : r ∈ rowsL ns) : F_pays_by_deed [meetD ns pay, .int h, dInts r] = some (.lst (((deedsL ns h).map fun k => payH ns pay (r.set h k) h).map D.int)) := by
  simp only [F_pays_by_deed, onMeet_of ho, onHand_of hh, onRow_of hr]
theorem deedsP_len {ns : List Int} {pay : List (List Int)} {h : Nat} (ho : MeetOk ns pay) (hh : h < ns.length) : (deedsL ns h).length ≤ 3 := by
  have := deeds_ne ho hh
  unfold deedsL
  simp only [List.length_map, List.length_range]
  omega
theorem vc_pays_by_deed : ∀ ds d, F_pays_by_deed ds = some d → g_pays_by_deed (retD d) (dstart ["meeting", "hand", "row"] ds)
  | [m, y, x], d, h => by
    obtain ⟨ns, pay, rfl, ho, h⟩ := onMeet_eq (show onMeet m _ = some d from h)
    obtain ⟨i, rfl, hi, h⟩ := onHand_eq h
    obtain ⟨r, rfl, hr, h⟩ := onRow_eq h
    cases h
    show g_pays_by_deed _ [.im (meetD ns pay), .im (.int i), .im (dInts r)]
    have e0 : atI [dInts ns, D.tup (pay.map dInts)] 0 = some (dInts ns) := rfl
    have e1 : atI (ns.map D.int) (i : Nat) = some (.int (ns.getD i 0)) := atI_ints hi
    have d3 := deeds_ne ho hi
    have n3 := (okDeeds_mem ho.ok).1
    have hd := deedsP_len ho hi
    have rl := row_len hr
    simp only [g_pays_by_deed, gRet, gAndV, gOrV, gNotV, gInst, isSub_int, isSub_bool, isSub_tuple, gVar, gSeq, gAsg, gNm, gC, gF, gLst, gConsA, gNilA, gTupE, gCallB, gCallF, gCallD, gCallR, gOpt, gOptP, cLen, cAbs, cAll, cTuple, cList, gOp, oInt, oIntC, oAdd, oMul, oNe, oEq, oIs, oIsnot, eqD, dep, gIx, gChain, gChain3, gTest, isBl, gIfS, gIt, gIl, gRng1, gRng2, gApp, gExt, gFrz, gAsgO, gNext, gTru, gNot, gAnd, gOr, gPart, gNoP, gSlT, gCatL, gNeg, gNm2, gZip, gNotT, truD, gPeek, gPeekT, gPeekF, gEnumT, gEnumL, cInt, gPar, gIfE, eq_self, if_true, ↓reduceIte, Bool.false_eq_true, if_false, List.getElem?_cons_zero, List.getElem?_cons_succ, List.set_cons_zero, List.set_cons_succ, meetD, e0, gComp]
    simp only [e1]
    refine ⟨⟨by omega, by omega⟩, ?_, fun x => match x with
      | .int k => .int (payH ns pay (r.set i k) i)
      | _ => .non, fun x hx => ?_, ?_⟩
    · rw [range_deeds, List.length_map]
      exact ends_le (by omega)
    · rw [range_deeds] at hx
      obtain ⟨k, hk, rfl⟩ := List.mem_map.mp hx
      have hk' := deed_mem.mp hk
      have hs := row_set hr hk'.1 hk'.2
      have ep : F_paid [.tup [.tup (ns.map D.int), .tup (pay.map dInts)], dInts (r.set i k)] = some (dInts (payAt ns pay (r.set i k))) := FpaidQ ho hs
      have ei : atI ((payAt ns pay (r.set i k)).map D.int) (i : Nat) = some (.int (payH ns pay (r.set i k) i)) := atI_ints (by rw [(payAt_ok ho hs).1]; exact hi)
      simp only [δc, List.map_cons, List.map_nil, gRet, gAndV, gOrV, gNotV, gInst, isSub_int, isSub_bool, isSub_tuple, gVar, gSeq, gAsg, gNm, gC, gF, gLst, gConsA, gNilA, gTupE, gCallB, gCallF, gCallD, gCallR, gOpt, gOptP, cLen, cAbs, cAll, cTuple, cList, gOp, oInt, oIntC, oAdd, oMul, oNe, oEq, oIs, oIsnot, eqD, dep, gIx, gChain, gChain3, gTest, isBl, gIfS, gIt, gIl, gRng1, gRng2, gApp, gExt, gFrz, gAsgO, gNext, gTru, gNot, gAnd, gOr, gPart, gNoP, gSlT, gCatL, gNeg, gNm2, gZip, gNotT, truD, gPeek, gPeekT, gPeekF, gEnumT, gEnumL, cInt, gPar, gIfE, eq_self, if_true, ↓reduceIte, Bool.false_eq_true, if_false, List.getElem?_cons_zero, List.getElem?_cons_succ, List.set_cons_zero, List.set_cons_succ, Fwith (show r.length ≤ 1000 by omega) (show i < r.length by omega), ep]
      simp only [ei]
    · rw [range_deeds, List.map_map, List.map_map]
      rfl
end L2
namespace L2
open PySem PySem.Spec PyProof.Rows
theorem FbestP {ns : List Int} {pay : List (List Int)} {r : List Int} {h : Nat} (ho : MeetOk ns pay) (hh : h < ns.length) (hr : r ∈ rowsL ns) : F_best_deeds [meetD ns pay, .int h, dInts r] = some (dInts (bestL ns pay h r)) := by
  simp only [F_best_deeds, onMeet_of ho, onHand_of hh, onRow_of hr]
theorem enumD_map (f : Nat → Int) (n : Nat) : enumD (((List.range n).map f).map D.int) = (List.range n).map fun (k : Nat) => D.tup [.int (k : Int), .int (f k)] := by
  refine List.ext_getElem? fun i => ?_
  rw [enumD_at, List.getElem?_map, List.getElem?_map, List.getElem?_map]
  by_cases h : i < n
  · rw [List.getElem?_range h]
    rfl
  · rw [List.getElem?_eq_none (by simpa using h)]
    rfl
theorem vc_best_deeds : ∀ ds d, F_best_deeds ds = some d → g_best_deeds (retD d) (dstart ["meeting", "hand", "row", "pays", "most"] ds)
  | [m, y, x], d, h => by
    obtain ⟨ns, pay, rfl, ho, h⟩ := onMeet_eq (show onMeet m _ = some d from h)
    obtain ⟨i, rfl, hi, h⟩ := onHand_eq h
    obtain ⟨r, rfl, hr, h⟩ := onRow_eq h
    cases h
    show g_best_deeds _ [.im (meetD ns pay), .im (.int i), .im (dInts r), .un, .un]
    have hd := deedsP_len ho hi
    have hne : (deedsL ns i).map (fun k => payH ns pay (r.set i k) i) ≠ [] := by simpa using deedsL_ne ho hi
    have hl : (((deedsL ns i).map fun k => payH ns pay (r.set i k) i).map D.int).length ≤ 3 := by simpa using hd
    have et : maxI ((deedsL ns i).map fun k => payH ns pay (r.set i k) i) = topH ns pay i r := rfl
    have en : enumD (((deedsL ns i).map fun k => payH ns pay (r.set i k) i).map D.int) = (deedsL ns i).map fun k => D.tup [.int k, .int (payH ns pay (r.set i k) i)] := by
      have e1 : ((deedsL ns i).map fun k => payH ns pay (r.set i k) i) = (List.range (ns.getD i 0).toNat).map fun (k : Nat) => payH ns pay (r.set i (k : Int)) i := by
        unfold deedsL
        rw [List.map_map]
        rfl
      rw [e1, enumD_map]
      unfold deedsL
      rw [List.map_map]
      rfl
    simp only [g_best_deeds, g_best_deeds_2, g_best_deeds_1, gRet, gAndV, gOrV, gNotV, gInst, isSub_int, isSub_bool, isSub_tuple, gVar, gSeq, gAsg, gNm, gC, gF, gLst, gConsA, gNilA, gTupE, gCallB, gCallF, gCallD, gCallR, gOpt, gOptP, cLen, cAbs, cAll, cTuple, cList, gOp, oInt, oIntC, oAdd, oMulI, oNe, oEq, oIs, oIsnot, eqD_int, dep, gIx, gChain, gChain3, gTest, isBl, gIfS, gIt, gIl, gRng1, gRng2, gApp, gExt, gFrz, gAsgO, gNext, gTru, gNot, gAnd, gOr, gPart, gNoP, gSlT, gCatL, gNeg, gNm2, gZip, gNotT, truD, gPeek, gPeekT, gPeekF, gEnumT, gEnumL, cInt, gPar, gIfE, eq_self, if_true, ↓reduceIte, Bool.false_eq_true, if_false, List.getElem?_cons_zero, List.getElem?_cons_succ, List.set_cons_zero, List.set_cons_succ, Fpays ho hi hr, cNums, seqOf, ints_map]
    refine ⟨hne, ?_⟩
    simp only [et, gRet, gAndV, gOrV, gNotV, gInst, isSub_int, isSub_bool, isSub_tuple, gVar, gSeq, gAsg, gNm, gC, gF, gLst, gConsA, gNilA, gTupE, gCallB, gCallF, gCallD, gCallR, gOpt, gOptP, cLen, cAbs, cAll, cTuple, cList, gOp, oInt, oIntC, oAdd, oMulI, oNe, oEq, oIs, oIsnot, eqD_int, dep, gIx, gChain, gChain3, gTest, isBl, gIfS, gIt, gIl, gRng1, gRng2, gApp, gExt, gFrz, gAsgO, gNext, gTru, gNot, gAnd, gOr, gPart, gNoP, gSlT, gCatL, gNeg, gNm2, gZip, gNotT, truD, gPeek, gPeekT, gPeekF, gEnumT, gEnumL, cInt, gPar, gIfE, eq_self, if_true, ↓reduceIte, Bool.false_eq_true, if_false, List.getElem?_cons_zero, List.getElem?_cons_succ, List.set_cons_zero, List.set_cons_succ, en, gCompIf]
    refine ⟨by rw [List.length_map]; exact ends_le (by omega), fun x => match x with
      | .tup [_, .int p] => decide (p = topH ns pay i r)
      | _ => false, fun x => match x with
      | .tup [k, _] => k
      | _ => .non, fun x hx => ?_, ?_⟩
    · obtain ⟨k, hk, rfl⟩ := List.mem_map.mp hx
      simp only [δc, List.map_cons, List.map_nil, gRet, gAndV, gOrV, gNotV, gInst, isSub_int, isSub_bool, isSub_tuple, gVar, gSeq, gAsg, gNm, gC, gF, gLst, gConsA, gNilA, gTupE, gCallB, gCallF, gCallD, gCallR, gOpt, gOptP, cLen, cAbs, cAll, cTuple, cList, gOp, oInt, oIntC, oAdd, oMulI, oNe, oEq, oIs, oIsnot, eqD_int, dep, gIx, gChain, gChain3, gTest, isBl, gIfS, gIt, gIl, gRng1, gRng2, gApp, gExt, gFrz, gAsgO, gNext, gTru, gNot, gAnd, gOr, gPart, gNoP, gSlT, gCatL, gNeg, gNm2, gZip, gNotT, truD, gPeek, gPeekT, gPeekF, gEnumT, gEnumL, cInt, gPar, gIfE, eq_self, if_true, ↓reduceIte, Bool.false_eq_true, if_false, List.getElem?_cons_zero, List.getElem?_cons_succ, List.set_cons_zero, List.set_cons_succ]
      refine ⟨by decide, ?_, fun _ => trivial⟩
      rw [Bool.eq_iff_iff]
      simp
    · rw [List.filter_map, List.map_map]
      rfl
theorem FisCalm {ns : List Int} {pay : List (List Int)} {r : List Int} (ho : MeetOk ns pay) (hr : r ∈ rowsL ns) : F_is_calm [meetD ns pay, dInts r] = some (.bl (isCalm ns pay r)) := by
  simp only [F_is_calm, onMeet_of ho, onRow_of hr]
theorem vc_is_calm : ∀ ds d, F_is_calm ds = some d → g_is_calm (retD d) (dstart ["meeting", "row"] ds)
  | [m, x], d, h => by
    obtain ⟨ns, pay, rfl, ho, h⟩ := onMeet_eq (show onMeet m _ = some d from h)
    obtain ⟨r, rfl, hr, h⟩ := onRow_eq h
    cases h
    show g_is_calm _ [.im (meetD ns pay), .im (dInts r)]
    have rl := row_len hr
    have n3 := (okDeeds_mem ho.ok).1
    simp only [g_is_calm, gRet, gAndV, gOrV, gNotV, gInst, isSub_int, isSub_bool, isSub_tuple, gVar, gSeq, gAsg, gNm, gC, gF, gLst, gConsA, gNilA, gTupE, gCallB, gCallF, gCallD, gCallR, gOpt, gOptP, cLen, cAbs, cAll, cTuple, cList, gOp, oInt, oIntC, oAdd, oMul, oNe, oEq, oIs, oIsnot, eqD, dep, gIx, gChain, gChain3, gTest, isBl, gIfS, gIt, gIl, gRng1, gRng2, gApp, gExt, gFrz, gAsgO, gNext, gTru, gNot, gAnd, gOr, gPart, gNoP, gSlT, gCatL, gNeg, gNm2, gZip, gNotT, truD, gPeek, gPeekT, gPeekF, gEnumT, gEnumL, cInt, gPar, gIfE, eq_self, if_true, ↓reduceIte, Bool.false_eq_true, if_false, List.getElem?_cons_zero, List.getElem?_cons_succ, List.set_cons_zero, List.set_cons_succ, enumD_ints, gComp]
    refine ⟨by simp only [List.length_map, List.length_range]; exact ends_le (by omega), fun x => match x with
      | .tup [.int k, .int y] => .bl ((bestL ns pay k.toNat r).contains y)
      | _ => .non, fun x hx => ?_, ?_⟩
    · obtain ⟨k, hk, rfl⟩ := List.mem_map.mp hx
      have hk' := List.mem_range.mp hk
      simp only [δc, List.map_cons, List.map_nil, gRet, gAndV, gOrV, gNotV, gInst, isSub_int, isSub_bool, isSub_tuple, gVar, gSeq, gAsg, gNm, gC, gF, gLst, gConsA, gNilA, gTupE, gCallB, gCallF, gCallD, gCallR, gOpt, gOptP, cLen, cAbs, cAll, cTuple, cList, gOp, oInt, oIntC, oAdd, oMul, oNe, oEq, oIs, oIsnot, eqD, dep, gIx, gChain, gChain3, gTest, isBl, gIfS, gIt, gIl, gRng1, gRng2, gApp, gExt, gFrz, gAsgO, gNext, gTru, gNot, gAnd, gOr, gPart, gNoP, gSlT, gCatL, gNeg, gNm2, gZip, gNotT, truD, gPeek, gPeekT, gPeekF, gEnumT, gEnumL, cInt, gPar, gIfE, eq_self, if_true, ↓reduceIte, Bool.false_eq_true, if_false, List.getElem?_cons_zero, List.getElem?_cons_succ, List.set_cons_zero, List.set_cons_succ, FbestP ho (show k < ns.length by omega) hr, oIn, seqOf, ansD_ints, deps_ints, any_beq, Int.toNat_natCast]
      exact ⟨by decide, trivial⟩
    · have em : ((List.range r.length).map fun (k : Nat) => D.tup [.int k, .int (r.getD k 0)]).map (fun x => match x with
          | .tup [.int k, .int y] => D.bl ((bestL ns pay k.toNat r).contains y)
          | _ => .non) = ((List.range r.length).map fun k => (bestL ns pay k r).contains (r.getD k 0)).map D.bl := by
        rw [List.map_map, List.map_map]
        rfl
      rw [em, bools_map]
      show D.bl (((List.range r.length).map fun k => (bestL ns pay k r).contains (r.getD k 0)).all id) = _
      unfold isCalm
      rw [rl, List.all_map]
      rfl
theorem FallRows {ns : List Int} {pay : List (List Int)} (ho : MeetOk ns pay) : F_all_rows [meetD ns pay] = some (.tup ((rowsL ns).map dInts)) := onDeeds_of _ ho.ok
theorem vc_calm : ∀ ds d, F_calm ds = some d → g_calm (retD d) (dstart ["meeting"] ds)
  | [m], d, h => by
    obtain ⟨ns, pay, rfl, ho, h⟩ := onMeet_eq (show onMeet m _ = some d from h)
    cases h
    show g_calm _ [.im (meetD ns pay)]
    have l2 := (rows_len ho.ok).2
    simp only [g_calm, gRet, gAndV, gOrV, gNotV, gInst, isSub_int, isSub_bool, isSub_tuple, gVar, gSeq, gAsg, gNm, gC, gF, gLst, gConsA, gNilA, gTupE, gCallB, gCallF, gCallD, gCallR, gOpt, gOptP, cLen, cAbs, cAll, cTuple, cList, gOp, oInt, oIntC, oAdd, oMul, oNe, oEq, oIs, oIsnot, eqD, dep, gIx, gChain, gChain3, gTest, isBl, gIfS, gIt, gIl, gRng1, gRng2, gApp, gExt, gFrz, gAsgO, gNext, gTru, gNot, gAnd, gOr, gPart, gNoP, gSlT, gCatL, gNeg, gNm2, gZip, gNotT, truD, gPeek, gPeekT, gPeekF, gEnumT, gEnumL, cInt, gPar, gIfE, eq_self, if_true, ↓reduceIte, Bool.false_eq_true, if_false, List.getElem?_cons_zero, List.getElem?_cons_succ, List.set_cons_zero, List.set_cons_succ, FallRows ho, gCompIf]
    refine ⟨by rw [List.length_map]; exact ends_le (by omega), fun x => match rowD x with
      | some r => isCalm ns pay r
      | none => false, fun x => x, fun x hx => ?_, ?_⟩
    · obtain ⟨r, hr, rfl⟩ := List.mem_map.mp hx
      simp only [δc, List.map_cons, List.map_nil, gRet, gAndV, gOrV, gNotV, gInst, isSub_int, isSub_bool, isSub_tuple, gVar, gSeq, gAsg, gNm, gC, gF, gLst, gConsA, gNilA, gTupE, gCallB, gCallF, gCallD, gCallR, gOpt, gOptP, cLen, cAbs, cAll, cTuple, cList, gOp, oInt, oIntC, oAdd, oMul, oNe, oEq, oIs, oIsnot, eqD, dep, gIx, gChain, gChain3, gTest, isBl, gIfS, gIt, gIl, gRng1, gRng2, gApp, gExt, gFrz, gAsgO, gNext, gTru, gNot, gAnd, gOr, gPart, gNoP, gSlT, gCatL, gNeg, gNm2, gZip, gNotT, truD, gPeek, gPeekT, gPeekF, gEnumT, gEnumL, cInt, gPar, gIfE, eq_self, if_true, ↓reduceIte, Bool.false_eq_true, if_false, List.getElem?_cons_zero, List.getElem?_cons_succ, List.set_cons_zero, List.set_cons_succ, FisCalm ho hr, rowD_of]
      exact ⟨trivial, fun _ => trivial⟩
    · rw [List.filter_map, List.map_id']
      unfold calmL
      congr 2
      congr 1
      funext r
      simp only [Function.comp, rowD_of]
theorem FleastP {ns : List Int} {pay : List (List Int)} {h : Nat} {k : Int} (ho : MeetOk ns pay) (hh : h < ns.length) (hk : k ∈ deedsL ns h) : F_least_paid [meetD ns pay, .int h, .int k] = some (.int (lowH ns pay h k)) := by
  have := deed_mem.mp hk
  obtain ⟨j, rfl⟩ : ∃ j : Nat, k = j := ⟨k.toNat, by omega⟩
  simp only [F_least_paid, onMeet_of ho, onHand_of hh, onHand_of (show j < (ns.getD h 0).toNat by omega)]
theorem vc_least_paid : ∀ ds d, F_least_paid ds = some d → g_least_paid (retD d) (dstart ["meeting", "hand", "deed"] ds)
  | [m, y, x], d, e => by
    obtain ⟨ns, pay, rfl, ho, e⟩ := onMeet_eq (show onMeet m _ = some d from e)
    obtain ⟨h, rfl, hh, e⟩ := onHand_eq e
    obtain ⟨j, rfl, hj, e⟩ := onHand_eq e
    cases e
    have hk : (j : Int) ∈ deedsL ns h := deed_mem.mpr ⟨by omega, by omega⟩
    generalize (j : Int) = k at *
    show g_least_paid _ [.im (meetD ns pay), .im (.int h), .im (.int k)]
    have l2 := (rows_len ho.ok).2
    simp only [g_least_paid, gRet, gAndV, gOrV, gNotV, gInst, isSub_int, isSub_bool, isSub_tuple, gVar, gSeq, gAsg, gNm, gC, gF, gLst, gConsA, gNilA, gTupE, gCallB, gCallF, gCallD, gCallR, gOpt, gOptP, cLen, cAbs, cAll, cTuple, cList, gOp, oInt, oIntC, oAdd, oMulI, oNe, oEq, oIs, oIsnot, eqD_int, dep, gIx, gChain, gChain3, gTest, isBl, gIfS, gIt, gIl, gRng1, gRng2, gApp, gExt, gFrz, gAsgO, gNext, gTru, gNot, gAnd, gOr, gPart, gNoP, gSlT, gCatL, gNeg, gNm2, gZip, gNotT, truD, gPeek, gPeekT, gPeekF, gEnumT, gEnumL, cInt, gPar, gIfE, eq_self, if_true, ↓reduceIte, Bool.false_eq_true, if_false, List.getElem?_cons_zero, List.getElem?_cons_succ, List.set_cons_zero, List.set_cons_succ, FallRows ho, gCompIf]
    refine ⟨by rw [List.length_map]; exact ends_le (by omega), fun x => match rowD x with
      | some r => decide (r.getD h 0 = k)
      | none => false, fun x => match rowD x with
      | some r => .int (payH ns pay r h)
      | none => .non, fun x hx => ?_, ?_⟩
    · obtain ⟨r, hr, rfl⟩ := List.mem_map.mp hx
      have hl : h < r.length := by rw [row_len hr]; exact hh
      have hp : h < (payAt ns pay r).length := by rw [(payAt_ok ho hr).1]; exact hh
      have ei : atI ((payAt ns pay r).map D.int) (h : Nat) = some (.int (payH ns pay r h)) := atI_ints hp
      simp only [δc, List.map_cons, List.map_nil, gRet, gAndV, gOrV, gNotV, gInst, isSub_int, isSub_bool, isSub_tuple, gVar, gSeq, gAsg, gNm, gC, gF, gLst, gConsA, gNilA, gTupE, gCallB, gCallF, gCallD, gCallR, gOpt, gOptP, cLen, cAbs, cAll, cTuple, cList, gOp, oInt, oIntC, oAdd, oMulI, oNe, oEq, oIs, oIsnot, eqD_int, dep, gIx, gChain, gChain3, gTest, isBl, gIfS, gIt, gIl, gRng1, gRng2, gApp, gExt, gFrz, gAsgO, gNext, gTru, gNot, gAnd, gOr, gPart, gNoP, gSlT, gCatL, gNeg, gNm2, gZip, gNotT, truD, gPeek, gPeekT, gPeekF, gEnumT, gEnumL, cInt, gPar, gIfE, eq_self, if_true, ↓reduceIte, Bool.false_eq_true, if_false, List.getElem?_cons_zero, List.getElem?_cons_succ, List.set_cons_zero, List.set_cons_succ, atI_ints hl, FpaidQ ho hr, ei, rowD_of]
      refine ⟨by decide, ?_, fun _ => trivial⟩
      rw [Bool.eq_iff_iff]
      simp
    · have em : (((rowsL ns).map dInts).filter fun x => match rowD x with
          | some r => decide (r.getD h 0 = k)
          | none => false).map (fun x => match rowD x with
          | some r => D.int (payH ns pay r h)
          | none => .non) = (((rowsL ns).filter fun r => decide (r.getD h 0 = k)).map fun r => payH ns pay r h).map D.int := by
        rw [List.filter_map, List.map_map, List.map_map]
        have e1 : (fun x => match rowD x with
          | some r => decide (r.getD h 0 = k)
          | none => false) ∘ dInts = fun r => decide (r.getD h 0 = k) := by
          funext r
          simp only [Function.comp, rowD_of]
        rw [e1]
        refine List.map_congr_left fun r _ => ?_
        simp only [Function.comp, rowD_of]
      rw [em]
      simp only [cNums, seqOf, ints_map]
      refine ⟨?_, rfl⟩
      have hr := List.getElem_mem (l := rowsL ns) (n := 0) (by have := (rows_len ho.ok).1; omega)
      generalize (rowsL ns)[0]'(by have := (rows_len ho.ok).1; omega) = r at hr
      have hq := row_set hr (deed_mem.mp hk).1 (deed_mem.mp hk).2
      have hl : h < (r.set h k).length := by rw [List.length_set, row_len hr]; exact hh
      refine List.ne_nil_of_mem (List.mem_map.mpr ⟨r.set h k, List.mem_filter.mpr ⟨hq, ?_⟩, rfl⟩)
      rw [getD_of hl]
      simp
theorem vc_held_to : ∀ ds d, F_held_to ds = some d → g_held_to (retD d) (dstart ["meeting", "hand"] ds)
  | [m, y], d, e => by
    obtain ⟨ns, pay, rfl, ho, e⟩ := onMeet_eq (show onMeet m _ = some d from e)
    obtain ⟨h, rfl, hh, e⟩ := onHand_eq e
    cases e
    show g_held_to _ [.im (meetD ns pay), .im (.int h)]
    have l2 := (rows_len ho.ok).2
    simp only [g_held_to, gRet, gAndV, gOrV, gNotV, gInst, isSub_int, isSub_bool, isSub_tuple, gVar, gSeq, gAsg, gNm, gC, gF, gLst, gConsA, gNilA, gTupE, gCallB, gCallF, gCallD, gCallR, gOpt, gOptP, cLen, cAbs, cAll, cTuple, cList, gOp, oInt, oIntC, oAdd, oMul, oNe, oEq, oIs, oIsnot, eqD, dep, gIx, gChain, gChain3, gTest, isBl, gIfS, gIt, gIl, gRng1, gRng2, gApp, gExt, gFrz, gAsgO, gNext, gTru, gNot, gAnd, gOr, gPart, gNoP, gSlT, gCatL, gNeg, gNm2, gZip, gNotT, truD, gPeek, gPeekT, gPeekF, gEnumT, gEnumL, cInt, gPar, gIfE, eq_self, if_true, ↓reduceIte, Bool.false_eq_true, if_false, List.getElem?_cons_zero, List.getElem?_cons_succ, List.set_cons_zero, List.set_cons_succ, FallRows ho, gComp]
    refine ⟨by rw [List.length_map]; exact ends_le (by omega), fun x => match rowD x with
      | some r => .int (topH ns pay h r)
      | none => .non, fun x hx => ?_, ?_⟩
    · obtain ⟨r, hr, rfl⟩ := List.mem_map.mp hx
      have hne : (deedsL ns h).map (fun k => payH ns pay (r.set h k) h) ≠ [] := by simpa using deedsL_ne ho hh
      simp only [δc, List.map_cons, List.map_nil, gRet, gAndV, gOrV, gNotV, gInst, isSub_int, isSub_bool, isSub_tuple, gVar, gSeq, gAsg, gNm, gC, gF, gLst, gConsA, gNilA, gTupE, gCallB, gCallF, gCallD, gCallR, gOpt, gOptP, cLen, cAbs, cAll, cTuple, cList, gOp, oInt, oIntC, oAdd, oMul, oNe, oEq, oIs, oIsnot, eqD, dep, gIx, gChain, gChain3, gTest, isBl, gIfS, gIt, gIl, gRng1, gRng2, gApp, gExt, gFrz, gAsgO, gNext, gTru, gNot, gAnd, gOr, gPart, gNoP, gSlT, gCatL, gNeg, gNm2, gZip, gNotT, truD, gPeek, gPeekT, gPeekF, gEnumT, gEnumL, cInt, gPar, gIfE, eq_self, if_true, ↓reduceIte, Bool.false_eq_true, if_false, List.getElem?_cons_zero, List.getElem?_cons_succ, List.set_cons_zero, List.set_cons_succ, Fpays ho hh hr, cNums, seqOf, ints_map, rowD_of]
      exact ⟨hne, rfl⟩
    · have em : ((rowsL ns).map dInts).map (fun x => match rowD x with
          | some r => D.int (topH ns pay h r)
          | none => .non) = ((rowsL ns).map (topH ns pay h)).map D.int := by
        rw [List.map_map, List.map_map]
        refine List.map_congr_left fun r _ => ?_
        simp only [Function.comp, rowD_of]
      rw [em]
      simp only [cNums, seqOf, ints_map]
      exact ⟨by simpa using rows_ne ho, rfl⟩
theorem vc_sure : ∀ ds d, F_sure ds = some d → g_sure (retD d) (dstart ["meeting", "hand"] ds)
  | [m, y], d, e => by
    obtain ⟨ns, pay, rfl, ho, e⟩ := onMeet_eq (show onMeet m _ = some d from e)
    obtain ⟨h, rfl, hh, e⟩ := onHand_eq e
    cases e
    show g_sure _ [.im (meetD ns pay), .im (.int h)]
    have e0 : atI [dInts ns, D.tup (pay.map dInts)] 0 = some (dInts ns) := rfl
    have e1 : atI (ns.map D.int) (h : Nat) = some (.int (ns.getD h 0)) := atI_ints hh
    have d3 := deeds_ne ho hh
    have hd := deedsP_len ho hh
    simp only [g_sure, gRet, gAndV, gOrV, gNotV, gInst, isSub_int, isSub_bool, isSub_tuple, gVar, gSeq, gAsg, gNm, gC, gF, gLst, gConsA, gNilA, gTupE, gCallB, gCallF, gCallD, gCallR, gOpt, gOptP, cLen, cAbs, cAll, cTuple, cList, gOp, oInt, oIntC, oAdd, oMul, oNe, oEq, oIs, oIsnot, eqD, dep, gIx, gChain, gChain3, gTest, isBl, gIfS, gIt, gIl, gRng1, gRng2, gApp, gExt, gFrz, gAsgO, gNext, gTru, gNot, gAnd, gOr, gPart, gNoP, gSlT, gCatL, gNeg, gNm2, gZip, gNotT, truD, gPeek, gPeekT, gPeekF, gEnumT, gEnumL, cInt, gPar, gIfE, eq_self, if_true, ↓reduceIte, Bool.false_eq_true, if_false, List.getElem?_cons_zero, List.getElem?_cons_succ, List.set_cons_zero, List.set_cons_succ, meetD, e0, gComp]
    simp only [e1]
    refine ⟨⟨by omega, by omega⟩, ?_, fun x => match x with
      | .int k => .int (lowH ns pay h k)
      | _ => .non, fun x hx => ?_, ?_⟩
    · rw [range_deeds, List.length_map]
      exact ends_le (by omega)
    · rw [range_deeds] at hx
      obtain ⟨k, hk, rfl⟩ := List.mem_map.mp hx
      have ep : F_least_paid [.tup [.tup (ns.map D.int), .tup (pay.map dInts)], .int h, .int k] = some (.int (lowH ns pay h k)) := FleastP ho hh hk
      simp only [δc, List.map_cons, List.map_nil, gRet, gAndV, gOrV, gNotV, gInst, isSub_int, isSub_bool, isSub_tuple, gVar, gSeq, gAsg, gNm, gC, gF, gLst, gConsA, gNilA, gTupE, gCallB, gCallF, gCallD, gCallR, gOpt, gOptP, cLen, cAbs, cAll, cTuple, cList, gOp, oInt, oIntC, oAdd, oMul, oNe, oEq, oIs, oIsnot, eqD, dep, gIx, gChain, gChain3, gTest, isBl, gIfS, gIt, gIl, gRng1, gRng2, gApp, gExt, gFrz, gAsgO, gNext, gTru, gNot, gAnd, gOr, gPart, gNoP, gSlT, gCatL, gNeg, gNm2, gZip, gNotT, truD, gPeek, gPeekT, gPeekF, gEnumT, gEnumL, cInt, gPar, gIfE, eq_self, if_true, ↓reduceIte, Bool.false_eq_true, if_false, List.getElem?_cons_zero, List.getElem?_cons_succ, List.set_cons_zero, List.set_cons_succ, ep]
    · have em : ((deedsL ns h).map D.int).map (fun x => match x with
          | .int k => D.int (lowH ns pay h k)
          | _ => .non) = ((deedsL ns h).map (lowH ns pay h)).map D.int := by
        rw [List.map_map, List.map_map]
        rfl
      rw [range_deeds, em]
      simp only [cNums, seqOf, ints_map]
      exact ⟨by simpa using deedsL_ne ho hh, rfl⟩
end L2
namespace L2
open PySem PySem.Spec PyProof.Rows
theorem len_rows_of : ∀ ds d, F_rows_of ds = some d → ds.length = (["deeds"] : List Str).length := by
  intro ds d h
  unfold F_rows_of at h
  split at h
  all_goals first | rfl | cases h
theorem len_place_of : ∀ ds d, F_place_of ds = some d → ds.length = (["row", "deeds"] : List Str).length := by
  intro ds d h
  unfold F_place_of at h
  split at h
  all_goals first | rfl | cases h
theorem len_with_deed : ∀ ds d, F_with_deed ds = some d → ds.length = (["row", "hand", "deed"] : List Str).length := by
  intro ds d h
  unfold F_with_deed at h
  split at h
  all_goals first | rfl | cases h
theorem len__law_mix : ∀ ds d, F__law_mix ds = some d → ds.length = (["_law_cell_here", "_law_prime", "_law_many"] : List Str).length := by
  intro ds d h
  unfold F__law_mix at h
  split at h
  all_goals first | rfl | cases h
theorem len__law_rows : ∀ ds d, F__law_rows ds = some d → ds.length = (["_law_deeds"] : List Str).length := by
  intro ds d h
  unfold F__law_rows at h
  split at h
  all_goals first | rfl | cases h
theorem len__law_stray : ∀ ds d, F__law_stray ds = some d → ds.length = (["_law_row", "_law_hand", "_law_deed"] : List Str).length := by
  intro ds d h
  unfold F__law_stray at h
  split at h
  all_goals first | rfl | cases h
theorem len__law_whole : ∀ ds d, F__law_whole ds = some d → ds.length = (["_law_found"] : List Str).length := by
  intro ds d h
  unfold F__law_whole at h
  split at h
  all_goals first | rfl | cases h
theorem len_all_rows : ∀ ds d, F_all_rows ds = some d → ds.length = (["meeting"] : List Str).length := by
  intro ds d h
  unfold F_all_rows at h
  split at h
  all_goals first | rfl | cases h
theorem len_paid : ∀ ds d, F_paid ds = some d → ds.length = (["meeting", "row"] : List Str).length := by
  intro ds d h
  unfold F_paid at h
  split at h
  all_goals first | rfl | cases h
theorem len__law_meeting : ∀ ds d, F__law_meeting ds = some d → ds.length = (["_law_cell_here"] : List Str).length := by
  intro ds d h
  unfold F__law_meeting at h
  split at h
  all_goals first | rfl | cases h
theorem len__law_paid : ∀ ds d, F__law_paid ds = some d → ds.length = (["_law_meeting_here", "_law_row"] : List Str).length := by
  intro ds d h
  unfold F__law_paid at h
  split at h
  all_goals first | rfl | cases h
theorem len_pays_by_deed : ∀ ds d, F_pays_by_deed ds = some d → ds.length = (["meeting", "hand", "row"] : List Str).length := by
  intro ds d h
  unfold F_pays_by_deed at h
  split at h
  all_goals first | rfl | cases h
theorem len_least_paid : ∀ ds d, F_least_paid ds = some d → ds.length = (["meeting", "hand", "deed"] : List Str).length := by
  intro ds d h
  unfold F_least_paid at h
  split at h
  all_goals first | rfl | cases h
theorem len__law_best : ∀ ds d, F__law_best ds = some d → ds.length = (["_law_meeting_here", "_law_hand", "_law_row"] : List Str).length := by
  intro ds d h
  unfold F__law_best at h
  split at h
  all_goals first | rfl | cases h
theorem len_best_deeds : ∀ ds d, F_best_deeds ds = some d → ds.length = (["meeting", "hand", "row"] : List Str).length := by
  intro ds d h
  unfold F_best_deeds at h
  split at h
  all_goals first | rfl | cases h
theorem len_held_to : ∀ ds d, F_held_to ds = some d → ds.length = (["meeting", "hand"] : List Str).length := by
  intro ds d h
  unfold F_held_to at h
  split at h
  all_goals first | rfl | cases h
theorem len_sure : ∀ ds d, F_sure ds = some d → ds.length = (["meeting", "hand"] : List Str).length := by
  intro ds d h
  unfold F_sure at h
  split at h
  all_goals first | rfl | cases h
theorem len_is_calm : ∀ ds d, F_is_calm ds = some d → ds.length = (["meeting", "row"] : List Str).length := by
  intro ds d h
  unfold F_is_calm at h
  split at h
  all_goals first | rfl | cases h
theorem len_calm : ∀ ds d, F_calm ds = some d → ds.length = (["meeting"] : List Str).length := by
  intro ds d h
  unfold F_calm at h
  split at h
  all_goals first | rfl | cases h
theorem len_law : ∀ ds d, F_law ds = some d → ds.length = (["_law_script"] : List Str).length := by
  intro ds d h
  unfold F_law at h
  split at h
  all_goals first | rfl | cases h
theorem last_law {P : Program} {w : World} {K : PySem.W.Frag} {mg : Str → Option Value} {base : Heap} {f : Addr} {fd : FuncData} (T : Txt K mg) (H_rows_of : FunAt K mg "rows_of" s_rows_of ["deeds"]) (H_place_of : FunAt K mg "place_of" s_place_of ["row", "deeds"]) (H_with_deed : FunAt K mg "with_deed" s_with_deed ["row", "hand", "deed"]) (H__law_mix : FunAt K mg "_law_mix" s__law_mix ["_law_cell_here", "_law_prime", "_law_many"]) (H__law_rows : FunAt K mg "_law_rows" s__law_rows ["_law_deeds"]) (H__law_stray : FunAt K mg "_law_stray" s__law_stray ["_law_row", "_law_hand", "_law_deed"]) (H__law_whole : FunAt K mg "_law_whole" s__law_whole ["_law_found"]) (H_all_rows : FunAt K mg "all_rows" s_all_rows ["meeting"]) (H_paid : FunAt K mg "paid" s_paid ["meeting", "row"]) (H__law_meeting : FunAt K mg "_law_meeting" s__law_meeting ["_law_cell_here"]) (H__law_paid : FunAt K mg "_law_paid" s__law_paid ["_law_meeting_here", "_law_row"]) (H_pays_by_deed : FunAt K mg "pays_by_deed" s_pays_by_deed ["meeting", "hand", "row"]) (H_least_paid : FunAt K mg "least_paid" s_least_paid ["meeting", "hand", "deed"]) (H__law_best : FunAt K mg "_law_best" s__law_best ["_law_meeting_here", "_law_hand", "_law_row"]) (H_best_deeds : FunAt K mg "best_deeds" s_best_deeds ["meeting", "hand", "row"]) (H_held_to : FunAt K mg "held_to" s_held_to ["meeting", "hand"]) (H_sure : FunAt K mg "sure" s_sure ["meeting", "hand"]) (H_is_calm : FunAt K mg "is_calm" s_is_calm ["meeting", "row"]) (H_calm : FunAt K mg "calm" s_calm ["meeting"]) (FL : Fun K "law" "law" s_law f fd) : FnOk P w K mg base CX0 7 f fd ["_law_script"] (spR K F_law) := by
  have h_rows_of : DFn P w K mg base 1 "rows_of" F_rows_of := by
    obtain ⟨f, fd, Fn, hm, bi⟩ := H_rows_of
    exact fnD Fn sc_rows_of len_rows_of (fun cdv A outer s H E hr => body_rows_of T  hr) vc_rows_of hm bi
  have h_place_of : DFn P w K mg base 1 "place_of" F_place_of := by
    obtain ⟨f, fd, Fn, hm, bi⟩ := H_place_of
    exact fnD Fn sc_place_of len_place_of (fun cdv A outer s H E hr => body_place_of T  hr) vc_place_of hm bi
  have h_with_deed : DFn P w K mg base 1 "with_deed" F_with_deed := by
    obtain ⟨f, fd, Fn, hm, bi⟩ := H_with_deed
    exact fnD Fn sc_with_deed len_with_deed (fun cdv A outer s H E hr => body_with_deed T  hr) vc_with_deed hm bi
  have h__law_mix : DFn P w K mg base 1 "_law_mix" F__law_mix := by
    obtain ⟨f, fd, Fn, hm, bi⟩ := H__law_mix
    exact fnD Fn sc__law_mix len__law_mix (fun cdv A outer s H E hr => body__law_mix T  hr) vc__law_mix hm bi
  have h__law_rows : DFn P w K mg base 1 "_law_rows" F__law_rows := by
    obtain ⟨f, fd, Fn, hm, bi⟩ := H__law_rows
    exact fnD Fn sc__law_rows len__law_rows (fun cdv A outer s H E hr => body__law_rows T  hr) vc__law_rows hm bi
  have h__law_stray : DFn P w K mg base 1 "_law_stray" F__law_stray := by
    obtain ⟨f, fd, Fn, hm, bi⟩ := H__law_stray
    exact fnD Fn sc__law_stray len__law_stray (fun cdv A outer s H E hr => body__law_stray T  hr) vc__law_stray hm bi
  have h__law_whole : DFn P w K mg base 1 "_law_whole" F__law_whole := by
    obtain ⟨f, fd, Fn, hm, bi⟩ := H__law_whole
    exact fnD Fn sc__law_whole len__law_whole (fun cdv A outer s H E hr => body__law_whole T  hr) vc__law_whole hm bi
  have h_all_rows : DFn P w K mg base 2 "all_rows" F_all_rows := by
    obtain ⟨f, fd, Fn, hm, bi⟩ := H_all_rows
    exact fnD Fn sc_all_rows len_all_rows (fun cdv A outer s H E hr => body_all_rows T h_rows_of hr) vc_all_rows hm bi
  have h_paid : DFn P w K mg base 2 "paid" F_paid := by
    obtain ⟨f, fd, Fn, hm, bi⟩ := H_paid
    exact fnD Fn sc_paid len_paid (fun cdv A outer s H E hr => body_paid T h_place_of hr) vc_paid hm bi
  have h__law_meeting : DFnR P w K mg base 2 "_law_meeting" F__law_meeting := by
    obtain ⟨f, fd, Fn, hm, bi⟩ := H__law_meeting
    exact fnR Fn sc__law_meeting len__law_meeting (fun cdv A outer s H E hr => body__law_meeting T h__law_mix h__law_rows hr) vc__law_meeting hm bi
  have h__law_paid : DFn P w K mg base 2 "_law_paid" F__law_paid := by
    obtain ⟨f, fd, Fn, hm, bi⟩ := H__law_paid
    exact fnD Fn sc__law_paid len__law_paid (fun cdv A outer s H E hr => body__law_paid T h__law_rows hr) vc__law_paid hm bi
  have h_pays_by_deed : DFn P w K mg base 3 "pays_by_deed" F_pays_by_deed := by
    obtain ⟨f, fd, Fn, hm, bi⟩ := H_pays_by_deed
    exact fnD Fn sc_pays_by_deed len_pays_by_deed (fun cdv A outer s H E hr => body_pays_by_deed T h_with_deed h_paid hr) vc_pays_by_deed hm bi
  have h_least_paid : DFn P w K mg base 3 "least_paid" F_least_paid := by
    obtain ⟨f, fd, Fn, hm, bi⟩ := H_least_paid
    exact fnD Fn sc_least_paid len_least_paid (fun cdv A outer s H E hr => body_least_paid T h_all_rows h_paid hr) vc_least_paid hm bi
  have h__law_best : DFn P w K mg base 3 "_law_best" F__law_best := by
    obtain ⟨f, fd, Fn, hm, bi⟩ := H__law_best
    exact fnD Fn sc__law_best len__law_best (fun cdv A outer s H E hr => body__law_best T h__law_stray h__law_paid hr) vc__law_best hm bi
  have h_best_deeds : DFn P w K mg base 4 "best_deeds" F_best_deeds := by
    obtain ⟨f, fd, Fn, hm, bi⟩ := H_best_deeds
    exact fnD Fn sc_best_deeds len_best_deeds (fun cdv A outer s H E hr => body_best_deeds T h_pays_by_deed hr) vc_best_deeds hm bi
  have h_held_to : DFn P w K mg base 4 "held_to" F_held_to := by
    obtain ⟨f, fd, Fn, hm, bi⟩ := H_held_to
    exact fnD Fn sc_held_to len_held_to (fun cdv A outer s H E hr => body_held_to T h_all_rows h_pays_by_deed hr) vc_held_to hm bi
  have h_sure : DFn P w K mg base 4 "sure" F_sure := by
    obtain ⟨f, fd, Fn, hm, bi⟩ := H_sure
    exact fnD Fn sc_sure len_sure (fun cdv A outer s H E hr => body_sure T h_least_paid hr) vc_sure hm bi
  have h_is_calm : DFn P w K mg base 5 "is_calm" F_is_calm := by
    obtain ⟨f, fd, Fn, hm, bi⟩ := H_is_calm
    exact fnD Fn sc_is_calm len_is_calm (fun cdv A outer s H E hr => body_is_calm T h_best_deeds hr) vc_is_calm hm bi
  have h_calm : DFn P w K mg base 6 "calm" F_calm := by
    obtain ⟨f, fd, Fn, hm, bi⟩ := H_calm
    exact fnD Fn sc_calm len_calm (fun cdv A outer s H E hr => body_calm T h_all_rows h_is_calm hr) vc_calm hm bi
  exact fnR0 FL sc_law len_law (fun cdv A outer s H E hr => body_law T h__law_meeting h__law_rows h_paid h__law_paid h__law_best h_best_deeds h_calm h__law_stray h_sure h_held_to h__law_whole hr) vc_law
theorem walk_law {l : PySem.W.OpenLaw} {q : Program} {loose : List Str} {XP : (Str → Option Value) → Heap → Prop} {YP : World → Heap → Prop} {d : DefRec} {K : Params → PySem.W.Frag} (hn : l.most = some 63) (hdf : d.params.defaults = []) (hY : ∀ (w : World) (h : Heap), YP w h → (K w.params).In h)
    (F : ∀ (w : World) (mg : Str → Option Value) (fa : Addr) (h : Heap), (K w.params).In h → h.Ns mainGlobals mg → mg d.name = some (.ref fa) →
      ∃ fd : FuncData, (∀ (s : Shared) (u : Value), BindsTo s fd ⟨[u], []⟩ [("_law_script", u)]) ∧ ∀ base : Heap, (K w.params).In base → base.Ns mainGlobals mg → FnOk l.prog w (K w.params) mg base CX0 7 fa fd ["_law_script"] (spR (K w.params) F_law)) :
    PySem.W.WalkO q loose XP YP l.row.toRowW d [] (fun f vs => PySem.call f vs) :=
  walk_ofK (n := 63) (k := 7) (x := "_law_script") (CX := CX0) (sp := fun K => spR K F_law) hn (by decide) hdf ⟨rfl, by decide, by decide⟩ hY F (fun K H a ns _ _ hS => ⟨H, [.lst (ns.map D.int)], fun d => d = .bl true, Same.refl _, .cons (den_lst.mpr ⟨a, ns.map V.int, rfl, hS, dens_ints ns⟩) .nil, by simp [F_law, ints_map], fun d v C' H' hd _ nv => by subst hd; exact den_bl.mp nv⟩) fun _ _ _ _ z => z
theorem txt_of {K : PySem.W.Frag} {mg : Str → Option Value} {h : Heap}   (X : K.In h) (G : h.Ns mainGlobals mg) (z_all : PySem.W.nsIn K mainGlobals "all" = some none) (z_bool : PySem.W.nsIn K mainGlobals "bool" = some none) (z_enumerate : PySem.W.nsIn K mainGlobals "enumerate" = some none) (z_int : PySem.W.nsIn K mainGlobals "int" = some none) (z_isinstance : PySem.W.nsIn K mainGlobals "isinstance" = some none) (z_len : PySem.W.nsIn K mainGlobals "len" = some none) (z_max : PySem.W.nsIn K mainGlobals "max" = some none) (z_min : PySem.W.nsIn K mainGlobals "min" = some none) (z_range : PySem.W.nsIn K mainGlobals "range" = some none) (z_sorted : PySem.W.nsIn K mainGlobals "sorted" = some none) (z_tuple : PySem.W.nsIn K mainGlobals "tuple" = some none) (z_zip : PySem.W.nsIn K mainGlobals "zip" = some none) : Txt K mg :=
  ⟨PySem.W.mg_none_of X G z_all, PySem.W.mg_none_of X G z_bool, PySem.W.mg_none_of X G z_enumerate, PySem.W.mg_none_of X G z_int, PySem.W.mg_none_of X G z_isinstance, PySem.W.mg_none_of X G z_len, PySem.W.mg_none_of X G z_max, PySem.W.mg_none_of X G z_min, PySem.W.mg_none_of X G z_range, PySem.W.mg_none_of X G z_sorted, PySem.W.mg_none_of X G z_tuple, PySem.W.mg_none_of X G z_zip⟩
theorem law_mk {l : PySem.W.OpenLaw} {w : World} {K : PySem.W.Frag} {h : Heap} {mg : Str → Option Value} {fa f : Addr} {od an : Option Addr} {sl : Array (Option Value)} {oc kV dc pm cd ct : Value} (X : K.In h) (G : h.Ns mainGlobals mg) (hfa : mg "law" = some (.ref fa)) (T : Txt K mg) (H_rows_of : FunAt K mg "rows_of" s_rows_of ["deeds"]) (H_place_of : FunAt K mg "place_of" s_place_of ["row", "deeds"]) (H_with_deed : FunAt K mg "with_deed" s_with_deed ["row", "hand", "deed"]) (H__law_mix : FunAt K mg "_law_mix" s__law_mix ["_law_cell_here", "_law_prime", "_law_many"]) (H__law_rows : FunAt K mg "_law_rows" s__law_rows ["_law_deeds"]) (H__law_stray : FunAt K mg "_law_stray" s__law_stray ["_law_row", "_law_hand", "_law_deed"]) (H__law_whole : FunAt K mg "_law_whole" s__law_whole ["_law_found"]) (H_all_rows : FunAt K mg "all_rows" s_all_rows ["meeting"]) (H_paid : FunAt K mg "paid" s_paid ["meeting", "row"]) (H__law_meeting : FunAt K mg "_law_meeting" s__law_meeting ["_law_cell_here"]) (H__law_paid : FunAt K mg "_law_paid" s__law_paid ["_law_meeting_here", "_law_row"]) (H_pays_by_deed : FunAt K mg "pays_by_deed" s_pays_by_deed ["meeting", "hand", "row"]) (H_least_paid : FunAt K mg "least_paid" s_least_paid ["meeting", "hand", "deed"]) (H__law_best : FunAt K mg "_law_best" s__law_best ["_law_meeting_here", "_law_hand", "_law_row"]) (H_best_deeds : FunAt K mg "best_deeds" s_best_deeds ["meeting", "hand", "row"]) (H_held_to : FunAt K mg "held_to" s_held_to ["meeting", "hand"]) (H_sure : FunAt K mg "sure" s_sure ["meeting", "hand"]) (H_is_calm : FunAt K mg "is_calm" s_is_calm ["meeting", "row"]) (H_calm : FunAt K mg "calm" s_calm ["meeting"])
    (a : PySem.W.nsIn K mainGlobals "law" = some (some (.ref f))) (ll : K.lookup f = some ⟨oc, od, .func (PySem.W.fnOf "law" "law" (defArgs s_law) (defBody s_law) (defScope s_law) .none kV dc pm an cd ct), sl⟩) (c : PySem.W.codeIn K cd "law" = true) (k : PySem.W.keepIn K (.ref f) = true) :
    ∃ fd : FuncData, (∀ (s : Shared) (v : Value), BindsTo s fd ⟨[v], []⟩ [("_law_script", v)]) ∧ ∀ base : Heap, K.In base → base.Ns mainGlobals mg → FnOk l.prog w K mg base CX0 7 fa fd ["_law_script"] (spR K F_law) := by
  have e := hfa.symm.trans (PySem.W.mg_of X G a)
  cases e
  exact ⟨PySem.W.fnOf "law" "law" (defArgs s_law) (defBody s_law) (defScope s_law) .none kV dc pm an cd ct, fun s v => .of_eq rfl, fun base _ _ => last_law T H_rows_of H_place_of H_with_deed H__law_mix H__law_rows H__law_stray H__law_whole H_all_rows H_paid H__law_meeting H__law_paid H_pays_by_deed H_least_paid H__law_best H_best_deeds H_held_to H_sure H_is_calm H_calm (fun_mk (st := s_law) ll c k)⟩
end L2
open PySem PySem.W PyProof.Rows
set_option maxRecDepth 100000 in
set_option maxHeartbeats 0 in
theorem PySem.Challenge.cw_pactkeep_k03_one_meeting_holds : PySem.Challenge.rw_pactkeep_k03_one_meeting.Holds := by
  w_on; o_law; k_head; (case hw => w_witness2)
  k_fill
  refine L2.walk_law (l := PySem.Challenge.rw_pactkeep_k03_one_meeting) rfl rfl (fun w h Y => PySem.W.kIn_of Y) ?F
  case F =>
    intro w mg fa h KX G hmg
    have T : L2.Txt (L2.KOf KX) mg := by
      dsimp only [L2.KOf]
      refine' L2.txt_of KX G ?z_all ?z_bool ?z_enumerate ?z_int ?z_isinstance ?z_len ?z_max ?z_min ?z_range ?z_sorted ?z_tuple ?z_zip
      (case z_all => k_is); (case z_bool => k_is); (case z_enumerate => k_is); (case z_int => k_is); (case z_isinstance => k_is); (case z_len => k_is); (case z_max => k_is); (case z_min => k_is); (case z_range => k_is); (case z_sorted => k_is); (case z_tuple => k_is); (case z_zip => k_is)
    have H_rows_of : L2.FunAt (L2.KOf KX) mg "rows_of" L2.s_rows_of ["deeds"] := by
      dsimp only [L2.KOf]
      refine' L2.funAt_of KX G ?a ?l ?c ?k (fun _ _ _ _ _ _ us hl => match us, hl with | [_], _ => rfl)
      (case a => k_is); (case l => k_is); (case c => k_is); (case k => k_is)
    have H_place_of : L2.FunAt (L2.KOf KX) mg "place_of" L2.s_place_of ["row", "deeds"] := by
      dsimp only [L2.KOf]
      refine' L2.funAt_of KX G ?a ?l ?c ?k (fun _ _ _ _ _ _ us hl => match us, hl with | [_, _], _ => rfl)
      (case a => k_is); (case l => k_is); (case c => k_is); (case k => k_is)
    have H_with_deed : L2.FunAt (L2.KOf KX) mg "with_deed" L2.s_with_deed ["row", "hand", "deed"] := by
      dsimp only [L2.KOf]
      refine' L2.funAt_of KX G ?a ?l ?c ?k (fun _ _ _ _ _ _ us hl => match us, hl with | [_, _, _], _ => rfl)
      (case a => k_is); (case l => k_is); (case c => k_is); (case k => k_is)
    have H__law_mix : L2.FunAt (L2.KOf KX) mg "_law_mix" L2.s__law_mix ["_law_cell_here", "_law_prime", "_law_many"] := by
      dsimp only [L2.KOf]
      refine' L2.funAt_of KX G ?a ?l ?c ?k (fun _ _ _ _ _ _ us hl => match us, hl with | [_, _, _], _ => rfl)
      (case a => k_is); (case l => k_is); (case c => k_is); (case k => k_is)
    have H__law_rows : L2.FunAt (L2.KOf KX) mg "_law_rows" L2.s__law_rows ["_law_deeds"] := by
      dsimp only [L2.KOf]
      refine' L2.funAt_of KX G ?a ?l ?c ?k (fun _ _ _ _ _ _ us hl => match us, hl with | [_], _ => rfl)
      (case a => k_is); (case l => k_is); (case c => k_is); (case k => k_is)
    have H__law_stray : L2.FunAt (L2.KOf KX) mg "_law_stray" L2.s__law_stray ["_law_row", "_law_hand", "_law_deed"] := by
      dsimp only [L2.KOf]
      refine' L2.funAt_of KX G ?a ?l ?c ?k (fun _ _ _ _ _ _ us hl => match us, hl with | [_, _, _], _ => rfl)
      (case a => k_is); (case l => k_is); (case c => k_is); (case k => k_is)
    have H__law_whole : L2.FunAt (L2.KOf KX) mg "_law_whole" L2.s__law_whole ["_law_found"] := by
      dsimp only [L2.KOf]
      refine' L2.funAt_of KX G ?a ?l ?c ?k (fun _ _ _ _ _ _ us hl => match us, hl with | [_], _ => rfl)
      (case a => k_is); (case l => k_is); (case c => k_is); (case k => k_is)
    have H_all_rows : L2.FunAt (L2.KOf KX) mg "all_rows" L2.s_all_rows ["meeting"] := by
      dsimp only [L2.KOf]
      refine' L2.funAt_of KX G ?a ?l ?c ?k (fun _ _ _ _ _ _ us hl => match us, hl with | [_], _ => rfl)
      (case a => k_is); (case l => k_is); (case c => k_is); (case k => k_is)
    have H_paid : L2.FunAt (L2.KOf KX) mg "paid" L2.s_paid ["meeting", "row"] := by
      dsimp only [L2.KOf]
      refine' L2.funAt_of KX G ?a ?l ?c ?k (fun _ _ _ _ _ _ us hl => match us, hl with | [_, _], _ => rfl)
      (case a => k_is); (case l => k_is); (case c => k_is); (case k => k_is)
    have H__law_meeting : L2.FunAt (L2.KOf KX) mg "_law_meeting" L2.s__law_meeting ["_law_cell_here"] := by
      dsimp only [L2.KOf]
      refine' L2.funAt_of KX G ?a ?l ?c ?k (fun _ _ _ _ _ _ us hl => match us, hl with | [_], _ => rfl)
      (case a => k_is); (case l => k_is); (case c => k_is); (case k => k_is)
    have H__law_paid : L2.FunAt (L2.KOf KX) mg "_law_paid" L2.s__law_paid ["_law_meeting_here", "_law_row"] := by
      dsimp only [L2.KOf]
      refine' L2.funAt_of KX G ?a ?l ?c ?k (fun _ _ _ _ _ _ us hl => match us, hl with | [_, _], _ => rfl)
      (case a => k_is); (case l => k_is); (case c => k_is); (case k => k_is)
    have H_pays_by_deed : L2.FunAt (L2.KOf KX) mg "pays_by_deed" L2.s_pays_by_deed ["meeting", "hand", "row"] := by
      dsimp only [L2.KOf]
      refine' L2.funAt_of KX G ?a ?l ?c ?k (fun _ _ _ _ _ _ us hl => match us, hl with | [_, _, _], _ => rfl)
      (case a => k_is); (case l => k_is); (case c => k_is); (case k => k_is)
    have H_least_paid : L2.FunAt (L2.KOf KX) mg "least_paid" L2.s_least_paid ["meeting", "hand", "deed"] := by
      dsimp only [L2.KOf]
      refine' L2.funAt_of KX G ?a ?l ?c ?k (fun _ _ _ _ _ _ us hl => match us, hl with | [_, _, _], _ => rfl)
      (case a => k_is); (case l => k_is); (case c => k_is); (case k => k_is)
    have H__law_best : L2.FunAt (L2.KOf KX) mg "_law_best" L2.s__law_best ["_law_meeting_here", "_law_hand", "_law_row"] := by
      dsimp only [L2.KOf]
      refine' L2.funAt_of KX G ?a ?l ?c ?k (fun _ _ _ _ _ _ us hl => match us, hl with | [_, _, _], _ => rfl)
      (case a => k_is); (case l => k_is); (case c => k_is); (case k => k_is)
    have H_best_deeds : L2.FunAt (L2.KOf KX) mg "best_deeds" L2.s_best_deeds ["meeting", "hand", "row"] := by
      dsimp only [L2.KOf]
      refine' L2.funAt_of KX G ?a ?l ?c ?k (fun _ _ _ _ _ _ us hl => match us, hl with | [_, _, _], _ => rfl)
      (case a => k_is); (case l => k_is); (case c => k_is); (case k => k_is)
    have H_held_to : L2.FunAt (L2.KOf KX) mg "held_to" L2.s_held_to ["meeting", "hand"] := by
      dsimp only [L2.KOf]
      refine' L2.funAt_of KX G ?a ?l ?c ?k (fun _ _ _ _ _ _ us hl => match us, hl with | [_, _], _ => rfl)
      (case a => k_is); (case l => k_is); (case c => k_is); (case k => k_is)
    have H_sure : L2.FunAt (L2.KOf KX) mg "sure" L2.s_sure ["meeting", "hand"] := by
      dsimp only [L2.KOf]
      refine' L2.funAt_of KX G ?a ?l ?c ?k (fun _ _ _ _ _ _ us hl => match us, hl with | [_, _], _ => rfl)
      (case a => k_is); (case l => k_is); (case c => k_is); (case k => k_is)
    have H_is_calm : L2.FunAt (L2.KOf KX) mg "is_calm" L2.s_is_calm ["meeting", "row"] := by
      dsimp only [L2.KOf]
      refine' L2.funAt_of KX G ?a ?l ?c ?k (fun _ _ _ _ _ _ us hl => match us, hl with | [_, _], _ => rfl)
      (case a => k_is); (case l => k_is); (case c => k_is); (case k => k_is)
    have H_calm : L2.FunAt (L2.KOf KX) mg "calm" L2.s_calm ["meeting"] := by
      dsimp only [L2.KOf]
      refine' L2.funAt_of KX G ?a ?l ?c ?k (fun _ _ _ _ _ _ us hl => match us, hl with | [_], _ => rfl)
      (case a => k_is); (case l => k_is); (case c => k_is); (case k => k_is)
    refine' L2.law_mk KX G hmg T H_rows_of H_place_of H_with_deed H__law_mix H__law_rows H__law_stray H__law_whole H_all_rows H_paid H__law_meeting H__law_paid H_pays_by_deed H_least_paid H__law_best H_best_deeds H_held_to H_sure H_is_calm H_calm ?al ?ll ?cl ?kl
    (case al => k_is); (case ll => k_is); (case cl => k_is); (case kl => k_is)
