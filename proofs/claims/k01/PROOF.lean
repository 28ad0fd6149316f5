import PyProof.Rows.All
import Wide.All
import OpenK.AllK
import Wide.FinOn
import Lean
import PyProof.EqAt
import PyProof.EqKinds
import PyProof.TupleCall
import PyProof.NeKinds
import PyProof.ZipIter
import PyProof.Rows.SortShell
import PyProof.Rows.SortWalk
import PySem.Challenge.RW_pactkeep_k01_things
set_option Elab.async false
set_option linter.all false
set_option maxRecDepth 100000
/-! THE HAND LAYER, for ints, bools, texts, own classes, LISTS and tuples (index, slices, in, append, pop ..), calls, loops. Paste it whole ahead of your own text; what your proof does not reach may be deleted. -/
namespace L2
open PySem PySem.Spec PyProof.Rows

/-- a key: an int or a str -/
abbrev Key := Sum Int Str
def keyIs : Key → Value → Bool
  | .inl k, v => Value.isInt k v
  | .inr x, v => Value.isStrOf x v
def keyH (w : World) : Key → Int
  | .inl k => hashInt k
  | .inr x => hashStr w x
theorem keyIs_shape : ∀ {k : Key} {v : Value}, keyIs k v = true → (∃ i t, k = Sum.inl i ∧ v = Value.int i t) ∨ (∃ x t, k = Sum.inr x ∧ v = Value.str x t)
  | .inl i, v, h => by
    obtain ⟨t, e⟩ := Value.isInt_shape (k := i) (v := v) h
    exact .inl ⟨i, t, rfl, e⟩
  | .inr x, v, h => by
    obtain ⟨t, e⟩ := Value.isStrOf_shape (x := x) (v := v) h
    exact .inr ⟨x, t, rfl, e⟩
theorem keyIs_int (i : Int) (t : Tok) : keyIs (.inl i) (.int i t) = true := by simp [keyIs, Value.isInt]
theorem keyIs_str (x : Str) (t : Tok) : keyIs (.inr x) (.str x t) = true := by simp [keyIs, Value.isStrOf]
theorem key_ll (a b : Int) : decide ((Sum.inl a : Key) = Sum.inl b) = (a == b) := by
  by_cases e : a = b
  · subst e; simp
  · have h : ¬ (Sum.inl a : Key) = Sum.inl b := fun q => e (Sum.inl.inj q)
    rw [decide_eq_false h]
    exact (beq_eq_false_iff_ne.mpr e).symm
theorem key_rr (a b : Str) : decide ((Sum.inr a : Key) = Sum.inr b) = decide (a = b) := by
  by_cases e : a = b
  · subst e; simp
  · have h : ¬ (Sum.inr a : Key) = Sum.inr b := fun q => e (Sum.inr.inj q)
    rw [decide_eq_false h, decide_eq_false e]
theorem key_lr (a : Int) (b : Str) : decide ((Sum.inl a : Key) = Sum.inr b) = false := decide_eq_false (fun q => nomatch q)
theorem key_rl (a : Str) (b : Int) : decide ((Sum.inr a : Key) = Sum.inl b) = false := decide_eq_false (fun q => nomatch q)

def mixKind (prog : Program) (w : World) : PySem.KeyKind prog w Key where
  is := keyIs
  hash := keyH w
  inj := fun v a b ha hb => by
    rcases keyIs_shape ha with ⟨i, t, rfl, rfl⟩ | ⟨x, t, rfl, rfl⟩
    · rcases keyIs_shape hb with ⟨j, u, rfl, e⟩ | ⟨y, u, rfl, e⟩
      · injection e with e1 _; rw [e1]
      · exact nomatch e
    · rcases keyIs_shape hb with ⟨j, u, rfl, e⟩ | ⟨y, u, rfl, e⟩
      · exact nomatch e
      · injection e with e1 _; rw [e1]
  byValue := fun k v h => by
    rcases keyIs_shape h with ⟨i, t, rfl, rfl⟩ | ⟨x, t, rfl, rfl⟩ <;> rfl
  pyHash := fun hv h => by
    rcases keyIs_shape hv with ⟨i, t, rfl, rfl⟩ | ⟨x, t, rfl, rfl⟩
    · exact wpAny_pyHash_int h
    · exact wpAny_pyHash_str h
  eqBool := fun hu hv h => by
    rcases keyIs_shape hu with ⟨i, t, rfl, rfl⟩ | ⟨x, t, rfl, rfl⟩
    · rcases keyIs_shape hv with ⟨j, u, rfl, rfl⟩ | ⟨y, u, rfl, rfl⟩
      · rw [key_ll] at h; exact wpAny_eqBool_int h
      · rw [key_lr] at h; exact SeqAt.EqAt.int_str i t y u _ _ _ _ h
    · rcases keyIs_shape hv with ⟨j, u, rfl, rfl⟩ | ⟨y, u, rfl, rfl⟩
      · rw [key_rl] at h; exact SeqAt.EqAt.str_int x t j u _ _ _ _ h
      · rw [key_rr] at h; exact wpAny_eqBool_str h
  «strs» := fun k x t v h => by
    rcases keyIs_shape h with ⟨i, u, rfl, e⟩ | ⟨y, u, rfl, e⟩
    · exact nomatch e
    · injection e with e1 _
      subst e1
      cases v <;> rfl

theorem mixKind_is (prog : Program) (w : World) (k : Key) (v : Value) : (mixKind prog w).is k v = keyIs k v := rfl
theorem mixKind_int (prog : Program) (w : World) (i : Int) (t : Tok) : (mixKind prog w).is (.inl i) (.int i t) = true := keyIs_int i t
theorem mixKind_str (prog : Program) (w : World) (x : Str) (t : Tok) : (mixKind prog w).is (.inr x) (.str x t) = true := keyIs_str x t
end L2

namespace L2
open PySem PySem.Spec PyProof.Rows

/-- a value, without the heap -/
inductive V where
  | non | bl (b : Bool) | int (i : Int) | str (x : Str) | byt (b : Array UInt8) | flt (b : UInt64) | ref (a : Addr) | ty (n : String)
  deriving DecidableEq

def RelV : V → Value → Prop
  | .non, u => u = Value.none
  | .bl b, u => u = Value.bool b
  | .int i, u => ∃ t, u = Value.int i t
  | .str x, u => ∃ t, u = Value.str x t
  | .byt b, u => ∃ t, u = Value.bytes b t
  | .flt b, u => ∃ t, u = Value.float b t
  | .ref a, u => u = Value.ref a
  | .ty n, u => u = Value.type n

abbrev Vals : List V → List Value → Prop := Paired RelV
theorem Vals.length {xs : List V} {us : List Value} (r : Vals xs us) : xs.length = us.length := Paired.length r
theorem Vals.get : ∀ {xs : List V} {us : List Value} {i : Nat} {x : V}, Vals xs us → xs[i]? = some x → ∃ u, us[i]? = some u ∧ RelV x u
  | _, _, _, _, .nil, e => by simp at e
  | _, _, 0, _, .cons r _, e => by simp at e; subst e; exact ⟨_, rfl, r⟩
  | _, _, i + 1, x, .cons _ t, e => by
    obtain ⟨u, h1, h2⟩ := Vals.get (i := i) (x := x) t (by simpa using e)
    exact ⟨u, by simpa using h1, h2⟩
theorem Vals.set {x : V} {u : Value} (r : RelV x u) : ∀ {xs : List V} {us : List Value} (i : Nat), Vals xs us → Vals (xs.set i x) (us.set i u)
  | _, _, _, .nil => .nil
  | _, _, 0, .cons _ t => .cons r t
  | _, _, i + 1, .cons q t => .cons q (Vals.set r i t)
theorem Vals.append : ∀ {xs ys : List V} {us ws : List Value}, Vals xs us → Vals ys ws → Vals (xs ++ ys) (us ++ ws)
  | _, _, _, _, .nil, s => s
  | _, _, _, _, .cons r t, s => .cons r (Vals.append t s)
theorem Vals.take : ∀ {xs : List V} {us : List Value} (n : Nat), Vals xs us → Vals (xs.take n) (us.take n)
  | _, _, 0, _ => .nil
  | _, _, _ + 1, .nil => .nil
  | _, _, n + 1, .cons r t => .cons r (Vals.take n t)
theorem Vals.drop : ∀ {xs : List V} {us : List Value} (n : Nat), Vals xs us → Vals (xs.drop n) (us.drop n)
  | _, _, 0, r => r
  | _, _, _ + 1, .nil => .nil
  | _, _, n + 1, .cons _ t => Vals.drop n t
theorem Vals.none_of : ∀ {xs : List V} {us : List Value} {i : Nat}, Vals xs us → xs[i]? = none → us[i]? = none := fun {xs us i} r e => by
  have h1 := r.length
  have h2 : xs.length ≤ i := List.getElem?_eq_none_iff.mp e
  exact List.getElem?_eq_none_iff.mpr (by omega)

def RelO : Option V → Option Value → Prop
  | some v, some u => RelV v u
  | none, none => True
  | _, _ => False
def KV {κ : Type} : List (κ × V) → List (κ × Value) → Prop := Paired fun (p : κ × V) (q : κ × Value) => p.1 = q.1 ∧ RelV p.2 q.2

/-- a key of a dict (00_mix): an int or a text -/
def kV : Key → V
  | .inl i => .int i
  | .inr x => .str x

/-- what stands at a tracked address -/
inductive HO where
  /-- a list -/
  | lst (xs : List V)
  /-- a tuple (never changes) -/
  | tup (xs : List V)
  /-- a dict whose keys are ints and texts; one whose keys are tuples of ints and texts (the empty one is both) -/
  | dK (kvs : List (Key × V)) | dT (kvs : List (List Key × V))
  /-- a set of ints: its members, its size -/
  | set (S : Int → Bool) (n : Nat)
  /-- an instance of the class at C, its dict at dx, its attributes -/
  | ins (C dx : Addr) (fs : List (Str × V))
  /-- the dict of the instance at x -/
  | own (x : Addr)
  /-- the dict of an exception -/
  | xd (fs : List (Str × V))
  /-- a bound method, f of x -/
  | met (f x : Addr)
  /-- a range object lo, lo + 1, .. below hi -/
  | rng (lo hi : Int)
  /-- a thing that is known to the object (the script; a dict while a loop walks it): read, never written while it is so -/
  | frz (o : Obj) (u : HO)
  /-- a code object's table -/
  | tbl (ps : Array Value)
  /-- any other thing, by what is true of its one object (a def of one's own: SetO a S n := HO.ext fun h => ..) -/
  | ext (φ : Heap → Prop)

abbrev Hp := Addr → Option HO
def upd (H : Hp) (a : Addr) (o : HO) : Hp := fun b => if b = a then some o else H b
theorem upd_same {H : Hp} {a : Addr} {o : HO} : upd H a o a = some o := by unfold upd; rw [if_pos rfl]
theorem upd_ne {H : Hp} {a b : Addr} {o : HO} (h : b ≠ a) : upd H a o b = H b := by unfold upd; rw [if_neg h]
theorem upd_upd {H : Hp} {a : Addr} {o u : HO} : upd (upd H a o) a u = upd H a u := by
  funext b; unfold upd; split <;> rfl
/-- two objects of different content stand apart -/
theorem ne_of {H : Hp} {a b : Addr} {o u : HO} (h : H a = some o) (h' : H b = some u) (d : o ≠ u) : a ≠ b := by
  intro e; subst e; rw [h] at h'; exact d (Option.some.inj h')
theorem ne_of_none {H : Hp} {a b : Addr} {o : HO} (h : H a = some o) (h' : H b = none) : a ≠ b := by
  intro e; subst e; rw [h] at h'; cases h'

section
variable (P : Program) (w : World)
def ObjOk (H : Hp) (h : Heap) (a : Addr) : HO → Prop
  | .lst xs => xs.length ≤ sizeLine ∧ ∃ (its : List Value) (n : Nat), Vals xs its ∧ h.get? a = some { cls := .type "list", data := .seq its.toArray n }
  | .tup xs => xs.length ≤ sizeLine ∧ ∃ its : List Value, Vals xs its ∧ IsTup h a its.toArray
  | .dK kvs => kvs.length ≤ sizeLine ∧ (a == sysModules) = false ∧ ∃ vs, KV kvs vs ∧ h.DictOf (mixKind P w) a vs
  | .dT kvs => kvs.length ≤ sizeLine ∧ (a == sysModules) = false ∧ ∃ xs : List (List Key × Addr × Value),
      Paired (fun (p : List Key × V) (q : List Key × Addr × Value) => p.1 = q.1 ∧ H q.2.1 = some (.tup (p.1.map kV)) ∧ RelV p.2 q.2.2) kvs xs ∧
      ∃ o es ep, h.get? a = some o ∧ o.ExactDict ∧ o.data = .dict es ep ∧ es.toList = xs.map (entryOfKey (tupleKind (mixKind P w))) ∧ (xs.map (·.1)).Nodup
  | .set S n => h.SetOf (intKind P w) a S n
  | .ins C dx fs => H dx = some (.own a) ∧ fs.length ≤ 1000 ∧ dx ≠ a ∧ h.get? a = some (PySem.W.instObj C dx) ∧
      ∃ mA, h.Ns1 dx mA ∧ (∀ f, RelO (fs.lookup f) (mA f)) ∧ PySem.Within mA (fs.map (·.1))
  | .own _ => ∃ o, h.get? a = some o
  | .xd fs => ∃ mA, h.Ns1 a mA ∧ ∀ f, RelO (fs.lookup f) (mA f)
  | .rng lo hi => ∃ t u v, h.get? a = some { cls := .type "range", data := .fields #[.int lo t, .int hi u, .int 1 v] }
  | .frz o u => h.get? a = some o ∧ ObjOk H h a u
  | .tbl ps => h.get? a = some { cls := .none, data := .fields ps }
  | .met f x => h.get? a = some (PySem.W.methodObj (.ref f) (.ref x))
  | .ext φ => φ h ∧ (∃ o, h.get? a = some o) ∧ ∀ h1 h2 : Heap, φ h1 → (∀ o, h1.get? a = some o → h2.get? a = some o) → φ h2
/-- the abstract heap is held -/
def HOk (H : Hp) (h : Heap) : Prop := ∀ a o, H a = some o → ObjOk P w H h a o
end

section
variable {P : Program} {w : World} {H H' : Hp} {h h' : Heap} {a : Addr} {o : HO}
theorem ObjOk.lt (x : ObjOk P w H h a o) : a < h.objs.size := by
  cases o with
  | lst xs => obtain ⟨_, _, _, _, e⟩ := x; exact Heap.lt_size e
  | tup xs => obtain ⟨_, _, _, p⟩ := x; exact p.lt
  | dK kvs => obtain ⟨_, _, _, _, o, _, _, e, _⟩ := x; exact Heap.lt_size e
  | dT kvs => obtain ⟨_, _, _, _, o, _, _, e, _⟩ := x; exact Heap.lt_size e
  | set S n => obtain ⟨o, _, _, _, e, _⟩ := x; exact Heap.lt_size e
  | ins C dx fs => obtain ⟨_, _, _, e, _⟩ := x; exact Heap.lt_size e
  | own y => obtain ⟨_, e⟩ := x; exact Heap.lt_size e
  | xd fs => obtain ⟨_, ⟨_, _, _, e, _⟩, _⟩ := x; exact Heap.lt_size e
  | rng lo hi => obtain ⟨_, _, _, e⟩ := x; exact Heap.lt_size e
  | frz ob u => obtain ⟨e, _⟩ := x; exact Heap.lt_size e
  | tbl ps => exact Heap.lt_size (show h.get? a = some _ from x)
  | met f y => exact Heap.lt_size (show h.get? a = some _ from x)
  | ext φ => obtain ⟨_, ⟨_, e⟩, _⟩ := x; exact Heap.lt_size e
theorem Paired.mapP {α β : Type} {F G : α → β → Prop} : ∀ {l₁ : List α} {l₂ : List β}, Paired F l₁ l₂ → (∀ a b, F a b → G a b) → Paired G l₁ l₂
  | _, _, .nil, _ => .nil
  | _, _, .cons r t, f => .cons (f _ _ r) (Paired.mapP t f)
theorem Paired.imp' {α β : Type} {F G : α → β → Prop} (f : ∀ a b, F a b → G a b) {l₁ : List α} {l₂ : List β} (r : Paired F l₁ l₂) : Paired G l₁ l₂ := Paired.mapP r f
/-- what an object's description leans on: its own object, its own dict, the tuples -/
theorem ObjOk.stay (x : ObjOk P w H h a o) (k : ∀ b u, (b = a ∨ H b = some (.own a)) → h.get? b = some u → h'.get? b = some u)
    (ho : ∀ b, H b = some (.own a) → H' b = some (.own a)) (ht : ∀ b xs, H b = some (.tup xs) → H' b = some (.tup xs)) : ObjOk P w H' h' a o := by
  induction o with
  | lst xs => obtain ⟨z, its, n, r, e⟩ := x; exact ⟨z, its, n, r, k _ _ (.inl rfl) e⟩
  | tup xs => obtain ⟨z, its, r, ob, e, c⟩ := x; exact ⟨z, its, r, ob, k _ _ (.inl rfl) e, c⟩
  | dK kvs => obtain ⟨z, y, vs, r, ob, es, ep, e, c⟩ := x; exact ⟨z, y, vs, r, ob, es, ep, k _ _ (.inl rfl) e, c⟩
  | dT kvs =>
    obtain ⟨z, y, xs, r, ob, es, ep, e, c⟩ := x
    exact ⟨z, y, xs, Paired.mapP r fun p q z => ⟨z.1, ht _ _ z.2.1, z.2.2⟩, ob, es, ep, k _ _ (.inl rfl) e, c⟩
  | set S n => obtain ⟨ob, es, ep, t, e, c⟩ := x; exact ⟨ob, es, ep, t, k _ _ (.inl rfl) e, c⟩
  | ins C dx fs =>
    obtain ⟨d, z, ne, e, mA, ⟨od, es, ep, e2, c⟩, r⟩ := x
    exact ⟨ho _ d, z, ne, k _ _ (.inl rfl) e, mA, ⟨od, es, ep, k _ _ (.inr d) e2, c⟩, r⟩
  | own y => obtain ⟨ob, e⟩ := x; exact ⟨ob, k _ _ (.inl rfl) e⟩
  | xd fs => obtain ⟨mA, ⟨od, es, ep, e, c⟩, r⟩ := x; exact ⟨mA, ⟨od, es, ep, k _ _ (.inl rfl) e, c⟩, r⟩
  | rng lo hi => obtain ⟨t, u, v, e⟩ := x; exact ⟨t, u, v, k _ _ (.inl rfl) e⟩
  | frz ob u ih => obtain ⟨e, q⟩ := x; exact ⟨k _ _ (.inl rfl) e, ih q⟩
  | tbl ps =>
    have e : h.get? a = some { cls := .none, data := .fields ps } := x
    show h'.get? a = some { cls := .none, data := .fields ps }
    exact k a _ (.inl rfl) e
  | met f y =>
    have e : h.get? a = some (PySem.W.methodObj (.ref f) (.ref y)) := x
    show h'.get? a = some (PySem.W.methodObj (.ref f) (.ref y))
    exact k a _ (.inl rfl) e
  | ext φ => obtain ⟨p, ⟨o, e⟩, st⟩ := x; exact ⟨st _ _ p fun o q => k _ _ (.inl rfl) q, ⟨o, k _ _ (.inl rfl) e⟩, st⟩
theorem HOk.lt (x : HOk P w H h) (e : H a = some o) : a < h.objs.size := (x a o e).lt
theorem HOk.fresh (x : HOk P w H h) (e : h.objs.size ≤ a) : H a = none := by
  cases q : H a with
  | none => rfl
  | some u => exact absurd (Nat.lt_of_lt_of_le (x.lt q) e) (Nat.lt_irrefl _)
/-- every object of the heap is kept -/
theorem HOk.kept (x : HOk P w H h) (k : ∀ b u, h.get? b = some u → h'.get? b = some u) : HOk P w H h' := fun a o e =>
  (x a o e).stay (fun b u _ q => k b u q) (fun _ q => q) fun _ _ q => q
/-- a new object is laid and tracked -/
theorem HOk.laid (x : HOk P w H h) (k : ∀ b u, h.get? b = some u → h'.get? b = some u) (hp : h.objs.size ≤ a) (new : ObjOk P w (upd H a o) h' a o) : HOk P w (upd H a o) h' := fun b u e => by
  have hn := x.fresh hp
  by_cases hb : b = a
  · subst hb; rw [upd_same] at e; cases e; exact new
  · rw [upd_ne hb] at e
    exact (x b u e).stay (fun c v _ q => k c v q) (fun c q => by rw [upd_ne (ne_of_none q hn)]; exact q) fun c xs q => by rw [upd_ne (ne_of_none q hn)]; exact q
end

/-- what may be read as u: it is u, or a known u -/
def Rd (H : Hp) (a : Addr) (u : HO) : Prop := H a = some u ∨ ∃ o, H a = some (.frz o u)
theorem Rd.of {H : Hp} {a : Addr} {u : HO} (h : H a = some u) : Rd H a u := .inl h
theorem Rd.ok {P : Program} {w : World} {H : Hp} {h : Heap} {a : Addr} {u : HO} (r : Rd H a u) (x : HOk P w H h) : ObjOk P w H h a u := by
  rcases r with r | ⟨o, r⟩
  · exact x a u r
  · obtain ⟨_, q⟩ := x a _ r
    exact q
/-- what may be written -/
def Mut : Option HO → Prop
  | some (.lst _) => True
  | some (.dK _) => True
  | some (.dT _) => True
  | some (.set _ _) => True
  | some (.ins _ _ _) => True
  | some (.ext _) => True
  | _ => False
section
variable {P : Program} {w : World} {H : Hp} {h h' : Heap} {x e : Addr} {o' : HO}
/-- the object at e is changed: x itself, or the dict of the instance x -/
theorem HOk.write (ok : HOk P w H h) (mu : Mut (H x)) (he : e = x ∨ H e = some (.own x)) (k : ∀ b u, b ≠ e → h.get? b = some u → h'.get? b = some u) (heo : ∃ u, h'.get? e = some u)
    (new : ObjOk P w (upd H x o') h' x o') : HOk P w (upd H x o') h' := fun b u q => by
  have nown : ∀ c y, H c = some (.own y) → c ≠ x := fun c y r z => by subst z; rw [r] at mu; exact mu
  have ntup : ∀ c xs, H c = some (.tup xs) → c ≠ x := fun c xs r z => by subst z; rw [r] at mu; exact mu
  by_cases hb : b = x
  · subst hb; rw [upd_same] at q; cases q; exact new
  · rw [upd_ne hb] at q
    by_cases hbe : b = e
    · have q' : H b = some (.own x) := by
        rcases he with z | z
        · exact absurd (hbe.trans z) hb
        · rw [hbe]; exact z
      rw [q] at q'; cases q'
      obtain ⟨v, hv⟩ := heo
      exact ⟨v, by rw [hbe]; exact hv⟩
    · refine (ok b u q).stay (fun c v hc r => k c v ?_ r) (fun c r => by rw [upd_ne (nown c b r)]; exact r) fun c xs r => by rw [upd_ne (ntup c xs r)]; exact r
      rcases hc with rfl | hc
      · exact hbe
      · rintro rfl
        rcases he with z | z
        · exact nown c b hc z
        · rw [hc] at z; cases z; exact hb rfl
end

/-! ### kept unless tracked; of the frames at fs (the callers') the slots may change (an exception that passes writes there); of the records at ex (iterators) nothing is said -/
structure Un (fs ex : List Addr) (H H' : Hp) (h h' : Heap) : Prop where
  keep : ∀ b o, h.get? b = some o → H b = none → b ∉ fs → b ∉ ex → h'.get? b = some o
  slot : ∀ b o, h.get? b = some o → H b = none → b ∈ fs → b ∉ ex → ∃ sl, h'.get? b = some { o with slots := sl }
  free : ∀ b o, h.get? b = some o → H b = none → b ∉ ex → H' b = none
  there : ∀ b o, h.get? b = some o → b ∉ ex → ∃ o', h'.get? b = some o'
  tups : ∀ b xs, H b = some (.tup xs) → H' b = some (.tup xs)
  frzs : ∀ b o u, H b = some (.frz o u) → H' b = some (.frz o u)
  tbls : ∀ b ps, H b = some (.tbl ps) → ∃ more, H' b = some (.tbl (ps ++ more))
section
variable {fs fs' ex ex' : List Addr} {H H1 H2 : Hp} {h h1 h2 h' : Heap} {a x e : Addr} {o : HO}
theorem Un.any (u : Un fs ex H H1 h h1) {b : Addr} {ob : Obj} (q : h.get? b = some ob) (n : H b = none) (hx : b ∉ ex) : ∃ sl, h1.get? b = some { ob with slots := sl } := by
  by_cases hb : b ∈ fs
  · exact u.slot b ob q n hb hx
  · exact ⟨ob.slots, u.keep b ob q n hb hx⟩
theorem Un.trans (a : Un fs ex H H1 h h1) (b : Un fs ex H1 H2 h1 h2) : Un fs ex H H2 h h2 where
  keep := fun c ob q n hc hx => b.keep c ob (a.keep c ob q n hc hx) (a.free c ob q n hx) hc hx
  slot := fun c ob q n hc hx => by
    obtain ⟨sl, e1⟩ := a.slot c ob q n hc hx
    obtain ⟨sl', e2⟩ := b.slot c _ e1 (a.free c ob q n hx) hc hx
    exact ⟨sl', e2⟩
  free := fun c ob q n hx => by
    obtain ⟨o', e1⟩ := a.there c ob q hx
    exact b.free c o' e1 (a.free c ob q n hx) hx
  there := fun c ob q hx => by
    obtain ⟨o', e1⟩ := a.there c ob q hx
    exact b.there c o' e1 hx
  tups := fun c xs q => b.tups c xs (a.tups c xs q)
  frzs := fun c ob xs q => b.frzs c ob xs (a.frzs c ob xs q)
  tbls := fun c ps q => by
    obtain ⟨m1, e1⟩ := a.tbls c ps q
    obtain ⟨m2, e2⟩ := b.tbls c _ e1
    exact ⟨m1 ++ m2, by rw [e2, Array.append_assoc]⟩
theorem Un.kept (k : ∀ b u, h.get? b = some u → h'.get? b = some u) : Un fs ex H H h h' :=
  ⟨fun b ob q _ _ _ => k b ob q, fun b ob q _ _ _ => ⟨ob.slots, k b ob q⟩, fun _ _ _ n _ => n, fun b ob q _ => ⟨ob, k b ob q⟩, fun _ _ q => q, fun _ _ _ q => q, fun _ ps q => ⟨#[], by rw [q]; simp⟩⟩
theorem Un.refl : Un fs ex H H h h := Un.kept fun _ _ q => q
theorem Un.laid (k : ∀ b u, h.get? b = some u → h'.get? b = some u) (hp : h.objs.size ≤ a) (hn : H a = none) : Un fs ex H (upd H a o) h h' where
  keep := fun b u q _ _ _ => k b u q
  slot := fun b u q _ _ _ => ⟨u.slots, k b u q⟩
  free := fun b u q n _ => by rw [upd_ne (Nat.ne_of_lt (Nat.lt_of_lt_of_le (Heap.lt_size q) hp))]; exact n
  there := fun b u q _ => ⟨u, k b u q⟩
  tups := fun b xs q => by rw [upd_ne (ne_of_none q hn)]; exact q
  frzs := fun b u xs q => by rw [upd_ne (ne_of_none q hn)]; exact q
  tbls := fun b ps q => ⟨#[], by rw [upd_ne (ne_of_none q hn), q]; simp⟩
theorem Un.write (mu : Mut (H x)) (he : e = x ∨ H e = some (.own x)) (k : ∀ b u, b ≠ e → h.get? b = some u → h'.get? b = some u) (heo : ∃ u, h'.get? e = some u) : Un fs ex H (upd H x o) h h' := by
  have hx : ∀ b, H b = none → b ≠ x := fun b n z => by subst z; rw [n] at mu; exact mu
  have hb : ∀ b, H b = none → b ≠ e := fun b n z => by
    subst z
    rcases he with r | r
    · exact hx b n r
    · rw [n] at r; cases r
  have hm : ∀ b u, H b = some u → ¬ Mut (some u) → b ≠ x := fun b u q nm z => by subst z; rw [q] at mu; exact nm mu
  refine ⟨fun b u q n _ _ => k b u (hb b n) q, fun b u q n _ _ => ⟨u.slots, k b u (hb b n) q⟩, fun b u q n _ => by rw [upd_ne (hx b n)]; exact n, fun b u q _ => ?_,
    fun b xs q => by rw [upd_ne (hm b _ q fun z => z)]; exact q, fun b u xs q => by rw [upd_ne (hm b _ q fun z => z)]; exact q, fun b ps q => ⟨#[], by rw [upd_ne (hm b _ q fun z => z), q]; simp⟩⟩
  by_cases hbe : b = e
  · subst hbe; exact heo
  · exact ⟨u, k b u hbe q⟩
theorem Un.mono (u : Un fs ex H H1 h h1) (hs : ∀ b ∈ fs, b ∈ fs') (hx : ∀ b ∈ ex, b ∈ ex') : Un fs' ex' H H1 h h1 :=
  ⟨fun b ob q n hb he => u.keep b ob q n (fun z => hb (hs b z)) fun z => he (hx b z), fun _ _ q n _ he => u.any q n fun z => he (hx _ z), fun b ob q n he => u.free b ob q n fun z => he (hx b z), fun b ob q he => u.there b ob q fun z => he (hx b z), u.tups, u.frzs, u.tbls⟩
end

/-! ### the heap without what is tracked -/
def trk (h : Heap) (H : Hp) : List Addr := (List.range h.objs.size).filter fun a => (H a).isSome
def hidT (h : Heap) (H : Hp) : Heap := PySem.W.hideAll h (trk h H)
theorem hidT_size (h : Heap) (H : Hp) : (hidT h H).objs.size = h.objs.size := PySem.W.hideAll_size _ _
theorem hidT_get {h : Heap} {H : Hp} {b : Addr} {o : Obj} (e : h.get? b = some o) (n : H b = none) : (hidT h H).get? b = some o :=
  PySem.W.hideAll_get _ e fun hm => by
    have q : (H b).isSome = true := (List.mem_filter.mp hm).2
    rw [n] at q; simp at q
theorem of_hidT {h : Heap} {H : Hp} {b : Addr} {o : Obj} (e : (hidT h H).get? b = some o) : h.get? b = some o ∧ H b = none := by
  have e' : h.get? b = some o := PySem.W.of_hideAll (trk h H) e
  refine ⟨e', ?_⟩
  cases q : H b with
  | none => rfl
  | some x =>
    have hm : b ∈ trk h H := List.mem_filter.mpr ⟨List.mem_range.mpr (Heap.lt_size e'), by simp [q]⟩
    have z : (hidT h H).get? b = none := PySem.W.hideAll_none (trk h H) hm
    rw [z] at e; cases e

/-! ### OpenK's ledger, filled with every new object but one -/
def allNews (g h : Heap) (L : Addr) : List (Addr × Obj) := (List.range h.objs.size).filterMap fun a => if a = L ∨ (g.get? a).isSome = true then none else (h.get? a).map fun o => (a, o)
theorem mem_allNews {g h : Heap} {L a : Addr} {o : Obj} (h1 : a ≠ L) (h2 : g.get? a = none) (h3 : h.get? a = some o) : (a, o) ∈ allNews g h L :=
  List.mem_filterMap.mpr ⟨a, List.mem_range.mpr (Heap.lt_size h3), by simp [h1, h2, h3]⟩
theorem of_mem_allNews {g h : Heap} {L : Addr} {p : Addr × Obj} (hp : p ∈ allNews g h L) : p.1 ≠ L ∧ g.get? p.1 = none ∧ h.get? p.1 = some p.2 := by
  obtain ⟨b, _, e⟩ := List.mem_filterMap.mp hp
  split at e
  · cases e
  · rename_i hn
    cases q : h.get? b with
    | none => rw [q] at e; simp at e
    | some u =>
      rw [q] at e
      simp only [Option.map_some, Option.some.injEq] at e
      subst e
      refine ⟨fun z => hn (.inl z), ?_, q⟩
      show g.get? b = none
      cases r : g.get? b with
      | none => rfl
      | some v => exact (hn (.inr (by simp [r]))).elim
def rest (g h : Heap) (L d : Addr) : List (Addr × Obj) := (allNews g h L).filter fun p => decide (p.1 ≠ d)
theorem rest_ne {g h : Heap} {L d : Addr} : ∀ p ∈ rest g h L d, p.1 ≠ d := fun p hp => of_decide_eq_true (List.mem_filter.mp hp).2
theorem mem_rest {g h : Heap} {L d a : Addr} {o : Obj} (h1 : a ≠ L) (h2 : g.get? a = none) (h3 : h.get? a = some o) (h4 : a ≠ d) : (a, o) ∈ rest g h L d :=
  List.mem_filter.mpr ⟨mem_allNews h1 h2 h3, decide_eq_true h4⟩
theorem news_all {g h : Heap} {L : Addr} : News g L h (allNews g h L) := fun p hp => let ⟨a, b, c⟩ := of_mem_allNews hp; ⟨c, a, b⟩
theorem news_at {g h : Heap} {L d : Addr} {o : Obj} (h1 : d ≠ L) (h2 : g.get? d = none) (h3 : h.get? d = some o) : News g L h ((d, o) :: rest g h L d) := fun p hp => by
  rcases List.mem_cons.mp hp with rfl | hp
  · exact ⟨h3, h1, h2⟩
  · exact news_all p (List.mem_filter.mp hp).1
/-- behind a rule that changed d alone: all else but the frame is kept -/
theorem kept_of_news {g h h' : Heap} {L d : Addr} {m : Str → Option Value} (k : ∀ b o, g.get? b = some o → h.get? b = some o) (F : Fr g L h' m) (N : News g L h' (rest g h L d)) :
    ∀ b o, b ≠ L → b ≠ d → h.get? b = some o → h'.get? b = some o := fun b o h1 h2 e => by
  cases q : g.get? b with
  | some u =>
    have := k b u q
    rw [e] at this; cases this
    exact F.keep b _ q
  | none => exact (N (b, o) (mem_rest h1 q e h2)).1
end L2

namespace L2
open PySem PySem.Spec PyProof.Rows

/-- the module's facts, over the base: the heap at the law's entry without what is tracked there -/
structure Mod (K : PySem.W.Frag) (mg : Str → Option Value) (base : Heap) : Prop where
  kin : K.In base
  glob : base.Ns mainGlobals mg
  blt : ∃ mb, base.Ns builtinsNs mb ∧ ∀ x : Str, x ≠ "__name__" → mb x = bootBuiltins x
  nolimit : base.NoLimit

/-- the context: a def's body (or a comprehension's block) running. base: fixed through the whole law; s₀, H₀: the entry; outer: the frames whose slots others may change (a def's callers); stack: all frames that run;
   ex: iterators that were made ahead of the entry and are walked here (a comprehension's); fn: the names whose cells were made at the entry (a def: all; a comprehension's block: its own); calm: not within an except suite; pn: pins that every state bears; xe: what is wanted of an exception that leaves the code -/
structure Cx where
  prog : Program
  w : World
  K : PySem.W.Frag
  mg : Str → Option Value
  base : Heap
  A : Around
  N : List Str
  s₀ : Shared
  H₀ : Hp
  env : Env
  outer : List Env
  stack : List Env
  ex : List Addr
  fn : Str → Bool
  calm : Bool
  pn : List (Addr × Obj)
  xe : Value → Shared → Prop
/-- the callers' frames -/
def frs (l : List Env) : List Addr := l.filterMap (·.frame)
abbrev Cx.fs (X : Cx) : List Addr := frs X.outer

def Vis (sc : Scope) (x : Str) : Prop := sc.names.lookup x = some .local ∨ sc.names.lookup x = some .cell ∨ sc.names.lookup x = some .free
def Loc (sc : Scope) (x : Str) : Prop := sc.names.lookup x = some .local ∨ sc.names.lookup x = some .cell
def Look (env : Env) (h : Heap) (m : Str → Option Value) (x : Str) (u : Value) : Prop :=
  (env.kindOf x = some .local ∧ m x = some u) ∨ ((env.kindOf x = some .cell ∨ env.kindOf x = some .free) ∧ ∃ c, env.cells.lookup x = some c ∧ h.IsCell c (some u))

structure Cx.Ok (X : Cx) : Prop where
  mod : Mod X.K X.mg X.base
  kind : X.env.scope.kind = .function
  glob : X.env.globals = mainGlobals
  blt : X.env.builtins = builtinsNs
  above : X.s₀.heap.objs.size ≤ X.env.locals
  inj : ∀ x y c, X.env.cells.lookup x = some c → X.env.cells.lookup y = some c → x = y
  has : ∀ x, (X.env.kindOf x = some .cell ∨ X.env.kindOf x = some .free) → ∃ c, X.env.cells.lookup x = some c
  cab : ∀ x c, X.fn x = true → X.env.cells.lookup x = some c → X.s₀.heap.objs.size ≤ c
  hd : X.calm = true → X.A.handled = none
  frames : X.A.frames = some X.stack
  stk : X.stack = X.outer ∨ (X.stack = X.env :: X.outer ∧ X.env.frame = some X.env.locals)
  exf : ∀ b ∈ X.ex, b ≠ X.env.locals ∧ ∀ x c, X.env.cells.lookup x = some c → c ≠ b
  bs : ∀ b o, X.base.get? b = some o → X.s₀.heap.get? b = some o ∧ X.H₀ b = none
  bsz : X.base.objs.size ≤ X.s₀.heap.objs.size
  noex : ∀ b o, X.base.get? b = some o → b ∉ X.ex
  exfs : ∀ b ∈ X.ex, b ∉ X.fs
  funs : X.s₀.heap.FunFrames X.base X.outer
  frf : ∀ b ∈ X.fs, X.H₀ b = none

structure Inv (X : Cx) (pins : List (Addr × Obj)) (σ : List (Option V)) (H : Hp) (s : Shared) : Prop where
  ok : X.Ok
  os : s.os = X.s₀.os
  bare : AllBare s.gens
  base : Un X.fs X.ex X.H₀ H X.s₀.heap s.heap
  loc : ∃ m, s.heap.Ns X.env.locals m ∧ ∀ (i : Nat) (x : Str) (v : V), X.N[i]? = some x → σ[i]? = some (some v) → Vis X.env.scope x → ∃ u, RelV v u ∧ Look X.env s.heap m x u
  cell : ∀ x c, X.env.cells.lookup x = some c → ∃ v, s.heap.IsCell c v
  free : H X.env.locals = none
  freeC : ∀ x c, X.env.cells.lookup x = some c → H c = none
  pin : ∀ p ∈ X.pn ++ pins, s.heap.get? p.1 = some p.2 ∧ H p.1 = none ∧ p.1 ≠ X.env.locals ∧ p.1 ∉ X.fs ∧ ∀ v, p.2.data ≠ .cell v
  hok : HOk X.prog X.w H s.heap
  len : σ.length = X.N.length

section
variable {X : Cx} {pins : List (Addr × Obj)} {σ : List (Option V)} {H H' : Hp} {s : Shared} {h' : Heap}

theorem Cx.Ok.nofr (ok : X.Ok) {b : Addr} {o : Obj} (e : X.base.get? b = some o) : b ∉ X.fs := fun hb => by
  have := (ok.funs.mem hb).1
  rw [e] at this; cases this
theorem Inv.bs (I : Inv X pins σ H s) : ∀ b o, X.base.get? b = some o → s.heap.get? b = some o ∧ H b = none := fun b o e =>
  ⟨I.base.keep b o (I.ok.bs b o e).1 (I.ok.bs b o e).2 (I.ok.nofr e) (I.ok.noex b o e), I.base.free b o (I.ok.bs b o e).1 (I.ok.bs b o e).2 (I.ok.noex b o e)⟩
theorem Inv.bk (I : Inv X pins σ H s) : ∀ b o, X.base.get? b = some o → s.heap.get? b = some o := fun b o e => (I.bs b o e).1
theorem Inv.mod (I : Inv X pins σ H s) : Mod X.K X.mg X.base := I.ok.mod
theorem Inv.kIn (I : Inv X pins σ H s) : X.K.In s.heap := I.ok.mod.kin.keeps I.bk
theorem Inv.nolimit (I : Inv X pins σ H s) : s.heap.NoLimit := I.ok.mod.nolimit.keeps I.bk
/-- the frame over the base: for OpenK's rules (K.In X.base is I.mod.kin) -/
theorem Inv.fr (I : Inv X pins σ H s) : ∃ m, Fr X.base X.env.locals s.heap m :=
  let ⟨m, hn, _⟩ := I.loc
  ⟨m, hn, I.bk, Nat.le_trans I.ok.bsz I.ok.above⟩
theorem Inv.lt (I : Inv X pins σ H s) : X.env.locals < s.heap.objs.size := let ⟨_, hn, _⟩ := I.loc; hn.lt
theorem Inv.sz (I : Inv X pins σ H s) : X.s₀.heap.objs.size ≤ s.heap.objs.size := Nat.le_trans I.ok.above (Nat.le_of_lt I.lt)
theorem Inv.nofs (I : Inv X pins σ H s) {a : Addr} (h : s.heap.objs.size ≤ a) : a ∉ X.fs := fun hb => by
  obtain ⟨_, o, ho, _⟩ := I.ok.funs.mem hb
  exact absurd (Nat.lt_of_lt_of_le (Heap.lt_size ho) (Nat.le_trans I.sz h)) (Nat.lt_irrefl _)
theorem Inv.cne (I : Inv X pins σ H s) : ∀ x c, X.env.cells.lookup x = some c → c ≠ X.env.locals := fun x c e z => by
  obtain ⟨v, o, ho, hd⟩ := I.cell x c e
  obtain ⟨m, ⟨o', es, ep, ho', hd', _⟩, _⟩ := I.loc
  rw [z, ho'] at ho; cases ho; rw [hd'] at hd; cases hd
theorem Inv.funs (I : Inv X pins σ H s) : s.heap.FunFrames X.base X.outer := by
  have all : ∀ (l : List Env), (∀ b ∈ frs l, b ∈ X.fs) → X.s₀.heap.FunFrames X.base l → s.heap.FunFrames X.base l := by
    intro l
    induction l with
    | nil => intro _ _; trivial
    | cons env r ih =>
      intro hs hl
      obtain ⟨hk, ⟨L, o, hf, hn, ho, hd⟩, hr⟩ := hl
      have hL : L ∈ X.fs := hs L (by unfold frs; rw [List.filterMap_cons, hf]; exact List.mem_cons_self)
      obtain ⟨sl, e⟩ := I.base.slot L o ho (I.ok.frf L hL) hL fun z => I.ok.exfs L z hL
      exact ⟨hk, ⟨L, _, hf, hn, e, hd⟩, ih (fun b hb => hs b (by unfold frs; rw [List.filterMap_cons, hf]; exact List.mem_cons_of_mem _ hb)) hr⟩
  exact all X.outer (fun _ hb => hb) I.ok.funs

/-- the frames that run, for a call -/
theorem Inv.stack (I : Inv X pins σ H s) : s.heap.FunFrames X.base X.stack := by
  rcases I.ok.stk with e | ⟨e, hf⟩
  · rw [e]; exact I.funs
  · rw [e]
    obtain ⟨m, hn, _⟩ := I.loc
    refine .cons (by rw [I.ok.kind]; decide) hf hn ?_ I.funs
    exact Heap.get?_none_of_le (Nat.le_trans I.ok.bsz I.ok.above)
theorem Inv.stkSub (I : Inv X pins σ H s) : ∀ b ∈ frs X.stack, b ∈ X.env.locals :: X.fs := fun b hb => by
  rcases I.ok.stk with e | ⟨e, hf⟩
  · rw [e] at hb; exact List.mem_cons_of_mem _ hb
  · rw [e] at hb
    unfold frs at hb
    rw [List.filterMap_cons, hf] at hb
    exact hb
theorem Inv.stkFree (I : Inv X pins σ H s) : ∀ b ∈ frs X.stack, H b = none := fun b hb => by
  rcases List.mem_cons.mp (I.stkSub b hb) with e | hb
  · rw [e]; exact I.free
  · obtain ⟨_, o, ho, _⟩ := I.ok.funs.mem hb
    exact I.base.free b o ho (I.ok.frf b hb) fun z => I.ok.exfs b z hb

/-- THE STEP: the untracked objects but the frame and the records at ch are kept (the callers' frames up to slots), the frame's map is kept, the new abstract heap is held -/
theorem Inv.step {g' : Array GenState} {t' : Nat} {d' : Drawn} {ch : List Addr} (I : Inv X pins σ H s)
    (hch : ∀ b ∈ ch, (b ∈ X.ex ∨ X.s₀.heap.objs.size ≤ b) ∧ b ≠ X.env.locals ∧ (∀ x c, X.env.cells.lookup x = some c → c ≠ b) ∧ ∀ p ∈ X.pn ++ pins, p.1 ≠ b)
    (keep : ∀ b o, b ≠ X.env.locals → b ∉ X.fs → b ∉ ch → s.heap.get? b = some o → H b = none → h'.get? b = some o)
    (slot : ∀ b o, b ≠ X.env.locals → b ∈ X.fs → b ∉ ch → s.heap.get? b = some o → H b = none → ∃ sl, h'.get? b = some { o with slots := sl }) (free : ∀ b o, b ∉ ch → s.heap.get? b = some o → H b = none → H' b = none)
    (there : ∀ b o, b ∉ ch → s.heap.get? b = some o → ∃ o', h'.get? b = some o')
    (tups : ∀ b xs, H b = some (.tup xs) → H' b = some (.tup xs)) (frzs : ∀ b o u, H b = some (.frz o u) → H' b = some (.frz o u)) (tbls : ∀ b ps, H b = some (.tbl ps) → ∃ more, H' b = some (.tbl (ps ++ more)))
    (ns : ∀ m, s.heap.Ns X.env.locals m → h'.Ns X.env.locals m) (hok : HOk X.prog X.w H' h') (hg : AllBare g') :
    Inv X pins σ H' { s with heap := h', gens := g', drawn := d', toks := t' } := by
  have neL : ∀ b o, X.s₀.heap.get? b = some o → b ≠ X.env.locals := fun b o e => Nat.ne_of_lt (Nat.lt_of_lt_of_le (Heap.lt_size e) I.ok.above)
  have neC : ∀ b o, X.s₀.heap.get? b = some o → b ∉ X.ex → b ∉ ch := fun b o e hx hb => by
    rcases (hch b hb).1 with z | z
    · exact hx z
    · exact absurd (Nat.lt_of_lt_of_le (Heap.lt_size e) z) (Nat.lt_irrefl _)
  have cellK : ∀ x c, X.env.cells.lookup x = some c → ∀ v, s.heap.IsCell c v → h'.IsCell c v := fun x c e v ⟨o, ho, hd⟩ => by
    have nch : c ∉ ch := fun z => (hch c z).2.2.1 x c e rfl
    by_cases hc : c ∈ X.fs
    · obtain ⟨sl, q⟩ := slot c o (I.cne x c e) hc nch ho (I.freeC x c e)
      exact ⟨_, q, hd⟩
    · exact ⟨o, keep c o (I.cne x c e) hc nch ho (I.freeC x c e), hd⟩
  refine ⟨I.ok, I.os, hg, ⟨fun b o e n hb hx => ?_, fun b o e n hb hx => ?_, fun b o e n hx => ?_, fun b o e hx => ?_, fun b xs e => tups b xs (I.base.tups b xs e), fun b o xs e => frzs b o xs (I.base.frzs b o xs e), fun b ps e => ?_⟩, ?_, fun x c e => ?_, ?_, fun x c e => ?_, fun p hp => ?_, hok, I.len⟩
  · exact keep b o (neL b o e) hb (neC b o e hx) (I.base.keep b o e n hb hx) (I.base.free b o e n hx)
  · obtain ⟨sl, e1⟩ := I.base.slot b o e n hb hx
    obtain ⟨sl', e2⟩ := slot b _ (neL b o e) hb (neC b o e hx) e1 (I.base.free b o e n hx)
    exact ⟨sl', e2⟩
  · obtain ⟨o', e1⟩ := I.base.there b o e hx
    exact free b o' (neC b o e hx) e1 (I.base.free b o e n hx)
  · obtain ⟨o', e1⟩ := I.base.there b o e hx
    exact there b o' (neC b o e hx) e1
  · obtain ⟨m1, e1⟩ := I.base.tbls b ps e
    obtain ⟨m2, e2⟩ := tbls b _ e1
    exact ⟨m1 ++ m2, by rw [e2, Array.append_assoc]⟩
  · obtain ⟨m, hn, hl⟩ := I.loc
    refine ⟨m, ns m hn, fun i x v e1 e2 e3 => ?_⟩
    obtain ⟨u, r, l⟩ := hl i x v e1 e2 e3
    refine ⟨u, r, ?_⟩
    rcases l with l | ⟨k, c, e, z⟩
    · exact .inl l
    · exact .inr ⟨k, c, e, cellK x c e _ z⟩
  · obtain ⟨v, z⟩ := I.cell x c e
    exact ⟨v, cellK x c e v z⟩
  · obtain ⟨m, ⟨o, _, _, ho, _⟩, _⟩ := I.loc
    exact free _ o (fun z => (hch _ z).2.1 rfl) ho I.free
  · obtain ⟨v, o, ho, hd⟩ := I.cell x c e
    exact free c o (fun z => (hch c z).2.2.1 x c e rfl) ho (I.freeC x c e)
  · obtain ⟨e, n, ne, nf, d⟩ := I.pin p hp
    have nch : p.1 ∉ ch := fun z => (hch p.1 z).2.2.2 p hp rfl
    exact ⟨keep p.1 p.2 ne nf nch e n, free p.1 p.2 nch e n, ne, nf, d⟩
/-- .. where the frame's own object is kept too -/
theorem Inv.un {t' : Nat} (I : Inv X pins σ H s) (u : Un X.fs [] H H' s.heap h') (hok : HOk X.prog X.w H' h') : Inv X pins σ H' { s with heap := h', toks := t' } := by
  obtain ⟨m, ⟨o, es, ep, ho, r⟩, _⟩ := id I.loc
  obtain ⟨sl, hL⟩ := u.any ho I.free (by simp)
  exact I.step (g' := s.gens) (d' := s.drawn) (ch := []) (fun _ z => nomatch z) (fun b o _ hb _ e n => u.keep b o e n hb (by simp)) (fun b o _ hb _ e n => u.slot b o e n hb (by simp)) (fun b o _ e n => u.free b o e n (by simp)) (fun b o _ e => u.there b o e (by simp)) u.tups u.frzs u.tbls (fun m' hm => by
    obtain ⟨o', es', ep', ho', r'⟩ := hm
    rw [ho] at ho'; cases ho'
    exact ⟨_, es', ep', hL, r'⟩) hok I.bare
/-- behind a call (or a comprehension's block): the slots of this frame may have changed too, the records at ch may have turned -/
theorem Inv.call {g' : Array GenState} {t' : Nat} {d' : Drawn} {ch : List Addr} (I : Inv X pins σ H s) (u : Un (frs X.stack) ch H H' s.heap h') (hok : HOk X.prog X.w H' h') (hg : AllBare g')
    (hch : ∀ b ∈ ch, (b ∈ X.ex ∨ X.s₀.heap.objs.size ≤ b) ∧ b ≠ X.env.locals ∧ (∀ x c, X.env.cells.lookup x = some c → c ≠ b) ∧ ∀ p ∈ X.pn ++ pins, p.1 ≠ b) :
    Inv X pins σ H' { s with heap := h', gens := g', drawn := d', toks := t' } := by
  obtain ⟨m, ⟨o, es, ep, ho, r⟩, _⟩ := id I.loc
  obtain ⟨sl, hL⟩ := u.any ho I.free fun z => (hch _ z).2.1 rfl
  exact I.step (ch := ch) hch (fun b o hL hb hc e n => u.keep b o e n (fun z => (List.mem_cons.mp (I.stkSub b z)).elim hL hb) hc) (fun b o _ _ hc e n => u.any e n hc) (fun b o hc e n => u.free b o e n hc) (fun b o hc e => u.there b o e hc) u.tups u.frzs u.tbls (fun m' hm => by
    obtain ⟨o', es', ep', ho', r'⟩ := hm
    rw [ho] at ho'; cases ho'
    exact ⟨_, es', ep', hL, r'⟩) hok hg
/-- an untracked record of ours (an iterator) has turned -/
theorem Inv.turned {t' : Nat} {it : Addr} (I : Inv X pins σ H s) (k : ∀ b o, b ≠ it → s.heap.get? b = some o → h'.get? b = some o) (hn : H it = none) (hL : it ≠ X.env.locals)
    (h1 : it ∈ X.ex ∨ X.s₀.heap.objs.size ≤ it) (h2 : ∀ x c, X.env.cells.lookup x = some c → c ≠ it) (h3 : ∀ p ∈ X.pn ++ pins, p.1 ≠ it) : Inv X pins σ H { s with heap := h', toks := t' } := by
  have nit : ∀ b u, H b = some u → b ≠ it := fun b u e z => by rw [z, hn] at e; cases e
  refine I.step (g' := s.gens) (d' := s.drawn) (ch := [it]) (fun b hb => ?_) (fun b o _ _ hc e _ => k b o (fun z => hc (by simp [z])) e) (fun b o _ _ hc e _ => ⟨o.slots, k b o (fun z => hc (by simp [z])) e⟩) (fun _ _ _ _ n => n)
    (fun b o hc e => ⟨o, k b o (fun z => hc (by simp [z])) e⟩) (fun _ _ e => e) (fun _ _ _ e => e) (fun b ps e => ⟨#[], by rw [e]; simp⟩) (fun m hm => ?_) (fun b u e => ?_) I.bare
  · have e : b = it := by simpa using hb
    subst e
    exact ⟨h1, hL, h2, h3⟩
  · obtain ⟨o, es, ep, ho, r⟩ := hm
    exact ⟨o, es, ep, k _ o (Ne.symm hL) ho, r⟩
  · refine (I.hok b u e).stay (fun c v hc q => k c v ?_ q) (fun _ q => q) fun _ _ q => q
    rcases hc with z | z
    · rw [z]; exact nit b u e
    · exact nit c _ z
theorem Inv.tok (I : Inv X pins σ H s) (t : Nat) : Inv X pins σ H { s with toks := t } := I.un (h' := s.heap) (t' := t) Un.refl I.hok
/-- all objects kept -/
theorem Inv.kept {t' : Nat} (I : Inv X pins σ H s) (k : ∀ b u, s.heap.get? b = some u → h'.get? b = some u) : Inv X pins σ H { s with heap := h', toks := t' } := I.un (Un.kept k) (I.hok.kept k)
/-- a new object laid and tracked -/
theorem Inv.laid {a : Addr} {o : HO} {t' : Nat} (I : Inv X pins σ H s) (k : ∀ b u, s.heap.get? b = some u → h'.get? b = some u) (hp : s.heap.objs.size ≤ a) (new : ObjOk X.prog X.w (upd H a o) h' a o) :
    Inv X pins σ (upd H a o) { s with heap := h', toks := t' } := I.un (Un.laid k hp (I.hok.fresh hp)) (I.hok.laid k hp new)
/-- an object written -/
theorem Inv.write {x e : Addr} {o : HO} {t' : Nat} (I : Inv X pins σ H s) (mu : Mut (H x)) (he : e = x ∨ H e = some (.own x)) (k : ∀ b u, b ≠ e → s.heap.get? b = some u → h'.get? b = some u) (heo : ∃ u, h'.get? e = some u)
    (new : ObjOk X.prog X.w (upd H x o) h' x o) : Inv X pins σ (upd H x o) { s with heap := h', toks := t' } := I.un (Un.write mu he k heo) (I.hok.write mu he k heo new)
/-- forgetting slots, pins -/
theorem Inv.weak {σ' : List (Option V)} (I : Inv X pins σ H s) (hl : σ'.length = σ.length) (w : ∀ (i : Nat) v, σ'[i]? = some (some v) → σ[i]? = some (some v)) : Inv X pins σ' H s :=
  ⟨I.ok, I.os, I.bare, I.base, let ⟨m, hn, hl'⟩ := I.loc; ⟨m, hn, fun i x v e1 e2 e3 => hl' i x v e1 (w i v e2) e3⟩, I.cell, I.free, I.freeC, I.pin, I.hok, hl.trans I.len⟩
theorem Inv.pins_of {pins' : List (Addr × Obj)} (I : Inv X pins σ H s) (h : ∀ p ∈ pins', s.heap.get? p.1 = some p.2 ∧ H p.1 = none ∧ p.1 ≠ X.env.locals ∧ p.1 ∉ X.fs ∧ ∀ v, p.2.data ≠ .cell v) : Inv X pins' σ H s :=
  ⟨I.ok, I.os, I.bare, I.base, I.loc, I.cell, I.free, I.freeC, fun p hp => (List.mem_append.mp hp).elim (fun z => I.pin p (List.mem_append_left _ z)) (h p), I.hok, I.len⟩

theorem nodup_ix {N : List Str} (hN : N.Nodup) {i j : Nat} {x : Str} (a : N[i]? = some x) (b : N[j]? = some x) : i = j := by
  obtain ⟨h1, e1⟩ := List.getElem?_eq_some_iff.mp a
  obtain ⟨h2, e2⟩ := List.getElem?_eq_some_iff.mp b
  exact (List.getElem_inj hN).mp (e1.trans e2.symm)

/-- a name is stored; what changed -/
theorem store_ok2 {M : Model} {A : Around} {E : Value → Shared → Prop} {i : Nat} {x : Str} {v : V} {u : Value} {Q : Unit → Shared → Prop} (I : Inv X pins σ H s) (hN : X.N.Nodup) (hi : X.N[i]? = some x) (hx : Loc X.env.scope x) (r : RelV v u)
    (h : ∀ s', Inv X pins (σ.set i (some v)) H s' → (∃ a, Heap.SameBut a s.heap s'.heap ∧ (a = X.env.locals ∨ X.env.cells.lookup x = some a)) → Q () s') (hf : X.fn x = true ∨ X.env.scope.names.lookup x = some .local := by first | exact .inl rfl | exact .inr rfl | assumption) : wpAny M A (storeName X.env x u) Q E s := by
  obtain ⟨m, hn, hl⟩ := id I.loc
  have hcls : (X.env.scope.kind == .class || (X.env.scope.kind == .module && X.env.locals != X.env.globals)) = false := by rw [I.ok.kind]; rfl
  have hiσ : i < σ.length := by rw [I.len]; exact (List.getElem?_eq_some_iff.mp hi).1
  have cne := I.cne
  have tracked : ∀ {a : Addr} {h' : Heap}, (∃ o, s.heap.get? a = some o ∧ H a = none) → Heap.SameBut a s.heap h' → HOk X.prog X.w H h' := fun {a h'} ha hs b ob e => by
    obtain ⟨_, _, hfree⟩ := ha
    refine (I.hok b ob e).stay (fun c w' hc q => (hs.2 c ?_).trans q) (fun _ q => q) fun _ _ q => q
    rintro rfl
    rcases hc with rfl | hc
    · rw [hfree] at e; cases e
    · rw [hfree] at hc; cases hc
  rcases hx with hk | hk
  · refine wpAny_storeName_local hk hn (fun h' hn' hs => ?_) hcls
    obtain ⟨oL, _, _, hoL, _⟩ := id hn
    refine h _ ⟨I.ok, I.os, I.bare, ⟨fun b o e n hb hx => ?_, fun b o e n hb hx => ?_, I.base.free, fun b o e hx => ?_, I.base.tups, I.base.frzs, I.base.tbls⟩, ⟨_, hn', fun j y v' e1 e2 e3 => ?_⟩, fun y c e => ?_, I.free, I.freeC, fun p hp => ?_, tracked ⟨oL, hoL, I.free⟩ hs, by simpa using I.len⟩ ⟨_, hs, .inl rfl⟩
    · exact (hs.2 b (Nat.ne_of_lt (Nat.lt_of_lt_of_le (Heap.lt_size e) I.ok.above))).trans (I.base.keep b o e n hb hx)
    · obtain ⟨sl, e1⟩ := I.base.slot b o e n hb hx
      exact ⟨sl, (hs.2 b (Nat.ne_of_lt (Nat.lt_of_lt_of_le (Heap.lt_size e) I.ok.above))).trans e1⟩
    · obtain ⟨o', e1⟩ := I.base.there b o e hx
      exact ⟨o', (hs.2 b (Nat.ne_of_lt (Nat.lt_of_lt_of_le (Heap.lt_size e) I.ok.above))).trans e1⟩
    · by_cases hj : j = i
      · subst hj
        rw [hi] at e1; cases e1
        rw [List.getElem?_set_self hiσ] at e2
        cases e2
        exact ⟨u, r, .inl ⟨hk, by simp⟩⟩
      · rw [List.getElem?_set_ne (Ne.symm hj)] at e2
        obtain ⟨u', r', q⟩ := hl j y v' e1 e2 e3
        refine ⟨u', r', ?_⟩
        rcases q with ⟨k, e⟩ | ⟨k, c, e, z⟩
        · refine .inl ⟨k, ?_⟩
          have : y ≠ x := fun e => hj (nodup_ix hN e1 (e ▸ hi))
          simp [this, e]
        · exact .inr ⟨k, c, e, z.sameBut hs (cne y c e)⟩
    · obtain ⟨w', z⟩ := I.cell y c e
      exact ⟨w', z.sameBut hs (cne y c e)⟩
    · obtain ⟨e, n, ne, nf, d⟩ := I.pin p hp
      exact ⟨(hs.2 p.1 ne).trans e, n, ne, nf, d⟩
  · have hfn : X.fn x = true := by
      rcases hf with z | z
      · exact z
      · rw [z] at hk; cases hk
    obtain ⟨c, hc⟩ := I.ok.has x (.inl hk)
    obtain ⟨w', z⟩ := I.cell x c hc
    refine wpAny_storeName_cell I.ok.kind hk hc z (fun h' hc' hs => ?_)
    obtain ⟨oc, hoc, hocd⟩ := id z
    refine h { s with heap := h' } ⟨I.ok, I.os, I.bare, ⟨fun b o e n hb hx => ?_, fun b o e n hb hx => ?_, I.base.free, fun b o e hx => ?_, I.base.tups, I.base.frzs, I.base.tbls⟩, ⟨m, hn.sameBut hs (Ne.symm (cne x c hc)), fun j y v' e1 e2 e3 => ?_⟩, fun y c' e => ?_, I.free, I.freeC, fun p hp => ?_, tracked ⟨oc, hoc, I.freeC x c hc⟩ hs, by simpa using I.len⟩ ⟨c, hs, .inr hc⟩
    · exact (hs.2 b (Nat.ne_of_lt (Nat.lt_of_lt_of_le (Heap.lt_size e) (I.ok.cab x c hfn hc)))).trans (I.base.keep b o e n hb hx)
    · obtain ⟨sl, e1⟩ := I.base.slot b o e n hb hx
      exact ⟨sl, (hs.2 b (Nat.ne_of_lt (Nat.lt_of_lt_of_le (Heap.lt_size e) (I.ok.cab x c hfn hc)))).trans e1⟩
    · obtain ⟨o', e1⟩ := I.base.there b o e hx
      exact ⟨o', (hs.2 b (Nat.ne_of_lt (Nat.lt_of_lt_of_le (Heap.lt_size e) (I.ok.cab x c hfn hc)))).trans e1⟩
    · by_cases hj : j = i
      · subst hj
        rw [hi] at e1; cases e1
        rw [List.getElem?_set_self hiσ] at e2
        cases e2
        exact ⟨u, r, .inr ⟨.inl hk, c, hc, hc'⟩⟩
      · rw [List.getElem?_set_ne (Ne.symm hj)] at e2
        obtain ⟨u', r', q⟩ := hl j y v' e1 e2 e3
        refine ⟨u', r', ?_⟩
        rcases q with q | ⟨k, c', e, z'⟩
        · exact .inl q
        · refine .inr ⟨k, c', e, z'.sameBut hs ?_⟩
          rintro rfl
          exact hj (nodup_ix hN e1 (I.ok.inj _ _ _ e hc ▸ hi))
    · by_cases hcc : c' = c
      · subst hcc; exact ⟨_, hc'⟩
      · obtain ⟨w2, z2⟩ := I.cell y c' e
        exact ⟨w2, z2.sameBut hs hcc⟩
    · obtain ⟨e, n, ne, nf, d⟩ := I.pin p hp
      refine ⟨(hs.2 p.1 ?_).trans e, n, ne, nf, d⟩
      intro q
      rw [q, hoc] at e
      have q' : oc = p.2 := Option.some.inj e
      exact d w' (by rw [← q']; exact hocd)
theorem store_ok {M : Model} {A : Around} {E : Value → Shared → Prop} {i : Nat} {x : Str} {v : V} {u : Value} {Q : Unit → Shared → Prop} (I : Inv X pins σ H s) (hN : X.N.Nodup) (hi : X.N[i]? = some x) (hx : Loc X.env.scope x) (r : RelV v u)
    (h : ∀ s', Inv X pins (σ.set i (some v)) H s' → Q () s') (hf : X.fn x = true ∨ X.env.scope.names.lookup x = some .local := by first | exact .inl rfl | exact .inr rfl | assumption) : wpAny M A (storeName X.env x u) Q E s :=
  store_ok2 I hN hi hx r (fun s' I' _ => h s' I') hf
/-- behind a call or a block, the state as it is -/
theorem Inv.call' {s' : Shared} {ch : List Addr} (I : Inv X pins σ H s) (ho : s'.os = s.os) (u : Un (frs X.stack) ch H H' s.heap s'.heap) (hok : HOk X.prog X.w H' s'.heap) (hg : AllBare s'.gens)
    (hch : ∀ b ∈ ch, (b ∈ X.ex ∨ X.s₀.heap.objs.size ≤ b) ∧ b ≠ X.env.locals ∧ (∀ x c, X.env.cells.lookup x = some c → c ≠ b) ∧ ∀ p ∈ X.pn ++ pins, p.1 ≠ b) : Inv X pins σ H' s' := by
  obtain ⟨h', g', d', t', o'⟩ := s'
  have e : o' = s.os := ho
  subst e
  exact I.call (g' := g') (t' := t') (d' := d') u hok hg hch
end

/-! ### the judgements -/
/-- an exception: its class, its own dict's address (where it has one), the abstract heap behind it -/
abbrev XK := Value → Option Addr → Hp → Prop
abbrev St := List (Option V)
abbrev VK := V → Hp → Prop
/-- an expression's reading; a test's; an argument list's -/
abbrev TE := St → Hp → VK → Prop
abbrev TT := St → Hp → (Bool → Hp → Prop) → Prop
abbrev TA := St → Hp → (List V → Hp → Prop) → Prop
/-- what is wanted behind a statement -/
structure Ends where
  nx : St → Hp → Prop
  rt : VK
  bk : St → Hp → Prop := fun _ _ => False
  ct : St → Hp → Prop := fun _ _ => False
abbrev TS := Ends → St → Hp → Prop

def EP (X : Cx) (pins : List (Addr × Obj)) (σ : St) (Q : VK) (u : Value) (s' : Shared) : Prop := ∃ v H', Inv X pins σ H' s' ∧ RelV v u ∧ Q v H'
def TP (X : Cx) (pins : List (Addr × Obj)) (σ : St) (Q : Bool → Hp → Prop) (b : Bool) (s' : Shared) : Prop := ∃ H', Inv X pins σ H' s' ∧ Q b H'
def AP (X : Cx) (pins : List (Addr × Obj)) (σ : St) (Q : List V → Hp → Prop) (us : List Value) (s' : Shared) : Prop := ∃ vs H', Inv X pins σ H' s' ∧ Vals vs us ∧ Q vs H'
def SP (X : Cx) (pins : List (Addr × Obj)) (D : Ends) (f : Flow) (s' : Shared) : Prop :=
  match f with
  | .next => ∃ σ' H', Inv X pins σ' H' s' ∧ D.nx σ' H'
  | .brk => ∃ σ' H', Inv X pins σ' H' s' ∧ D.bk σ' H'
  | .cont => ∃ σ' H', Inv X pins σ' H' s' ∧ D.ct σ' H'
  | .ret u => ∃ v σ' H', Inv X pins σ' H' s' ∧ RelV v u ∧ D.rt v H'

def PE (X : Cx) (e : Expr) (t : TE) : Prop :=
  ∀ (pins : List (Addr × Obj)) (s : Shared) (σ : St) (H : Hp) (Q : VK), Inv X pins σ H s → t σ H Q → wpAny (model X.prog X.w) X.A (eval e X.env) (EP X pins σ Q) X.xe s
def PT (X : Cx) (e : Expr) (t : TT) : Prop :=
  ∀ (pins : List (Addr × Obj)) (s : Shared) (σ : St) (H : Hp) (Q : Bool → Hp → Prop), Inv X pins σ H s → t σ H Q → wpAny (model X.prog X.w) X.A (isTrue e X.env (eval e X.env)) (TP X pins σ Q) X.xe s
/-- a test whatever its 'whole' is (and, or) -/
def PW (X : Cx) (e : Expr) (t : TT) : Prop :=
  ∀ (whole : Sem Value) (pins : List (Addr × Obj)) (s : Shared) (σ : St) (H : Hp) (Q : Bool → Hp → Prop), Inv X pins σ H s → t σ H Q → wpAny (model X.prog X.w) X.A (isTrue e X.env whole) (TP X pins σ Q) X.xe s
theorem PW.pt {X : Cx} {e : Expr} {t : TT} (h : PW X e t) : PT X e t := h _
/-- an argument list (no star), from the left -/
def PA (X : Cx) (es : List Expr) (t : TA) : Prop :=
  ∀ (pos : Pos) (pins : List (Addr × Obj)) (s : Shared) (σ : St) (H : Hp) (Q : List V → Hp → Prop), Inv X pins σ H s → t σ H Q → wpAny (model X.prog X.w) X.A (spliced (backTo pos (starEach es X.env))) (AP X pins σ Q) X.xe s
def PS (X : Cx) (st : Stmt) (t : TS) : Prop :=
  ∀ (pins : List (Addr × Obj)) (s : Shared) (σ : St) (H : Hp) (D : Ends), Inv X pins σ H s → t D σ H → wpAny (model X.prog X.w) X.A (exec st X.env) (SP X pins D) X.xe s
def PSs (X : Cx) (st : List Stmt) (t : TS) : Prop :=
  ∀ (pins : List (Addr × Obj)) (s : Shared) (σ : St) (H : Hp) (D : Ends), Inv X pins σ H s → t D σ H → wpAny (model X.prog X.w) X.A (execs st X.env) (SP X pins D) X.xe s
/-- weaken the end -/
theorem thn {α : Type} {t : Sem α} {Q Q' : α → Shared → Prop} {M : Model} {A : Around} {E : Value → Shared → Prop} {s : Shared} (h : wpAny M A t Q E s) (hQ : ∀ a s, Q a s → Q' a s) : wpAny M A t Q' E s := wpAny_mono h hQ fun _ _ x => x
end L2

namespace L2
open PySem PySem.Spec PyProof.Rows
section
variable {X : Cx}

/-- two expressions in a row -/
theorem bin {a b : Expr} {ta tb : TE} (ha : PE X a ta) (hb : PE X b tb) {pins : List (Addr × Obj)} {s : Shared} {σ : St} {H : Hp} {R : V → V → Hp → Prop} (I : Inv X pins σ H s) (h : ta σ H fun x H1 => tb σ H1 fun y H2 => R x y H2)
    {α : Type} {Q : α → Shared → Prop} {f : Value → Value → Sem α}
    (hf : ∀ v u s2 x y H2, Inv X pins σ H2 s2 → RelV x v → RelV y u → R x y H2 → wpAny (model X.prog X.w) X.A (f v u) Q X.xe s2) :
    wpAny (model X.prog X.w) X.A (eval a X.env) (fun v s₁ => wpAny (model X.prog X.w) X.A (eval b X.env) (fun u s₂ => wpAny (model X.prog X.w) X.A (f v u) Q X.xe s₂) X.xe s₁) X.xe s := by
  refine thn (ha pins s σ H _ I h) fun v s1 ⟨x, H1, I1, r1, q1⟩ => ?_
  refine thn (hb pins s1 σ H1 _ I1 q1) fun u s2 ⟨y, H2, I2, r2, q2⟩ => ?_
  exact hf v u s2 x y H2 I2 r1 r2 q2

/-! ### names and constants -/
def tVar (i : Nat) : TE := fun σ H Q => ∃ v, σ[i]? = some (some v) ∧ Q v H
def tC (v : V) : TE := fun _ H Q => Q v H
theorem pe_var {i : Nat} {x : Str} {pos : Pos} (hN : X.N[i]? = some x) (hv : Vis X.env.scope x) (hd : (x == ("__debug__" : Str)) = false := by decide) (hcd : (x == ("__classdict__" : Str)) = false := by decide) : PE X (.Name x pos) (tVar i) := by
  intro pins s σ H Q I h
  obtain ⟨v, e, h⟩ := h
  obtain ⟨m, hn, hl⟩ := I.loc
  obtain ⟨u, r, l⟩ := hl i x v hN e hv
  have fin : EP X pins σ Q u s := ⟨v, H, I, r, h⟩
  rcases l with ⟨hk, hm⟩ | ⟨hk, c, hc, hcell⟩
  · exact wpAny_Name (wpAny_loadName_local I.ok.kind hk hn hm fin) hd
  · rcases hk with hk | hk
    · exact wpAny_Name (wpAny_loadName_cell I.ok.kind hk hc hcell fin) hd
    · exact wpAny_Name (wpAny_loadName_free I.ok.kind hk hc hcell fin hcd) hd
theorem pe_int {i j pos} : PE X (.Constant (.int i) j pos) (tC (.int i)) := fun _ _ _ H _ I h => wpAny_Constant_int ⟨.int i, H, I.tok _, ⟨_, rfl⟩, h⟩
theorem pe_bl {b j pos} : PE X (.Constant (.bool b) j pos) (tC (.bl b)) := fun _ _ _ H _ I h => Constant_bool ⟨.bl b, H, I, rfl, h⟩
theorem pe_non {j pos} : PE X (.Constant .none j pos) (tC .non) := fun _ _ _ H _ I h => Constant_none ⟨.non, H, I, rfl, h⟩
theorem pe_str {x j pos} : PE X (.Constant (.str x) j pos) (tC (.str x)) := fun _ _ _ H _ I h => Calls.Constant_str ⟨.str x, H, I.tok _, ⟨_, rfl⟩, h⟩

/-- a global name of the def -/
def Gl (X : Cx) (x : Str) : Prop := X.env.kindOf x = some .globalImplicit
theorem ld_glob {E : Value → Shared → Prop} {pins : List (Addr × Obj)} {s : Shared} {σ : St} {H : Hp} {x : Str} {u : Value} {pos : Pos} {Q : Value → Shared → Prop} (I : Inv X pins σ H s) (hg : Gl X x) (hm : X.mg x = some u) (h : Q u s)
    (hd : (x == ("__debug__" : Str)) = false := by decide) : wpAny (model X.prog X.w) X.A (eval (.Name x pos) X.env) Q E s :=
  Calls.Name_function_global I.ok.kind hg (Calls.loadGlobal_global (by rw [I.ok.glob]; exact I.mod.glob.keeps I.bk) hm h) hd
theorem ld_blt {E : Value → Shared → Prop} {pins : List (Addr × Obj)} {s : Shared} {σ : St} {H : Hp} {x : Str} {u : Value} {pos : Pos} {Q : Value → Shared → Prop} (I : Inv X pins σ H s) (hg : Gl X x) (hm : X.mg x = none) (hv : bootBuiltins x = some u) (h : Q u s)
    (hn : x ≠ "__name__" := by decide) (hd : (x == ("__debug__" : Str)) = false := by decide) : wpAny (model X.prog X.w) X.A (eval (.Name x pos) X.env) Q E s := by
  obtain ⟨mb, h1, h2⟩ := I.mod.blt
  exact Calls.Name_function_global I.ok.kind hg (Calls.loadGlobal_builtin (by rw [I.ok.glob]; exact I.mod.glob.keeps I.bk) hm (by rw [I.ok.blt]; exact h1.keeps I.bk) ((h2 x hn).trans hv) h) hd
/-- a module's constant, a class, a function, as a value -/
theorem pe_glob {x : Str} {v : V} {u : Value} {pos : Pos} (hg : Gl X x) (hm : X.mg x = some u) (r : RelV v u) (hd : (x == ("__debug__" : Str)) = false := by decide) : PE X (.Name x pos) (tC v) :=
  fun _ _ _ H _ I h => ld_glob I hg hm ⟨v, H, I, r, h⟩ hd
theorem pe_bltn {x : Str} {v : V} {u : Value} {pos : Pos} (hg : Gl X x) (hm : X.mg x = none) (hv : bootBuiltins x = some u) (r : RelV v u) (hn : x ≠ "__name__" := by decide) (hd : (x == ("__debug__" : Str)) = false := by decide) : PE X (.Name x pos) (tC v) :=
  fun _ _ _ H _ I h => ld_blt I hg hm hv ⟨v, H, I, r, h⟩ hn hd

/-! ### arithmetic -/
/-- two ints -/
def t2I (ta tb : TE) (k : Int → Int → Hp → Prop) : St → Hp → Prop := fun σ H => ta σ H fun x H1 => tb σ H1 fun y H2 => ∃ i j, x = .int i ∧ y = .int j ∧ k i j H2
def tAdd (ta tb : TE) : TE := fun σ H Q => t2I ta tb (fun i j H2 => Q (.int (i + j)) H2) σ H
def tSub (ta tb : TE) : TE := fun σ H Q => t2I ta tb (fun i j H2 => Q (.int (i - j)) H2) σ H
/-- the left factor below 2^64 -/
def tMul (ta tb : TE) : TE := fun σ H Q => t2I ta tb (fun i j H2 => (-(2 ^ 64) < i ∧ i < 2 ^ 64) ∧ Q (.int (i * j)) H2) σ H
variable {a b : Expr} {ta tb : TE} {pos : Pos}
theorem pe_add (ha : PE X a ta) (hb : PE X b tb) : PE X (.BinOp a .Add b pos) (tAdd ta tb) := by
  intro pins s σ H Q I h
  refine wpAny_BinOp (bin ha hb I h fun v u s2 x y H2 I2 rx ry q => ?_)
  obtain ⟨i, j, rfl, rfl, q⟩ := q
  obtain ⟨t, rfl⟩ := rx
  obtain ⟨t', rfl⟩ := ry
  exact add_int ⟨.int _, H2, I2.tok _, ⟨_, rfl⟩, q⟩
theorem pe_sub (ha : PE X a ta) (hb : PE X b tb) : PE X (.BinOp a .Sub b pos) (tSub ta tb) := by
  intro pins s σ H Q I h
  refine wpAny_BinOp (bin ha hb I h fun v u s2 x y H2 I2 rx ry q => ?_)
  obtain ⟨i, j, rfl, rfl, q⟩ := q
  obtain ⟨t, rfl⟩ := rx
  obtain ⟨t', rfl⟩ := ry
  exact sub_int ⟨.int _, H2, I2.tok _, ⟨_, rfl⟩, q⟩
theorem pe_mul (ha : PE X a ta) (hb : PE X b tb) : PE X (.BinOp a .Mult b pos) (tMul ta tb) := by
  intro pins s σ H Q I h
  refine wpAny_BinOp (bin ha hb I h fun v u s2 x y H2 I2 rx ry q => ?_)
  obtain ⟨i, j, rfl, rfl, ⟨q1, q2⟩, q⟩ := q
  obtain ⟨t, rfl⟩ := rx
  obtain ⟨t', rfl⟩ := ry
  exact mul_int ⟨.int _, H2, I2.tok _, ⟨_, rfl⟩, q⟩ (.of_left (intBits_le_64 q1 q2))

/-! ### comparisons -/
def PC (X : Cx) (op : CmpOp) (a b : Expr) (t : TE) : Prop :=
  ∀ (pins : List (Addr × Obj)) (s : Shared) (σ : St) (H : Hp) (Q : VK), Inv X pins σ H s → t σ H Q →
    wpAny (model X.prog X.w) X.A (eval a X.env) (fun v s₁ => wpAny (model X.prog X.w) X.A (eval b X.env) (fun u s₂ => wpAny (model X.prog X.w) X.A (compareOp op v u) (EP X pins σ Q) X.xe s₂) X.xe s₁) X.xe s
theorem nobehind (b : Expr) {op : CmpOp} (h : op ≠ .In) (h2 : op ≠ .NotIn) : behindInMarks op b = false := by
  have e1 : (op == CmpOp.In) = false := by cases op <;> first | rfl | exact absurd rfl h
  have e2 : (op == CmpOp.NotIn) = false := by cases op <;> first | rfl | exact absurd rfl h2
  cases b <;> simp [behindInMarks, e1, e2]
def tCmp (p : Int → Int → Bool) (ta tb : TE) : TE := fun σ H Q => t2I ta tb (fun i j H2 => Q (.bl (p i j)) H2) σ H
abbrev tLt : TE → TE → TE := tCmp fun i j => decide (i < j)
abbrev tLe : TE → TE → TE := tCmp fun i j => decide (i ≤ j)
abbrev tGt : TE → TE → TE := tCmp fun i j => decide (j < i)
abbrev tGe : TE → TE → TE := tCmp fun i j => decide (j ≤ i)
abbrev tEqI : TE → TE → TE := tCmp fun i j => decide (i = j)
abbrev tNeI : TE → TE → TE := tCmp fun i j => !decide (i = j)
/-- a comparison of two ints, by its rule -/
theorem pc_int {op : CmpOp} {p : Int → Int → Bool} (ha : PE X a ta) (hb : PE X b tb)
    (rule : ∀ (i j : Int) (t u : Tok) (Q : Value → Shared → Prop) (s : Shared), Q (.bool (p i j)) s → wpAny (model X.prog X.w) X.A (compareOp op (.int i t) (.int j u)) Q X.xe s) : PC X op a b (tCmp p ta tb) := by
  intro pins s σ H Q I h
  refine bin ha hb I h fun v u s2 x y H2 I2 rx ry q => ?_
  obtain ⟨i, j, rfl, rfl, q⟩ := q
  obtain ⟨t, rfl⟩ := rx
  obtain ⟨t', rfl⟩ := ry
  exact rule i j t t' _ s2 ⟨.bl _, H2, I2, rfl, q⟩
theorem pc_lt (ha : PE X a ta) (hb : PE X b tb) : PC X .Lt a b (tLt ta tb) := pc_int ha hb fun _ _ _ _ _ _ h => lt_int h
theorem pc_le (ha : PE X a ta) (hb : PE X b tb) : PC X .LtE a b (tLe ta tb) := pc_int ha hb fun _ _ _ _ _ _ h => le_int h
theorem pc_gt (ha : PE X a ta) (hb : PE X b tb) : PC X .Gt a b (tGt ta tb) := pc_int ha hb fun _ _ _ _ _ _ h => gt_int h
theorem pc_ge (ha : PE X a ta) (hb : PE X b tb) : PC X .GtE a b (tGe ta tb) := pc_int ha hb fun _ _ _ _ _ _ h => ge_int h
theorem pc_eqI (ha : PE X a ta) (hb : PE X b tb) : PC X .Eq a b (tEqI ta tb) := pc_int ha hb fun _ _ _ _ _ _ h => eq_int (by rw [Bool.beq_eq_decide_eq]; exact h)
theorem pc_neI (ha : PE X a ta) (hb : PE X b tb) : PC X .NotEq a b (tNeI ta tb) := pc_int ha hb fun _ _ _ _ _ _ h => ne_int (by rw [bne, Bool.beq_eq_decide_eq]; exact h)
/-- is None -/
def tIsN (ta : TE) : TE := fun σ H Q => ta σ H fun x H1 => Q (.bl (decide (x = .non))) H1
def tNotN (ta : TE) : TE := fun σ H Q => ta σ H fun x H1 => Q (.bl (!decide (x = .non))) H1
theorem RelV.none_iff {x : V} {v : Value} (r : RelV x v) : (v == Value.none) = decide (x = .non) := by
  cases x with
  | non => cases r; rfl
  | bl _ => cases r; rfl
  | int _ => obtain ⟨t, rfl⟩ := r; rfl
  | str _ => obtain ⟨t, rfl⟩ := r; rfl
  | byt _ => obtain ⟨t, rfl⟩ := r; rfl
  | flt _ => obtain ⟨t, rfl⟩ := r; rfl
  | ref _ => cases r; rfl
  | ty _ => cases r; rfl
theorem pc_isN {j pos'} (ha : PE X a ta) : PC X .Is a (.Constant .none j pos') (tIsN ta) := by
  intro pins s σ H Q I h
  refine thn (ha pins s σ H _ I h) fun v s1 ⟨x, H1, I1, r1, q1⟩ => ?_
  exact Constant_none (is_none_gen ⟨.bl _, H1, I1, by rw [r1.none_iff]; rfl, q1⟩)
theorem pc_notN {j pos'} (ha : PE X a ta) : PC X .IsNot a (.Constant .none j pos') (tNotN ta) := by
  intro pins s σ H Q I h
  refine thn (ha pins s σ H _ I h) fun v s1 ⟨x, H1, I1, r1, q1⟩ => ?_
  exact Constant_none (isnot_none_gen ⟨.bl _, H1, I1, by rw [r1.none_iff]; rfl, q1⟩)
/-- a comparison as a value, as a test -/
def tB (t : TE) : TT := fun σ H Q => t σ H fun x H1 => ∃ c, x = .bl c ∧ Q c H1
theorem pe_cmp {op : CmpOp} {t : TE} (h : PC X op a b t) (h1 : behindInMarks op b = false := by first | exact nobehind _ (by decide) (by decide) | rfl) : PE X (.Compare a [op] [b] pos) t := fun pins s σ H Q I hw => wpAny_Compare1 (h pins s σ H Q I hw) h1
theorem pt_cmp {op : CmpOp} {t : TE} (h : PC X op a b t) (h1 : behindInMarks op b = false := by first | exact nobehind _ (by decide) (by decide) | rfl) : PT X (.Compare a [op] [b] pos) (tB t) := by
  intro pins s σ H Q I hw
  refine wpAny_isTrue_Compare1 (thn (h pins s σ H _ I hw) fun v s1 h1 => thn h1 fun u s2 h2 => thn h2 fun c s3 ⟨x, H1, I1, r1, q1⟩ => ?_) h1
  obtain ⟨d, rfl, q⟩ := q1
  cases r1
  exact wpAny_truthy_bool ⟨H1, I1, q⟩
/-- an expression whose value is a bool, as a test -/
theorem pt_val {e : Expr} {t : TE} (h : PE X e t) (he : ∀ whole, isTrue e X.env whole = (do let v ← whole; standAt e.pos; holding [v] (truthy v)) := by intro _; rfl) : PT X e (tB t) := by
  intro pins s σ H Q I hw
  refine isTrue_plain (thn (h pins s σ H _ I hw) fun v s1 ⟨x, H1, I1, r1, q1⟩ => ?_) (he _)
  obtain ⟨d, rfl, q⟩ := q1
  cases r1
  exact wpAny_truthy_bool ⟨H1, I1, q⟩

/-! ### and, or, not -/
variable {tA tB' : TT} {rest : List Expr}
def tAnd (t u : TT) : TT := fun σ H Q => t σ H fun c H1 => if c = true then u σ H1 Q else Q false H1
def tOr (t u : TT) : TT := fun σ H Q => t σ H fun c H1 => if c = true then Q true H1 else u σ H1 Q
def tNot (t : TT) : TT := fun σ H Q => t σ H fun c H1 => Q (!c) H1
theorem pw_and1 (ha : PT X a tA) : PW X (.BoolOp .And [a] pos) tA := by
  intro wh pins s σ H Q I h
  refine isTrue_and (thn (ha pins s σ H Q I h) fun c s1 e => ?_)
  cases c with
  | true => exact isTrue_and_nil e
  | false => exact e
theorem pw_or1 (ha : PT X a tA) : PW X (.BoolOp .Or [a] pos) tA := by
  intro wh pins s σ H Q I h
  refine isTrue_or (thn (ha pins s σ H Q I h) fun c s1 e => ?_)
  cases c with
  | false => exact isTrue_or_nil e
  | true => exact e
theorem pw_and (ha : PT X a tA) (hb : PW X (.BoolOp .And (b :: rest) pos) tB') : PW X (.BoolOp .And (a :: b :: rest) pos) (tAnd tA tB') := by
  intro wh pins s σ H Q I h
  refine isTrue_and (thn (ha pins s σ H _ I h) fun c s1 ⟨H1, I1, q1⟩ => ?_)
  cases c with
  | true => exact hb wh pins s1 σ H1 Q I1 q1
  | false => exact ⟨H1, I1, q1⟩
theorem pw_or (ha : PT X a tA) (hb : PW X (.BoolOp .Or (b :: rest) pos) tB') : PW X (.BoolOp .Or (a :: b :: rest) pos) (tOr tA tB') := by
  intro wh pins s σ H Q I h
  refine isTrue_or (thn (ha pins s σ H _ I h) fun c s1 ⟨H1, I1, q1⟩ => ?_)
  cases c with
  | true => exact ⟨H1, I1, q1⟩
  | false => exact hb wh pins s1 σ H1 Q I1 q1
theorem pt_not (ha : PT X a tA) : PT X (.UnaryOp .Not a pos) (tNot tA) := by
  intro pins s σ H Q I h
  exact isTrue_not (ha pins s σ H (fun c H1 => Q (!c) H1) I h)
/-- .. as values (bools) -/
def tAndV (ta tb : TE) : TE := fun σ H Q => ta σ H fun x H1 => ∃ c, x = .bl c ∧ if c = true then tb σ H1 Q else Q (.bl false) H1
def tOrV (ta tb : TE) : TE := fun σ H Q => ta σ H fun x H1 => ∃ c, x = .bl c ∧ if c = true then Q (.bl true) H1 else tb σ H1 Q
def tNotV (ta : TE) : TE := fun σ H Q => ta σ H fun x H1 => ∃ c, x = .bl c ∧ Q (.bl (!c)) H1
theorem pe_one {op} {t : TE} (h : PE X a t) : PE X (.BoolOp op [a] pos) t := fun pins s σ H Q I hw => BoolOp_one (h pins s σ H Q I hw)
theorem pe_and (ha : PE X a ta) (hb : PE X (.BoolOp .And (b :: rest) pos) tb) : PE X (.BoolOp .And (a :: b :: rest) pos) (tAndV ta tb) := by
  intro pins s σ H Q I h
  refine BoolOp_and (thn (ha pins s σ H _ I h) fun v s1 ⟨x, H1, I1, r1, q1⟩ => ?_)
  obtain ⟨c, rfl, q1⟩ := q1
  cases r1
  refine wpAny_truthy_bool ?_
  cases c with
  | true => exact hb pins s1 σ H1 Q I1 q1
  | false => exact ⟨.bl false, H1, I1, rfl, q1⟩
theorem pe_or (ha : PE X a ta) (hb : PE X (.BoolOp .Or (b :: rest) pos) tb) : PE X (.BoolOp .Or (a :: b :: rest) pos) (tOrV ta tb) := by
  intro pins s σ H Q I h
  refine BoolOp_or (thn (ha pins s σ H _ I h) fun v s1 ⟨x, H1, I1, r1, q1⟩ => ?_)
  obtain ⟨c, rfl, q1⟩ := q1
  cases r1
  refine wpAny_truthy_bool ?_
  cases c with
  | false => exact hb pins s1 σ H1 Q I1 q1
  | true => exact ⟨.bl true, H1, I1, rfl, q1⟩
theorem pe_not (ha : PE X a ta) : PE X (.UnaryOp .Not a pos) (tNotV ta) := by
  intro pins s σ H Q I h
  refine UnaryOp_ (thn (ha pins s σ H _ I h) fun v s1 ⟨x, H1, I1, r1, q1⟩ => ?_)
  obtain ⟨c, rfl, q1⟩ := q1
  cases r1
  exact not_of (wpAny_truthy_bool ⟨.bl (!c), H1, I1, rfl, q1⟩)
/-- a if t else b -/
def tIf (t : TT) (ta tb : TE) : TE := fun σ H Q => t σ H fun c H1 => if c = true then ta σ H1 Q else tb σ H1 Q
theorem pe_ifExp {c : Expr} (hc : PT X c tA) (ha : PE X a ta) (hb : PE X b tb) : PE X (.IfExp c a b pos) (tIf tA ta tb) := by
  intro pins s σ H Q I h
  refine wpAny_IfExp (thn (hc pins s σ H _ I h) fun d s1 ⟨H1, I1, q1⟩ => ?_)
  cases d with
  | true => exact ha pins s1 σ H1 Q I1 q1
  | false => exact hb pins s1 σ H1 Q I1 q1
end
end L2

namespace L2
open PySem PySem.Spec PyProof.Rows

/-! ### a list, a tuple that is read: tracked, frozen, or an object of the module -/
def SqL (K : PySem.W.Frag) (H : Hp) (a : Addr) (xs : List V) : Prop :=
  Rd H a (.lst xs) ∨
    ∃ (o : Obj) (its : Array Value) (n : Nat), K.lookup a = some o ∧ o.cls = .type "list" ∧ o.dict = none ∧ o.data = .seq its n ∧ its.size ≤ sizeLine ∧ Vals xs its.toList
def SqT (K : PySem.W.Frag) (H : Hp) (a : Addr) (xs : List V) : Prop :=
  Rd H a (.tup xs) ∨
    ∃ (o : Obj) (its : Array Value) (n : Nat), K.lookup a = some o ∧ o.cls = .type "tuple" ∧ o.data = .seq its n ∧ its.size ≤ sizeLine ∧ Vals xs its.toList
def absV : Value → Option V
  | .none => some .non
  | .bool b => some (.bl b)
  | .int i _ => some (.int i)
  | .str x _ => some (.str x)
  | .bytes b _ => some (.byt b)
  | .float b _ => some (.flt b)
  | .ref a => some (.ref a)
  | .type n => some (.ty n)
  | _ => none
theorem RelV.abs {x : V} {u : Value} (r : RelV x u) : absV u = some x := by
  cases x with
  | non => cases r; rfl
  | bl _ => cases r; rfl
  | int _ => obtain ⟨t, rfl⟩ := r; rfl
  | str _ => obtain ⟨t, rfl⟩ := r; rfl
  | byt _ => obtain ⟨t, rfl⟩ := r; rfl
  | flt _ => obtain ⟨t, rfl⟩ := r; rfl
  | ref _ => cases r; rfl
  | ty _ => cases r; rfl
theorem RelV.inj {x y : V} {u : Value} (r : RelV x u) (q : RelV y u) : x = y := Option.some.inj (r.abs.symm.trans q.abs)
theorem Vals.inj : ∀ {xs ys : List V} {us : List Value}, Vals xs us → Vals ys us → xs = ys
  | _, _, _, .nil, .nil => rfl
  | _, _, _, .cons r t, .cons r' t' => by rw [r.inj r', Vals.inj t t']
section
variable {X : Cx} {pins : List (Addr × Obj)} {σ : St} {H : Hp} {s : Shared} {a : Addr} {xs ys : List V}
theorem SqL.of {K : PySem.W.Frag} (h : H a = some (.lst xs)) : SqL K H a xs := .inl (.inl h)
theorem SqT.of {K : PySem.W.Frag} (h : H a = some (.tup xs)) : SqT K H a xs := .inl (.inl h)
theorem Inv.list (I : Inv X pins σ H s) (h : SqL X.K H a xs) : ∃ its : List Value, Vals xs its ∧ PlainL s.heap a its.toArray ∧ xs.length ≤ sizeLine := by
  rcases h with h | ⟨o, its, n, hk, hc, hd, hs, hz, r⟩
  · obtain ⟨z, its, n, r, e⟩ := h.ok I.hok
    exact ⟨its, r, ⟨_, n, e, rfl, rfl, rfl⟩, z⟩
  · refine ⟨its.toList, r, ⟨o, n, I.kIn a o hk, hc, hd, by simpa using hs⟩, ?_⟩
    have e := r.length
    simp only [Array.length_toList] at e
    omega
theorem Inv.tuple (I : Inv X pins σ H s) (h : SqT X.K H a xs) : ∃ its : List Value, Vals xs its ∧ IsTup s.heap a its.toArray ∧ xs.length ≤ sizeLine := by
  rcases h with h | ⟨o, its, n, hk, hc, hs, hz, r⟩
  · obtain ⟨z, its, r, p⟩ := h.ok I.hok
    exact ⟨its, r, p, z⟩
  · refine ⟨its.toList, r, ⟨o, I.kIn a o hk, hc, n, by simpa using hs⟩, ?_⟩
    have e := r.length
    simp only [Array.length_toList] at e
    omega
theorem Inv.list_inj (I : Inv X pins σ H s) (h : SqL X.K H a xs) (h' : SqL X.K H a ys) : xs = ys := by
  obtain ⟨its, r, ⟨o, n, e, _, _, d⟩, _⟩ := I.list h
  obtain ⟨its', r', ⟨o', n', e', _, _, d'⟩, _⟩ := I.list h'
  rw [e] at e'; cases e'
  rw [d] at d'
  injection d' with d1 _
  have : its = its' := by simpa using congrArg Array.toList d1
  subst this
  exact r.inj r'
theorem Inv.tuple_inj (I : Inv X pins σ H s) (h : SqT X.K H a xs) (h' : SqT X.K H a ys) : xs = ys := by
  obtain ⟨its, r, ⟨o, e, _, n, d⟩, _⟩ := I.tuple h
  obtain ⟨its', r', ⟨o', e', _, n', d'⟩, _⟩ := I.tuple h'
  rw [e] at e'; cases e'
  rw [d] at d'
  injection d' with d1 _
  have : its = its' := by simpa using congrArg Array.toList d1
  subst this
  exact r.inj r'
end

/-! ### another wish about exceptions -/
abbrev Cx.wish (X : Cx) (E : Value → Shared → Prop) : Cx := { X with xe := E }
/-- no exception leaves -/
abbrev Cx.nox (X : Cx) : Cx := X.wish fun _ _ => False
theorem Cx.Ok.wish {X : Cx} (ok : X.Ok) (E : Value → Shared → Prop) : (X.wish E).Ok :=
  ⟨ok.mod, ok.kind, ok.glob, ok.blt, ok.above, ok.inj, ok.has, ok.cab, ok.hd, ok.frames, ok.stk, ok.exf, ok.bs, ok.bsz, ok.noex, ok.exfs, ok.funs, ok.frf⟩
theorem Cx.Ok.unwish {X : Cx} {E : Value → Shared → Prop} (ok : (X.wish E).Ok) : X.Ok :=
  ⟨ok.mod, ok.kind, ok.glob, ok.blt, ok.above, ok.inj, ok.has, ok.cab, ok.hd, ok.frames, ok.stk, ok.exf, ok.bs, ok.bsz, ok.noex, ok.exfs, ok.funs, ok.frf⟩
section
variable {X : Cx} {pins : List (Addr × Obj)} {σ : St} {H : Hp} {s : Shared} {E : Value → Shared → Prop}
theorem Inv.wish (I : Inv X pins σ H s) (E : Value → Shared → Prop) : Inv (X.wish E) pins σ H s := ⟨I.ok.wish E, I.os, I.bare, I.base, I.loc, I.cell, I.free, I.freeC, I.pin, I.hok, I.len⟩
theorem Inv.unwish (I : Inv (X.wish E) pins σ H s) : Inv X pins σ H s := ⟨I.ok.unwish, I.os, I.bare, I.base, I.loc, I.cell, I.free, I.freeC, I.pin, I.hok, I.len⟩
theorem SP.unwish {D : Ends} {f : Flow} {s' : Shared} (h : SP (X.wish E) pins D f s') : SP X pins D f s' := by
  cases f with
  | next => obtain ⟨σ', H', I, q⟩ := h; exact ⟨σ', H', I.unwish, q⟩
  | brk => obtain ⟨σ', H', I, q⟩ := h; exact ⟨σ', H', I.unwish, q⟩
  | cont => obtain ⟨σ', H', I, q⟩ := h; exact ⟨σ', H', I.unwish, q⟩
  | ret u => obtain ⟨v, σ', H', I, r, q⟩ := h; exact ⟨v, σ', H', I.unwish, r, q⟩
theorem PE.nox {e : Expr} {t : TE} (h : PE X.nox e t) : PE X e t := fun pins s σ H Q I hw =>
  wpAny_mono (h pins s σ H Q (I.wish _) hw) (fun _ _ ⟨v, H', I', r, q⟩ => ⟨v, H', I'.unwish, r, q⟩) fun _ _ z => False.elim z
theorem PT.nox {e : Expr} {t : TT} (h : PT X.nox e t) : PT X e t := fun pins s σ H Q I hw =>
  wpAny_mono (h pins s σ H Q (I.wish _) hw) (fun _ _ ⟨H', I', q⟩ => ⟨H', I'.unwish, q⟩) fun _ _ z => False.elim z
theorem PSs.nox {st : List Stmt} {t : TS} (h : PSs X.nox st t) : PSs X st t := fun pins s σ H D I hw =>
  wpAny_mono (h pins s σ H D (I.wish _) hw) (fun _ _ q => q.unwish) fun _ _ z => False.elim z
end

/-! ### blocks and small statements -/
section
variable {X : Cx} {st : Stmt} {rest : List Stmt} {t u : TS} {e : Expr} {te : TE} {pos : Pos}
def tNext : TS := fun D σ H => D.nx σ H
def tSeq (t u : TS) : TS := fun D σ H => t { D with nx := u D } σ H
theorem pss_nil : PSs X [] tNext := fun _ _ σ H _ I h => wpAny_execs_nil ⟨σ, H, I, h⟩
theorem pss_cons (h1 : PS X st t) (h2 : PSs X rest u) : PSs X (st :: rest) (tSeq t u) := by
  intro pins s σ H D I h
  refine wpAny_execs_cons (thn (h1 pins s σ H { D with nx := u D } I h) fun f s1 q => ?_)
  cases f with
  | next =>
    obtain ⟨σ', H', I', q⟩ := q
    exact h2 pins s1 σ' H' D I' q
  | ret v => exact q
  | brk => exact q
  | cont => exact q
theorem pss_one (h1 : PS X st t) : PSs X [st] t := by
  intro pins s σ H D I h
  refine wpAny_execs_cons (thn (h1 pins s σ H D I h) fun f s1 q => ?_)
  cases f with
  | next => exact wpAny_execs_nil q
  | ret v => exact q
  | brk => exact q
  | cont => exact q
def tBreak : TS := fun D σ H => D.bk σ H
def tCont : TS := fun D σ H => D.ct σ H
theorem ps_pass : PS X (.Pass pos) tNext := fun _ _ σ H _ I h => wpAny_Pass ⟨σ, H, I, h⟩
theorem ps_break : PS X (.Break pos) tBreak := fun _ _ σ H _ I h => wpAny_Break ⟨σ, H, I, h⟩
theorem ps_continue : PS X (.Continue pos) tCont := fun _ _ σ H _ I h => wpAny_Continue ⟨σ, H, I, h⟩
/-- in a def's body nothing is shown -/
theorem Inv.quiet {pins : List (Addr × Obj)} {σ : St} {H : Hp} {s : Shared} (I : Inv X pins σ H s) : interactive X.env = false := by simp [interactive, I.ok.kind]
/-- a docstring -/
theorem ps_doc {x j pos pos'} : PS X (.Expr (.Constant (.str x) j pos) pos') tNext := fun _ s σ H _ I h => wpAny_Expr (Calls.Constant_str (show SP X _ _ .next { s with toks := s.toks + 1 } from ⟨σ, H, I.tok _, h⟩)) I.quiet
/-- an expression whose value is dropped -/
def tDrop (te : TE) : TS := fun D σ H => te σ H fun _ H1 => D.nx σ H1
theorem ps_expr (he : PE X e te) (hs : swapsWith e none pos.line X.env = pure false := by rfl) : PS X (.Expr e pos) (tDrop te) := by
  intro pins s σ H D I h
  exact wpAny_Expr_any (thn (he pins s σ H _ I h) fun v s1 ⟨x, H1, I1, r1, q1⟩ => ⟨σ, H1, I1, q1⟩) I.quiet hs
def tRet (te : TE) : TS := fun D σ H => te σ H D.rt
theorem ps_ret (he : PE X e te) : PS X (.Return (some e) pos) (tRet te) := by
  intro pins s σ H D I h
  exact wpAny_Return_some (thn (he pins s σ H _ I h) fun v s1 ⟨x, H1, I1, r1, q1⟩ => ⟨x, σ, H1, I1, r1, q1⟩)
def tRetN : TS := fun D _ H => D.rt .non H
theorem ps_retN : PS X (.Return none pos) tRetN := fun _ _ σ H _ I h => wpAny_Return_none ⟨.non, σ, H, I, rfl, h⟩
def tIfS (c : TT) (t u : TS) : TS := fun D σ H => c σ H fun b H1 => if b = true then t D σ H1 else u D σ H1
theorem ps_if {c : Expr} {a b : List Stmt} {tc : TT} (hc : PT X c tc) (ha : PSs X a t) (hb : PSs X b u) : PS X (.If c a b pos) (tIfS tc t u) := by
  intro pins s σ H D I h
  refine wpAny_If (thn (hc pins s σ H _ I h) fun d s1 ⟨H1, I1, q1⟩ => ?_)
  cases d with
  | true => exact ha pins s1 σ H1 D I1 q1
  | false => exact hb pins s1 σ H1 D I1 q1
/-- code that the proof never comes to -/
def tNever : TS := fun _ _ _ => False
theorem ps_never : PS X st tNever := fun _ _ _ _ _ _ h => h.elim
theorem pss_never {sts : List Stmt} : PSs X sts tNever := fun _ _ _ _ _ _ h => h.elim
end

/-! ### targets -/
abbrev TG := V → St → Hp → (St → Hp → Prop) → Prop
abbrev TGs := List V → St → Hp → (St → Hp → Prop) → Prop
def PG (X : Cx) (target : Expr) (t : TG) : Prop :=
  ∀ (pins : List (Addr × Obj)) (s : Shared) (σ : St) (H : Hp) (v : V) (u : Value) (Q : St → Hp → Prop), Inv X pins σ H s → RelV v u → t v σ H Q →
    wpAny (model X.prog X.w) X.A (assign target X.env u) (fun _ s' => ∃ σ' H', Inv X pins σ' H' s' ∧ Q σ' H') X.xe s
/-- several targets, one after another -/
def PGs (X : Cx) (ts : List Expr) (t : TGs) : Prop :=
  ∀ (pins : List (Addr × Obj)) (s : Shared) (σ : St) (H : Hp) (vs : List V) (us : List Value) (Q : St → Hp → Prop), Inv X pins σ H s → Vals vs us → t vs σ H Q →
    wpAny (model X.prog X.w) X.A (assignInOrder ((assignEach ts X.env).map (·.2)) us) (fun _ s' => ∃ σ' H', Inv X pins σ' H' s' ∧ Q σ' H') X.xe s
/-- o[i] = v, by values -/
abbrev TSet := V → V → V → Hp → (Hp → Prop) → Prop
def PSet (X : Cx) (t : TSet) : Prop :=
  ∀ (pins : List (Addr × Obj)) (s : Shared) (σ : St) (H : Hp) (o i v : V) (ov iv u : Value) (Q : Hp → Prop), Inv X pins σ H s → RelV o ov → RelV i iv → RelV v u → t o i v H Q →
    wpAny (model X.prog X.w) X.A (setItem ov iv u) (fun _ s' => ∃ H', Inv X pins σ H' s' ∧ Q H') X.xe s
/-- a op= b, by values -/
abbrev TIp := V → V → Hp → VK → Prop
def PIp (X : Cx) (op : Operator) (t : TIp) : Prop :=
  ∀ (pins : List (Addr × Obj)) (s : Shared) (σ : St) (H : Hp) (x y : V) (v u : Value) (Q : VK), Inv X pins σ H s → RelV x v → RelV y u → t x y H Q →
    wpAny (model X.prog X.w) X.A (inplaceOp op v u) (EP X pins σ Q) X.xe s
section
variable {X : Cx} {pos : Pos}
def gName (i : Nat) : TG := fun v σ H Q => Q (σ.set i (some v)) H
theorem pg_name {i : Nat} {x : Str} (hN : X.N.Nodup) (hi : X.N[i]? = some x) (hx : Loc X.env.scope x) (hf : X.fn x = true ∨ X.env.scope.names.lookup x = some .local := by first | exact .inl rfl | exact .inr rfl | assumption) : PG X (.Name x pos) (gName i) := by
  intro pins s σ H v u Q I r h
  exact wpAny_assign_Name (store_ok I hN hi hx r (fun s' I' => ⟨_, H, I', h⟩) hf)
def gNil : TGs := fun vs σ H Q => vs = [] ∧ Q σ H
def gCons (t : TG) (u : TGs) : TGs := fun vs σ H Q => ∃ v r, vs = v :: r ∧ t v σ H fun σ' H' => u r σ' H' Q
theorem pgs_nil : PGs X [] gNil := by
  intro pins s σ H vs us Q I r h
  obtain ⟨e, h⟩ := h
  subst e
  cases r
  exact assignInOrder_nil ⟨σ, H, I, h⟩
theorem pgs_cons {e : Expr} {es : List Expr} {t : TG} {u : TGs} (h1 : PG X e t) (h2 : PGs X es u)
    (hs : (assignEach (e :: es) X.env).map (·.2) = assign e X.env :: (assignEach es X.env).map (·.2) := by rfl) : PGs X (e :: es) (gCons t u) := by
  intro pins s σ H vs us Q I r h
  obtain ⟨v, vr, e1, h⟩ := h
  subst e1
  cases r with
  | cons r rr =>
    rw [hs]
    refine assignInOrder_cons (thn (h1 pins s σ H _ _ _ I r h) fun _ s1 ⟨σ1, H1, I1, q1⟩ => ?_)
    exact h2 pins s1 σ1 H1 _ _ Q I1 rr q1
/-- (a, b, ..) = a tuple of that length -/
def gTup (K : PySem.W.Frag) (n : Nat) (t : TGs) : TG := fun v σ H Q => ∃ a xs, v = .ref a ∧ SqT K H a xs ∧ xs.length = n ∧ t xs σ H Q
theorem pg_tup {es : List Expr} {k : Nat} {t : TGs} {n : Nat} (hc : X.calm = true) (h : PGs X es t)
    (hn : (assignEach es X.env).length = n := by rfl) (hst : (assignEach es X.env).findIdx? (·.1) = none := by rfl) : PG X (.Tuple es k pos) (gTup X.K n t) := by
  intro pins s σ H v u Q I r hw
  obtain ⟨a, xs, e1, hq, hl, hw⟩ := hw
  subst e1
  cases r
  obtain ⟨its, rv, ht, hz⟩ := I.tuple hq
  refine assign_Tuple_tuple (I.ok.hd hc) ht (by simp [hn, ← hl, rv.length]) hst fun h' hx => ?_
  have I1 : Inv X pins σ H { s with heap := h' } := I.kept (t' := s.toks) fun b o e => hx b o (Nat.ne_of_lt (Heap.lt_size e)) e
  exact h pins _ σ H xs _ Q I1 (by simpa using rv) hw
/-- o[i] = .. -/
def gSub (to ti : TE) (t : TSet) : TG := fun v σ H Q => to σ H fun o H1 => ti σ H1 fun i H2 => t o i v H2 fun H3 => Q σ H3
theorem pg_sub {o i : Expr} {to ti : TE} {t : TSet} (ho : PE X o to) (hi : PE X i ti) (hs : PSet X t)
    (ha : ∀ v, assign (.Subscript o i pos) X.env v = (do
      let ov ← holding [v] (eval o X.env)
      let iv ← holding [v, ov] (eval i X.env)
      standAt pos
      holding [v, ov, iv] (setItem ov iv v)
      release [v, ov, iv] []) := by intro _; rfl) : PG X (.Subscript o i pos) (gSub to ti t) := by
  intro pins s σ H v u Q I r h
  rw [ha]
  refine wpAny_bind (wpAny_holding (thn (ho pins s σ H _ I h) fun ov s1 ⟨x, H1, I1, r1, q1⟩ => ?_))
  refine wpAny_bind (wpAny_holding (thn (hi pins s1 σ H1 _ I1 q1) fun iv s2 ⟨y, H2, I2, r2, q2⟩ => ?_))
  refine wpAny_bind (wpAny_standAt (wpAny_bind (wpAny_holding (thn (hs pins s2 σ H2 x y v ov iv u _ I2 r1 r2 r q2) fun _ s3 ⟨H3, I3, q3⟩ => ?_))))
  exact wpAny_release ⟨σ, H3, I3, q3⟩
/-- target = value -/
def tAsg (te : TE) (g : TG) : TS := fun D σ H => te σ H fun x H1 => g x σ H1 D.nx
theorem ps_asg {tg e : Expr} {te : TE} {g : TG} (he : PE X e te) (hg : PG X tg g) (hs : swapsWithSole [tg] e pos.line X.env = pure false := by rfl) (hw : swappedStores [tg] e X.env = pure none := by rfl)
    (h1 : (assignEach [tg] X.env).map (·.2) = [assign tg X.env] := by rfl) : PS X (.Assign [tg] e pos) (tAsg te g) := by
  intro pins s σ H D I h
  refine wpAny_Assign_stores (thn (he pins s σ H _ I h) fun v s1 ⟨x, H1, I1, r1, q1⟩ => ?_) hs hw
  rw [h1]
  exact thn (hg pins s1 σ H1 x v _ I1 r1 q1) fun _ s2 q => q
/-- name = value -/
theorem ps_set {i : Nat} {x : Str} {e : Expr} {te : TE} {pos' : Pos} (hN : X.N.Nodup) (hi : X.N[i]? = some x) (hx : Loc X.env.scope x) (he : PE X e te) (hs : swapsWith e (some (.Name x pos')) pos.line X.env = pure false := by rfl) (hf : X.fn x = true ∨ X.env.scope.names.lookup x = some .local := by first | exact .inl rfl | exact .inr rfl | assumption) :
    PS X (.Assign [.Name x pos'] e pos) (tAsg te (gName i)) := by
  intro pins s σ H D I h
  refine wpAny_Assign_Name (thn (he pins s σ H _ I h) fun v s1 ⟨y, H1, I1, r1, q1⟩ => ?_) hs
  exact store_ok I1 hN hi hx r1 (fun s2 I2 => ⟨_, H1, I2, q1⟩) hf
/-- a, b = x, y with plain local names: stored from the right; the pair itself is not tracked (the opening rows as in PyProof/Rows/TupAssign.lean:23) -/
def tPar (i j : Nat) (ta : TA) : TS := fun D σ H => ta σ H fun vs H1 => ∃ v w, vs = [v, w] ∧ D.nx ((σ.set i (some v)).set j (some w)) H1
theorem ps_par {i j : Nat} {x y : Str} {a b : Expr} {ta : TA} {px py pt : Pos} {kt k2 pt2} (hc : X.calm = true) (hN : X.N.Nodup) (hi : X.N[i]? = some x) (hj : X.N[j]? = some y) (hij : i ≠ j)
    (hx : X.env.scope.names.lookup x = some .local) (hy : X.env.scope.names.lookup y = some .local) (ha : PA X [a, b] ta)
    (hw : swappedStores [.Tuple [.Name x px, .Name y py] kt pt] (.Tuple [a, b] k2 pt2) X.env = pure (some [x, y]))
    (hs : swapsWithSole [.Tuple [.Name x px, .Name y py] kt pt] (.Tuple [a, b] k2 pt2) pos.line X.env = pure false := by rfl) :
    PS X (.Assign [.Tuple [.Name x px, .Name y py] kt pt] (.Tuple [a, b] k2 pt2) pos) (tPar i j ta) := by
  intro pins s σ H D I h
  rw [exec_Assign_arm]
  refine wpAny_bind (wpAny_standAt ?_)
  rw [hs]
  refine wpAny_bind (wpAny_pure ?_)
  rw [if_neg (by decide)]
  refine wpAny_bind (Tuple_ (thn (ha _ pins s σ H _ I h) fun us s1 ⟨vs, H1, I1, r1, q1⟩ => ?_))
  obtain ⟨v, w, e1, q1⟩ := q1
  subst e1
  obtain ⟨u1, u2, rfl, rv, rw'⟩ : ∃ u1 u2, us = [u1, u2] ∧ RelV v u1 ∧ RelV w u2 := by
    cases r1 with
    | cons p q =>
      cases q with
      | cons p' q' =>
        cases q'
        exact ⟨_, _, rfl, p, p'⟩
  refine wpAny_newObj_type ?_ (by show 2 ≤ sizeLine; decide)
  have I2 : Inv X pins σ H1 { s1 with heap := s1.heap.push { cls := .type "tuple", data := .seq [u1, u2].toArray } } := I1.kept (t' := s1.toks) fun b o e => Heap.get?_push_of_some _ e
  rw [hw]
  refine wpAny_bind (wpAny_pure ?_)
  show wpAny (model X.prog X.w) X.A (do rule "assign.swapped-stores"; let items ← unpackItems (.ref s1.heap.objs.size) 2 none; assignInOrder [fun v => bindName X.env y v, fun v => bindName X.env x v] items.reverse; pure Flow.next) _ _ _
  refine wpAny_bind (wpAny_rule (wpAny_bind (unpackItems_tuple (items := #[u1, u2]) (I.ok.hd hc) (IsTup.new s1.heap _) fun h' hx' => ?_)))
  have I3 := I2.kept (h' := h') (t' := s1.toks) fun b o e => hx' b o (Nat.ne_of_lt (Heap.lt_size e)) e
  show wpAny _ _ (assignInOrder [fun v => bindName X.env y v, fun v => bindName X.env x v] [u2, u1] >>= fun _ => pure Flow.next) _ _ _
  refine wpAny_bind (assignInOrder_cons (wpAny_bindName (store_ok I3 hN hj (.inl hy) rw' (fun s2 I4 => ?_) (.inr hy))))
  refine assignInOrder_cons (wpAny_bindName (store_ok I4 hN hi (.inl hx) rv (fun s3 I5 => assignInOrder_nil (wpAny_pure ?_)) (.inr hx)))
  rw [List.set_comm _ _ (Ne.symm hij)] at I5
  exact ⟨_, H1, I5, q1⟩
/-- name op= e -/
def tAug (i : Nat) (te : TE) (ti : TIp) : TS := fun D σ H => ∃ x, σ[i]? = some (some x) ∧ te σ H fun y H1 => ti x y H1 fun z H2 => D.nx (σ.set i (some z)) H2
theorem ps_aug {i : Nat} {x : Str} {e : Expr} {te : TE} {op : Operator} {ti : TIp} {pos' : Pos} (hN : X.N.Nodup) (hi : X.N[i]? = some x) (hx : Loc X.env.scope x) (he : PE X e te) (ho : PIp X op ti) (hf : X.fn x = true ∨ X.env.scope.names.lookup x = some .local := by first | exact .inl rfl | exact .inr rfl | assumption) :
    PS X (.AugAssign (.Name x pos') op e pos) (tAug i te ti) := by
  intro pins s σ H D I h
  obtain ⟨v, e1, h⟩ := h
  obtain ⟨m, hn, hl⟩ := I.loc
  have vis : Vis X.env.scope x := by rcases hx with k | k; exact .inl k; exact .inr (.inl k)
  obtain ⟨u, r, l⟩ := hl i x v hi e1 vis
  refine wpAny_AugAssign_Name ?_
  have go : wpAny (model X.prog X.w) X.A (eval e X.env) (fun w s₂ => wpAny (model X.prog X.w) X.A (inplaceOp op u w) (fun r s₃ => wpAny (model X.prog X.w) X.A (storeName X.env x r) (fun _ => SP X pins D .next) X.xe s₃) X.xe s₂) X.xe s := by
    refine thn (he pins s σ H _ I h) fun w s1 ⟨y, H1, I1, r1, q1⟩ => ?_
    refine thn (ho pins s1 σ H1 v y u w _ I1 r r1 q1) fun z s2 ⟨zv, H2, I2, r2, q2⟩ => ?_
    exact store_ok I2 hN hi hx r2 (fun s3 I3 => ⟨_, H2, I3, q2⟩) hf
  rcases l with ⟨hk, hm⟩ | ⟨hk, c, hc, hcell⟩
  · exact wpAny_loadName_local I.ok.kind hk hn hm go
  · rcases hk with hk | hk
    · exact wpAny_loadName_cell I.ok.kind hk hc hcell go
    · rcases hx with k | k
      · have : X.env.scope.names.lookup x = some .free := hk
        rw [k] at this; cases this
      · have : X.env.scope.names.lookup x = some .free := hk
        rw [k] at this; cases this
/-- o[i] op= e -/
def tAugS (to ti te : TE) (tget : V → V → Hp → VK → Prop) (tip : TIp) (tset : TSet) : TS := fun D σ H => to σ H fun o H1 => ti σ H1 fun i H2 => tget o i H2 fun x H3 => te σ H3 fun y H4 => tip x y H4 fun z H5 => tset o i z H5 fun H6 => D.nx σ H6
/-- o[i], by values -/
def PGet (X : Cx) (t : V → V → Hp → VK → Prop) : Prop :=
  ∀ (pins : List (Addr × Obj)) (s : Shared) (σ : St) (H : Hp) (o i : V) (ov iv : Value) (Q : VK), Inv X pins σ H s → RelV o ov → RelV i iv → t o i H Q →
    wpAny (model X.prog X.w) X.A (getItem ov iv) (EP X pins σ Q) X.xe s
theorem ps_augS {o i e : Expr} {to ti te : TE} {tget : V → V → Hp → VK → Prop} {tip : TIp} {tset : TSet} {op : Operator} {tpos : Pos} (ho : PE X o to) (hi : PE X i ti) (hg : PGet X tget) (he : PE X e te) (hp : PIp X op tip) (hs : PSet X tset)
    (ha : ∀ ov iv new, augStore i ov iv new = (do holding [new, ov, iv] (setItem ov iv new); release [new, ov, iv] []; pure .next) := by intros; rfl) : PS X (.AugAssign (.Subscript o i tpos) op e pos) (tAugS to ti te tget tip tset) := by
  intro pins s σ H D I h
  refine wpAny_AugAssign_SubscriptAny (thn (ho pins s σ H _ I h) fun ov s1 ⟨x1, H1, I1, r1, q1⟩ => ?_) ha
  refine thn (hi pins s1 σ H1 _ I1 q1) fun iv s2 ⟨x2, H2, I2, r2, q2⟩ => ?_
  refine thn (hg pins s2 σ H2 x1 x2 ov iv _ I2 r1 r2 q2) fun old s3 ⟨x3, H3, I3, r3, q3⟩ => ?_
  refine thn (he pins s3 σ H3 _ I3 q3) fun v s4 ⟨x4, H4, I4, r4, q4⟩ => ?_
  refine thn (hp pins s4 σ H4 x3 x4 old v _ I4 r3 r4 q4) fun new s5 ⟨x5, H5, I5, r5, q5⟩ => ?_
  exact thn (hs pins s5 σ H5 x1 x2 x5 ov iv new _ I5 r1 r2 r5 q5) fun _ s6 ⟨H6, I6, q6⟩ => ⟨σ, H6, I6, q6⟩
/-- ints -/
def ipI (f : Int → Int → Int) : TIp := fun x y H Q => ∃ i j, x = .int i ∧ y = .int j ∧ Q (.int (f i j)) H
theorem ip_add : PIp X .Add (ipI fun i j => i + j) := by
  intro pins s σ H x y v u Q I r1 r2 h
  obtain ⟨i, j, e1, e2, q⟩ := h
  subst e1; subst e2
  obtain ⟨t, rfl⟩ := r1
  obtain ⟨t', rfl⟩ := r2
  exact iadd_int ⟨.int _, H, I.tok _, ⟨_, rfl⟩, q⟩
theorem ip_sub : PIp X .Sub (ipI fun i j => i - j) := by
  intro pins s σ H x y v u Q I r1 r2 h
  obtain ⟨i, j, e1, e2, q⟩ := h
  subst e1; subst e2
  obtain ⟨t, rfl⟩ := r1
  obtain ⟨t', rfl⟩ := r2
  exact isub_int ⟨.int _, H, I.tok _, ⟨_, rfl⟩, q⟩
end

/-! ### while -/
section
variable {X : Cx} {pos : Pos}
/-- the invariant W with its measure -/
def tWhile (c : TT) (tb : TS) : TS := fun D σ H => ∃ W : Nat → St → Hp → Prop, (∃ m, W m σ H) ∧ ∀ m σ H, W m σ H →
  c σ H fun b H1 => if b = true then ∃ N : St → Hp → Prop, (∀ σ' H', N σ' H' → ∃ m', m' < m ∧ W m' σ' H') ∧ tb { D with nx := N, ct := N, bk := D.nx } σ H1 else D.nx σ H1
theorem ps_while {c : Expr} {body : List Stmt} {tc : TT} {tb : TS} (hp : PassesOwn (model X.prog X.w) X.A X.env X.xe) (hc : PT X c tc) (hb : PSs X body tb) : PS X (.While c body [] pos) (tWhile tc tb) := by
  intro pins s σ H D I h
  obtain ⟨W, ⟨m0, w0⟩, turn⟩ := h
  refine wpAny_While (codeAny_whileLoop (fun n s' => ∃ σ' H', Inv X pins σ' H' s' ∧ W n σ' H') ?_ m0 ⟨σ, H, I, w0⟩)
  rintro n s1 ⟨σ1, H1, I1, w1⟩
  refine wpAny_passesOwn hp (thn (hc pins s1 σ1 H1 _ I1 (turn n σ1 H1 w1)) fun b s2 ⟨H2, I2, q2⟩ => ?_)
  cases b with
  | true =>
    obtain ⟨N, hN, q2⟩ := q2
    rw [if_pos rfl]
    refine wpAny_passesOwn hp (thn (hb pins s2 σ1 H2 _ I2 q2) fun f s3 q3 => ?_)
    cases f with
    | next =>
      obtain ⟨σ3, H3, I3, n3⟩ := q3
      obtain ⟨m', hm, w3⟩ := hN σ3 H3 n3
      exact ⟨m', hm, σ3, H3, I3, w3⟩
    | cont =>
      obtain ⟨σ3, H3, I3, n3⟩ := q3
      obtain ⟨m', hm, w3⟩ := hN σ3 H3 n3
      exact ⟨m', hm, σ3, H3, I3, w3⟩
    | brk => exact q3
    | ret v => exact q3
  | false =>
    rw [if_neg Bool.false_ne_true]
    exact wpAny_execs_nil ⟨σ1, H2, I2, q2⟩
end

/-! ### what a loop or a comprehension walks -/
/-- at turn i: it yields x (the heap may grow), or it stops -/
structure It where
  go : Nat → Hp → Prop
  yld : Nat → Hp → V → Hp → Prop
  stop : Nat → Hp → Prop
/-- the iterator's own objects may turn: they are not the frame's, not pinned, younger than the entry (or a comprehension's own) -/
def FpOk (X : Cx) (pins : List (Addr × Obj)) (H : Hp) (b : Addr) : Prop :=
  H b = none ∧ b ≠ X.env.locals ∧ b ∉ X.fs ∧ (b ∈ X.ex ∨ X.s₀.heap.objs.size ≤ b) ∧ (∀ x c, X.env.cells.lookup x = some c → c ≠ b) ∧ ∀ p ∈ X.pn ++ pins, p.1 ≠ b
theorem Inv.fpOk {X : Cx} {pins : List (Addr × Obj)} {σ : St} {H H' : Hp} {s : Shared} {b : Addr} (I : Inv X pins σ H s) (hb : s.heap.objs.size ≤ b) (hn : H' b = none) : FpOk X pins H' b := by
  refine ⟨hn, Nat.ne_of_gt (Nat.lt_of_lt_of_le I.lt hb), I.nofs hb, .inr (Nat.le_trans I.sz hb), fun x c e z => ?_, fun p hp z => ?_⟩
  · obtain ⟨v, q⟩ := I.cell x c e
    exact absurd (Nat.lt_of_lt_of_le q.lt (by rw [z]; exact hb)) (Nat.lt_irrefl _)
  · exact absurd (Nat.lt_of_lt_of_le (Heap.lt_size (I.pin p hp).1) (by rw [z]; exact hb)) (Nat.lt_irrefl _)
structure Turn (P : Program) (w : World) (K : PySem.W.Frag) (tg : Expr) (J : It) (fp : List Addr) (it : Addr) (tn : Nat → Heap → Prop) : Prop where
  mem : it ∈ fp
  obj : ∀ i h, tn i h → ∀ b ∈ fp, ∃ o, h.get? b = some o ∧ ∀ v, o.data ≠ .cell v
  keep : ∀ i h h', tn i h → (∀ b ∈ fp, ∀ o, h.get? b = some o → h'.get? b = some o) → tn i h'
  item : ∀ (X : Cx), X.prog = P → X.w = w → X.K = K → X.calm = true → ∀ (i : Nat) (pins : List (Addr × Obj)) (s : Shared) (σ : St) (H : Hp) (E : Value → Shared → Prop), Inv X pins σ H s → (∀ b ∈ fp, FpOk X pins H b) → tn i s.heap → J.go i H →
    wpAny (model P w) X.A (pyNext (.ref it)) (fun r s1 => ∃ u, r = some u ∧
      wpAny (model P w) X.A (letOwnedTupleGo tg (.ref it) u) (fun _ s2 => ∃ x H', Inv X pins σ H' s2 ∧ RelV x u ∧ J.yld i H x H' ∧ tn (i + 1) s2.heap ∧ ∀ b ∈ fp, H' b = none) E s1) E s
  done : ∀ (X : Cx), X.prog = P → X.w = w → X.K = K → X.calm = true → ∀ (i : Nat) (pins : List (Addr × Obj)) (s : Shared) (σ : St) (H : Hp) (E : Value → Shared → Prop), Inv X pins σ H s → (∀ b ∈ fp, FpOk X pins H b) → tn i s.heap → J.stop i H →
    wpAny (model P w) X.A (pyNext (.ref it)) (fun r s1 => r = none ∧ Inv X pins σ H s1) E s
  self : ∀ (A : Around) (i : Nat) (s : Shared) (Q : Value → Shared → Prop) (E : Value → Shared → Prop), tn i s.heap → Q (.ref it) s → wpAny (model P w) A (pyIter (.ref it)) Q E s
abbrev TI := St → Hp → (It → Hp → Prop) → Prop
/-- an iterator has come -/
def PIE (X : Cx) (pins : List (Addr × Obj)) (σ : St) (tg : Expr) (R : It → Hp → Prop) (itv : Value) (s2 : Shared) : Prop :=
  ∃ (it : Addr) (fp : List Addr) (tn : Nat → Heap → Prop) (J : It) (H' : Hp), itv = .ref it ∧ Inv X pins σ H' s2 ∧ Turn X.prog X.w X.K tg J fp it tn ∧ tn 0 s2.heap ∧ (∀ b ∈ fp, FpOk X pins H' b) ∧ R J H'
def PI (X : Cx) (tg iter : Expr) (wi : TI) : Prop :=
  ∀ (pins : List (Addr × Obj)) (s : Shared) (σ : St) (H : Hp) (R : It → Hp → Prop), Inv X pins σ H s → wi σ H R →
    wpAny (model X.prog X.w) X.A (eval iter X.env) (fun v s1 => wpAny (model X.prog X.w) X.A (pyIter v) (PIE X pins σ tg R) X.xe s1) X.xe s

/-- the step ahead of the store is nothing for an iterator that keeps no tuple -/
theorem go_of {M : Model} {A : Around} {E : Value → Shared → Prop} {s : Shared} {tg : Expr} {it : Addr} {u : Value} {o : Obj} {n : String} {vs : Array Value} {Q : Unit → Shared → Prop} (ho : s.heap.get? it = some o) (hc : o.cls = .type n) (hd : o.data = .fields vs)
    (hn : ["enumerate", "zip", "dict_itemiterator", "dict_reverseitemiterator", "odict_iterator", "itertools.zip_longest", "itertools.pairwise"].contains n = false) (hQ : Q () s) : wpAny M A (letOwnedTupleGo tg (.ref it) u) Q E s := by
  unfold letOwnedTupleGo
  cases tg <;> first
    | exact wpAny_pure hQ
    | (cases u <;> first
        | exact wpAny_pure hQ
        | (refine wpAny_bind (wpAny_load ho ?_)
           rw [hc, hd]
           show wpAny M A (if (["enumerate", "zip", "dict_itemiterator", "dict_reverseitemiterator", "odict_iterator", "itertools.zip_longest", "itertools.pairwise"].contains n && vs[0]? == some (rawInt _)) = true then _ else _) Q E s
           rw [if_neg (by intro h; rw [hn, Bool.false_and] at h; cases h)]
           exact wpAny_pure hQ))

/-- the list at a, as it stands at each turn (a loop may append to it) -/
def Itl (K : PySem.W.Frag) (a : Addr) : It :=
  ⟨fun i H => ∃ xs x, SqL K H a xs ∧ xs[i]? = some x, fun i H x H' => H' = H ∧ ∀ xs, SqL K H a xs → xs[i]? = some x, fun i H => ∃ xs, SqL K H a xs ∧ xs.length ≤ i⟩
def Itt (K : PySem.W.Frag) (a : Addr) : It :=
  ⟨fun i H => ∃ xs x, SqT K H a xs ∧ xs[i]? = some x, fun i H x H' => H' = H ∧ ∀ xs, SqT K H a xs → xs[i]? = some x, fun i H => ∃ xs, SqT K H a xs ∧ xs.length ≤ i⟩
/-- lo, lo + 1, .. (n of them) -/
def Itr (lo : Int) (n : Nat) : It := ⟨fun i _ => i < n, fun i H x H' => H' = H ∧ x = .int (lo + i), fun i _ => n ≤ i⟩
theorem turn_list {P : Program} {w : World} {K : PySem.W.Frag} {tg : Expr} (a it : Addr) : Turn P w K tg (Itl K a) [it] it (fun i h => h.IsListIter it a i) where
  mem := by simp
  obj := fun i h st b hb => by
    have e : b = it := by simpa using hb
    subst e
    obtain ⟨o, e, c, d⟩ := st
    exact ⟨o, e, fun v z => by rw [d] at z; cases z⟩
  keep := fun i h h' st k => st.at fun o e => k it (by simp) o e
  item := by
    intro X hP hw hK hc i pins s σ H E I hf st hg
    subst hP hw hK
    obtain ⟨xs, x, hq, hx⟩ := hg
    obtain ⟨its, rv, p, hz⟩ := I.list hq
    obtain ⟨u, hu, ru⟩ := rv.get hx
    obtain ⟨f0, f1, f2, f3, f4, f5⟩ := hf it (by simp)
    refine wpAny_pyNext_list_item st p.isList (x := u) (by simpa using hu) fun h' st' sb => ?_
    have I1 : Inv X pins σ H { s with heap := h' } := I.turned (t' := s.toks) (fun b o hb e => (sb.2 b hb).trans e) f0 f1 f3 f4 f5
    obtain ⟨o, e, c, d⟩ := id st'
    exact ⟨u, rfl, go_of (s := { s with heap := h' }) e c d (by decide) ⟨x, H, I1, ru, ⟨rfl, fun ys hy => by rw [I.list_inj hy hq]; exact hx⟩, st', fun b hb => (hf b hb).1⟩⟩
  done := by
    intro X hP hw hK hc i pins s σ H E I hf st hg
    subst hP hw hK
    obtain ⟨xs, hq, hx⟩ := hg
    obtain ⟨its, rv, p, hz⟩ := I.list hq
    obtain ⟨f0, f1, f2, f3, f4, f5⟩ := hf it (by simp)
    have hl := rv.length
    exact wpAny_pyNext_list_end (I.ok.hd hc) st p.isList (by simp; omega) fun h' eb => ⟨rfl, I.turned (t' := s.toks) (fun b o hb e => eb b o hb e) f0 f1 f3 f4 f5⟩
  self := fun _ _ _ _ _ st h => wpAny_pyIter_listiter st h
theorem turn_tuple {P : Program} {w : World} {K : PySem.W.Frag} {tg : Expr} (a it : Addr) : Turn P w K tg (Itt K a) [it] it (fun i h => h.IsTupleIter it a i) where
  mem := by simp
  obj := fun i h st b hb => by
    have e : b = it := by simpa using hb
    subst e
    obtain ⟨o, e, c, d⟩ := st
    exact ⟨o, e, fun v z => by rw [d] at z; cases z⟩
  keep := fun i h h' st k => st.at fun o e => k it (by simp) o e
  item := by
    intro X hP hw hK hc i pins s σ H E I hf st hg
    subst hP hw hK
    obtain ⟨xs, x, hq, hx⟩ := hg
    obtain ⟨its, rv, p, hz⟩ := I.tuple hq
    obtain ⟨u, hu, ru⟩ := rv.get hx
    obtain ⟨f0, f1, f2, f3, f4, f5⟩ := hf it (by simp)
    refine wpAny_pyNext_tuple_item st (show s.heap.IsTuple a its.toArray from p) (x := u) (by simpa using hu) fun h' st' sb => ?_
    have I1 : Inv X pins σ H { s with heap := h' } := I.turned (t' := s.toks) (fun b o hb e => (sb.2 b hb).trans e) f0 f1 f3 f4 f5
    obtain ⟨o, e, c, d⟩ := id st'
    exact ⟨u, rfl, go_of (s := { s with heap := h' }) e c d (by decide) ⟨x, H, I1, ru, ⟨rfl, fun ys hy => by rw [I.tuple_inj hy hq]; exact hx⟩, st', fun b hb => (hf b hb).1⟩⟩
  done := by
    intro X hP hw hK hc i pins s σ H E I hf st hg
    subst hP hw hK
    obtain ⟨xs, hq, hx⟩ := hg
    obtain ⟨its, rv, p, hz⟩ := I.tuple hq
    obtain ⟨f0, f1, f2, f3, f4, f5⟩ := hf it (by simp)
    have hl := rv.length
    exact wpAny_pyNext_tuple_end (I.ok.hd hc) st (show s.heap.IsTuple a its.toArray from p) (by simp; omega) fun h' eb => ⟨rfl, I.turned (t' := s.toks) (fun b o hb e => eb b o hb e) f0 f1 f3 f4 f5⟩
  self := fun _ _ _ _ _ st h => wpAny_pyIter_tupleiter st h
theorem turn_range {P : Program} {w : World} {K : PySem.W.Frag} {tg : Expr} (it : Addr) (lo : Int) (n : Nat) : Turn P w K tg (Itr lo n) [it] it (fun i h => IsRangeIter h it (lo + (i : Nat) * 1) ((n : Int) - (i : Nat)) 1) where
  mem := by simp
  obj := fun i h st b hb => by
    have e : b = it := by simpa using hb
    subst e
    exact ⟨_, st, fun v z => by
      have z' : Data.fields _ = Data.cell v := z
      cases z'⟩
  keep := fun i h h' st k => k it (by simp) _ st
  item := by
    intro X hP hw hK hc i pins s σ H E I hf st hg
    subst hP hw hK
    obtain ⟨f0, f1, f2, f3, f4, f5⟩ := hf it (by simp)
    have W := Walks.range (prog := X.prog) (w := X.w) (I.ok.hd hc) it lo 1 n
    refine W.item i s _ _ hg st fun v h' tk hv st' kk => ?_
    obtain ⟨t, rfl⟩ := hv
    have I1 : Inv X pins σ H { s with heap := h', toks := tk } := I.turned (fun b o hb e => kk b o (by simpa using hb) e) f0 f1 f3 f4 f5
    refine ⟨_, rfl, go_of (s := { s with heap := h', toks := tk }) (n := "range_iterator") st' rfl rfl (by decide) ⟨.int (lo + i), H, I1, ⟨t, ?_⟩, ⟨rfl, rfl⟩, st', fun b hb => (hf b hb).1⟩⟩
    rw [Int.mul_one]
  done := by
    intro X hP hw hK hc i pins s σ H E I hf st hg
    subst hP hw hK
    obtain ⟨f0, f1, f2, f3, f4, f5⟩ := hf it (by simp)
    exact wpAny_pyNext_range_end (I.ok.hd hc) st (by have : n ≤ i := hg; omega) fun h' eb => ⟨rfl, I.turned (t' := s.toks) (fun b o hb e => eb b o hb e) f0 f1 f3 f4 f5⟩
  self := fun _ _ _ _ _ st h => wpAny_pyIter_rangeiter st h
end L2

namespace L2
open PySem PySem.Spec PyProof.Rows
section
variable {X : Cx} {tg : Expr}
def iList (K : PySem.W.Frag) (tl : TE) : TI := fun σ H R => tl σ H fun x H1 => ∃ a, x = .ref a ∧ (∃ xs, SqL K H1 a xs) ∧ R (Itl K a) H1
def iTup (K : PySem.W.Frag) (tl : TE) : TI := fun σ H R => tl σ H fun x H1 => ∃ a, x = .ref a ∧ (∃ xs, SqT K H1 a xs) ∧ R (Itt K a) H1
theorem pi_list {l : Expr} {tl : TE} (hl : PE X l tl) : PI X tg l (iList X.K tl) := by
  intro pins s σ H R I h
  refine thn (hl pins s σ H _ I h) fun v s1 ⟨x, H1, I1, r1, q1⟩ => ?_
  obtain ⟨a, e, ⟨xs, hq⟩, q⟩ := q1
  subst e
  cases r1
  obtain ⟨its, rv, p, hz⟩ := I1.list hq
  refine wpAny_pyIter_list p.isList ?_
  refine ⟨s1.heap.objs.size, [s1.heap.objs.size], _, _, H1, rfl, I1.kept (t' := s1.toks) fun b o e => Heap.get?_push_of_some _ e, turn_list a _, ⟨_, Heap.get?_push_size _ rfl, rfl, rfl⟩, fun b hb => ?_, q⟩
  have e : b = s1.heap.objs.size := by simpa using hb
  subst e
  exact I1.fpOk (Nat.le_refl _) (I1.hok.fresh (Nat.le_refl _))
theorem pi_tup {l : Expr} {tl : TE} (hl : PE X l tl) : PI X tg l (iTup X.K tl) := by
  intro pins s σ H R I h
  refine thn (hl pins s σ H _ I h) fun v s1 ⟨x, H1, I1, r1, q1⟩ => ?_
  obtain ⟨a, e, ⟨xs, hq⟩, q⟩ := q1
  subst e
  cases r1
  obtain ⟨its, rv, p, hz⟩ := I1.tuple hq
  refine wpAny_pyIter_tuple (show s1.heap.IsTuple a its.toArray from p) ?_
  refine ⟨s1.heap.objs.size, [s1.heap.objs.size], _, _, H1, rfl, I1.kept (t' := s1.toks) fun b o e => Heap.get?_push_of_some _ e, turn_tuple a _, ⟨_, Heap.get?_push_size _ rfl, rfl, rfl⟩, fun b hb => ?_, q⟩
  have e : b = s1.heap.objs.size := by simpa using hb
  subst e
  exact I1.fpOk (Nat.le_refl _) (I1.hok.fresh (Nat.le_refl _))
/-- a range object just made, walked -/
theorem range_it {pins : List (Addr × Obj)} {σ : St} {H : Hp} {s : Shared} {R : It → Hp → Prop} {E : Value → Shared → Prop} {lo hi : Int} {t u v : Tok} {tk : Nat} (I : Inv X pins σ H s) (h1 : -(2 ^ 62) ≤ lo) (h2 : lo < 2 ^ 62) (h3 : -(2 ^ 62) ≤ hi) (h4 : hi < 2 ^ 62)
    (q : R (Itr lo (hi - lo).toNat) H) : wpAny (model X.prog X.w) X.A (pyIter (.ref s.heap.objs.size)) (PIE X pins σ tg R) E { s with heap := s.heap.push { cls := .type "range", data := .fields #[.int lo t, .int hi u, .int 1 v] }, toks := tk } := by
  refine wpAny_pyIter_range (IsRange.new ..) (small_one h1 h2 h3 h4) ?_
  have I1 : Inv X pins σ H { s with heap := s.heap.push { cls := .type "range", data := .fields #[.int lo t, .int hi u, .int 1 v] }, toks := tk } := I.kept fun b o e => Heap.get?_push_of_some _ e
  refine ⟨(s.heap.push { cls := .type "range", data := .fields #[.int lo t, .int hi u, .int 1 v] }).objs.size, [(s.heap.push { cls := .type "range", data := .fields #[.int lo t, .int hi u, .int 1 v] }).objs.size], _, _, H, rfl,
    I1.kept (t' := tk) fun b o e => Heap.get?_push_of_some _ e, turn_range _ lo (hi - lo).toNat, ?_, fun b hb => ?_, q⟩
  · have e1 : lo + ((0 : Nat) : Int) * 1 = lo := by simp
    have e2 : (((hi - lo).toNat : Nat) : Int) - ((0 : Nat) : Int) = Builtin.Range.rangeSize lo hi 1 := by rw [rangeSize_one]; split <;> omega
    show IsRangeIter _ _ (lo + ((0 : Nat) : Int) * 1) ((((hi - lo).toNat : Nat) : Int) - ((0 : Nat) : Int)) 1
    rw [e1, e2]
    exact Heap.get?_push_size _ rfl
  · have e : b = (s.heap.push { cls := .type "range", data := .fields #[.int lo t, .int hi u, .int 1 v] }).objs.size := by simpa using hb
    subst e
    exact I1.fpOk (Nat.le_refl _) (I1.hok.fresh (Nat.le_refl _))
def iRng1 (ta : TA) : TI := fun σ H R => ta σ H fun vs H1 => ∃ j : Int, vs = [.int j] ∧ -(2 ^ 62) ≤ j ∧ j < 2 ^ 62 ∧ R (Itr 0 j.toNat) H1
def iRng2 (ta : TA) : TI := fun σ H R => ta σ H fun vs H1 => ∃ i j : Int, vs = [.int i, .int j] ∧ (-(2 ^ 62) ≤ i ∧ i < 2 ^ 62 ∧ -(2 ^ 62) ≤ j ∧ j < 2 ^ 62) ∧ R (Itr i (j - i).toNat) H1
theorem pi_range1 {a : Expr} {ta : TA} {p pos : Pos} (hg : Gl X "range") (hm : X.mg "range" = none) (ha : PA X [a] ta) (hs : starEach [a] X.env = [(false, eval a X.env)] := by rfl) : PI X tg (.Call (.Name "range" p) [a] [] pos) (iRng1 ta) := by
  intro pins s σ H R I h
  refine Call_ (ld_blt I hg hm boot_range (PyProof.Rows.callWith_type1 (thn (ha pos pins s σ H _ I h) fun us s1 ⟨vs, H1, I1, r1, q1⟩ => ?_) hs rfl))
  obtain ⟨j, e, q1, q2, q⟩ := q1
  subst e
  cases r1 with
  | cons r rr =>
    cases rr
    obtain ⟨t, rfl⟩ := r
    exact call_range_1 (range_it I1 (by omega) (by omega) q1 q2 (by simpa using q))
theorem pi_range2 {a b : Expr} {ta : TA} {p pos : Pos} (hg : Gl X "range") (hm : X.mg "range" = none) (ha : PA X [a, b] ta) (hs : starEach [a, b] X.env = [(false, eval a X.env), (false, eval b X.env)] := by rfl) (hs2 : starEach [b] X.env = [(false, eval b X.env)] := by rfl) :
    PI X tg (.Call (.Name "range" p) [a, b] [] pos) (iRng2 ta) := by
  intro pins s σ H R I h
  refine Call_ (ld_blt I hg hm boot_range (PyProof.Rows.callWith_type1 (thn (ha pos pins s σ H _ I h) fun us s1 ⟨vs, H1, I1, r1, q1⟩ => ?_) (by rw [hs, hs2]) (by rw [hs2]; rfl)))
  obtain ⟨i, j, e, ⟨q1, q2, q3, q4⟩, q⟩ := q1
  subst e
  cases r1 with
  | cons r rr =>
    cases rr with
    | cons r' rr =>
      cases rr
      obtain ⟨t, rfl⟩ := r
      obtain ⟨t', rfl⟩ := r'
      exact call_range_2 (range_it I1 q1 q2 q3 q4 q)

/-! ### for -/
/-- W: the invariant by the turn and a measure; N: what the body is to reach -/
def tFor (wi : TI) (g : TG) (tb : TS) : TS := fun D σ H => wi σ H fun J H1 => ∃ W : Nat → Nat → St → Hp → Prop, (∃ m, W 0 m σ H1) ∧ ∀ i m σ H, W i m σ H →
  (J.stop i H ∧ D.nx σ H) ∨ (J.go i H ∧ ∃ N : St → Hp → Prop, (∀ σ' H', N σ' H' → ∃ m', m' < m ∧ W (i + 1) m' σ' H') ∧ ∀ x H', J.yld i H x H' → g x σ H' fun σ2 H2 => tb { D with nx := N, ct := N, bk := D.nx } σ2 H2)
/-- the records at fp as they stand -/
def pinsAt (fp : List Addr) (h : Heap) : List (Addr × Obj) := fp.filterMap fun b => (h.get? b).map fun o => (b, o)
theorem mem_pinsAt {fp : List Addr} {h : Heap} {b : Addr} {o : Obj} (hb : b ∈ fp) (e : h.get? b = some o) : (b, o) ∈ pinsAt fp h := List.mem_filterMap.mpr ⟨b, hb, by rw [e]; rfl⟩
theorem of_pinsAt {fp : List Addr} {h : Heap} {p : Addr × Obj} (hp : p ∈ pinsAt fp h) : p.1 ∈ fp ∧ h.get? p.1 = some p.2 := by
  obtain ⟨b, hb, e⟩ := List.mem_filterMap.mp hp
  cases q : h.get? b with
  | none => rw [q] at e; cases e
  | some o =>
    rw [q] at e
    have e' : (b, o) = p := Option.some.inj e
    subst e'
    exact ⟨hb, q⟩
theorem Inv.pinned {pins : List (Addr × Obj)} {σ : St} {H : Hp} {s : Shared} {fp : List Addr} (I : Inv X pins σ H s) (hf : ∀ b ∈ fp, FpOk X pins H b) (ho : ∀ b ∈ fp, ∃ o, s.heap.get? b = some o ∧ ∀ v, o.data ≠ .cell v) : Inv X (pins ++ pinsAt fp s.heap) σ H s :=
  I.pins_of fun p hp => (List.mem_append.mp hp).elim (fun z => I.pin p (List.mem_append_right _ z)) fun z => by
    obtain ⟨hb, e⟩ := of_pinsAt z
    obtain ⟨f0, f1, f2, _⟩ := hf p.1 hb
    obtain ⟨o, e', d⟩ := ho p.1 hb
    rw [e] at e'; cases e'
    exact ⟨e, f0, f1, f2, d⟩
theorem Inv.unpinned {pins pl : List (Addr × Obj)} {σ : St} {H : Hp} {s : Shared} (I : Inv X (pins ++ pl) σ H s) : Inv X pins σ H s := I.pins_of fun p hp => I.pin p (List.mem_append_right _ (List.mem_append_left _ hp))
theorem ps_for {iter : Expr} {body : List Stmt} {wi : TI} {g : TG} {tb : TS} {pos : Pos} (hp : PassesOwn (model X.prog X.w) X.A X.env X.xe) (hc : X.calm = true) (hi : PI X tg iter wi) (hg : PG X tg g) (hb : PSs X body tb)
    (hs : ∀ x, foldedSetIterable iter X.env x = pure x := by intro _; rfl) : PS X (.For tg iter body [] pos) (tFor wi g tb) := by
  intro pins s σ H D I h
  refine wpAny_For (thn (hi pins s σ H _ I h) fun v s1 h1 => thn h1 fun itv s2 h2 => ?_) hs
  obtain ⟨it, fp, tn, J, H2, e, I2, T, st2, f2, W, ⟨m0, w0⟩, turn⟩ := h2
  subst e
  -- what stays true of the iterator's objects through the loop
  have stat : ∀ {H' : Hp}, (∀ b ∈ fp, H' b = none) → ∀ b ∈ fp, FpOk X pins H' b := fun hn b hb => ⟨hn b hb, (f2 b hb).2⟩
  refine codeAny_forLoop_any (fun n s' => ∃ i σ' H', Inv X pins σ' H' s' ∧ tn i s'.heap ∧ (∀ b ∈ fp, H' b = none) ∧ W i n σ' H') ?_ m0 ⟨0, σ, H2, I2, st2, fun b hb => (f2 b hb).1, w0⟩
  rintro n s3 ⟨i, σ3, H3, I3, st3, fr3, w3⟩
  rcases turn i n σ3 H3 w3 with ⟨stop, qn⟩ | ⟨go, N, hN, step⟩
  · refine wpAny_passesOwn hp (thn (T.done X rfl rfl rfl hc i pins s3 σ3 H3 X.xe I3 (stat fr3) st3 stop) fun r s4 ⟨hr, I4⟩ => ?_)
    subst hr
    exact wpAny_execs_nil ⟨σ3, H3, I4, qn⟩
  · refine wpAny_passesOwn hp (thn (T.item X rfl rfl rfl hc i pins s3 σ3 H3 X.xe I3 (stat fr3) st3 go) fun r s4 ⟨u, hr, h4⟩ => ?_)
    subst hr
    refine wpAny_passesOwn hp (thn h4 fun _ s5 ⟨x, H5, I5, r5, y5, st5, fr5⟩ => ?_)
    have I5' := I5.pinned (stat fr5) (T.obj _ _ st5)
    refine wpAny_passesOwn hp (thn (hg _ s5 σ3 H5 x u _ I5' r5 (step x H5 y5)) fun _ s6 ⟨σ6, H6, I6, q6⟩ => ?_)
    refine wpAny_passesOwn hp (thn (hb _ s6 σ6 H6 _ I6 q6) fun f s7 q7 => ?_)
    have again : ∀ {σ7 : St} {H7 : Hp}, Inv X (pins ++ pinsAt fp s5.heap) σ7 H7 s7 → N σ7 H7 → ∃ m, m < n ∧ ∃ i σ' H', Inv X pins σ' H' s7 ∧ tn i s7.heap ∧ (∀ b ∈ fp, H' b = none) ∧ W i m σ' H' := fun {σ7 H7} I7 n7 => by
      obtain ⟨m', hm, w7⟩ := hN σ7 H7 n7
      refine ⟨m', hm, i + 1, σ7, H7, I7.unpinned, T.keep _ _ _ st5 fun b hb o e => (I7.pin (b, o) (List.mem_append_right _ (List.mem_append_right _ (mem_pinsAt hb e)))).1, fun b hb => ?_, w7⟩
      obtain ⟨o, e, d⟩ := T.obj _ _ st5 b hb
      exact (I7.pin (b, o) (List.mem_append_right _ (List.mem_append_right _ (mem_pinsAt hb e)))).2.1
    cases f with
    | next => obtain ⟨σ7, H7, I7, n7⟩ := q7; exact again I7 n7
    | cont => obtain ⟨σ7, H7, I7, n7⟩ := q7; exact again I7 n7
    | brk => obtain ⟨σ7, H7, I7, q7⟩ := q7; exact ⟨σ7, H7, I7.unpinned, q7⟩
    | ret v => obtain ⟨x7, σ7, H7, I7, r7, q7⟩ := q7; exact ⟨x7, σ7, H7, I7.unpinned, r7, q7⟩
end

/-! ### the forms one uses -/
/-- over a list that the body leaves as it is -/
theorem for_list {K : PySem.W.Frag} {a : Addr} {xs : List V} {g : TG} {tb : TS} {D : Ends} {σ : St} {H : Hp} (Pv : Nat → St → Hp → Prop) (h0 : Pv 0 σ H) (hl : ∀ i σ H, i ≤ xs.length → Pv i σ H → SqL K H a xs)
    (hs : ∀ i x σ H, xs[i]? = some x → Pv i σ H → g x σ H fun σ2 H2 => tb { D with nx := Pv (i + 1), ct := Pv (i + 1), bk := D.nx } σ2 H2) (hd : ∀ σ H, Pv xs.length σ H → D.nx σ H) :
    ∃ W : Nat → Nat → St → Hp → Prop, (∃ m, W 0 m σ H) ∧ ∀ i m σ H, W i m σ H →
      ((Itl K a).stop i H ∧ D.nx σ H) ∨ ((Itl K a).go i H ∧ ∃ N : St → Hp → Prop, (∀ σ' H', N σ' H' → ∃ m', m' < m ∧ W (i + 1) m' σ' H') ∧ ∀ x H', (Itl K a).yld i H x H' → g x σ H' fun σ2 H2 => tb { D with nx := N, ct := N, bk := D.nx } σ2 H2) := by
  refine ⟨fun i m σ H => m = xs.length - i ∧ i ≤ xs.length ∧ Pv i σ H, ⟨xs.length, by simp, Nat.zero_le _, h0⟩, ?_⟩
  rintro i m σ H ⟨rfl, hi, p⟩
  have q := hl i σ H hi p
  by_cases hlt : i < xs.length
  · refine .inr ⟨⟨xs, xs[i], q, by simp [hlt]⟩, Pv (i + 1), fun σ' H' p' => ⟨xs.length - (i + 1), by omega, rfl, hlt, p'⟩, fun x H' y => ?_⟩
    obtain ⟨e, y⟩ := y
    subst e
    exact hs i x σ _ (y xs q) p
  · have e : i = xs.length := by omega
    subst e
    exact .inl ⟨⟨xs, q, Nat.le_refl _⟩, hd σ H p⟩
theorem for_tup {K : PySem.W.Frag} {a : Addr} {xs : List V} {g : TG} {tb : TS} {D : Ends} {σ : St} {H : Hp} (Pv : Nat → St → Hp → Prop) (h0 : Pv 0 σ H) (hl : ∀ i σ H, i ≤ xs.length → Pv i σ H → SqT K H a xs)
    (hs : ∀ i x σ H, xs[i]? = some x → Pv i σ H → g x σ H fun σ2 H2 => tb { D with nx := Pv (i + 1), ct := Pv (i + 1), bk := D.nx } σ2 H2) (hd : ∀ σ H, Pv xs.length σ H → D.nx σ H) :
    ∃ W : Nat → Nat → St → Hp → Prop, (∃ m, W 0 m σ H) ∧ ∀ i m σ H, W i m σ H →
      ((Itt K a).stop i H ∧ D.nx σ H) ∨ ((Itt K a).go i H ∧ ∃ N : St → Hp → Prop, (∀ σ' H', N σ' H' → ∃ m', m' < m ∧ W (i + 1) m' σ' H') ∧ ∀ x H', (Itt K a).yld i H x H' → g x σ H' fun σ2 H2 => tb { D with nx := N, ct := N, bk := D.nx } σ2 H2) := by
  refine ⟨fun i m σ H => m = xs.length - i ∧ i ≤ xs.length ∧ Pv i σ H, ⟨xs.length, by simp, Nat.zero_le _, h0⟩, ?_⟩
  rintro i m σ H ⟨rfl, hi, p⟩
  have q := hl i σ H hi p
  by_cases hlt : i < xs.length
  · refine .inr ⟨⟨xs, xs[i], q, by simp [hlt]⟩, Pv (i + 1), fun σ' H' p' => ⟨xs.length - (i + 1), by omega, rfl, hlt, p'⟩, fun x H' y => ?_⟩
    obtain ⟨e, y⟩ := y
    subst e
    exact hs i x σ _ (y xs q) p
  · have e : i = xs.length := by omega
    subst e
    exact .inl ⟨⟨xs, q, Nat.le_refl _⟩, hd σ H p⟩
theorem for_range {lo : Int} {n : Nat} {g : TG} {tb : TS} {D : Ends} {σ : St} {H : Hp} (Pv : Nat → St → Hp → Prop) (h0 : Pv 0 σ H)
    (hs : ∀ i σ H, i < n → Pv i σ H → g (.int (lo + i)) σ H fun σ2 H2 => tb { D with nx := Pv (i + 1), ct := Pv (i + 1), bk := D.nx } σ2 H2) (hd : ∀ σ H, Pv n σ H → D.nx σ H) :
    ∃ W : Nat → Nat → St → Hp → Prop, (∃ m, W 0 m σ H) ∧ ∀ i m σ H, W i m σ H →
      ((Itr lo n).stop i H ∧ D.nx σ H) ∨ ((Itr lo n).go i H ∧ ∃ N : St → Hp → Prop, (∀ σ' H', N σ' H' → ∃ m', m' < m ∧ W (i + 1) m' σ' H') ∧ ∀ x H', (Itr lo n).yld i H x H' → g x σ H' fun σ2 H2 => tb { D with nx := N, ct := N, bk := D.nx } σ2 H2) := by
  refine ⟨fun i m σ H => m = n - i ∧ i ≤ n ∧ Pv i σ H, ⟨n, by simp, Nat.zero_le _, h0⟩, ?_⟩
  rintro i m σ H ⟨rfl, hi, p⟩
  by_cases hlt : i < n
  · refine .inr ⟨hlt, Pv (i + 1), fun σ' H' p' => ⟨n - (i + 1), by omega, rfl, hlt, p'⟩, fun x H' y => ?_⟩
    obtain ⟨e, y⟩ := y
    subst e y
    exact hs i σ _ hlt p
  · have e : i = n := by omega
    subst e
    exact .inl ⟨Nat.le_refl _, hd σ H p⟩
/-- while, by a word and a measure of the state -/
theorem while_by {c : TT} {tb : TS} {D : Ends} {σ : St} {H : Hp} (Pv : St → Hp → Prop) (μ : St → Hp → Nat) (h0 : Pv σ H)
    (hs : ∀ σ H, Pv σ H → c σ H fun b H1 => if b = true then tb { D with nx := fun σ' H' => Pv σ' H' ∧ μ σ' H' < μ σ H, ct := fun σ' H' => Pv σ' H' ∧ μ σ' H' < μ σ H, bk := D.nx } σ H1 else D.nx σ H1)
    (mono : ∀ σ H Q Q', (∀ b H1, Q b H1 → Q' b H1) → c σ H Q → c σ H Q') : tWhile c tb D σ H := by
  refine ⟨fun m σ H => m = μ σ H ∧ Pv σ H, ⟨_, rfl, h0⟩, ?_⟩
  rintro m σ H ⟨rfl, p⟩
  refine mono σ H _ _ (fun b H1 q => ?_) (hs σ H p)
  cases b with
  | true => exact ⟨_, fun σ' H' ⟨p', l⟩ => ⟨_, l, rfl, p'⟩, q⟩
  | false => exact q
end L2

namespace L2
open PySem PySem.Spec PyProof.Rows

abbrev R2 := V → V → Hp → VK → Prop
/-- a two-place operation on values: f is binaryOp op, inplaceOp op or compareOp op -/
def OpR (X : Cx) (f : Value → Value → Sem Value) (r : R2) : Prop :=
  ∀ (pins : List (Addr × Obj)) (s : Shared) (σ : St) (H : Hp) (x y : V) (v u : Value) (Q : VK), Inv X pins σ H s → RelV x v → RelV y u → r x y H Q →
    wpAny (model X.prog X.w) X.A (f v u) (EP X pins σ Q) X.xe s
/-- a one-place operation -/
def UnR (X : Cx) (f : Value → Sem Value) (r : V → Hp → VK → Prop) : Prop :=
  ∀ (pins : List (Addr × Obj)) (s : Shared) (σ : St) (H : Hp) (x : V) (v : Value) (Q : VK), Inv X pins σ H s → RelV x v → r x H Q →
    wpAny (model X.prog X.w) X.A (f v) (EP X pins σ Q) X.xe s
/-- a call of a value that is known (a builtin, a type) with values -/
def CallR (X : Cx) (f : Value) (r : List V → Hp → VK → Prop) : Prop :=
  ∀ (pins : List (Addr × Obj)) (s : Shared) (σ : St) (H : Hp) (xs : List V) (us : List Value) (Q : VK), Inv X pins σ H s → Vals xs us → r xs H Q →
    wpAny (model X.prog X.w) X.A (call f us) (EP X pins σ Q) X.xe s
/-- a value's truth -/
def TruR (X : Cx) (r : V → Hp → (Bool → Hp → Prop) → Prop) : Prop :=
  ∀ (pins : List (Addr × Obj)) (s : Shared) (σ : St) (H : Hp) (x : V) (v : Value) (Q : Bool → Hp → Prop), Inv X pins σ H s → RelV x v → r x H Q →
    wpAny (model X.prog X.w) X.A (truthy v) (TP X pins σ Q) X.xe s

def tOp (r : R2) (ta tb : TE) : TE := fun σ H Q => ta σ H fun x H1 => tb σ H1 fun y H2 => r x y H2 Q
def tUn (r : V → Hp → VK → Prop) (ta : TE) : TE := fun σ H Q => ta σ H fun x H1 => r x H1 Q
/-- ints in, under C, and a value out -/
def rI (C : Int → Int → Prop) (g : Int → Int → V) : R2 := fun x y H Q => ∃ i j, x = .int i ∧ y = .int j ∧ C i j ∧ Q (g i j) H
def rI0 (g : Int → Int → V) : R2 := fun x y H Q => ∃ i j, x = .int i ∧ y = .int j ∧ Q (g i j) H
def rU (g : Int → V) : V → Hp → VK → Prop := fun x H Q => ∃ i, x = .int i ∧ Q (g i) H

section
variable {X : Cx} {a b c : Expr} {ta tb tc : TE} {pos : Pos}

theorem binT (ha : PE X a ta) (hb : PE X b tb) {pins : List (Addr × Obj)} {s : Shared} {σ : St} {H : Hp} {R : V → V → Hp → Prop} (I : Inv X pins σ H s)
    (h : ta σ H fun x H1 => tb σ H1 fun y H2 => R x y H2) {Q : Value → Shared → Prop} {f : Value → Value → Sem Value}
    (hf : ∀ v u s2 x y H2, Inv X pins σ H2 s2 → RelV x v → RelV y u → R x y H2 → wpAny (model X.prog X.w) X.A (f v u) Q X.xe s2) :
    wpAny (model X.prog X.w) X.A (eval a X.env) (fun v s₁ => wpAny (model X.prog X.w) X.A (eval b X.env) (fun u s₂ => wpAny (model X.prog X.w) X.A (f v u) Q X.xe s₂) X.xe s₁) X.xe s := by
  refine thn (ha pins s σ H _ I h) fun v s1 ⟨x, H1, I1, r1, q1⟩ => ?_
  refine thn (hb pins s1 σ H1 _ I1 q1) fun u s2 ⟨y, H2, I2, r2, q2⟩ => ?_
  exact hf v u s2 x y H2 I2 r1 r2 q2

theorem pe_op {op : Operator} {r : R2} (ho : OpR X (binaryOp op) r) (ha : PE X a ta) (hb : PE X b tb) : PE X (.BinOp a op b pos) (tOp r ta tb) := by
  intro pins s σ H Q I h
  exact wpAny_BinOp (binT ha hb I h fun v u s2 x y H2 I2 rx ry q => ho pins s2 σ H2 x y v u Q I2 rx ry q)
theorem pe_un {op : UnaryOp} {r : V → Hp → VK → Prop} (ho : UnR X (unaryOp op) r) (ha : PE X a ta) : PE X (.UnaryOp op a pos) (tUn r ta) := by
  intro pins s σ H Q I h
  exact UnaryOp_ (thn (ha pins s σ H _ I h) fun v s1 ⟨x, H1, I1, r1, q1⟩ => ho pins s1 σ H1 x v Q I1 r1 q1)
/-- a op= e at a name: the name's slot i -/
theorem augR {op : Operator} {r : R2} (ho : OpR X (inplaceOp op) r) {pins : List (Addr × Obj)} {s : Shared} {σ : St} {H : Hp} {x y : V} {v u : Value} {Q : VK} (I : Inv X pins σ H s)
    (rx : RelV x v) (ry : RelV y u) (q : r x y H Q) : wpAny (model X.prog X.w) X.A (inplaceOp op v u) (EP X pins σ Q) X.xe s := ho pins s σ H x y v u Q I rx ry q

/-! ### ints -/
theorem opI {f : Value → Value → Sem Value} {C : Int → Int → Prop} {g : Int → Int → Int}
    (rule : ∀ (i j : Int) (t u : Tok) (s : Shared) (Q : Value → Shared → Prop) (E : Value → Shared → Prop), C i j → Q (.int (g i j) s.toks) { s with toks := s.toks + 1 } → wpAny (model X.prog X.w) X.A (f (.int i t) (.int j u)) Q E s) :
    OpR X f (rI C fun i j => .int (g i j)) := by
  intro pins s σ H x y v u Q I rx ry h
  obtain ⟨i, j, rfl, rfl, hc, q⟩ := h
  obtain ⟨t, rfl⟩ := rx
  obtain ⟨t', rfl⟩ := ry
  exact rule i j t t' s _ _ hc ⟨.int (g i j), H, I.tok _, ⟨_, rfl⟩, q⟩
theorem opI0 {f : Value → Value → Sem Value} {g : Int → Int → Int}
    (rule : ∀ (i j : Int) (t u : Tok) (s : Shared) (Q : Value → Shared → Prop) (E : Value → Shared → Prop), Q (.int (g i j) s.toks) { s with toks := s.toks + 1 } → wpAny (model X.prog X.w) X.A (f (.int i t) (.int j u)) Q E s) :
    OpR X f (rI0 fun i j => .int (g i j)) := by
  intro pins s σ H x y v u Q I rx ry h
  obtain ⟨i, j, rfl, rfl, q⟩ := h
  obtain ⟨t, rfl⟩ := rx
  obtain ⟨t', rfl⟩ := ry
  exact rule i j t t' s _ _ ⟨.int (g i j), H, I.tok _, ⟨_, rfl⟩, q⟩
theorem opB0 {f : Value → Value → Sem Value} {g : Int → Int → Bool}
    (rule : ∀ (i j : Int) (t u : Tok) (s : Shared) (Q : Value → Shared → Prop) (E : Value → Shared → Prop), Q (.bool (g i j)) s → wpAny (model X.prog X.w) X.A (f (.int i t) (.int j u)) Q E s) :
    OpR X f (rI0 fun i j => .bl (g i j)) := by
  intro pins s σ H x y v u Q I rx ry h
  obtain ⟨i, j, rfl, rfl, q⟩ := h
  obtain ⟨t, rfl⟩ := rx
  obtain ⟨t', rfl⟩ := ry
  exact rule i j t t' s _ _ ⟨.bl (g i j), H, I, rfl, q⟩

def CDiv (i j : Int) : Prop := 0 < j ∧ j < 1073741824
def CDivN (i j : Int) : Prop := j ≠ 0 ∧ j.natAbs < 1073741824
def CPow (i j : Int) : Prop := 0 ≤ j ∧ j ≤ 1000000 ∧ i.natAbs < 2 ^ 64
def CMul (i j : Int) : Prop := (-(2 ^ 64) < i ∧ i < 2 ^ 64) ∨ (-(2 ^ 64) < j ∧ j < 2 ^ 64)
theorem CMul.ok {i j : Int} (h : CMul i j) : IntMulOk i j := by
  rcases h with ⟨h1, h2⟩ | ⟨h1, h2⟩
  · exact .of_left (intBits_le_64 h1 h2)
  · exact .of_right (intBits_le_64 h1 h2)
theorem two_pow_nn (k : Nat) : (0 : Int) ≤ 2 ^ k := by
  rw [two_pow_cast]
  exact Int.natCast_nonneg _

theorem op_add : OpR X (binaryOp .Add) (rI0 fun i j => .int (i + j)) := opI0 fun _ _ _ _ _ _ _ q => add_int q
theorem op_sub : OpR X (binaryOp .Sub) (rI0 fun i j => .int (i - j)) := opI0 fun _ _ _ _ _ _ _ q => sub_int q
theorem op_mul : OpR X (binaryOp .Mult) (rI CMul fun i j => .int (i * j)) := opI fun _ _ _ _ _ _ _ hc q => mul_int q hc.ok
/-- // by a positive divisor -/
theorem op_fdiv : OpR X (binaryOp .FloorDiv) (rI CDiv fun i j => .int (i / j)) := opI fun i j _ _ _ _ _ hc q => by
  have h1 : (0 : Int) < j := hc.1
  have h2 : j < 1073741824 := hc.2
  exact floordiv_int (by omega) (by rw [Int.fdiv_eq_ediv_of_nonneg i (by omega)]; exact q) (.inl (PyProof.noPylong_small (by omega)))
theorem op_fdivN : OpR X (binaryOp .FloorDiv) (rI CDivN fun i j => .int (i.fdiv j)) := opI fun _ _ _ _ _ _ _ hc q => floordiv_int hc.1 q (.inl (PyProof.noPylong_small hc.2))
/-- % by a positive divisor of any size -/
theorem op_mod : OpR X (binaryOp .Mod) (rI (fun _ j => 0 < j) fun i j => .int (i % j)) := opI fun i j _ _ _ _ _ hc q => by
  have h1 : (0 : Int) < j := hc
  exact mod_int' (by omega) (by rw [Int.fmod_eq_emod_of_nonneg i (by omega)]; exact q)
theorem op_modN : OpR X (binaryOp .Mod) (rI (fun _ j => j ≠ 0) fun i j => .int (i.fmod j)) := opI fun _ _ _ _ _ _ _ hc q => mod_int' hc q
theorem op_pow : OpR X (binaryOp .Pow) (rI CPow fun i j => .int (i ^ j.toNat)) := opI fun _ _ _ _ _ _ _ hc q => pow_int_small hc.1 hc.2.1 hc.2.2 q
theorem op_shl : OpR X (binaryOp .LShift) (rI CPow fun i j => .int (i * 2 ^ j.toNat)) := opI fun _ _ _ _ _ _ _ hc q => lshift_int_small hc.1 hc.2.1 hc.2.2 q
theorem op_shr : OpR X (binaryOp .RShift) (rI (fun _ j => 0 ≤ j) fun i j => .int (i / 2 ^ j.toNat)) := opI fun i j _ _ _ _ _ hc q =>
  rshift_int hc (by rw [Int.fdiv_eq_ediv_of_nonneg i (two_pow_nn _)]; exact q)
theorem op_and : OpR X (binaryOp .BitAnd) (rI0 fun i j => .int (Builtin.bitAnd i j)) := opI0 fun _ _ _ _ _ _ _ q => and_int q
theorem op_or : OpR X (binaryOp .BitOr) (rI0 fun i j => .int (Builtin.bitOr i j)) := opI0 fun _ _ _ _ _ _ _ q => or_int q
theorem op_xor : OpR X (binaryOp .BitXor) (rI0 fun i j => .int (Builtin.bitXor i j)) := opI0 fun _ _ _ _ _ _ _ q => xor_int q

theorem iop_add : OpR X (inplaceOp .Add) (rI0 fun i j => .int (i + j)) := opI0 fun _ _ _ _ _ _ _ q => iadd_int q
theorem iop_sub : OpR X (inplaceOp .Sub) (rI0 fun i j => .int (i - j)) := opI0 fun _ _ _ _ _ _ _ q => isub_int q
theorem iop_mul : OpR X (inplaceOp .Mult) (rI CMul fun i j => .int (i * j)) := opI fun _ _ _ _ _ _ _ hc q => imul_int q hc.ok
theorem iop_fdiv : OpR X (inplaceOp .FloorDiv) (rI CDiv fun i j => .int (i / j)) := opI fun i j _ _ _ _ _ hc q => by
  have h1 : (0 : Int) < j := hc.1
  have h2 : j < 1073741824 := hc.2
  exact ifloordiv_int (by omega) (by rw [Int.fdiv_eq_ediv_of_nonneg i (by omega)]; exact q) (.inl (PyProof.noPylong_small (by omega)))
theorem iop_mod : OpR X (inplaceOp .Mod) (rI (fun _ j => 0 < j) fun i j => .int (i % j)) := opI fun i j _ _ _ _ _ hc q => by
  have h1 : (0 : Int) < j := hc
  exact imod_int (by omega) (by rw [Int.fmod_eq_emod_of_nonneg i (by omega)]; exact q)
theorem iop_shl : OpR X (inplaceOp .LShift) (rI CPow fun i j => .int (i * 2 ^ j.toNat)) := opI fun _ _ _ _ _ _ _ hc q => ilshift_int_small hc.1 hc.2.1 hc.2.2 q
theorem iop_shr : OpR X (inplaceOp .RShift) (rI (fun _ j => 0 ≤ j) fun i j => .int (i / 2 ^ j.toNat)) := opI fun i j _ _ _ _ _ hc q =>
  irshift_int hc (by rw [Int.fdiv_eq_ediv_of_nonneg i (two_pow_nn _)]; exact q)
theorem iop_and : OpR X (inplaceOp .BitAnd) (rI0 fun i j => .int (Builtin.bitAnd i j)) := opI0 fun _ _ _ _ _ _ _ q => iand_int q
theorem iop_or : OpR X (inplaceOp .BitOr) (rI0 fun i j => .int (Builtin.bitOr i j)) := opI0 fun _ _ _ _ _ _ _ q => ior_int q
theorem iop_xor : OpR X (inplaceOp .BitXor) (rI0 fun i j => .int (Builtin.bitXor i j)) := opI0 fun _ _ _ _ _ _ _ q => ixor_int q

theorem unI {f : Value → Sem Value} {g : Int → Int}
    (rule : ∀ (i : Int) (t : Tok) (s : Shared) (Q : Value → Shared → Prop) (E : Value → Shared → Prop), Q (.int (g i) s.toks) { s with toks := s.toks + 1 } → wpAny (model X.prog X.w) X.A (f (.int i t)) Q E s) :
    UnR X f (rU fun i => .int (g i)) := by
  intro pins s σ H x v Q I rx h
  obtain ⟨i, rfl, q⟩ := h
  obtain ⟨t, rfl⟩ := rx
  exact rule i t s _ _ ⟨.int (g i), H, I.tok _, ⟨_, rfl⟩, q⟩
theorem un_neg : UnR X (unaryOp .USub) (rU fun i => .int (-i)) := unI fun _ _ _ _ _ q => neg_int q
theorem un_inv : UnR X (unaryOp .Invert) (rU fun i => .int (Builtin.bitNot i)) := unI fun _ _ _ _ _ q => invert_int q

/-! ### bools among ints: n += (a < b) -/
theorem op_add_ib : OpR X (binaryOp .Add) (fun x y H Q => ∃ i k, x = .int i ∧ y = .bl k ∧ Q (.int (i + b2i k)) H) := by
  intro pins s σ H x y v u Q I rx ry h
  obtain ⟨i, k, rfl, rfl, q⟩ := h
  obtain ⟨t, rfl⟩ := rx
  cases ry
  exact add_int_bool ⟨.int (i + b2i k), H, I.tok _, ⟨_, rfl⟩, q⟩
end

/-! ### comparisons -/
/-- the scalars that == tells apart as data does -/
def scal : V → V → Bool
  | .non, .non => true | .non, .int _ => true | .int _, .non => true | .non, .bl _ => true | .bl _, .non => true | .non, .str _ => true | .str _, .non => true
  | .int _, .int _ => true | .bl _, .bl _ => true | .str _, .str _ => true | .byt _, .byt _ => true
  | .int _, .str _ => true | .str _, .int _ => true | .bl _, .str _ => true | .str _, .bl _ => true
  | _, _ => false
def rEq : R2 := fun x y H Q => scal x y = true ∧ Q (.bl (decide (x = y))) H
def rNe : R2 := fun x y H Q => scal x y = true ∧ Q (.bl (!decide (x = y))) H

theorem dec_int {i j : Int} : decide (V.int i = V.int j) = (i == j) := by
  rw [Bool.eq_iff_iff]
  simp
theorem dec_bl {i j : Bool} : decide (V.bl i = V.bl j) = (i == j) := by
  rw [Bool.eq_iff_iff]
  simp
theorem dec_str {i j : Str} : decide (V.str i = V.str j) = (i == j) := by
  rw [Bool.eq_iff_iff]
  simp
theorem dec_byt {i j : Array UInt8} : decide (V.byt i = V.byt j) = (i.toList == j.toList) := by
  rw [Bool.eq_iff_iff]
  cases i
  cases j
  simp

section
variable {X : Cx} {a b c : Expr} {ta tb tc : TE} {pos : Pos}
theorem fin_bl {pins : List (Addr × Obj)} {σ : St} {H : Hp} {s : Shared} {Q : VK} {k k' : Bool} (I : Inv X pins σ H s) (q : Q (.bl k) H) (e : k = k') : EP X pins σ Q (.bool k') s := by
  subst e
  exact ⟨.bl k, H, I, rfl, q⟩
theorem op_eq : OpR X (compareOp .Eq) rEq := by
  intro pins s σ H x y v u Q I rx ry h
  obtain ⟨hs, q⟩ := h
  cases x with
  | non =>
    cases rx
    cases y with
    | non => cases ry; exact PySem.EqNone.eq_none_none (fin_bl I q (by simp))
    | bl j => cases ry; exact PySem.EqNone.eq_none_bool (fin_bl I q (by simp))
    | int j => obtain ⟨t', rfl⟩ := ry; exact PySem.EqNone.eq_none_int (fin_bl I q (by simp))
    | str j => obtain ⟨t', rfl⟩ := ry; exact PySem.EqNone.eq_none_str (fin_bl I q (by simp))
    | _ => exact absurd (show false = true from hs) Bool.false_ne_true
  | bl i =>
    cases rx
    cases y with
    | non => cases ry; exact PySem.EqNone.eq_bool_none (fin_bl I q (by simp))
    | bl j => cases ry; exact eq_bool (fin_bl I q dec_bl)
    | str j => obtain ⟨t', rfl⟩ := ry; exact PySem.EqMixed.eq_bool_str (fin_bl I q (by simp))
    | _ => exact absurd (show false = true from hs) Bool.false_ne_true
  | int i =>
    obtain ⟨t, rfl⟩ := rx
    cases y with
    | non => cases ry; exact PySem.EqNone.eq_int_none (fin_bl I q (by simp))
    | int j => obtain ⟨t', rfl⟩ := ry; exact eq_int (fin_bl I q dec_int)
    | str j => obtain ⟨t', rfl⟩ := ry; exact PySem.EqMixed.eq_int_str (fin_bl I q (by simp))
    | _ => exact absurd (show false = true from hs) Bool.false_ne_true
  | str i =>
    obtain ⟨t, rfl⟩ := rx
    cases y with
    | non => cases ry; exact PySem.EqNone.eq_str_none (fin_bl I q (by simp))
    | bl j => cases ry; exact PySem.EqMixed.eq_str_bool (fin_bl I q (by simp))
    | int j => obtain ⟨t', rfl⟩ := ry; exact PySem.EqMixed.eq_str_int (fin_bl I q (by simp))
    | str j => obtain ⟨t', rfl⟩ := ry; exact eq_str (fin_bl I q dec_str)
    | _ => exact absurd (show false = true from hs) Bool.false_ne_true
  | byt i =>
    obtain ⟨t, rfl⟩ := rx
    cases y with
    | byt j => obtain ⟨t', rfl⟩ := ry; exact PySem.W.eq_bytes (fin_bl I q dec_byt)
    | _ => exact absurd (show false = true from hs) Bool.false_ne_true
  | _ => cases y <;> exact absurd (show false = true from hs) Bool.false_ne_true
theorem op_ne : OpR X (compareOp .NotEq) rNe := by
  intro pins s σ H x y v u Q I rx ry h
  obtain ⟨hs, q⟩ := h
  cases x with
  | non =>
    cases rx
    cases y with
    | non => cases ry; exact PySem.EqNone.ne_none_none (fin_bl I q (by simp))
    | bl j => cases ry; exact PySem.EqNone.ne_none_bool (fin_bl I q (by simp))
    | int j => obtain ⟨t', rfl⟩ := ry; exact PySem.EqNone.ne_none_int (fin_bl I q (by simp))
    | str j => obtain ⟨t', rfl⟩ := ry; exact PySem.EqNone.ne_none_str (fin_bl I q (by simp))
    | _ => exact absurd (show false = true from hs) Bool.false_ne_true
  | bl i =>
    cases rx
    cases y with
    | non => cases ry; exact PySem.EqNone.ne_bool_none (fin_bl I q (by simp))
    | bl j => cases ry; exact ne_bool (fin_bl I q (congrArg not dec_bl))
    | str j => obtain ⟨t', rfl⟩ := ry; exact PySem.EqMixed.ne_bool_str (fin_bl I q (by simp))
    | _ => exact absurd (show false = true from hs) Bool.false_ne_true
  | int i =>
    obtain ⟨t, rfl⟩ := rx
    cases y with
    | non => cases ry; exact PySem.EqNone.ne_int_none (fin_bl I q (by simp))
    | int j => obtain ⟨t', rfl⟩ := ry; exact ne_int (fin_bl I q (congrArg not dec_int))
    | str j => obtain ⟨t', rfl⟩ := ry; exact PySem.EqMixed.ne_int_str (fin_bl I q (by simp))
    | _ => exact absurd (show false = true from hs) Bool.false_ne_true
  | str i =>
    obtain ⟨t, rfl⟩ := rx
    cases y with
    | non => cases ry; exact PySem.EqNone.ne_str_none (fin_bl I q (by simp))
    | bl j => cases ry; exact PySem.EqMixed.ne_str_bool (fin_bl I q (by simp))
    | int j => obtain ⟨t', rfl⟩ := ry; exact PySem.EqMixed.ne_str_int (fin_bl I q (by simp))
    | str j => obtain ⟨t', rfl⟩ := ry; exact ne_str (fin_bl I q (congrArg not dec_str))
    | _ => exact absurd (show false = true from hs) Bool.false_ne_true
  | byt i =>
    obtain ⟨t, rfl⟩ := rx
    cases y with
    | byt j => obtain ⟨t', rfl⟩ := ry; exact PySem.W.ne_bytes (fin_bl I q (congrArg not dec_byt))
    | _ => exact absurd (show false = true from hs) Bool.false_ne_true
  | _ => cases y <;> exact absurd (show false = true from hs) Bool.false_ne_true

theorem op_lt : OpR X (compareOp .Lt) (rI0 fun i j => .bl (decide (i < j))) := opB0 fun _ _ _ _ _ _ _ q => lt_int q
theorem op_le : OpR X (compareOp .LtE) (rI0 fun i j => .bl (decide (i ≤ j))) := opB0 fun _ _ _ _ _ _ _ q => le_int q
theorem op_gt : OpR X (compareOp .Gt) (rI0 fun i j => .bl (decide (j < i))) := opB0 fun _ _ _ _ _ _ _ q => gt_int q
theorem op_ge : OpR X (compareOp .GtE) (rI0 fun i j => .bl (decide (j ≤ i))) := opB0 fun _ _ _ _ _ _ _ q => ge_int q
theorem op_lt_str : OpR X (compareOp .Lt) (fun x y H Q => ∃ i j, x = .str i ∧ y = .str j ∧ Q (.bl (decide (i.cps.toList < j.cps.toList))) H) := by
  intro pins s σ H x y v u Q I rx ry h
  obtain ⟨i, j, rfl, rfl, q⟩ := h
  obtain ⟨t, rfl⟩ := rx
  obtain ⟨t', rfl⟩ := ry
  exact lt_str (fin_bl I q rfl)
/-- the one string within the other -/
theorem op_in_str : OpR X (compareOp .In) (fun x y H Q => ∃ i j, x = .str i ∧ y = .str j ∧ Q (.bl (!(Builtin.Str.occurrences j i 0 j.length 1).isEmpty)) H) := by
  intro pins s σ H x y v u Q I rx ry h
  obtain ⟨i, j, rfl, rfl, q⟩ := h
  obtain ⟨t, rfl⟩ := rx
  obtain ⟨t', rfl⟩ := ry
  exact in_str (fin_bl I q rfl)

/-- is None, is not None: the right side a value none -/
theorem op_isN : OpR X (compareOp .Is) (fun x y H Q => y = .non ∧ Q (.bl (decide (x = .non))) H) := by
  intro pins s σ H x y v u Q I rx ry h
  obtain ⟨rfl, q⟩ := h
  cases ry
  refine is_none_gen (fin_bl I q ?_)
  cases x <;> first
    | (cases rx; rfl)
    | (obtain ⟨t, rfl⟩ := rx; rfl)
theorem op_notN : OpR X (compareOp .IsNot) (fun x y H Q => y = .non ∧ Q (.bl (!decide (x = .non))) H) := by
  intro pins s σ H x y v u Q I rx ry h
  obtain ⟨rfl, q⟩ := h
  cases ry
  refine isnot_none_gen (fin_bl I q ?_)
  cases x <;> first
    | (cases rx; rfl)
    | (obtain ⟨t, rfl⟩ := rx; rfl)

theorem op_notin_str : OpR X (compareOp .NotIn) (fun x y H Q => ∃ i j, x = .str i ∧ y = .str j ∧ Q (.bl (!(!(Builtin.Str.occurrences j i 0 j.length 1).isEmpty))) H) := by
  intro pins s σ H x y v u Q I rx ry h
  obtain ⟨i, j, rfl, rfl, q⟩ := h
  obtain ⟨t, rfl⟩ := rx
  obtain ⟨t', rfl⟩ := ry
  exact notIn_str (fin_bl I q rfl)
/-- is, is not of two objects that are tracked lists or instances -/
def isObj : HO → Bool
  | .lst _ => true
  | .ins _ _ _ => true
  | _ => false
theorem obj_there {pins : List (Addr × Obj)} {s : Shared} {σ : St} {H : Hp} {a : Addr} {o : HO} (I : Inv X pins σ H s) (h : H a = some o) (p : isObj o = true) : ∃ ob, s.heap.get? a = some ob ∧ ob.cls ≠ .type "tuple" := by
  cases o with
  | lst xs =>
    obtain ⟨_, its, n, _, e⟩ : xs.length ≤ sizeLine ∧ ∃ (its : List Value) (n : Nat), Vals xs its ∧ s.heap.get? a = some { cls := .type "list", data := .seq its.toArray n } := I.hok a _ h
    exact ⟨_, e, (by show Value.type "list" ≠ .type "tuple"; decide +kernel)⟩
  | ins C dx fs =>
    have x := I.hok a _ h
    obtain ⟨_, _, _, e, _⟩ := x
    exact ⟨_, e, (by show Value.ref C ≠ .type "tuple"; exact fun z => by cases z)⟩
  | _ => exact absurd (show false = true from p) Bool.false_ne_true
theorem op_is_ref : OpR X (compareOp .Is) (fun x y H Q => ∃ a b oa ob, x = .ref a ∧ y = .ref b ∧ H a = some oa ∧ isObj oa = true ∧ H b = some ob ∧ isObj ob = true ∧ Q (.bl (decide (a = b))) H) := by
  intro pins s σ H x y v u Q I rx ry h
  obtain ⟨a, b, oa, ob, rfl, rfl, ha, pa, hb, pb, q⟩ := h
  cases rx
  cases ry
  obtain ⟨o1, e1, n1⟩ := obj_there I ha pa
  obtain ⟨o2, e2, _⟩ := obj_there I hb pb
  by_cases z : a = b
  · subst z
    exact wpAny_is_ref_self (fin_bl I q (by simp))
  · exact wpAny_is_ref_other z e1 e2 n1 (fin_bl I q (by simp [z]))
theorem op_isnot_ref : OpR X (compareOp .IsNot) (fun x y H Q => ∃ a b oa ob, x = .ref a ∧ y = .ref b ∧ H a = some oa ∧ isObj oa = true ∧ H b = some ob ∧ isObj ob = true ∧ Q (.bl (!decide (a = b))) H) := by
  intro pins s σ H x y v u Q I rx ry h
  obtain ⟨a, b, oa, ob, rfl, rfl, ha, pa, hb, pb, q⟩ := h
  cases rx
  cases ry
  obtain ⟨o1, e1, n1⟩ := obj_there I ha pa
  obtain ⟨o2, e2, _⟩ := obj_there I hb pb
  by_cases z : a = b
  · subst z
    exact wpAny_isNot_ref_self (fin_bl I q (by simp))
  · exact wpAny_isNot_ref_other z e1 e2 n1 (fin_bl I q (by simp [z]))

/-- two rules for one operation: by cases -/
theorem OpR.or {f : Value → Value → Sem Value} {r r' : R2} (h : OpR X f r) (h' : OpR X f r') : OpR X f (fun x y H Q => r x y H Q ∨ r' x y H Q) := by
  intro pins s σ H x y v u Q I rx ry q
  rcases q with q | q
  · exact h pins s σ H x y v u Q I rx ry q
  · exact h' pins s σ H x y v u Q I rx ry q

theorem nomark (b : Expr) {op : CmpOp} (h : op ≠ .In := by decide) (h2 : op ≠ .NotIn := by decide) : behindInMarks op b = false := by
  have e1 : (op == CmpOp.In) = false := by cases op <;> first | rfl | exact absurd rfl h
  have e2 : (op == CmpOp.NotIn) = false := by cases op <;> first | rfl | exact absurd rfl h2
  cases b <;> simp [behindInMarks, e1, e2]
/-- a comparison as a value; hm: nomark b, or (for in, not in) by with_unfolding_all rfl -/
theorem pe_cmpR {op : CmpOp} {r : R2} (ho : OpR X (compareOp op) r) (ha : PE X a ta) (hb : PE X b tb) (hm : behindInMarks op b = false) : PE X (.Compare a [op] [b] pos) (tOp r ta tb) := by
  intro pins s σ H Q I h
  exact wpAny_Compare1 (binT ha hb I h fun v u s2 x y H2 I2 rx ry q => ho pins s2 σ H2 x y v u Q I2 rx ry q) hm
/-- a reading of a value as a test -/
def tTest (t : TE) : TT := fun σ H Q => t σ H fun x H' => ∃ k, x = .bl k ∧ Q k H'
theorem pt_cmpR {op : CmpOp} {r : R2} (ho : OpR X (compareOp op) r) (ha : PE X a ta) (hb : PE X b tb) (hm : behindInMarks op b = false) : PT X (.Compare a [op] [b] pos) (tTest (tOp r ta tb)) := by
  intro pins s σ H Q I h
  refine wpAny_isTrue_Compare1 (thn (ha pins s σ H _ I h) fun v s1 ⟨x, H1, I1, r1, q1⟩ => thn (hb pins s1 σ H1 _ I1 q1) fun u s2 ⟨y, H2, I2, r2, q2⟩ =>
    thn (ho pins s2 σ H2 x y v u _ I2 r1 r2 q2) fun c s3 ⟨z, H3, I3, r3, k, e, q3⟩ => ?_) hm
  subst e
  cases r3
  exact wpAny_truthy_bool ⟨H3, I3, q3⟩
/-- a op1 b op2 c -/
def tChain (r r' : R2) (ta tb tc : TE) : TE := fun σ H Q => ta σ H fun x H1 => tb σ H1 fun y H2 => r x y H2 fun z H3 => ∃ k, z = .bl k ∧
  (if k = true then tc σ H3 fun w' H4 => r' y w' H4 Q else Q (.bl false) H3)
theorem pe_chain {op op' : CmpOp} {r r' : R2} (ho : OpR X (compareOp op) r) (ho' : OpR X (compareOp op') r') (ha : PE X a ta) (hb : PE X b tb) (hc : PE X c tc)
    (hm : lastMarks [op, op'] [b, c] = false := by with_unfolding_all rfl) : PE X (.Compare a [op, op'] [b, c] pos) (tChain r r' ta tb tc) := by
  intro pins s σ H Q I h
  refine Compare_chain (thn (ha pins s σ H _ I h) fun v s1 ⟨x, H1, I1, r1, q1⟩ => chain_link (thn (hb pins s1 σ H1 _ I1 q1) fun u s2 ⟨y, H2, I2, r2, q2⟩ =>
    thn (ho pins s2 σ H2 x y v u _ I2 r1 r2 q2) fun d s3 ⟨z, H3, I3, r3, k, e, q3⟩ => ?_)) hm
  subst e
  cases r3
  refine wpAny_truthy_bool ?_
  cases k with
  | false => exact ite_ff ⟨.bl false, H3, I3, rfl, q3⟩
  | true => exact ite_tt (chain_last (thn (hc pins s3 σ H3 _ I3 q3) fun w' s4 ⟨z', H4, I4, r4, q4⟩ => ho' pins s4 σ H4 y z' u w' Q I4 r2 r4 q4))
theorem pt_chain {op op' : CmpOp} {r r' : R2} (ho : OpR X (compareOp op) r) (ho' : OpR X (compareOp op') r') (ha : PE X a ta) (hb : PE X b tb) (hc : PE X c tc)
    (hm : lastMarks [op, op'] [b, c] = false := by with_unfolding_all rfl) : PT X (.Compare a [op, op'] [b, c] pos) (tTest (tChain r r' ta tb tc)) := by
  intro pins s σ H Q I h
  refine isTrue_chain (thn (ha pins s σ H _ I h) fun v s1 ⟨x, H1, I1, r1, q1⟩ => test_link (thn (hb pins s1 σ H1 _ I1 q1) fun u s2 ⟨y, H2, I2, r2, q2⟩ =>
    thn (ho pins s2 σ H2 x y v u _ I2 r1 r2 q2) fun d s3 ⟨z, H3, I3, r3, k, e, q3⟩ => ?_)) hm
  subst e
  cases r3
  refine wpAny_truthy_bool ?_
  cases k with
  | false =>
    obtain ⟨k', e', q'⟩ := q3
    cases e'
    exact ite_ff ⟨H3, I3, q'⟩
  | true =>
    refine ite_tt (test_last (thn (hc pins s3 σ H3 _ I3 q3) fun w' s4 ⟨z', H4, I4, r4, q4⟩ => thn (ho' pins s4 σ H4 y z' u w' _ I4 r2 r4 q4) fun d' s5 ⟨z2, H5, I5, r5, k2, e2, q5⟩ => ?_))
    subst e2
    cases r5
    exact wpAny_truthy_bool ⟨H5, I5, q5⟩

/-! ### truth -/
/-- a value's truth by the abstract heap -/
def TruV (K : PySem.W.Frag) (x : V) (H : Hp) (k : Bool) : Prop :=
  match x with
  | .non => k = false
  | .bl b => k = b
  | .int i => k = (i != 0)
  | .str y => y.length ≤ sizeLine ∧ k = ((y.length : Int) != 0)
  | .byt y => y.size ≤ sizeLine ∧ k = ((y.size : Int) != 0)
  | .ref p => (∃ xs, SqL K H p xs ∧ k = !xs.isEmpty) ∨ (∃ xs, SqT K H p xs ∧ k = !xs.isEmpty) ∨ ∃ kvs, H p = some (.dK kvs) ∧ k = !kvs.isEmpty
  | _ => False
theorem isEmpty_kv {κ : Type} {kvs : List (κ × V)} {vs : List (κ × Value)} (r : KV kvs vs) : (!vs.isEmpty) = !kvs.isEmpty := by
  cases r <;> rfl
theorem isEmpty_of {xs : List V} {its : List Value} (r : Vals xs its) : (!its.toArray.isEmpty) = !xs.isEmpty := by
  cases r <;> simp
theorem line63 : (sizeLine : Nat) < 2 ^ 63 := by rw [sizeLine_eq]; decide
theorem tru_ok : TruR X (fun x H Q => ∃ k, TruV X.K x H k ∧ Q k H) := by
  intro pins s σ H x v Q I rx h
  obtain ⟨k, e, q⟩ := h
  have hl := line63
  have hs : sizeLine = 16777216 := sizeLine_eq
  cases x with
  | non =>
    cases rx
    have e' : k = false := e
    subst e'
    exact truthy_none ⟨H, I, q⟩
  | bl b =>
    cases rx
    have e' : k = b := e
    subst e'
    exact wpAny_truthy_bool ⟨H, I, q⟩
  | int i =>
    obtain ⟨t, rfl⟩ := rx
    have e' : k = (i != 0) := e
    subst e'
    exact PySem.P.truthy_int ⟨H, I, q⟩
  | str y =>
    obtain ⟨t, rfl⟩ := rx
    obtain ⟨hy, e'⟩ : y.length ≤ sizeLine ∧ k = ((y.length : Int) != 0) := e
    subst e'
    exact PySem.P.truthy_str (by omega) ⟨H, I.tok _, q⟩
  | byt y =>
    obtain ⟨t, rfl⟩ := rx
    obtain ⟨hy, e'⟩ : y.size ≤ sizeLine ∧ k = ((y.size : Int) != 0) := e
    subst e'
    exact PySem.W.truthy_bytes (by omega) ⟨H, I.tok _, q⟩
  | ref p =>
    cases rx
    have e' : (∃ xs, SqL X.K H p xs ∧ k = !xs.isEmpty) ∨ (∃ xs, SqT X.K H p xs ∧ k = !xs.isEmpty) ∨ ∃ kvs, H p = some (.dK kvs) ∧ k = !kvs.isEmpty := e
    rcases e' with ⟨xs, hx, e'⟩ | ⟨xs, hx, e'⟩ | ⟨kvs, hx, e'⟩
    · subst e'
      obtain ⟨its, r, pl, hz⟩ := I.list hx
      have hlen := r.length
      exact wpAny_truthy_list pl.isList (by simp only [List.size_toArray]; omega) ⟨H, I.tok _, by rw [isEmpty_of r]; exact q⟩
    · subst e'
      obtain ⟨its, r, pl, hz⟩ := I.tuple hx
      have hlen := r.length
      exact truthy_tuple pl (by simp only [List.size_toArray]; omega) ⟨H, I.tok _, by rw [isEmpty_of r]; exact q⟩
    · subst e'
      obtain ⟨hz, hS, vs, r, m⟩ : kvs.length ≤ sizeLine ∧ (p == sysModules) = false ∧ ∃ vs, KV kvs vs ∧ s.heap.DictOf (mixKind X.prog X.w) p vs := I.hok p _ hx
      have hlen : kvs.length = vs.length := Paired.length r
      exact wpAny_truthy_dict hS m (by omega) ⟨H, I.tok _, by rw [isEmpty_kv r]; exact q⟩
  | _ => exact (show False from e).elim
/-- any expression whose test is its value's truth (a name, a call, a subscript, a field ..: he by fun _ => rfl) -/
theorem pt_truth (ha : PE X a ta) (he : ∀ whole, isTrue a X.env whole = (do let v ← whole; standAt a.pos; holding [v] (truthy v))) :
    PT X a (fun σ H Q => ta σ H fun x H' => ∃ k, TruV X.K x H' k ∧ Q k H') := by
  intro pins s σ H Q I h
  exact isTrue_plain (thn (ha pins s σ H _ I h) fun v s1 ⟨x, H1, I1, r1, q1⟩ => tru_ok pins s1 σ H1 x v Q I1 r1 q1) (he _)

/-! ### strs and bytes -/
theorem pe_byt {x : List UInt8} {k : Nat} : PE X (.Constant (.bytes x) k pos) (fun _ H Q => Q (.byt x.toArray) H) := fun _ _ _ H _ I h => PySem.W.Constant_bytes ⟨.byt x.toArray, H, I.tok _, ⟨_, rfl⟩, h⟩
theorem op_add_str : OpR X (binaryOp .Add) (fun x y H Q => ∃ i j, x = .str i ∧ y = .str j ∧ i.length + j.length ≤ sizeLine ∧ Q (.str (i ++ j)) H) := by
  intro pins s σ H x y v u Q I rx ry h
  obtain ⟨i, j, rfl, rfl, hz, q⟩ := h
  obtain ⟨t, rfl⟩ := rx
  obtain ⟨t', rfl⟩ := ry
  exact add_str (fun t' tk => ⟨.str (i ++ j), H, I.tok _, ⟨_, rfl⟩, q⟩) hz
theorem iop_add_str : OpR X (inplaceOp .Add) (fun x y H Q => ∃ i j, x = .str i ∧ y = .str j ∧ i.length + j.length ≤ sizeLine ∧ Q (.str (i ++ j)) H) := by
  intro pins s σ H x y v u Q I rx ry h
  obtain ⟨i, j, rfl, rfl, hz, q⟩ := h
  obtain ⟨t, rfl⟩ := rx
  obtain ⟨t', rfl⟩ := ry
  exact iadd_str (fun t' tk => ⟨.str (i ++ j), H, I.tok _, ⟨_, rfl⟩, q⟩) hz
theorem op_add_byt : OpR X (binaryOp .Add) (fun x y H Q => ∃ i j, x = .byt i ∧ y = .byt j ∧ i.size + j.size ≤ 16777216 ∧ Q (.byt (i ++ j)) H) := by
  intro pins s σ H x y v u Q I rx ry h
  obtain ⟨i, j, rfl, rfl, hz, q⟩ := h
  obtain ⟨t, rfl⟩ := rx
  obtain ⟨t', rfl⟩ := ry
  exact PySem.W.KBy.add_bytes hz (fun t' tk => ⟨.byt (i ++ j), H, I.tok _, ⟨_, rfl⟩, q⟩)

def PlainIxT (b : Expr) : Prop := ∀ o i, subscripted b false o i = operate [o, i] (getItem o i)
/-- s[i], 0 ≤ i < len -/
theorem pe_item_str (ha : PE X a ta) (hb : PE X b tb) (hs : PlainIxT b) :
    PE X (.Subscript a b pos) (tOp (fun x y H Q => ∃ z i c, x = .str z ∧ y = .int i ∧ 0 ≤ i ∧ i < 2 ^ 63 ∧ i < z.length ∧ z.cps[i.toNat]? = some c ∧ Q (.str ⟨#[c]⟩) H) ta tb) := by
  intro pins s σ H Q I h
  refine Subscript_ (binT ha hb I h fun v u s2 x y H2 I2 rx ry q => ?_)
  obtain ⟨z, i, c, rfl, rfl, h0, h63, h1, hc, q⟩ := q
  obtain ⟨t, rfl⟩ := rx
  obtain ⟨t', rfl⟩ := ry
  have e : seqIndex? i z.length = some i.toNat := PySem.StrLaws.seqIndex_nonneg h0 h1
  exact tail_any (typeIs_str s2 z t) slot_str_getitem.lookup (getItem_str (c := c) (by
    have e1 : decide (i < -(2 ^ 63 : Int)) = false := decide_eq_false (by omega)
    have e2 : decide (i ≥ 2 ^ 63) = false := decide_eq_false (by omega)
    rw [e1, e2] <;> rfl) (by rw [e]; exact hc) ⟨.str ⟨#[c]⟩, H2, I2.tok _, ⟨_, rfl⟩, q⟩) (hs _ _)
/-- b[i], 0 ≤ i < len -/
theorem pe_item_byt (ha : PE X a ta) (hb : PE X b tb) (hs : PlainIxT b) :
    PE X (.Subscript a b pos) (tOp (fun x y H Q => ∃ (z : List UInt8) (i : Int), x = .byt z.toArray ∧ y = .int i ∧ z.length ≤ sizeLine ∧ 0 ≤ i ∧ i < z.length ∧ Q (.int ((z.getD i.toNat 0).toNat : Nat)) H) ta tb) := by
  intro pins s σ H Q I h
  refine Subscript_ (binT ha hb I h fun v u s2 x y H2 I2 rx ry q => ?_)
  obtain ⟨z, i, rfl, rfl, hz, h0, h1, q⟩ := q
  obtain ⟨t, rfl⟩ := rx
  obtain ⟨t', rfl⟩ := ry
  have hl : sizeLine = 16777216 := sizeLine_eq
  exact tail_any (PySem.W.typeIs_bytes s2 z.toArray t) PySem.W.FB.slot_bytes_getitem.lookup (PySem.W.getItem_bytes (by omega) h0 h1 ⟨.int ((z.getD i.toNat 0).toNat : Nat), H2, I2.tok _, ⟨_, rfl⟩, q⟩) (hs _ _)

/-! ### scalar builtins, by CallR -/
theorem vals1 {x : V} {us : List Value} (r : Vals [x] us) : ∃ u, us = [u] ∧ RelV x u := by
  cases r with
  | cons r1 r2 => cases r2; exact ⟨_, rfl, r1⟩
theorem vals2 {x y : V} {us : List Value} (r : Vals [x, y] us) : ∃ u w', us = [u, w'] ∧ RelV x u ∧ RelV y w' := by
  cases r with
  | cons r1 r2 =>
    cases r2 with
    | cons r3 r4 => cases r4; exact ⟨_, _, rfl, r1, r3⟩
theorem call_abs : CallR X (.builtin "abs") (fun xs H Q => ∃ i, xs = [.int i] ∧ Q (.int (if i < 0 then -i else i)) H) := by
  intro pins s σ H xs us Q I r h
  obtain ⟨i, rfl, q⟩ := h
  obtain ⟨u, rfl, t, rfl⟩ := vals1 r
  exact call_abs_int fun u tk => ⟨.int (if i < 0 then -i else i), H, I.tok _, ⟨_, rfl⟩, q⟩
theorem call_max2 (hc : X.calm = true) : CallR X (.builtin "max") (fun xs H Q => ∃ i j, xs = [.int i, .int j] ∧ Q (.int (if j > i then j else i)) H) := by
  intro pins s σ H xs us Q I r h
  obtain ⟨i, j, rfl, q⟩ := h
  obtain ⟨u, w', rfl, ⟨t, rfl⟩, ⟨t', rfl⟩⟩ := vals2 r
  refine max_two_ints (I.ok.hd hc) fun h' tk k => ⟨_, H, I.kept k, ?_, q⟩
  by_cases hj : j > i
  · rw [if_pos hj, if_pos hj]; exact ⟨_, rfl⟩
  · rw [if_neg hj, if_neg hj]; exact ⟨_, rfl⟩
theorem call_min2 (hc : X.calm = true) : CallR X (.builtin "min") (fun xs H Q => ∃ i j, xs = [.int i, .int j] ∧ Q (.int (if j < i then j else i)) H) := by
  intro pins s σ H xs us Q I r h
  obtain ⟨i, j, rfl, q⟩ := h
  obtain ⟨u, w', rfl, ⟨t, rfl⟩, ⟨t', rfl⟩⟩ := vals2 r
  refine min_two_ints (I.ok.hd hc) fun h' tk k => ⟨_, H, I.kept k, ?_, q⟩
  by_cases hj : j < i
  · rw [if_pos hj, if_pos hj]; exact ⟨_, rfl⟩
  · rw [if_neg hj, if_neg hj]; exact ⟨_, rfl⟩
theorem call_int1 : CallR X (.type "int") (fun xs H Q => (∃ i, xs = [.int i] ∧ Q (.int i) H) ∨ ∃ k, xs = [.bl k] ∧ Q (.int (if k then 1 else 0)) H) := by
  intro pins s σ H xs us Q I r h
  rcases h with ⟨i, rfl, q⟩ | ⟨k, rfl, q⟩
  · obtain ⟨u, rfl, t, rfl⟩ := vals1 r
    exact call_int_int ⟨.int i, H, I, ⟨_, rfl⟩, q⟩
  · obtain ⟨u, rfl, r1⟩ := vals1 r
    cases r1
    exact call_int_bool ⟨.int (if k then 1 else 0), H, I.tok _, ⟨_, rfl⟩, q⟩
theorem call_bool1 : CallR X (.type "bool") (fun xs H Q => (∃ i, xs = [.int i] ∧ Q (.bl (i != 0)) H) ∨ ∃ k, xs = [.bl k] ∧ Q (.bl k) H) := by
  intro pins s σ H xs us Q I r h
  rcases h with ⟨i, rfl, q⟩ | ⟨k, rfl, q⟩
  · obtain ⟨u, rfl, t, rfl⟩ := vals1 r
    exact call_bool_int ⟨.bl (i != 0), H, I, rfl, q⟩
  · obtain ⟨u, rfl, r1⟩ := vals1 r
    cases r1
    exact call_bool_bool ⟨.bl k, H, I, rfl, q⟩
theorem call_str_int : CallR X (.type "str") (fun xs H Q => ∃ i, xs = [.int i] ∧ i.natAbs.log2 < 1920 ∧ Q (.str (toString i)) H) := by
  intro pins s σ H xs us Q I r h
  obtain ⟨i, rfl, hz, q⟩ := h
  obtain ⟨u, rfl, t, rfl⟩ := vals1 r
  exact PySem.P.str_of_int hz ⟨.str _, H, I.tok _, ⟨_, rfl⟩, q⟩
theorem call_ord : CallR X (.builtin "ord") (fun xs H Q => ∃ x, xs = [.str x] ∧ x.length = 1 ∧ Q (.int (x.cps.getD 0 0 : Nat)) H) := by
  intro pins s σ H xs us Q I r h
  obtain ⟨x, rfl, hz, q⟩ := h
  obtain ⟨u, rfl, t, rfl⟩ := vals1 r
  exact ord_of_one hz ⟨.int _, H, I.tok _, ⟨_, rfl⟩, q⟩
theorem call_chr : CallR X (.builtin "chr") (fun xs H Q => ∃ i, xs = [.int i] ∧ 0 ≤ i ∧ i ≤ 1114111 ∧ Q (.str ⟨#[i.toNat]⟩) H) := by
  intro pins s σ H xs us Q I r h
  obtain ⟨i, rfl, h0, h1, q⟩ := h
  obtain ⟨u, rfl, t, rfl⟩ := vals1 r
  exact chr_of_range h0 h1 ⟨.str _, H, I.tok _, ⟨_, rfl⟩, q⟩
/-- len of a str, a bytes, a list, a tuple -/
def LenV (K : PySem.W.Frag) (x : V) (H : Hp) (n : Nat) : Prop :=
  match x with
  | .str y => y.length ≤ sizeLine ∧ n = y.length
  | .byt y => y.size ≤ sizeLine ∧ n = y.size
  | .ref p => (∃ xs, SqL K H p xs ∧ n = xs.length) ∨ ∃ xs, SqT K H p xs ∧ n = xs.length
  | _ => False
theorem call_len : CallR X (.builtin "len") (fun xs H Q => ∃ x n, xs = [x] ∧ LenV X.K x H n ∧ Q (.int n) H) := by
  intro pins s σ H xs us Q I r h
  obtain ⟨x, n, rfl, e, q⟩ := h
  obtain ⟨u, rfl, rx⟩ := vals1 r
  have hl := line63
  have hs : sizeLine = 16777216 := sizeLine_eq
  cases x with
  | str y =>
    obtain ⟨t, rfl⟩ := rx
    obtain ⟨hy, e'⟩ : y.length ≤ sizeLine ∧ n = y.length := e
    subst e'
    exact len_str (by omega) ⟨.int _, H, I.tok _, ⟨_, rfl⟩, q⟩
  | byt y =>
    obtain ⟨t, rfl⟩ := rx
    obtain ⟨hy, e'⟩ : y.size ≤ sizeLine ∧ n = y.size := e
    subst e'
    exact PySem.W.len_bytes (by omega) ⟨.int _, H, I.tok _, ⟨_, rfl⟩, q⟩
  | ref p =>
    cases rx
    have e' : (∃ xs, SqL X.K H p xs ∧ n = xs.length) ∨ ∃ xs, SqT X.K H p xs ∧ n = xs.length := e
    rcases e' with ⟨xs, hx, e'⟩ | ⟨xs, hx, e'⟩
    · subst e'
      obtain ⟨its, r', pl, hz⟩ := I.list hx
      have hlen := r'.length
      exact Calls.call_len_list pl.isList (by simp only [List.size_toArray]; omega) ⟨.int xs.length, H, I.tok _, ⟨_, by simp only [List.size_toArray]; rw [hlen]⟩, q⟩
    · subst e'
      obtain ⟨its, r', pl, hz⟩ := I.tuple hx
      have hlen := r'.length
      exact len_tuple pl (by simp only [List.size_toArray]; omega) ⟨.int xs.length, H, I.tok _, ⟨_, by simp only [List.size_toArray]; rw [hlen]⟩, q⟩
  | _ => exact (show False from e).elim
/-- divmod: a new tuple -/
theorem call_divmod : CallR X (.builtin "divmod") (fun xs H Q => ∃ i j, xs = [.int i, .int j] ∧ CDiv i j ∧ ∀ p, H p = none → Q (.ref p) (upd H p (.tup [.int (i / j), .int (i % j)]))) := by
  intro pins s σ H xs us Q I r h
  obtain ⟨i, j, rfl, ⟨h1, h2⟩, q⟩ := h
  obtain ⟨u, w', rfl, ⟨t, rfl⟩, ⟨t', rfl⟩⟩ := vals2 r
  refine divmod_int (by omega) ?_ (.inl (PyProof.noPylong_small (by omega)))
  rw [Int.fdiv_eq_ediv_of_nonneg i (by omega), Int.fmod_eq_emod_of_nonneg i (by omega)]
  have hn : H s.heap.objs.size = none := I.hok.fresh (Nat.le_refl _)
  refine ⟨.ref s.heap.objs.size, _, ?_, rfl, q _ hn⟩
  refine I.laid (fun b o e => Heap.get?_push_of_some _ e) (Nat.le_refl _) ⟨by simp only [List.length_cons, List.length_nil]; rw [sizeLine_eq]; decide, [.int (i / j) s.toks, .int (i % j) (s.toks + 1)], .cons ⟨_, rfl⟩ (.cons ⟨_, rfl⟩ .nil), ?_⟩
  exact ⟨_, Heap.get?_push_size s.heap rfl, rfl, 0, rfl⟩
end
end L2

namespace L2
open PySem PySem.Spec PyProof.Rows

/-! ### an instance, its attributes a map -/
structure ObjM (h : Heap) (x dx C : Addr) (mA : Str → Option Value) : Prop where
  obj : h.get? x = some (PySem.W.instObj C dx)
  ns : h.Ns1 dx mA
  ne : dx ≠ x

theorem lookIn_ns {h : Heap} {dx : Addr} {mA : Str → Option Value} (n : h.Ns1 dx mA) : ∃ od, h.get? dx = some od ∧ ∀ name, PySem.W.lookIn name od = some (mA name) := by
  obtain ⟨o, es, ep, ho, hd, hk, _, hm⟩ := n
  refine ⟨o, ho, fun name => ?_⟩
  have e := hm name
  unfold nsFind findBy at e
  rw [← Array.find?_toList] at e
  unfold PySem.W.lookIn
  rw [hd]
  dsimp only
  split
  · rename_i y q
    rw [q] at e
    exact congrArg some e
  · rename_i q
    rw [q] at e
    have a : es.toList.any (·.refKey) = false := by
      rw [List.any_eq_false]
      intro y hy
      obtain ⟨z, t, hkey⟩ := hk y (Array.mem_toList_iff.mp hy)
      simp [DictEntry.refKey, hkey]
    have a' : ¬ es.toList.any (·.refKey) = true := by rw [a]; exact Bool.false_ne_true
    rw [if_neg a']
    exact congrArg some e

theorem ObjM.look {h : Heap} {x dx C : Addr} {mA : Str → Option Value} (I : ObjM h x dx C mA) : ∃ od, PySem.W.InstAt h x (PySem.W.instObj C dx) C (some od) ∧ ∀ name, PySem.W.lookIn name od = some (mA name) :=
  let ⟨od, ho, hl⟩ := lookIn_ns I.ns
  ⟨od, ⟨I.obj, rfl, rfl, ho⟩, hl⟩

section
variable {prog : Program} {w : World} {A : Around} {E : Value → Shared → Prop} {s : Shared} {K : PySem.W.Frag} {x dx C f : Addr} {mA : Str → Option Value} {name : Str} {v : Value}

theorem get_map {expr : Bool} {Q : Value → Shared → Prop} (X : K.In s.heap) (I : ObjM s.heap x dx C mA) (hg : PySem.W.plainGet K C name = true) (hh : PySem.W.hasDictIn K C = true)
    (ha : PySem.W.findIn K (.ref C) name = some none) (hv : mA name = some v) (hv' : PySem.W.handedIn v = true) (h : Q v { s with toks := s.toks + 1 }) :
    wpAny (model prog w) A (getAttr (.ref x) name expr) Q E s := by
  obtain ⟨od, J, hl⟩ := I.look
  exact PySem.W.get_value X J (PySem.W.plainGet_of hg).1 (PySem.W.findObj_own hh ha rfl (by rw [hl, hv])) hv' h

theorem get_const {expr : Bool} {a : Value} {Q : Value → Shared → Prop} (X : K.In s.heap) (I : ObjM s.heap x dx C mA) (hg : PySem.W.plainGet K C name = true) (hh : PySem.W.hasDictIn K C = true)
    (ha : PySem.W.findIn K (.ref C) name = some (some a)) (hn : PySem.W.specialIn K a "__get__" = some none) (hc : PySem.W.copiedNames.contains name = false) (hv : mA name = none) (hv' : PySem.W.handedIn a = true)
    (h : Q a { s with toks := s.toks + 1 }) : wpAny (model prog w) A (getAttr (.ref x) name expr) Q E s := by
  obtain ⟨od, J, hl⟩ := I.look
  exact PySem.W.get_value X J (PySem.W.plainGet_of hg).1 (PySem.W.findObj_cls hh ha hn hv' hc (by rw [hl, hv])) hv' h

theorem get_meth {pl : Sem Bool} {Q : Value × List Value → Shared → Prop} (X : K.In s.heap) (I : ObjM s.heap x dx C mA) (hg : PySem.W.plainGet K C name = true)
    (hf : PySem.W.findIn K (.ref C) name = some (some (.ref f))) (ht : PySem.W.isFn K (.ref f) = true) (hv : mA name = none) (h : Q (.ref f, [.ref x]) s) :
    wpAny (model prog w) A (getMethod (.ref x) name pl) Q E s := by
  obtain ⟨od, J, hl⟩ := I.look
  exact PySem.W.method_fn X J (PySem.W.plainGet_of hg).1 (PySem.W.plainGet_of hg).2 hf (beq_iff_eq.mp ht) (by show (PySem.W.lookIn name od).map (·.isSome) = some false; rw [hl, hv]; rfl) h

theorem set_map {ns : List Str} {Q : Unit → Shared → Prop} (X : K.In s.heap) (I : ObjM s.heap x dx C mA)
    (hs : PySem.W.findIn K (.ref C) "__setattr__" = some (some (.builtin "object.__setattr__"))) (hp : PySem.W.plainOver K C = true) (ht : PySem.W.takerIn K C name = some none) (hh : PySem.W.hasDictIn K C = true)
    (hw : PySem.Within mA ns) (hsz : ns.length ≤ sizeLine)
    (h : ∀ h', ObjM h' x dx C (fun y => if y = name then some v else mA y) → Heap.SameBut dx s.heap h' → Q () { s with heap := h', toks := s.toks + 2 }) :
    wpAny (model prog w) A (setAttr (.ref x) name v) Q E s := by
  obtain ⟨od, J, hl⟩ := I.look
  refine PySem.W.set_plain X J hs (PySem.W.osa_open (s := { s with toks := s.toks + 1 }) (r := none) X J hp ht fun b => ?_)
  obtain ⟨cd, hc, hd'⟩ := PySem.W.any_some hh
  have hx : s.heap.get? x = some ⟨.ref C, some dx, .plain, #[]⟩ := I.obj
  refine wpAny_bind (wpAny_pure (wpAny_bind (wpAny_bind (wpAny_loadPart hx (wpAny_bind (PySem.W.Looks.here (s := { s with toks := s.toks + 1 }) (PySem.W.looks_clsIn X hc) ?_))))))
  rw [hd']
  refine wpAny_pure (a := some dx) (wpAny_bind (wpAny_pure (wpAny_bind ?_)))
  refine wpAny_nsSet1 (s := { s with toks := s.toks + 1 }) I.ns fun h' hn2 hs2 => ?_
  obtain ⟨oD, esD, epD, hoD, hdD, hcD⟩ := hn2.count (PySem.Within.cons name v hw)
  refine wpAny_bind (wpAny_lookBehind hoD (by rw [hdD]; exact pastItsLine_dict (Nat.le_trans hcD (by rw [List.length_cons]; omega))) ?_)
  exact wpAny_pure (h _ ⟨(hs2.2 _ (Ne.symm I.ne)).trans I.obj, hn2, I.ne⟩ hs2)

/-- C(..): the dict at the heap's end, the instance behind it; then its __init__ -/
theorem make_map {R : Result → Shared → Prop} {vs : List Value} {kw : List (Str × Value)} (X : K.In s.heap) (hm : PySem.W.makesIn K C = true)
    (hi : PySem.W.findIn K (.ref C) "__init__" = some (some (.ref f))) (hf : PySem.W.typeIn K (.ref f) = some (.type "function"))
    (h : codeAny (model prog w) (A.under (.builtin "type.__call__" ⟨.ref C :: vs, kw⟩)) (.call (.ref f) ⟨.ref (s.heap.objs.size + 1) :: vs, kw⟩) (PySem.W.InitBack (s.heap.objs.size + 1) R)
      { s with heap := (s.heap.push PySem.W.emptyDict).push (PySem.W.instObj C s.heap.objs.size) }) :
    codeAny (model prog w) A (.call (.ref C) ⟨vs, kw⟩) R s := by
  obtain ⟨hh, g, d, t, os⟩ := s
  exact PySem.W.make_core (PySem.W.makes_of X hm) (PySem.W.looks_findIn X hi) (fun self => PySem.W.bind_fn X self hf) (.inl rfl) h
/-- C() where there is no __init__ but object's -/
theorem make_map0 {R : Result → Shared → Prop} (X : K.In s.heap) (hm : PySem.W.makesIn K C = true)
    (hi : PySem.W.findIn K (.ref C) "__init__" = some (some (.builtin "object.__init__")))
    (hb : ∀ self, PySem.W.Looks (model prog w) s.heap (bindSpecial (.builtin "object.__init__") self) (.builtin "object.__init__", [self]))
    (h : codeAny (model prog w) (A.under (.builtin "type.__call__" ⟨[.ref C], []⟩)) (.call (.builtin "object.__init__") ⟨[.ref (s.heap.objs.size + 1)], []⟩) (PySem.W.InitBack (s.heap.objs.size + 1) R)
      { s with heap := (s.heap.push PySem.W.emptyDict).push (PySem.W.instObj C s.heap.objs.size) }) :
    codeAny (model prog w) A (.call (.ref C) ⟨[], []⟩) R s := by
  obtain ⟨hh, g, d, t, os⟩ := s
  exact PySem.W.make_core (PySem.W.makes_of X hm) (PySem.W.looks_findIn X hi) hb (.inr ⟨rfl, rfl⟩) h
end

/-! ### the attributes as a list of pairs -/
def putF (f : Str) (v : V) : List (Str × V) → List (Str × V)
  | [] => [(f, v)]
  | (g, x) :: r => if g = f then (g, v) :: r else (g, x) :: putF f v r
theorem lookup_putF (f g : Str) (v : V) : ∀ fs : List (Str × V), (putF f v fs).lookup g = if g = f then some v else fs.lookup g
  | [] => by
    show List.lookup g [(f, v)] = _
    by_cases h : g = f
    · have hb : (g == f) = true := beq_iff_eq.mpr h
      simp only [List.lookup, hb, if_pos h]
    · have hb : (g == f) = false := beq_eq_false_iff_ne.mpr h
      simp only [List.lookup, hb, if_neg h]
  | (k, x) :: r => by
    have ih := lookup_putF f g v r
    rw [show putF f v ((k, x) :: r) = (if k = f then (k, v) :: r else (k, x) :: putF f v r) from rfl]
    by_cases hk : k = f
    · rw [if_pos hk]
      by_cases h : g = k
      · have hb : (g == k) = true := beq_iff_eq.mpr h
        simp only [List.lookup, hb, if_pos (h.trans hk)]
      · have hb : (g == k) = false := beq_eq_false_iff_ne.mpr h
        simp only [List.lookup, hb, if_neg (fun e : g = f => h (e.trans hk.symm))]
    · rw [if_neg hk]
      by_cases h : g = k
      · have hb : (g == k) = true := beq_iff_eq.mpr h
        simp only [List.lookup, hb, if_neg (fun e : g = f => hk (h.symm.trans e))]
      · have hb : (g == k) = false := beq_eq_false_iff_ne.mpr h
        simp only [List.lookup, hb]
        exact ih
theorem keys_putF (f : Str) (v : V) : ∀ fs : List (Str × V), f ∈ (putF f v fs).map (·.1) ∧ ∀ g, g ∈ fs.map (·.1) → g ∈ (putF f v fs).map (·.1)
  | [] => ⟨by simp [putF], fun g h => by simp at h⟩
  | (k, x) :: r => by
    obtain ⟨i1, i2⟩ := keys_putF f v r
    rw [show putF f v ((k, x) :: r) = (if k = f then (k, v) :: r else (k, x) :: putF f v r) from rfl]
    by_cases hk : k = f
    · rw [if_pos hk]
      subst hk
      exact ⟨by simp, fun g h => by simpa using h⟩
    · rw [if_neg hk]
      refine ⟨?_, fun g h => ?_⟩
      · rw [List.map_cons]
        exact List.mem_cons_of_mem _ i1
      · rw [List.map_cons] at h ⊢
        rcases List.mem_cons.mp h with e | e
        · exact List.mem_cons.mpr (.inl e)
        · exact List.mem_cons_of_mem _ (i2 g e)
theorem length_putF (f : Str) (v : V) : ∀ fs : List (Str × V), (putF f v fs).length ≤ fs.length + 1
  | [] => by simp [putF]
  | (k, x) :: r => by
    have ih := length_putF f v r
    rw [show putF f v ((k, x) :: r) = (if k = f then (k, v) :: r else (k, x) :: putF f v r) from rfl]
    by_cases hk : k = f
    · rw [if_pos hk, List.length_cons, List.length_cons]; omega
    · rw [if_neg hk, List.length_cons, List.length_cons]; omega

theorem RelO.some_of {v : V} {o : Option Value} (r : RelO (some v) o) : ∃ u, o = some u ∧ RelV v u := by
  cases o with
  | none => exact (show False from r).elim
  | some u => exact ⟨u, rfl, r⟩
theorem RelO.none_of {o : Option Value} (r : RelO none o) : o = none := by
  cases o with
  | none => rfl
  | some u => exact (show False from r).elim
theorem handed_of {v : V} {u : Value} (r : RelV v u) : PySem.W.handedIn u = true := by
  cases v with
  | non => cases (show u = Value.none from r); rfl
  | bl b => cases (show u = Value.bool b from r); rfl
  | int i => obtain ⟨t, e⟩ := (show ∃ t, u = Value.int i t from r); cases e; rfl
  | str x => obtain ⟨t, e⟩ := (show ∃ t, u = Value.str x t from r); cases e; rfl
  | byt b => obtain ⟨t, e⟩ := (show ∃ t, u = Value.bytes b t from r); cases e; rfl
  | flt b => obtain ⟨t, e⟩ := (show ∃ t, u = Value.float b t from r); cases e; rfl
  | ref a => cases (show u = Value.ref a from r); rfl
  | ty n => cases (show u = Value.type n from r); rfl

section
variable {P : Program} {w : World} {H H' : Hp} {h h' : Heap} {a C dx : Addr} {fs fs' : List (Str × V)}
theorem ins_get (hok : HOk P w H h) (e : H a = some (.ins C dx fs)) : ∃ mA, ObjM h a dx C mA ∧ (∀ f, RelO (fs.lookup f) (mA f)) ∧ PySem.Within mA (fs.map (·.1)) ∧ fs.length ≤ 1000 ∧ H dx = some (.own a) := by
  obtain ⟨d, z, ne, ob, mA, n, r, q⟩ := (show ObjOk P w H h a (.ins C dx fs) from hok a _ e)
  exact ⟨mA, ⟨ob, n, ne⟩, r, q, z, d⟩
end

/-! ### what of the text a class must have -/
structure Cls (K : PySem.W.Frag) (C : Addr) : Prop where
  pg : PySem.W.plainGet K C Str.empty = true
  hd : PySem.W.hasDictIn K C = true
  po : PySem.W.plainOver K C = true
  sa : PySem.W.findIn K (.ref C) "__setattr__" = some (some (.builtin "object.__setattr__"))
theorem Cls.get {K : PySem.W.Frag} {C : Addr} (c : Cls K C) (f : Str) : PySem.W.plainGet K C f = true := c.pg
/-- no class of it has the name -/
def NoAttr (K : PySem.W.Frag) (C : Addr) (f : Str) : Prop := PySem.W.findIn K (.ref C) f = some none
theorem NoAttr.taker {K : PySem.W.Frag} {C : Addr} {f : Str} (n : NoAttr K C f) : PySem.W.takerIn K C f = some none := by
  unfold PySem.W.takerIn
  rw [show PySem.W.findIn K (.ref C) f = some none from n]
  rfl
/-- a constant of the class -/
structure Con (K : PySem.W.Frag) (C : Addr) (f : Str) (v : V) (u : Value) : Prop where
  at_ : PySem.W.findIn K (.ref C) f = some (some u)
  rel : RelV v u
  get : PySem.W.specialIn K u "__get__" = some none
  cp : PySem.W.copiedNames.contains f = false
/-- a method: a plain def of the class or of one above it -/
structure Meth (K : PySem.W.Frag) (C : Addr) (m : Str) (f : Addr) : Prop where
  at_ : PySem.W.findIn K (.ref C) m = some (some (.ref f))
  fn : PySem.W.isFn K (.ref f) = true
  kp : PySem.W.keepIn K (.ref f) = true

section
variable {X : Cx} {pins : List (Addr × Obj)} {σ : St} {H : Hp} {s : Shared} {a C dx : Addr} {fs : List (Str × V)} {f : Str} {v : V} {A : Around} {E : Value → Shared → Prop}

theorem getattr_ok {b : Bool} {Q : Value → Shared → Prop} (I : Inv X pins σ H s) (e : H a = some (.ins C dx fs)) (c : Cls X.K C) (n : NoAttr X.K C f) (l : fs.lookup f = some v)
    (h : ∀ u s', Inv X pins σ H s' → RelV v u → Q u s') : wpAny (model X.prog X.w) A (getAttr (.ref a) f b) Q E s := by
  obtain ⟨mA, O, r, _, _, _⟩ := ins_get I.hok e
  obtain ⟨u, hu, ru⟩ := RelO.some_of (v := v) (o := mA f) (by rw [← l]; exact r f)
  exact get_map I.kIn O (c.get f) c.hd n hu (handed_of ru) (h u _ (I.tok _) ru)

theorem getcon_ok {b : Bool} {u : Value} {Q : Value → Shared → Prop} (I : Inv X pins σ H s) (e : H a = some (.ins C dx fs)) (c : Cls X.K C) (k : Con X.K C f v u) (l : fs.lookup f = none)
    (h : ∀ s', Inv X pins σ H s' → Q u s') : wpAny (model X.prog X.w) A (getAttr (.ref a) f b) Q E s := by
  obtain ⟨mA, O, r, _, _, _⟩ := ins_get I.hok e
  have hn : mA f = none := RelO.none_of (by rw [← l]; exact r f)
  exact get_const I.kIn O (c.get f) c.hd k.at_ k.get k.cp hn (handed_of k.rel) (h _ (I.tok _))

theorem getmeth_ok {m : Str} {g : Addr} {pl : Sem Bool} {Q : Value × List Value → Shared → Prop} (I : Inv X pins σ H s) (e : H a = some (.ins C dx fs)) (c : Cls X.K C) (k : Meth X.K C m g) (l : fs.lookup m = none)
    (h : Q (.ref g, [.ref a]) s) : wpAny (model X.prog X.w) A (getMethod (.ref a) m pl) Q E s := by
  obtain ⟨mA, O, r, _, _, _⟩ := ins_get I.hok e
  have hn : mA m = none := RelO.none_of (by rw [← l]; exact r m)
  exact get_meth I.kIn O (c.get m) k.at_ k.fn hn h

theorem setattr_ok {y : V} {u : Value} {Q : Unit → Shared → Prop} (I : Inv X pins σ H s) (e : H a = some (.ins C dx fs)) (c : Cls X.K C) (n : NoAttr X.K C f) (hl : fs.length < 1000) (ry : RelV y u)
    (h : ∀ s', Inv X pins σ (upd H a (.ins C dx (putF f y fs))) s' → Q () s') : wpAny (model X.prog X.w) A (setAttr (.ref a) f u) Q E s := by
  obtain ⟨mA, O, r, wi, _, ho⟩ := ins_get I.hok e
  have hz : (fs.map (·.1)).length ≤ sizeLine := by rw [List.length_map, sizeLine_eq]; omega
  refine set_map I.kIn O c.sa c.po n.taker c.hd wi hz fun h' O' sb => h _ ?_
  have hd : ∃ o, h'.get? dx = some o := let ⟨o, _, _, e', _⟩ := O'.ns; ⟨o, e'⟩
  refine I.write (x := a) (e := dx) (by rw [e]; exact True.intro) (.inr ho) (fun b q hb z => (sb.2 b hb).trans z) hd ?_
  refine ⟨by rw [upd_ne O.ne]; exact ho, ?_, O.ne, O'.obj, _, O'.ns, fun g => ?_, fun g hg => ?_⟩
  · have := length_putF f y fs; omega
  · show RelO ((putF f y fs).lookup g) (if g = f then some u else mA g)
    rw [lookup_putF]
    by_cases q : g = f
    · rw [if_pos q, if_pos q]; exact ry
    · rw [if_neg q, if_neg q]; exact r g
  · by_cases q : g = f
    · rw [q]; exact (keys_putF f y fs).1
    · refine (keys_putF f y fs).2 g (wi g fun z => hg ?_)
      show (if g = f then some u else mA g) = none
      rw [if_neg q]; exact z

/-- a new instance, tracked, without attributes -/
theorem Inv.made (I : Inv X pins σ H s) : Inv X pins σ (upd (upd H s.heap.objs.size (.own (s.heap.objs.size + 1))) (s.heap.objs.size + 1) (.ins C s.heap.objs.size []))
    { s with heap := (s.heap.push PySem.W.emptyDict).push (PySem.W.instObj C s.heap.objs.size) } := by
  have e1 : (s.heap.push PySem.W.emptyDict).get? s.heap.objs.size = some PySem.W.emptyDict := Heap.get?_push_size s.heap rfl
  have e2 : ((s.heap.push PySem.W.emptyDict).push (PySem.W.instObj C s.heap.objs.size)).get? (s.heap.objs.size + 1) = some (PySem.W.instObj C s.heap.objs.size) := by
    have := Heap.get?_push_size (s.heap.push PySem.W.emptyDict) (o := PySem.W.instObj C s.heap.objs.size) rfl
    rwa [Heap.size_push] at this
  have e3 : (s.heap.push PySem.W.emptyDict).Ns s.heap.objs.size (fun _ => none) := ⟨PySem.W.emptyDict, #[], _, e1, rfl, (fun e he => absurd he (by simp)), fun _ => rfl⟩
  have I1 := I.laid (a := s.heap.objs.size) (o := .own (s.heap.objs.size + 1)) (h' := s.heap.push PySem.W.emptyDict) (t' := s.toks) (fun b u q => Heap.get?_push_of_some _ q) (Nat.le_refl _) ⟨_, e1⟩
  refine I1.laid (a := s.heap.objs.size + 1) (o := .ins C s.heap.objs.size []) (t' := s.toks) (fun b u q => Heap.get?_push_of_some _ q) (Nat.le_of_eq (Heap.size_push _ _)) ?_
  have ne : s.heap.objs.size ≠ s.heap.objs.size + 1 := Nat.ne_of_lt (Nat.lt_succ_self _)
  refine ⟨by rw [upd_ne ne, upd_same], Nat.zero_le _, ne, e2, fun _ => none, (Heap.Ns1.of_empty e3).at fun o q => Heap.get?_push_of_some _ q, fun _ => True.intro, fun y hy => absurd rfl hy⟩

/-- e.f where nothing but the object is asked: through attributeBase (super) and the last hold -/
theorem attr_of {prog : Program} {w : World} {env : Env} {e : Expr} {f : Str} {pos : Pos} {s : Shared} {Q : Value → Shared → Prop} (hb : attributeBase e f env (eval e env) = eval e env)
    (h : wpAny (model prog w) A (eval e env) (fun o s₁ => wpAny (model prog w) A (getAttr o f true) Q E s₁) E s) : wpAny (model prog w) A (eval (.Attribute e f pos) env) Q E s :=
  Attribute_any_ h (by rw [arm_eval_Attribute, hb])
end

/-! ### readings and rules -/
/-- e.f, an attribute of the instance -/
def tFld (K : PySem.W.Frag) (ta : TE) (f : Str) : TE := fun σ H Q => ta σ H fun x H1 => ∃ a C dx fs v, x = .ref a ∧ H1 a = some (.ins C dx fs) ∧ Cls K C ∧ NoAttr K C f ∧ fs.lookup f = some v ∧ Q v H1
/-- e.f, a constant of the class -/
def tCon (K : PySem.W.Frag) (ta : TE) (f : Str) : TE := fun σ H Q => ta σ H fun x H1 => ∃ a C dx fs v u, x = .ref a ∧ H1 a = some (.ins C dx fs) ∧ Cls K C ∧ Con K C f v u ∧ fs.lookup f = none ∧ Q v H1
/-- e.f = value -/
def sFld (K : PySem.W.Frag) (ta tv : TE) (f : Str) : TS := fun D σ H => tv σ H fun y H1 => ta σ H1 fun x H2 => ∃ a C dx fs, x = .ref a ∧ H2 a = some (.ins C dx fs) ∧ Cls K C ∧ NoAttr K C f ∧ fs.length < 1000 ∧
  D.nx σ (upd H2 a (.ins C dx (putF f y fs)))
/-- an augmented operator on two values -/
def InOp (X : Cx) (op : Operator) (rd : V → V → Hp → VK → Prop) : Prop :=
  ∀ (pins : List (Addr × Obj)) (s : Shared) (σ : St) (H : Hp) (x y : V) (u v : Value) (Q : VK), Inv X pins σ H s → RelV x u → RelV y v → rd x y H Q → wpAny (model X.prog X.w) X.A (inplaceOp op u v) (EP X pins σ Q) X.xe s
/-- e.f op= value -/
def sFldAug (K : PySem.W.Frag) (ta tv : TE) (rd : V → V → Hp → VK → Prop) (f : Str) : TS := fun D σ H => ta σ H fun x H1 => ∃ a C dx fs v, x = .ref a ∧ H1 a = some (.ins C dx fs) ∧ Cls K C ∧ NoAttr K C f ∧ fs.lookup f = some v ∧
  tv σ H1 fun y H2 => rd v y H2 fun z H3 => ∃ dx' fs', H3 a = some (.ins C dx' fs') ∧ fs'.length < 1000 ∧ D.nx σ (upd H3 a (.ins C dx' (putF f z fs')))

section
variable {X : Cx} {o e value : Expr} {f : Str} {pos pos' tpos : Pos} {ta tv : TE}
theorem pe_fld (he : PE X e ta) (hb : attributeBase e f X.env (eval e X.env) = eval e X.env) : PE X (.Attribute e f pos) (tFld X.K ta f) := by
  intro pins s σ H Q I h
  refine attr_of hb (thn (he pins s σ H _ I h) fun u s1 ⟨x, H1, I1, rx, a, C, dx, fs, v, ex, ea, c, n, l, q⟩ => ?_)
  subst ex
  obtain rfl : u = Value.ref a := rx
  exact getattr_ok I1 ea c n l fun u' s2 I2 ru => ⟨v, H1, I2, ru, q⟩
theorem pe_con (he : PE X e ta) (hb : attributeBase e f X.env (eval e X.env) = eval e X.env) : PE X (.Attribute e f pos) (tCon X.K ta f) := by
  intro pins s σ H Q I h
  refine attr_of hb (thn (he pins s σ H _ I h) fun u s1 ⟨x, H1, I1, rx, a, C, dx, fs, v, u0, ex, ea, c, k, l, q⟩ => ?_)
  subst ex
  obtain rfl : u = Value.ref a := rx
  exact getcon_ok I1 ea c k l fun s2 I2 => ⟨v, H1, I2, k.rel, q⟩
theorem ps_fld (ha : PE X o ta) (hv : PE X value tv) (hs : swapsWith value (some (.Attribute o f pos')) pos.line X.env = pure false) : PS X (.Assign [.Attribute o f pos'] value pos) (sFld X.K ta tv f) := by
  intro pins s σ H D I h
  refine plainObj_wpAny_Assign_Attribute (thn (hv pins s σ H _ I h) fun u s1 ⟨y, H1, I1, ry, q⟩ => thn (ha pins s1 σ H1 _ I1 q) fun ov s2 ⟨x, H2, I2, rx, a, C, dx, fs, ex, ea, c, n, l, q2⟩ => ?_) hs
  subst ex
  obtain rfl : ov = Value.ref a := rx
  exact setattr_ok I2 ea c n l ry fun s3 I3 => ⟨σ, _, I3, q2⟩
theorem ps_fldaug {op : Operator} {rd : V → V → Hp → VK → Prop} (ha : PE X o ta) (hv : PE X value tv) (hop : InOp X op rd) : PS X (.AugAssign (.Attribute o f tpos) op value pos) (sFldAug X.K ta tv rd f) := by
  intro pins s σ H D I h
  refine wpAny_AugAssign_AttributeAny (thn (ha pins s σ H _ I h) fun ov s1 ⟨x, H1, I1, rx, a, C, dx, fs, v, ex, ea, c, n, l, q⟩ => ?_)
  subst ex
  obtain rfl : ov = Value.ref a := rx
  refine getattr_ok I1 ea c n l fun u s2 I2 ru => thn (hv pins s2 σ H1 _ I2 q) fun w3 s3 ⟨y, H2, I3, ry, q3⟩ => thn (hop pins s3 σ H2 v y u w3 _ I3 ru ry q3) fun w4 s4 ⟨z, H3, I4, rz, dx', fs', ea', l', q4⟩ => ?_
  exact setattr_ok I4 ea' c n l' rz fun s5 I5 => ⟨σ, _, I5, q4⟩
def rAdd : V → V → Hp → VK → Prop := fun x y H Q => ∃ i j, x = .int i ∧ y = .int j ∧ Q (.int (i + j)) H
def rSub : V → V → Hp → VK → Prop := fun x y H Q => ∃ i j, x = .int i ∧ y = .int j ∧ Q (.int (i - j)) H
theorem in_add : InOp X .Add rAdd := by
  rintro pins s σ H x y u v Q I rx ry ⟨i, j, rfl, rfl, q⟩
  obtain ⟨t, rfl⟩ := (show ∃ t, u = Value.int i t from rx)
  obtain ⟨t', rfl⟩ := (show ∃ t', v = Value.int j t' from ry)
  exact PyProof.Rows.iadd_int ⟨.int (i + j), H, I.tok _, ⟨_, rfl⟩, q⟩
theorem in_sub : InOp X .Sub rSub := by
  rintro pins s σ H x y u v Q I rx ry ⟨i, j, rfl, rfl, q⟩
  obtain ⟨t, rfl⟩ := (show ∃ t, u = Value.int i t from rx)
  obtain ⟨t', rfl⟩ := (show ∃ t', v = Value.int j t' from ry)
  exact PyProof.Rows.isub_int ⟨.int (i - j), H, I.tok _, ⟨_, rfl⟩, q⟩

/-- what is between an instance and its method: the tree of a method call -/
theorem methcall_of {pl : Sem Bool} {m : Str} {apos : Pos} {args : List Expr} {pins : List (Addr × Obj)} {s : Shared} {σ : St} {H : Hp} {Q : Value → Shared → Prop} {te : TE} (he : PE X e te) (I : Inv X pins σ H s)
    (h : te σ H fun x H1 => ∃ a C dx fs g, x = .ref a ∧ H1 a = some (.ins C dx fs) ∧ Cls X.K C ∧ Meth X.K C m g ∧ fs.lookup m = none ∧
      ∀ s1, Inv X pins σ H1 s1 → wpAny (model X.prog X.w) X.A (callWith pos (.ref g) [.ref a] (backTo pos (starEach args X.env)) (backToKw pos (keywordEach [] X.env))) Q X.xe s1)
    (ht : eval (.Call (.Attribute e m apos) args [] pos) X.env = (do
      let ov ← eval e X.env
      standAt apos.atName
      let (f, first) ← holding [ov] (getMethod ov m pl)
      callWith pos f first (backTo pos (starEach args X.env)) (backToKw pos (keywordEach [] X.env)))) :
    wpAny (model X.prog X.w) X.A (eval (.Call (.Attribute e m apos) args [] pos) X.env) Q X.xe s := by
  refine PySem.W.methodCall_KW (pl := pl) (thn (he pins s σ H _ I h) fun u s1 ⟨x, H1, I1, rx, a, C, dx, fs, g, ex, ea, c, k, l, q⟩ => ?_) ht
  subst ex
  obtain rfl : u = Value.ref a := rx
  exact getmeth_ok I1 ea c k l (q s1 I1)
end

/-! ### isinstance -/
section
variable {X : Cx} {pins : List (Addr × Obj)} {σ : St} {H : Hp} {s : Shared} {A : Around} {E : Value → Shared → Prop} {Q : Value → Shared → Prop} {c : Value} {b : Bool}
/-- the type of a value, as the fragment's deciders take it; for an instance its class -/
inductive TyOf (K : PySem.W.Frag) (H : Hp) : V → Value → Prop where
  | non : TyOf K H .non (.type "NoneType")
  | bl (x : Bool) : TyOf K H (.bl x) (.type "bool")
  | int (i : Int) : TyOf K H (.int i) (.type "int")
  | str (x : Str) : TyOf K H (.str x) (.type "str")
  | flt (x : UInt64) : TyOf K H (.flt x) (.type "float")
  | lst {a : Addr} {xs : List V} (e : H a = some (.lst xs)) : TyOf K H (.ref a) (.type "list")
  | frz {a : Addr} {o : Obj} {xs : List V} (e : H a = some (.frz o (.lst xs))) : TyOf K H (.ref a) (.type "list")
  | tup {a : Addr} {xs : List V} (e : H a = some (.tup xs)) : TyOf K H (.ref a) (.type "tuple")
  | dK {a : Addr} {kvs : List (Key × V)} (e : H a = some (.dK kvs)) : TyOf K H (.ref a) (.type "dict")
  | dT {a : Addr} {kvs : List (List Key × V)} (e : H a = some (.dT kvs)) : TyOf K H (.ref a) (.type "dict")
  | ins {a C dx : Addr} {fs : List (Str × V)} (e : H a = some (.ins C dx fs)) (cl : Cls K C) (ha : PySem.W.findIn K (.ref C) "__class__" = some (some (.builtin "object.__class__")))
      (hn : PySem.W.specialIn K (.builtin "object.__class__") "__get__" = some (some (.builtin "getset_descriptor.__get__"))) (htk : PySem.W.takesIn K (.builtin "object.__class__") = some true)
      (hm : PySem.W.mroIn K C (.type "object") = some true) : TyOf K H (.ref a) (.ref C)
/-- isinstance(x, c) for one class c, a built-in or an own one: kitOne's answer -/
theorem isinst_ok {x : V} {u t : Value} (I : Inv X pins σ H s) (rx : RelV x u) (ty : TyOf X.K H x t) (e : PySem.W.kitOne X.K t c = some b) (h : ∀ tk, Q (.bool b) { s with toks := tk }) :
    wpAny (model X.prog X.w) A (call (.builtin "isinstance") [u, c]) Q E s := by
  cases ty with
  | non => cases (show u = Value.none from rx); exact PySem.W.kia_one PySem.W.kitx_none I.kIn True.intro e (fun z => nomatch z) h
  | bl y => cases (show u = Value.bool y from rx); exact PySem.W.kia_one PySem.W.kitx_bool I.kIn True.intro e (fun z => nomatch z) h
  | int i => obtain ⟨t, q⟩ := (show ∃ t, u = Value.int i t from rx); cases q; exact PySem.W.kia_one PySem.W.kitx_int I.kIn True.intro e (fun z => nomatch z) h
  | str y => obtain ⟨t, q⟩ := (show ∃ t, u = Value.str y t from rx); cases q; exact PySem.W.kia_one PySem.W.kitx_str I.kIn True.intro e (fun z => nomatch z) h
  | flt y => obtain ⟨t, q⟩ := (show ∃ t, u = Value.float y t from rx); cases q; exact PySem.W.kia_one PySem.W.kitx_float I.kIn True.intro e (fun z => nomatch z) h
  | @lst a xs ea =>
    cases (show u = Value.ref a from rx)
    obtain ⟨_, _, n, _, h1⟩ := (show ObjOk X.prog X.w H s.heap a (.lst xs) from I.hok a _ ea)
    exact PySem.W.kia_one PySem.W.kitx_list I.kIn ⟨_, h1, rfl⟩ e (fun z => nomatch z) h
  | @frz a ob xs ea =>
    cases (show u = Value.ref a from rx)
    obtain ⟨_, _, _, n, _, h1⟩ := (show ObjOk X.prog X.w H s.heap a (.frz ob (.lst xs)) from I.hok a _ ea)
    exact PySem.W.kia_one PySem.W.kitx_list I.kIn ⟨_, h1, rfl⟩ e (fun z => nomatch z) h
  | @tup a xs ea =>
    cases (show u = Value.ref a from rx)
    obtain ⟨_, _, _, p⟩ := (show ObjOk X.prog X.w H s.heap a (.tup xs) from I.hok a _ ea)
    obtain ⟨o, h1, h2, _⟩ := p
    exact PySem.W.kia_one PySem.W.kitx_tuple I.kIn ⟨o, h1, h2⟩ e (fun z => nomatch z) h
  | @dK a kvs ea =>
    cases (show u = Value.ref a from rx)
    obtain ⟨_, _, vs, _, p⟩ := (show ObjOk X.prog X.w H s.heap a (.dK kvs) from I.hok a _ ea)
    obtain ⟨o, es, ep, h1, h2, _⟩ := p
    exact PySem.W.kia_one PySem.W.kitx_dict I.kIn ⟨o, h1, h2.1⟩ e (fun z => nomatch z) h
  | @dT a kvs ea =>
    cases (show u = Value.ref a from rx)
    obtain ⟨_, _, xs, _, o, es, ep, h1, h2, _⟩ := (show ObjOk X.prog X.w H s.heap a (.dT kvs) from I.hok a _ ea)
    exact PySem.W.kia_one PySem.W.kitx_dict I.kIn ⟨o, h1, h2.1⟩ e (fun z => nomatch z) h
  | @ins a C dx fs ea cl ha hn htk hm =>
    cases (show u = Value.ref a from rx)
    obtain ⟨mA, O, _⟩ := ins_get I.hok ea
    obtain ⟨od, J, _⟩ := O.look
    exact PySem.W.kia_one (PySem.W.kitx_own (cl.get _) cl.hd ha hn htk hm) I.kIn J e (fun z => nomatch z) h
end
end L2

namespace L2
open PySem PySem.Spec PyProof.Rows

/-! ### room -/
structure Room (k : Nat) (A : Around) : Prop where
  hd : A.handled = none
  dp : A.depth + 3 * k + 5 < recursionLimit
  un : A.units + 16 * k + 200 < cLine
theorem Room.mono {j k : Nat} {A : Around} (r : Room k A) (h : j ≤ k) : Room j A := ⟨r.hd, by have := r.dp; omega, by have := r.un; omega⟩
theorem Room.deeper {k : Nat} {A : Around} (r : Room (k + 1) A) (env : Env) : Room k (A.deeper env) :=
  ⟨r.hd, by have := r.dp; show A.depth + 1 + 3 * k + 5 < _; omega, by have := r.un; show A.units + 3 + 16 * k + 200 < _; omega⟩
theorem Room.in1 {k : Nat} {A : Around} (r : Room (k + 1) A) : Room k A.in1 :=
  ⟨r.hd, by have := r.dp; show A.depth + 3 * k + 5 < _; omega, by have := r.un; show A.units + 1 + 16 * k + 200 < _; omega⟩
theorem make_depth {A : Around} {C : Addr} {us : List Value} {kw : List (Str × Value)} : (A.under (.builtin "type.__call__" ⟨.ref C :: us, kw⟩)).depth = A.depth + 1 := by
  first | rfl | simp [Around.under, Code.weight, Code.isCreation, Code.isGuard, Code.isCaller, Code.frames, Code.isFrame, guardIds]
theorem make_units {A : Around} {C : Addr} {us : List Value} {kw : List (Str × Value)} : (A.under (.builtin "type.__call__" ⟨.ref C :: us, kw⟩)).units = A.units + 1 := by
  first | rfl | simp [Around.under, Code.cUnits, Code.frames, Code.isFrame]
theorem Room.make {k : Nat} {A : Around} (r : Room (k + 1) A) (C : Addr) (us : List Value) (kw : List (Str × Value)) : Room k (A.under (.builtin "type.__call__" ⟨.ref C :: us, kw⟩)) :=
  ⟨r.hd, by have := r.dp; rw [make_depth]; omega, by have := r.un; rw [make_units]; omega⟩
theorem Room.depth {k : Nat} {A : Around} (r : Room k A) : A.depth < recursionLimit := by have := r.dp; omega
theorem Room.units {k : Nat} {A : Around} (r : Room k A) : A.units + 64 < cLine := by have := r.un; omega
theorem Room.units0 {k : Nat} {A : Around} (r : Room k A) : A.units < cLine := by have := r.un; omega

/-! ### argument lists and displays -/
def tNil : TA := fun _ H Q => Q [] H
def tCons (ta : TE) (tr : TA) : TA := fun σ H Q => ta σ H fun x H1 => tr σ H1 fun xs H2 => Q (x :: xs) H2
section
variable {X : Cx} {e : Expr} {es : List Expr} {te : TE} {t : TA} {pos : Pos}
theorem pa_nil : PA X [] tNil := fun _ _ _ _ H Q I h => Calls.spliced_nil ⟨[], H, I, .nil, h⟩
theorem pa_cons (ha : PE X e te) (hr : PA X es t) (hs : starEach (e :: es) X.env = (false, eval e X.env) :: starEach es X.env := by rfl) : PA X (e :: es) (tCons te t) := by
  intro pos pins s σ H Q I h
  rw [hs]
  show wpAny _ _ (spliced ((false, eval e X.env) :: backTo pos (starEach es X.env))) _ _ s
  refine Calls.spliced_cons (thn (ha pins s σ H _ I h) fun u s1 ⟨x, H1, I1, r1, q1⟩ => ?_)
  exact thn (hr pos pins s1 σ H1 _ I1 q1) fun us s2 ⟨xs, H2, I2, r2, q2⟩ => ⟨x :: xs, H2, I2, .cons r1 r2, q2⟩

/-- a tuple, a list of written items -/
def tTup (t : TA) : TE := fun σ H Q => t σ H fun xs H1 => xs.length ≤ sizeLine ∧ ∀ p, H1 p = none → Q (.ref p) (upd H1 p (.tup xs))
def tLst (t : TA) : TE := fun σ H Q => t σ H fun xs H1 => xs.length ≤ sizeLine ∧ ∀ p, H1 p = none → Q (.ref p) (upd H1 p (.lst xs))
theorem pe_tup {x1} (h : PA X es t) : PE X (.Tuple es x1 pos) (tTup t) := by
  intro pins s σ H Q I hq
  refine wpAny_Tuple_spliced (thn (h pos pins s σ H _ I hq) fun us s1 ⟨xs, H1, I1, r, z, q⟩ => ⟨by rw [← r.length]; exact z, ?_⟩)
  have hf : H1 s1.heap.objs.size = none := I1.hok.fresh (Nat.le_refl _)
  refine ⟨.ref s1.heap.objs.size, upd H1 s1.heap.objs.size (.tup xs), I1.laid (t' := s1.toks) (fun b u e => Heap.get?_push_of_some _ e) (Nat.le_refl _) ?_, rfl, q _ hf⟩
  exact ⟨z, us, r, ⟨_, Heap.get?_push_size _ rfl, rfl, _, rfl⟩⟩
theorem pe_lst (h : PA X es t) : PE X (.List es pos) (tLst t) := by
  intro pins s σ H Q I hq
  refine wpAny_List_spliced (thn (h pos pins s σ H _ I hq) fun us s1 ⟨xs, H1, I1, r, z, q⟩ => ⟨by rw [← r.length]; exact z, ?_⟩)
  have hf : H1 s1.heap.objs.size = none := I1.hok.fresh (Nat.le_refl _)
  refine ⟨.ref s1.heap.objs.size, upd H1 s1.heap.objs.size (.lst xs), I1.laid (t' := s1.toks) (fun b u e => Heap.get?_push_of_some _ e) (Nat.le_refl _) ?_, rfl, q _ hf⟩
  exact ⟨z, us, 0, r, Heap.get?_push_size _ rfl⟩
end

/-! ### what a def promises -/
/-- a def's promise: the bound arguments in the parameters' order, the heap, the wanted end, the wanted exception -/
abbrev Sp := List V → Hp → VK → XK → Prop
/-- how an exception lies behind a call (file 08 gives it): the callers' frames, abstract heap and state ahead of the call, the wish, the exception, the state -/
abbrev CXT := List Env → Hp → Shared → XK → Value → Shared → Prop

/-- the state at a call -/
structure Env0 (P : Program) (w : World) (K : PySem.W.Frag) (mg : Str → Option Value) (base : Heap) (A : Around) (outer : List Env) (s : Shared) (H : Hp) : Prop where
  frames : A.frames = some outer
  mod : Mod K mg base
  bs : ∀ b o, base.get? b = some o → s.heap.get? b = some o ∧ H b = none
  bsz : base.objs.size ≤ s.heap.objs.size
  funs : s.heap.FunFrames base outer
  frf : ∀ b ∈ frs outer, H b = none
  hok : HOk P w H s.heap
  bare : AllBare s.gens
/-- a call's end -/
def CE (outer : List Env) (P : Program) (w : World) (H : Hp) (s : Shared) (Q : VK) (u : Value) (s' : Shared) : Prop :=
  ∃ v H', s'.os = s.os ∧ AllBare s'.gens ∧ Un (frs outer) [] H H' s.heap s'.heap ∧ HOk P w H' s'.heap ∧ RelV v u ∧ Q v H'
def CR (CX : CXT) (outer : List Env) (P : Program) (w : World) (H : Hp) (s : Shared) (Q : VK) (E : XK) (r : Result) (s' : Shared) : Prop :=
  match r with
  | .ok (.ret u) => CE outer P w H s Q u s'
  | .ok _ => False
  | .error e => CX outer H s E e s'
structure FnOk (P : Program) (w : World) (K : PySem.W.Frag) (mg : Str → Option Value) (base : Heap) (CX : CXT) (k : Nat) (f : Addr) (fd : FuncData) (ps : List Str) (sp : Sp) : Prop where
  len : ∀ vs H Q E, sp vs H Q E → vs.length = ps.length
  run : ∀ (A : Around) (outer : List Env) (s : Shared) (H : Hp) (args : Args) (us : List Value) (vs : List V) (Q : VK) (E : XK), Room k A → Env0 P w K mg base A outer s H → BindsTo s fd args (ps.zip us) → Vals vs us → sp vs H Q E →
    codeAny (model P w) A (.call (.ref f) args) (CR CX outer P w H s Q E) s
theorem FnOk.mono {P : Program} {w : World} {K : PySem.W.Frag} {mg : Str → Option Value} {base : Heap} {CX : CXT} {j k : Nat} {f : Addr} {fd : FuncData} {ps : List Str} {sp : Sp} (F : FnOk P w K mg base CX j f fd ps sp) (h : j ≤ k) :
    FnOk P w K mg base CX k f fd ps sp := ⟨F.len, fun A outer s H args us vs Q E hr => F.run A outer s H args us vs Q E (hr.mono h)⟩
/-- a weaker promise -/
theorem FnOk.imp {P : Program} {w : World} {K : PySem.W.Frag} {mg : Str → Option Value} {base : Heap} {CX : CXT} {k : Nat} {f : Addr} {fd : FuncData} {ps : List Str} {sp sp' : Sp} (F : FnOk P w K mg base CX k f fd ps sp)
    (h : ∀ vs H Q E, sp' vs H Q E → sp vs H Q E) : FnOk P w K mg base CX k f fd ps sp' :=
  ⟨fun vs H Q E q => F.len vs H Q E (h _ _ _ _ q), fun A outer s H args us vs Q E hr he hb hv hs => F.run A outer s H args us vs Q E hr he hb hv (h _ _ _ _ hs)⟩

theorem Env0.make {P : Program} {w : World} {K : PySem.W.Frag} {mg : Str → Option Value} {base : Heap} {A : Around} {outer : List Env} {s : Shared} {H : Hp} (e : Env0 P w K mg base A outer s H) (C : Addr) (us : List Value) (kw : List (Str × Value)) :
    Env0 P w K mg base (A.under (.builtin "type.__call__" ⟨.ref C :: us, kw⟩)) outer s H := ⟨by first | exact e.frames | (simpa [Around.under, Code.envs, Code.isFrame, pushEnvs] using e.frames), e.mod, e.bs, e.bsz, e.funs, e.frf, e.hok, e.bare⟩
theorem Env0.in1 {P : Program} {w : World} {K : PySem.W.Frag} {mg : Str → Option Value} {base : Heap} {A : Around} {outer : List Env} {s : Shared} {H : Hp} (e : Env0 P w K mg base A outer s H) :
    Env0 P w K mg base A.in1 outer s H := ⟨e.frames, e.mod, e.bs, e.bsz, e.funs, e.frf, e.hok, e.bare⟩

section
variable {X : Cx} {pins : List (Addr × Obj)} {σ : St} {H : Hp} {s s' : Shared}
/-- from a body: what a callee wants -/
theorem Inv.env0 (I : Inv X pins σ H s) : Env0 X.prog X.w X.K X.mg X.base X.A X.stack s H :=
  ⟨I.ok.frames, I.ok.mod, I.bs, Nat.le_trans I.ok.bsz I.sz, I.stack, I.stkFree, I.hok, I.bare⟩
/-- behind a call -/
theorem Inv.after {Q : VK} {u : Value} (I : Inv X pins σ H s) (h : CE X.stack X.prog X.w H s Q u s') : EP X pins σ Q u s' := by
  obtain ⟨v, H', os, bare, un, hok, r, q⟩ := h
  obtain ⟨hh, g, d, t, os'⟩ := s'
  obtain rfl : os' = s.os := os
  exact ⟨v, H', I.call (h' := hh) (g' := g) (d' := d) (t' := t) (ch := []) un hok bare (fun b z => absurd z (by simp)), r, q⟩
end

/-! ### calls -/
/-- f(..): the written arguments, then the defaults dvs; E: what is wanted of an exception -/
def tCall (sp : Sp) (dvs : List V) (E : XK) (t : TA) : TE := fun σ H Q => t σ H fun vs H1 => sp (vs ++ dvs) H1 Q E
/-- o.m(..) of an instance of the class at C -/
def tMeth (C : Addr) (m : Str) (sp : Sp) (dvs : List V) (E : XK) (ta : TE) (t : TA) : TE := fun σ H Q => ta σ H fun x H1 => ∃ a dx fs, x = .ref a ∧ H1 a = some (.ins C dx fs) ∧ fs.lookup m = none ∧
  t σ H1 fun vs H2 => sp (x :: (vs ++ dvs)) H2 Q E
/-- C(..): a new instance and its dict, then __init__ -/
def tMake (C : Addr) (sp : Sp) (dvs : List V) (E : XK) (t : TA) : TE := fun σ H Q => t σ H fun vs H1 => ∀ x dx, H1 x = none → H1 dx = none → dx ≠ x →
  sp (.ref x :: (vs ++ dvs)) (upd (upd H1 dx (.own x)) x (.ins C dx [])) (fun v H2 => v = .non ∧ Q (.ref x) H2) E

/-- how the parameters are bound: us the positional arguments, kw the keywords' values by name, ds the defaults that fill up -/
def Binds (K : PySem.W.Frag) (fd : FuncData) (ps : List Str) (ds : List Value) : Prop :=
  ∀ (s : Shared) (us : List Value), K.In s.heap → (us ++ ds).length = ps.length → BindsTo s fd ⟨us, []⟩ (ps.zip (us ++ ds))
/-- every parameter is given -/
theorem Binds.all {K : PySem.W.Frag} {fd : FuncData} {ps : List Str} (h : ∀ us : List Value, us.length = ps.length → bindArgs fd ⟨us, []⟩ = pure (ps.zip us)) : Binds K fd ps [] := fun s us _ hl => by
  rw [List.append_nil] at hl ⊢
  exact .of_eq (h us hl)

/-- an exception of a callee reaches what this body wants of exceptions -/
def Passes (CX : CXT) (X : Cx) (E : XK) : Prop := ∀ (pins : List (Addr × Obj)) (σ : St) (H : Hp) (s : Shared) (e : Value) (s' : Shared), Inv X pins σ H s → CX X.stack H s E e s' → X.xe e s'

section
variable {X : Cx} {CX : CXT} {k : Nat} {f C : Addr} {fd : FuncData} {ps : List Str} {sp : Sp} {dvs : List V} {ds : List Value} {E : XK} {x m : Str} {p pos apos : Pos} {e o : Expr} {es : List Expr} {ta : TE} {t : TA}

/-- the callee runs -/
theorem run_fn {pins : List (Addr × Obj)} {σ : St} {H : Hp} {s : Shared} {Q : VK} {us : List Value} {vs : List V} (F : FnOk X.prog X.w X.K X.mg X.base CX k f fd ps sp) (hr : Room k X.A) (hb : Binds X.K fd ps ds) (hd : Vals dvs ds) (hx : Passes CX X E)
    (I : Inv X pins σ H s) (r : Vals vs us) (h : sp (vs ++ dvs) H Q E) : wpAny (model X.prog X.w) X.A (call (.ref f) us) (EP X pins σ Q) X.xe s := by
  have r2 : Vals (vs ++ dvs) (us ++ ds) := r.append hd
  have hl : (us ++ ds).length = ps.length := by rw [← r2.length]; exact F.len _ _ _ _ h
  refine wpAny_call (codeAny_mono (F.run X.A X.stack s H ⟨us, []⟩ (us ++ ds) (vs ++ dvs) Q E hr I.env0 (hb s us I.kIn hl) r2 h) fun r s' hq => ?_)
  cases r with
  | error e => exact hx pins σ H s e s' I hq
  | ok fl =>
    cases fl with
    | ret u => exact I.after hq
    | next => exact False.elim hq
    | brk => exact False.elim hq
    | cont => exact False.elim hq

theorem pe_call (F : FnOk X.prog X.w X.K X.mg X.base CX k f fd ps sp) (hr : Room k X.A) (hg : Gl X x) (hm : X.mg x = some (.ref f)) (hk : PySem.W.keepIn X.K (.ref f) = true) (hb : Binds X.K fd ps ds) (hd : Vals dvs ds) (hx : Passes CX X E)
    (ha : PA X (e :: es) t) (hdb : (x == ("__debug__" : Str)) = false := by decide) (he : starEach (e :: es) X.env = (false, eval e X.env) :: starEach es X.env := by rfl) (hpl : (backTo pos (starEach es X.env)).any (·.1) = false := by rfl) :
    PE X (.Call (.Name x p) (e :: es) [] pos) (tCall sp dvs E t) := by
  intro pins s σ H Q I h
  refine wpAny_Call_Name_kw (ld_glob I hg hm ?_ hdb)
  refine PySem.W.callWith_K (h₀ := X.base) I.ok.mod.kin hk (thn (ha pos pins s σ H _ I h) fun us s1 ⟨vs, H1, I1, r, q⟩ => ⟨I1.kIn, ?_⟩) he hpl
  exact run_fn F hr hb hd hx I1 r q
theorem pe_call0 (F : FnOk X.prog X.w X.K X.mg X.base CX k f fd ps sp) (hr : Room k X.A) (hg : Gl X x) (hm : X.mg x = some (.ref f)) (hk : PySem.W.keepIn X.K (.ref f) = true) (hb : Binds X.K fd ps ds) (hd : Vals dvs ds) (hx : Passes CX X E)
    (hdb : (x == ("__debug__" : Str)) = false := by decide) : PE X (.Call (.Name x p) [] [] pos) (tCall sp dvs E tNil) := by
  intro pins s σ H Q I h
  refine wpAny_Call_Name_kw (ld_glob I hg hm ?_ hdb)
  exact PySem.W.callWith_K0 I.kIn hk (run_fn (us := []) F hr hb hd hx I .nil h)

/-- o.m(e, ..) -/
theorem pe_meth {pl : Sem Bool} (he : PE X o ta) (c : Cls X.K C) (hm : Meth X.K C m f) (F : FnOk X.prog X.w X.K X.mg X.base CX k f fd ps sp) (hr : Room k X.A) (hb : Binds X.K fd ps ds) (hd : Vals dvs ds) (hx : Passes CX X E) (ha : PA X (e :: es) t)
    (hst : starEach (e :: es) X.env = (false, eval e X.env) :: starEach es X.env := by rfl) (hpl : (backTo pos (starEach es X.env)).any (·.1) = false := by rfl)
    (ht : eval (.Call (.Attribute o m apos) (e :: es) [] pos) X.env = (do
      let ov ← eval o X.env
      standAt apos.atName
      let (f, first) ← holding [ov] (getMethod ov m pl)
      callWith pos f first (backTo pos (starEach (e :: es) X.env)) (backToKw pos (keywordEach [] X.env))) := by rfl) :
    PE X (.Call (.Attribute o m apos) (e :: es) [] pos) (tMeth C m sp dvs E ta t) := by
  intro pins s σ H Q I h
  refine PySem.W.methodCall_KW (pl := pl) (thn (he pins s σ H _ I h) fun u s1 ⟨x, H1, I1, rx, a, dx, fs, ex, ea, l, q⟩ => ?_) ht
  subst ex
  obtain rfl : u = Value.ref a := rx
  refine getmeth_ok I1 ea c hm l ?_
  refine PySem.W.callWith_K (first := [.ref a]) (h₀ := X.base) I.ok.mod.kin hm.kp (thn (ha pos pins s1 σ H1 _ I1 q) fun us s2 ⟨vs, H2, I2, r, q2⟩ => ⟨I2.kIn, ?_⟩) hst hpl
  exact run_fn (us := .ref a :: us) (vs := .ref a :: vs) F hr hb hd hx I2 (.cons rfl r) q2
/-- o.m() -/
theorem pe_meth0 {pl : Sem Bool} (he : PE X o ta) (c : Cls X.K C) (hm : Meth X.K C m f) (F : FnOk X.prog X.w X.K X.mg X.base CX k f fd ps sp) (hr : Room k X.A) (hb : Binds X.K fd ps ds) (hd : Vals dvs ds) (hx : Passes CX X E)
    (ht : eval (.Call (.Attribute o m apos) [] [] pos) X.env = (do
      let ov ← eval o X.env
      standAt apos.atName
      let (f, first) ← holding [ov] (getMethod ov m pl)
      callWith pos f first (backTo pos (starEach [] X.env)) (backToKw pos (keywordEach [] X.env))) := by rfl) :
    PE X (.Call (.Attribute o m apos) [] [] pos) (tMeth C m sp dvs E ta tNil) := by
  intro pins s σ H Q I h
  refine PySem.W.methodCall_KW (pl := pl) (thn (he pins s σ H _ I h) fun u s1 ⟨x, H1, I1, rx, a, dx, fs, ex, ea, l, q⟩ => ?_) ht
  subst ex
  obtain rfl : u = Value.ref a := rx
  refine getmeth_ok I1 ea c hm l ?_
  exact PySem.W.callWith_K0 (first := [.ref a]) I1.kIn hm.kp (run_fn (us := [.ref a]) (vs := [.ref a]) F hr hb hd hx I1 (.cons rfl .nil) q)

/-- what a class must have to be made -/
structure Mk (K : PySem.W.Frag) (C f : Addr) : Prop where
  makes : PySem.W.makesIn K C = true
  init : PySem.W.findIn K (.ref C) "__init__" = some (some (.ref f))
  fn : PySem.W.isFn K (.ref f) = true
  kp : PySem.W.keepIn K (.ref C) = true

theorem run_make {pins : List (Addr × Obj)} {σ : St} {H : Hp} {s : Shared} {Q : VK} {us : List Value} {vs : List V} (M : Mk X.K C f) (F : FnOk X.prog X.w X.K X.mg X.base CX k f fd ps sp) (hr : Room (k + 1) X.A) (hb : Binds X.K fd ps ds) (hd : Vals dvs ds)
    (hx : Passes CX X E) (I : Inv X pins σ H s) (r : Vals vs us)
    (h : ∀ x dx, H x = none → H dx = none → dx ≠ x → sp (.ref x :: (vs ++ dvs)) (upd (upd H dx (.own x)) x (.ins C dx [])) (fun v H2 => v = .non ∧ Q (.ref x) H2) E) :
    wpAny (model X.prog X.w) X.A (call (.ref C) us) (EP X pins σ Q) X.xe s := by
  have hq := h (s.heap.objs.size + 1) s.heap.objs.size (I.hok.fresh (Nat.le_succ _)) (I.hok.fresh (Nat.le_refl _)) (Nat.ne_of_lt (Nat.lt_succ_self _))
  have I2 := Inv.made (C := C) I
  have r2 : Vals (V.ref (s.heap.objs.size + 1) :: (vs ++ dvs)) (Value.ref (s.heap.objs.size + 1) :: (us ++ ds)) := .cons rfl (r.append hd)
  have hl : (Value.ref (s.heap.objs.size + 1) :: us ++ ds).length = ps.length := by
    have e := r2.length
    rw [F.len _ _ _ _ hq] at e
    exact e.symm
  refine wpAny_call (make_map (f := f) I.kIn M.makes M.init (beq_iff_eq.mp M.fn) (codeAny_mono (F.run _ X.stack _ _ ⟨Value.ref (s.heap.objs.size + 1) :: us, []⟩ (Value.ref (s.heap.objs.size + 1) :: (us ++ ds)) _ _ E (hr.make C us [])
    (I2.env0.make C us []) (hb _ (Value.ref (s.heap.objs.size + 1) :: us) I2.kIn hl) r2 hq) fun r s' hq' => ?_))
  cases r with
  | error e => exact hx pins σ _ _ e s' I2 hq'
  | ok fl =>
    cases fl with
    | ret u =>
      obtain ⟨v, H', I3, rv, ev, q3⟩ := I2.after hq'
      subst ev
      exact ⟨rv, ⟨V.ref (s.heap.objs.size + 1), H', I3, rfl, q3⟩⟩
    | next => exact False.elim hq'
    | brk => exact False.elim hq'
    | cont => exact False.elim hq'
theorem pe_make (M : Mk X.K C f) (F : FnOk X.prog X.w X.K X.mg X.base CX k f fd ps sp) (hr : Room (k + 1) X.A) (hg : Gl X x) (hm : X.mg x = some (.ref C)) (hb : Binds X.K fd ps ds) (hd : Vals dvs ds) (hx : Passes CX X E)
    (ha : PA X (e :: es) t) (hdb : (x == ("__debug__" : Str)) = false := by decide) (he : starEach (e :: es) X.env = (false, eval e X.env) :: starEach es X.env := by rfl) (hpl : (backTo pos (starEach es X.env)).any (·.1) = false := by rfl) :
    PE X (.Call (.Name x p) (e :: es) [] pos) (tMake C sp dvs E t) := by
  intro pins s σ H Q I h
  refine wpAny_Call_Name_kw (ld_glob I hg hm ?_ hdb)
  refine PySem.W.callWith_K (h₀ := X.base) I.ok.mod.kin M.kp (thn (ha pos pins s σ H _ I h) fun us s1 ⟨vs, H1, I1, r, q⟩ => ⟨I1.kIn, ?_⟩) he hpl
  exact run_make M F hr hb hd hx I1 r q
theorem pe_make0 (M : Mk X.K C f) (F : FnOk X.prog X.w X.K X.mg X.base CX k f fd ps sp) (hr : Room (k + 1) X.A) (hg : Gl X x) (hm : X.mg x = some (.ref C)) (hb : Binds X.K fd ps ds) (hd : Vals dvs ds) (hx : Passes CX X E)
    (hdb : (x == ("__debug__" : Str)) = false := by decide) : PE X (.Call (.Name x p) [] [] pos) (tMake C sp dvs E tNil) := by
  intro pins s σ H Q I h
  refine wpAny_Call_Name_kw (ld_glob I hg hm ?_ hdb)
  exact PySem.W.callWith_K0 I.kIn M.kp (run_make (us := []) M F hr hb hd hx I .nil h)
end

/-! ### keywords -/
/-- the values of the keywords, from the left -/
def PK (X : Cx) (kws : List Keyword) (t : TA) : Prop :=
  ∀ (pos : Pos) (pins : List (Addr × Obj)) (s : Shared) (σ : St) (H : Hp) (Q : List V → Hp → Prop), Inv X pins σ H s → t σ H Q → wpAny (model X.prog X.w) X.A (evalAll ((backToKw pos (keywordEach kws X.env)).map (·.2))) (AP X pins σ Q) X.xe s
section
variable {X : Cx} {CX : CXT} {k : Nat} {f C : Addr} {fd : FuncData} {ps ks : List Str} {sp : Sp} {E : XK} {x m : Str} {p pos apos kpos : Pos} {e o : Expr} {es : List Expr} {kws : List Keyword} {te ta : TE} {t tk : TA} {nm : Option Str}
theorem pk_nil : PK X [] tNil := fun _ _ _ _ H Q I h => wpAny_evalAll_nil ⟨[], H, I, .nil, h⟩
theorem pk_cons (ha : PE X e te) (hr : PK X kws t) : PK X (⟨nm, e, kpos⟩ :: kws) (tCons te t) := by
  intro pos pins s σ H Q I h
  show wpAny _ _ (evalAll ((do let v ← eval e X.env; standAt pos; pure v) :: (backToKw pos (keywordEach kws X.env)).map (·.2))) _ _ s
  refine wpAny_evalAll_cons (wpAny_bind (thn (ha pins s σ H _ I h) fun u s1 ⟨x, H1, I1, r1, q1⟩ => wpAny_bind (wpAny_standAt (wpAny_pure ?_))))
  exact thn (hr pos pins s1 σ H1 _ I1 q1) fun us s2 ⟨xs, H2, I2, r2, q2⟩ => ⟨x :: xs, H2, I2, .cons r1 r2, q2⟩

/-- how a call with keywords binds: g puts the positional values us and the keywords' values ws (names ks) in the parameters' order, defaults among them -/
structure KBinds (K : PySem.W.Frag) (fd : FuncData) (ps ks : List Str) (g : List Value → List Value → List Value) (gV : List V → List V → List V) : Prop where
  to : ∀ (s : Shared) (us ws : List Value), K.In s.heap → (g us ws).length = ps.length → BindsTo s fd ⟨us, ks.zip ws⟩ (ps.zip (g us ws))
  rel : ∀ {vs : List V} {us : List Value} {zs : List V} {ws : List Value}, Vals vs us → Vals zs ws → Vals (gV vs zs) (g us ws)
def tCallK (sp : Sp) (gV : List V → List V → List V) (E : XK) (t tk : TA) : TE := fun σ H Q => t σ H fun vs H1 => tk σ H1 fun zs H2 => sp (gV vs zs) H2 Q E
variable {g : List Value → List Value → List Value} {gV : List V → List V → List V}
theorem run_fnk {pins : List (Addr × Obj)} {σ : St} {H : Hp} {s : Shared} {Q : VK} {us ws : List Value} {vs zs : List V} (F : FnOk X.prog X.w X.K X.mg X.base CX k f fd ps sp) (hr : Room k X.A) (hb : KBinds X.K fd ps ks g gV) (hx : Passes CX X E)
    (I : Inv X pins σ H s) (r : Vals vs us) (rz : Vals zs ws) (h : sp (gV vs zs) H Q E) : wpAny (model X.prog X.w) X.A (call (.ref f) us (ks.zip ws)) (EP X pins σ Q) X.xe s := by
  have r2 := hb.rel r rz
  have hl : (g us ws).length = ps.length := by rw [← r2.length]; exact F.len _ _ _ _ h
  refine wpAny_call (codeAny_mono (F.run X.A X.stack s H ⟨us, ks.zip ws⟩ (g us ws) (gV vs zs) Q E hr I.env0 (hb.to s us ws I.kIn hl) r2 h) fun r s' hq => ?_)
  cases r with
  | error e => exact hx pins σ H s e s' I hq
  | ok fl =>
    cases fl with
    | ret u => exact I.after hq
    | next => exact False.elim hq
    | brk => exact False.elim hq
    | cont => exact False.elim hq
/-- f(e, .., k = v, ..) -/
theorem pe_callK (F : FnOk X.prog X.w X.K X.mg X.base CX k f fd ps sp) (hr : Room k X.A) (hg : Gl X x) (hm : X.mg x = some (.ref f)) (hk : PySem.W.keepIn X.K (.ref f) = true) (hb : KBinds X.K fd ps ks g gV) (hx : Passes CX X E)
    (ha : PA X (e :: es) t) (hkw : PK X kws tk) (hall : (backToKw pos (keywordEach kws X.env)).all (·.1.isSome) = true := by rfl) (hks : (backToKw pos (keywordEach kws X.env)).filterMap (·.1) = ks := by rfl)
    (hdb : (x == ("__debug__" : Str)) = false := by decide) (he : starEach (e :: es) X.env = (false, eval e X.env) :: starEach es X.env := by rfl)
    (hpl : ((backTo pos (starEach (e :: es) X.env)).any (·.1) || (backToKw pos (keywordEach kws X.env)).any (·.1.isNone)) = false := by rfl) :
    PE X (.Call (.Name x p) (e :: es) kws pos) (tCallK sp gV E t tk) := by
  intro pins s σ H Q I h
  refine wpAny_Call_Name_kw (ld_glob I hg hm ?_ hdb)
  refine PySem.W.callWith_KW (h₀ := X.base) I.ok.mod.kin hk hall (thn (ha pos pins s σ H _ I h) fun us s1 ⟨vs, H1, I1, r, q⟩ => ?_) hpl he
  refine thn (hkw pos pins s1 σ H1 _ I1 q) fun ws s2 ⟨zs, H2, I2, rz, q2⟩ => ⟨I2.kIn, ?_⟩
  rw [hks]
  exact run_fnk F hr hb hx I2 r rz q2
end

/-! ### a def's body keeps its promise -/
/-- names: the parameters first -/
structure FnScope (N P : List Str) (sc : Scope) : Prop where
  kind : sc.kind = .function
  co : sc.isCoroutine = false
  gen : sc.isGenerator = false
  nd : N.Nodup
  pre : N.take P.length = P
  par : ∀ x ∈ P, sc.names.lookup x = some .local ∨ sc.names.lookup x = some .cell
  nofree : ∀ y ∈ sc.names, y.2 ≠ .free

theorem bindL_out {kindOf : Str → Option NameKind} {x : Str} : ∀ {binds : List (Str × Value)} {m : Str → Option Value}, (∀ v, (x, v) ∉ binds) → bindL kindOf binds m x = m x
  | [], _, _ => rfl
  | (n, v) :: r, m, h => by
    unfold bindL
    rw [bindL_out fun w hw => h w (List.mem_cons_of_mem _ hw)]
    split
    · have : x ≠ n := by rintro rfl; exact h v List.mem_cons_self
      simp [this]
    · rfl
theorem bindC_out {kindOf : Str → Option NameKind} {x : Str} : ∀ {binds : List (Str × Value)} {m : Str → Option Value}, (∀ v, (x, v) ∉ binds) → bindC kindOf binds m x = m x
  | [], _, _ => rfl
  | (n, v) :: r, m, h => by
    unfold bindC
    rw [bindC_out fun w hw => h w (List.mem_cons_of_mem _ hw)]
    split
    · rfl
    · have : x ≠ n := by rintro rfl; exact h v List.mem_cons_self
      simp [this]
theorem bindL_get {kindOf : Str → Option NameKind} {x : Str} {v : Value} : ∀ {P : List Str} {vs : List Value} {i : Nat} {m : Str → Option Value}, P.Nodup → P[i]? = some x → vs[i]? = some v → kindOf x = some .local →
    bindL kindOf (P.zip vs) m x = some v
  | [], _, _, _, _, h, _, _ => by simp at h
  | _ :: _, [], _, _, _, _, h, _ => by simp at h
  | p :: P, w :: vs, 0, m, nd, h1, h2, hk => by
    simp at h1 h2; subst h1; subst h2
    show bindL kindOf ((p, w) :: P.zip vs) m p = _
    unfold bindL
    rw [bindL_out fun v hv => (List.nodup_cons.mp nd).1 (List.of_mem_zip hv).1, if_pos hk]
    simp
  | p :: P, w :: vs, i + 1, m, nd, h1, h2, hk => by
    show bindL kindOf ((p, w) :: P.zip vs) m x = _
    unfold bindL
    exact bindL_get (i := i) (List.nodup_cons.mp nd).2 (by simpa using h1) (by simpa using h2) hk
theorem bindC_get {kindOf : Str → Option NameKind} {x : Str} {v : Value} : ∀ {P : List Str} {vs : List Value} {i : Nat} {m : Str → Option Value}, P.Nodup → P[i]? = some x → vs[i]? = some v → kindOf x ≠ some .local →
    bindC kindOf (P.zip vs) m x = some v
  | [], _, _, _, _, h, _, _ => by simp at h
  | _ :: _, [], _, _, _, _, h, _ => by simp at h
  | p :: P, w :: vs, 0, m, nd, h1, h2, hk => by
    simp at h1 h2; subst h1; subst h2
    show bindC kindOf ((p, w) :: P.zip vs) m p = _
    unfold bindC
    rw [bindC_out fun v hv => (List.nodup_cons.mp nd).1 (List.of_mem_zip hv).1, if_neg hk]
    simp
  | p :: P, w :: vs, i + 1, m, nd, h1, h2, hk => by
    show bindC kindOf ((p, w) :: P.zip vs) m x = _
    unfold bindC
    exact bindC_get (i := i) (List.nodup_cons.mp nd).2 (by simpa using h1) (by simpa using h2) hk

/-- the names' values at the entry -/
def start (N : List Str) (vs : List V) : St := vs.map some ++ List.replicate (N.length - vs.length) none

/-- the context of a def's body, at its entry; an exception leaves the frame, then lies as CX says -/
def cxOf (CX : CXT) (P : Program) (w : World) (K : PySem.W.Frag) (mg : Str → Option Value) (base : Heap) (N : List Str) (qual : Str) (scope : Scope) (f : Addr) (cd : Value) (A : Around) (outer : List Env) (s : Shared) (H : Hp) (E : XK) : Cx where
  prog := P
  w := w
  K := K
  mg := mg
  base := base
  A := A.deeper (envOfC qual scope s.heap.objs.size f cd)
  N := N
  s₀ := s
  H₀ := H
  env := envOfC qual scope s.heap.objs.size f cd
  outer := outer
  stack := envOfC qual scope s.heap.objs.size f cd :: outer
  ex := []
  calm := true
  fn := fun _ => true
  pn := []
  xe := fun e s' => wpAny (model P w) (A.deeper (envOfC qual scope s.heap.objs.size f cd)) (leaving (envOfC qual scope s.heap.objs.size f cd) e) (fun _ s'' => CX outer H s E e s'') (fun e' s'' => CX outer H s E e' s'') s'

theorem cell_has {sc : Scope} {n : Nat} {x : Str} (h : sc.names.lookup x = some .cell) : ∃ c, (cellsFrom n sc.names []).lookup x = some c := by
  have q := PySem.W.cellsFrom_some sc.names n [] (.inl h)
  exact Option.isSome_iff_exists.mp q

theorem inv_start {CX : CXT} {P : Program} {w : World} {K : PySem.W.Frag} {mg : Str → Option Value} {base : Heap} {N ps : List Str} {qual : Str} {scope : Scope} {f : Addr} {cd : Value} {A : Around} {outer : List Env} {s s1 : Shared} {H : Hp} {E : XK} {us : List Value} {vs : List V}
    (S : FnScope N ps scope) (hd : A.handled = none) (e0 : Env0 P w K mg base A outer s H) (hl : vs.length = ps.length) (r : Vals vs us)
    (x : InCallC s s.heap.objs.size (bindL (envOfC qual scope s.heap.objs.size f cd).kindOf (ps.zip us) fun _ => none) (cellsFrom (s.heap.objs.size + 1) scope.names []) (bindC (envOfC qual scope s.heap.objs.size f cd).kindOf (ps.zip us) fun _ => none) s1) :
    Inv (cxOf CX P w K mg base N qual scope f cd A outer s H E) [] (start N vs) H s1 := by
  have hpl : ps.length ≤ N.length := by have := congrArg List.length S.pre; rw [List.length_take] at this; omega
  obtain ⟨h1, tk, rfl, hk⟩ := x.done
  have noA : ∀ b : Addr, b ∉ (cxOf CX P w K mg base N qual scope f cd A outer s H E).ex := fun b z => absurd (show b ∈ ([] : List Addr) from z) (by simp)
  refine ⟨⟨e0.mod, S.kind, rfl, rfl, Nat.le_refl _, fun y z c h1 h2 => ?_, fun y hy => ?_, fun y c _ h => ?_, fun _ => hd, Around.frames_deeper e0.frames, .inr ⟨rfl, rfl⟩, fun b z => absurd z (noA b), e0.bs, e0.bsz, fun b _ _ => noA b, fun b z => absurd z (noA b), e0.funs, e0.frf⟩,
    rfl, e0.bare, Un.kept hk, ⟨_, x.toInCall.ns, fun i y v h1 h2 h3 => ?_⟩, fun y c h => ⟨_, x.cell y c h⟩, e0.hok.fresh (Nat.le_refl _), fun y c h => ?_, fun p hp => absurd (show p ∈ ([] : List (Addr × Obj)) from hp) (by simp), e0.hok.kept hk, ?_⟩
  · exact name_of_addr x.apart (PySem.mem_of_lookup h1) (PySem.mem_of_lookup h2)
  · have hy : scope.names.lookup y = some .cell ∨ scope.names.lookup y = some .free := hy
    rcases hy with hy | hy
    · exact cell_has hy
    · exact absurd rfl (S.nofree _ (PySem.mem_of_lookup hy))
  · exact Nat.le_of_lt (x.above y c (PySem.mem_of_lookup h))
  · have hi : i < vs.length := by
      unfold start at h2
      by_cases hi : i < vs.length
      · exact hi
      · rw [List.getElem?_append_right (by simpa using hi)] at h2
        rw [List.getElem?_replicate] at h2
        split at h2 <;> cases h2
    have ha : vs[i]? = some v := by
      unfold start at h2
      rw [List.getElem?_append_left (by simpa using hi), List.getElem?_map] at h2
      cases e : vs[i]? with
      | none => rw [e] at h2; cases h2
      | some a => rw [e] at h2; cases h2; rfl
    obtain ⟨u, hu, rv⟩ := r.get ha
    have hp : ps[i]? = some y := by
      rw [← S.pre, List.getElem?_take_of_lt (by omega)]; exact h1
    have ndP : ps.Nodup := by rw [← S.pre]; exact S.nd.sublist (List.take_sublist _ _)
    refine ⟨u, rv, ?_⟩
    rcases S.par y (List.mem_of_getElem? hp) with k | k
    · exact .inl ⟨k, bindL_get ndP hp hu k⟩
    · obtain ⟨c, e⟩ := cell_has (n := s.heap.objs.size + 1) k
      refine .inr ⟨.inl k, c, e, ?_⟩
      have q := x.cell y c e
      rw [bindC_get ndP hp hu (by show scope.names.lookup y ≠ _; rw [k]; decide)] at q
      exact q
  · exact e0.hok.fresh (Nat.le_of_lt (x.above y c (PySem.mem_of_lookup h)))
  · unfold start
    show _ = N.length
    rw [List.length_append, List.length_map, List.length_replicate]
    omega

/-- THE RULE: a def (or a method) of the text, by its body. The body's reading t is chosen for each entry; it is run at the parameters' values -/
theorem fn_of {CX : CXT} {P : Program} {w : World} {K : PySem.W.Frag} {mg : Str → Option Value} {base : Heap} {k : Nat} {f : Addr} {name qual : Str} {params : Arguments} {body : List Stmt} {scope : Scope} {dV kV doc pm cdv ct oc : Value} {an od : Option Addr}
    {osl : Array (Option Value)} {N ps : List Str} {sp : Sp} (lk : K.lookup f = some ⟨oc, od, .func (PySem.W.fnOf name qual params body scope dV kV doc pm an cdv ct), osl⟩) (hcd : PySem.W.codeIn K cdv qual = true) (S : FnScope N ps scope)
    (len : ∀ vs H Q E, sp vs H Q E → vs.length = ps.length)
    (hbody : ∀ (A : Around) (outer : List Env) (s : Shared) (H : Hp) (vs : List V) (Q : VK) (E : XK), Room k (A.deeper (envOfC qual scope s.heap.objs.size f cdv)) → sp vs H Q E →
      ∃ t, PSs (cxOf CX P w K mg base N qual scope f cdv A outer s H E) body t ∧ t { nx := fun _ H' => Q .non H', rt := Q } (start N vs) H) :
    FnOk P w K mg base CX (k + 1) f (PySem.W.fnOf name qual params body scope dV kV doc pm an cdv ct) ps sp := by
  refine ⟨len, fun A outer s H args us vs Q E hr e0 hb r hsp => ?_⟩
  have hl := len _ _ _ _ hsp
  have KX : K.In s.heap := e0.mod.kin.keeps fun b o e => (e0.bs b o e).1
  have lim : s.heap.NoLimit := e0.mod.nolimit.keeps fun b o e => (e0.bs b o e).1
  have hkind : ∀ y ∈ ps.zip us, scope.names.lookup y.1 = some .local ∨ (scope.names.lookup y.1 = some .cell ∧ ((cellsFrom (s.heap.objs.size + 1) scope.names []).lookup y.1).isSome = true) := fun ⟨n, v⟩ hy => by
    rcases S.par n (List.of_mem_zip hy).1 with q | q
    · exact .inl q
    · exact .inr ⟨q, PySem.W.cellsFrom_some _ _ _ (.inl q)⟩
  refine codeAny_call_function hr.depth (KX _ _ lk) rfl S.co S.gen rfl (PySem.W.codeRec_of KX hcd) (hb _ _ _ _ ?_)
  refine wpAny_newFunctionEnv_cells S.kind hkind fun env he s1 x => ?_
  subst he
  refine ⟨lim.keeps x.toInCall.keep, codeAny_func ?_⟩
  obtain ⟨t, ht, hq⟩ := hbody A outer s H vs Q E (hr.deeper _) hsp
  have I : Inv (cxOf CX P w K mg base N qual scope f cdv A outer s H E) [] (start N vs) H s1 := inv_start S hr.hd e0 hl r x
  refine wpAny_mono (ht [] s1 (start N vs) H _ I hq) (fun fl s' hs => ?_) fun e s' hs => hs
  have fin : ∀ {σ' : St} {H' : Hp} {v : V} {u : Value}, Inv (cxOf CX P w K mg base N qual scope f cdv A outer s H E) [] σ' H' s' → RelV v u → Q v H' → CE outer P w H s Q u s' :=
    fun {σ' H' v u} J rv q => ⟨v, H', J.os, J.bare, J.base, J.hok, rv, q⟩
  cases fl with
  | ret u =>
    obtain ⟨v, σ', H', J, rv, q⟩ := hs
    exact fin J rv q
  | next =>
    obtain ⟨σ', H', J, q⟩ := hs
    exact fin (v := V.non) (u := Value.none) J rfl q
  | brk =>
    obtain ⟨_, _, _, q⟩ := hs
    exact False.elim q
  | cont =>
    obtain ⟨_, _, _, q⟩ := hs
    exact False.elim q
end L2

namespace L2
open PySem PySem.Spec PyProof.Rows
section
variable {X : Cx} {x : Str} {p pos : Pos} {e : Expr} {es : List Expr} {t : TA} {id T : String} {r : List V → Hp → VK → Prop}

def tCB (r : List V → Hp → VK → Prop) (t : TA) : TE := fun σ H Q => t σ H fun vs H1 => r vs H1 Q
/-- f(e, ..), f a built-in function -/
theorem pe_callB (hc : CallR X (.builtin id) r) (hg : Gl X x) (hm : X.mg x = none) (hv : bootBuiltins x = some (.builtin id)) (ha : PA X (e :: es) t) (hn : x ≠ "__name__" := by decide) (hdb : (x == ("__debug__" : Str)) = false := by decide)
    (he : starEach (e :: es) X.env = (false, eval e X.env) :: starEach es X.env := by rfl) (hpl : (backTo pos (starEach es X.env)).any (·.1) = false := by rfl) : PE X (.Call (.Name x p) (e :: es) [] pos) (tCB r t) := by
  intro pins s σ H Q I h
  refine wpAny_Call_Name_kw (ld_blt I hg hm hv ?_ hn hdb)
  exact PyProof.Rows.callWith_builtin1 (thn (ha pos pins s σ H _ I h) fun us s1 ⟨vs, H1, I1, r1, q1⟩ => hc pins s1 σ H1 vs us Q I1 r1 q1) he hpl
/-- T(e, ..), T a built-in type -/
theorem pe_callTy (hc : CallR X (.type T) r) (hg : Gl X x) (hm : X.mg x = none) (hv : bootBuiltins x = some (.type T)) (ha : PA X (e :: es) t) (hn : x ≠ "__name__" := by decide) (hdb : (x == ("__debug__" : Str)) = false := by decide)
    (he : starEach (e :: es) X.env = (false, eval e X.env) :: starEach es X.env := by rfl) (hpl : (backTo pos (starEach es X.env)).any (·.1) = false := by rfl) : PE X (.Call (.Name x p) (e :: es) [] pos) (tCB r t) := by
  intro pins s σ H Q I h
  refine wpAny_Call_Name_kw (ld_blt I hg hm hv ?_ hn hdb)
  exact PyProof.Rows.callWith_type1 (thn (ha pos pins s σ H _ I h) fun us s1 ⟨vs, H1, I1, r1, q1⟩ => hc pins s1 σ H1 vs us Q I1 r1 q1) he hpl
/-- T() -/
theorem pe_callTy0 (hc : CallR X (.type T) r) (hg : Gl X x) (hm : X.mg x = none) (hv : bootBuiltins x = some (.type T)) (hn : x ≠ "__name__" := by decide) (hdb : (x == ("__debug__" : Str)) = false := by decide) :
    PE X (.Call (.Name x p) [] [] pos) (tCB r tNil) := by
  intro pins s σ H Q I h
  refine wpAny_Call_Name_kw (ld_blt I hg hm hv ?_ hn hdb)
  exact PyProof.Rows.callWith_type0 (hc pins s σ H [] [] Q I .nil h)
end
end L2

namespace HT
open PySem PyProof.Rows

/-- t < u of tuples of ints -/
def lexLt : List Int → List Int → Bool
  | [], [] => false
  | [], _ :: _ => true
  | _ :: _, [] => false
  | x :: xs, y :: ys => if x = y then lexLt xs ys else decide (x < y)
theorem lexLt_cons (x y : Int) (xs ys : List Int) : lexLt (x :: xs) (y :: ys) = if x = y then lexLt xs ys else decide (x < y) := rfl
theorem lexLt_nil_nil : lexLt [] [] = false := rfl
theorem lexLt_nil_cons (y : Int) (ys : List Int) : lexLt [] (y :: ys) = true := rfl
theorem lexLt_cons_nil (x : Int) (xs : List Int) : lexLt (x :: xs) [] = false := rfl

theorem eqAt_int (A : Around) (s : Shared) (a : Int) (t : Tok) (c : Int) (u : Tok) : ∃ e, SeqAt.EqAt A s (.int a t) (.int c u) e ∧ (e = true ↔ a = c) :=
  ⟨(a == c), SeqAt.EqAt.int_int a t c u, by simp⟩
theorem rcLt_int (A : Around) (s : Shared) (a : Int) (t : Tok) (c : Int) (u : Tok) (prog : Program) (w : World) (E : Value → Shared → Prop) (Q : Value → Shared → Prop) (h : Q (.bool (decide (a < c))) s) :
    wpAny (model prog w) A (richCompare .Lt (.int a t) (.int c u)) Q E s :=
  (PyProof.Rows.lt_int h : wpAny (model prog w) A (compareOp .Lt (.int a t) (.int c u)) Q E s)

section
open PySem.SeqAt
open PySem.AutoSeq1 (wpAny_loadPart')
open PySem.MeetsSeq PySem.MeetsSeq2 PySem.MeetsSeq3

theorem tuple_lt_ints (l b : Addr) (items items2 : Array Value) (n n2 : Nat) (dd dd2 : Option Addr) (sl sl2 : Array (Option Value)) (ns ms : List Int) (hi : IntsAre items.toList ns) (hj : IntsAre items2.toList ms) :
    Meets (Builtin.«tuple.__lt__» ⟨[.ref l, .ref b], []⟩)
      (fun _ R s => s.heap.get? l = some { cls := .type "tuple", dict := dd, data := .seq items n, slots := sl } ∧ s.heap.get? b = some { cls := .type "tuple", dict := dd2, data := .seq items2 n2, slots := sl2 } ∧
        R (.ok (.ret (.bool (lexLt ns ms)))) s) :=
  .of_wp fun prog w A R s h => by
    obtain ⟨hp, g, d, tk, os⟩ := s; obtain ⟨hl, hb, h⟩ := h
    have f2 := AutoSeq1.sub_tuple_tuple
    have z1 : items.size = ns.length := by rw [← hi.length]; simp
    have z2 : items2.size = ms.length := by rw [← hj.length]; simp
    wp_walk using wpAny_loadPart' hl, wpAny_loadPart' hb, wpAny_forIn_list _ (fun rest b s' => b.1 = none ∧ s' = ⟨hp, g, d, tk, os⟩ ∧ ∃ (vs ws : List Value) (ns' ms' : List Int), rest = vs.zip ws ∧
      IntsAre vs ns' ∧ IntsAre ws ms' ∧ ns'.length + items2.size = ms'.length + items.size ∧ R (.ok (.ret (.bool (lexLt ns' ms')))) ⟨hp, g, d, tk, os⟩) _
    case turn =>
      rintro ⟨y, x⟩ rest b s' ⟨hb', rfl, vs, ws, ns', ms', hz, hvi, hwi, hlen, hR⟩
      cases hvi with
      | nil => rw [List.zip_nil_left] at hz; cases hz
      | cons a t hvi' =>
        cases hwi with
        | nil => rw [List.zip_nil_right] at hz; cases hz
        | cons c u hwi' =>
          rw [List.zip_cons_cons] at hz
          injection hz with hyx hrest
          injection hyx with hy hx
          subst hy hx
          rw [lexLt_cons] at hR
          simp only [List.length_cons] at hlen
          obtain ⟨e, he, hiff⟩ := eqAt_int A.in1 ⟨hp, g, d, tk, os⟩ a t c u
          refine wpAny_bind (he prog w _ _ ?_)
          cases e with
          | true =>
            rw [if_pos (hiff.mp rfl)] at hR
            wp_walk
            exact ⟨rfl, rfl, _, _, _, _, hrest, hvi', hwi', by omega, hR⟩
          | false =>
            rw [if_neg (fun q => absurd (hiff.mpr q) Bool.false_ne_true)] at hR
            have hri := rcLt_int A.in1 ⟨hp, g, d, tk, os⟩ a t c u prog w
            wp_walk using hri
            exact ⟨_, rfl, by simpa using hR⟩
    case fin =>
      rintro ⟨b1, b2⟩ s' ⟨hb', rfl, vs, ws, ns', ms', hz, hvi, hwi, hlen, hR⟩
      simp only at hb'
      subst hb'
      have hv : lexLt ns' ms' = decide (items.size < items2.size) := by
        cases hvi with
        | nil =>
          cases hwi with
          | nil =>
            simp only [List.length_nil] at hlen
            rw [lexLt_nil_nil]
            exact (decide_eq_false (by omega)).symm
          | cons c u hw =>
            simp only [List.length_nil, List.length_cons] at hlen
            rw [lexLt_nil_cons]
            exact (decide_eq_true (by omega)).symm
        | cons a t hv =>
          cases hwi with
          | nil =>
            simp only [List.length_nil, List.length_cons] at hlen
            rw [lexLt_cons_nil]
            exact (decide_eq_false (by omega)).symm
          | cons c u hw =>
            rw [List.zip_cons_cons] at hz
            cases hz
      rw [hv] at hR
      wp_walk
      exact ⟨_, rfl, by simpa [Builtin.Tuple.tupleCompareSizes] using hR⟩
    case h =>
      exact ⟨rfl, rfl, items.toList, items2.toList, ns, ms, rfl, hi, hj, by omega, h⟩
end

section
variable {prog : Program} {w : World} {A : Around} {E : Value → Shared → Prop} {s : Shared}

theorem lt_tupInts {l b : Addr} {items items2 : Array Value} {ns ms : List Int} {Q : Value → Shared → Prop} (hl : IsTup s.heap l items) (hb : IsTup s.heap b items2) (hi : IntsAre items.toList ns) (hj : IntsAre items2.toList ms)
    (hu : A.units < cLine) (h : Q (.bool (lexLt ns ms)) s) : wpAny (model prog w) A (compareOp .Lt (.ref l) (.ref b)) Q E s := by
  obtain ⟨⟨cls, dd, data, sl⟩, ho, hc, n, hd⟩ := id hl
  obtain ⟨⟨cls2, dd2, data2, sl2⟩, ho2, hc2, n2, hd2⟩ := id hb
  simp only at hc hd hc2 hd2
  subst hc hd hc2 hd2
  exact richCompare_meets_room (op := .Lt) ⟨_, ho, rfl⟩ ⟨_, ho2, rfl⟩ PySem.F.slot_tuple_lt PySem.F.entry_tuple_lt (PySem.F.args_tuple_lt_2 _ _) (tuple_lt_ints l b items items2 n n2 dd dd2 sl sl2 ns ms hi hj)
    ⟨ho, ho2, show Value.bool (lexLt ns ms) ≠ Value.notImplemented ∧ Q (.bool (lexLt ns ms)) s from ⟨(fun x => nomatch x), h⟩⟩ hu

/-- t + u, t not empty -/
theorem cat_tup {t b : Addr} {vs ws : List Value} {Q : Value → Shared → Prop} (ht : IsTup s.heap t vs.toArray) (hb : IsTup s.heap b ws.toArray) (hv : vs ≠ [])
    (h1 : ws = [] → Q (.ref t) s) (h2 : ws ≠ [] → Q (.ref s.heap.objs.size) { s with heap := s.heap.push { cls := .type "tuple", data := .seq (vs ++ ws).toArray } })
    (hsz : vs.length + ws.length ≤ sizeLine) : wpAny (model prog w) A (binaryOp .Add (.ref t) (.ref b)) Q E s := by
  obtain ⟨⟨cls, dd, data, sl⟩, ho, hc, n, hd⟩ := id ht
  obtain ⟨⟨cls2, dd2, data2, sl2⟩, ho2, hc2, n2, hd2⟩ := id hb
  simp only at hc hd hc2 hd2
  subst hc hd hc2 hd2
  have e : vs.toArray ++ ws.toArray = (vs ++ ws).toArray := by simp
  by_cases hw : ws = []
  · exact concat_meets ⟨_, ho, rfl⟩ ⟨_, ho2, rfl⟩ noFill_tuple_add seq_tuple_add PySem.F.slot_tuple_add PySem.F.entry_tuple_add (PySem.F.args_tuple_add_2 _ _)
      (tuple_addW1 t b vs.toArray ws.toArray n n2 dd dd2 sl sl2 (by simpa using hv) (by simp [hw])) ⟨ho, ho2, h1 hw⟩
  · refine concat_meets ⟨_, ho, rfl⟩ ⟨_, ho2, rfl⟩ noFill_tuple_add seq_tuple_add PySem.F.slot_tuple_add PySem.F.entry_tuple_add (PySem.F.args_tuple_add_2 _ _)
      (tuple_addW2 t b vs.toArray ws.toArray n n2 dd dd2 sl sl2 (by simpa using hv) (by simpa using hw) (by rw [List.size_toArray, List.size_toArray]; exact hsz)) ⟨ho, ho2, ?_⟩
    rw [e]
    exact h2 hw

/-! ### t[a:b], not the whole -/
/-- a slice's bound as a place among n (d where it is left out) -/
def sIx (n d : Nat) : Option Int → Nat
  | none => d
  | some v => if v < 0 then (v + (n : Int)).toNat else min v.toNat n
theorem sIx_none (n d : Nat) : sIx n d none = d := rfl
theorem sIx_nat (n d k : Nat) : sIx n d (some (k : Int)) = min k n := by
  show (if (k : Int) < 0 then ((k : Int) + (n : Int)).toNat else min (k : Int).toNat n) = min k n
  rw [if_neg (by omega), Int.toNat_natCast]
theorem sIx_le (n d : Nat) (hd : d ≤ n) (o : Option Int) : sIx n d o ≤ n := by
  cases o with
  | none => exact hd
  | some v =>
    show (if v < 0 then (v + (n : Int)).toNat else min v.toNat n) ≤ n
    by_cases hv : v < 0
    · rw [if_pos hv]; omega
    · rw [if_neg hv]; exact Nat.min_le_right _ _
theorem clip_eq (v : Int) (n d : Nat) : (if v < 0 then max (v + (n : Int)) 0 else min v (n : Int)) = ((sIx n d (some v) : Nat) : Int) := by
  show (if v < 0 then max (v + (n : Int)) 0 else min v (n : Int)) = (((if v < 0 then (v + (n : Int)).toNat else min v.toNat n) : Nat) : Int)
  by_cases hv : v < 0
  · simp only [if_pos hv]; omega
  · simp only [if_neg hv]; omega
theorem adjust_gen (lo hi : Option Int) (n : Nat) : Builtin.Slice.sliceAdjust lo hi 1 (n : Int) = (((sIx n 0 lo : Nat) : Int), ((sIx n n hi : Nat) : Int)) := by
  have h1 : ¬ ((1 : Int) < 0) := by omega
  unfold Builtin.Slice.sliceAdjust
  simp only [h1, if_false]
  refine Prod.ext ?_ ?_
  · cases lo with
    | none => rfl
    | some v => exact clip_eq v n 0
  · cases hi with
    | none => rfl
    | some v => exact clip_eq v n n
theorem places_gen (i j : Nat) : Builtin.Slice.slicePlaces (i : Int) (j : Int) 1 = j - i := by
  unfold Builtin.Slice.slicePlaces
  have h1 : (1 : Int) > 0 := by omega
  simp only [h1, if_true, Int.ediv_one]
  split <;> omega
theorem slicePart_ {v : Value} {o : Option Int} {Q : Option Int → Shared → Prop} (p : IsPart v o) (h : Q o s) : wpAny (model prog w) A (Builtin.Slice.slicePartIndex v) Q E s := by
  cases p with
  | none => exact slicePart_none h
  | int i t => exact slicePart_int h
theorem sliceApplied_gen {sl : Addr} {vl vu : Value} {lo hi : Option Int} {n : Nat} {Q : Int × Int × Nat → Shared → Prop} (hs : s.heap.IsSliceOf sl vl vu .none) (pl : IsPart vl lo) (pu : IsPart vu hi)
    (h : Q (((sIx n 0 lo : Nat) : Int), 1, sIx n n hi - sIx n 0 lo) s) : wpAny (model prog w) A (Builtin.Slice.sliceApplied (.ref sl) (pure (n : Int))) Q E s := by
  obtain ⟨os, hos, hcs, hds⟩ := id hs
  unfold Builtin.Slice.sliceApplied Builtin.Slice.sliceFields
  refine wpAny_bind (wpAny_bind (wpAny_field hos hds (x := vl) rfl (wpAny_bind (wpAny_field hos hds (x := vu) rfl (wpAny_bind (wpAny_field hos hds (x := .none) rfl (wpAny_pure ?_)))))))
  refine wpAny_bind (slicePart_none ?_)
  show wpAny _ _ (if ((1 : Int) == 0) = true then _ else _) _ _ s
  rw [if_neg (by decide)]
  refine wpAny_bind (slicePart_ pl (wpAny_bind (slicePart_ pu (wpAny_bind (wpAny_pure ?_)))))
  show wpAny _ _ (match Builtin.Slice.sliceAdjust lo hi 1 (n : Int) with | (lo, hi) => pure (lo, (1 : Int), Builtin.Slice.slicePlaces lo hi 1)) _ _ s
  rw [adjust_gen lo hi n]
  show wpAny _ _ (pure (((sIx n 0 lo : Nat) : Int), (1 : Int), Builtin.Slice.slicePlaces ((sIx n 0 lo : Nat) : Int) ((sIx n n hi : Nat) : Int) 1)) _ _ s
  rw [places_gen]
  exact wpAny_pure h
theorem pick_gen (xs : Array Value) (i k : Nat) : ((List.range k).filterMap fun (m : Nat) => xs[((i : Int) + (m : Int) * 1).toNat]?).toArray = ((xs.toList.drop i).take k).toArray := by
  have e : (fun (m : Nat) => xs[((i : Int) + (m : Int) * 1).toNat]?) = fun m => xs[i + m]? := by
    funext m
    have : ((i : Int) + (m : Int) * 1).toNat = i + m := by omega
    rw [this]
  rw [e]
  have := pick_run xs i k
  rw [List.filterMap_map] at this
  have e2 : ((fun x => xs[x]?) ∘ fun x => i + x) = fun m => xs[i + m]? := rfl
  rw [e2] at this
  rw [this]

theorem getItem_tuple_cut {t sl : Addr} {items : Array Value} {vl vu : Value} {lo hi : Option Int} {Q : Value → Shared → Prop} (ht : IsTup s.heap t items) (hs : s.heap.IsSliceOf sl vl vu .none) (pl : IsPart vl lo) (pu : IsPart vu hi)
    (hw : ¬ (sIx items.size 0 lo = 0 ∧ sIx items.size items.size hi = items.size))
    (h : Q (.ref s.heap.objs.size) { s with heap := s.heap.push { cls := .type "tuple", data := .seq ((items.toList.drop (sIx items.size 0 lo)).take (sIx items.size items.size hi - sIx items.size 0 lo)).toArray } })
    (hsz : items.size ≤ sizeLine) : wpAny (model prog w) A (getItem (.ref t) (.ref sl)) Q E s := by
  have htake : sizeOk (.seq ((items.toList.drop (sIx items.size 0 lo)).take (sIx items.size items.size hi - sIx items.size 0 lo)).toArray) := by
    show ((items.toList.drop (sIx items.size 0 lo)).take (sIx items.size items.size hi - sIx items.size 0 lo)).toArray.size ≤ sizeLine
    rw [List.size_toArray, List.length_take, List.length_drop, Array.length_toList]
    omega
  have hj : sIx items.size items.size hi ≤ items.size := sIx_le _ _ (Nat.le_refl _) hi
  obtain ⟨os, hos, hcs, hds⟩ := id hs
  have hTs : s.TypeIs (.ref sl) "slice" := ⟨os, hos, hcs⟩
  unfold getItem
  try with_reducible refine wpAny_holding ?_
  first | refine wpAny_bind (wpAny_pure ?_) | skip
  refine wpAny_bind (wpAny_sequenceKey ht.typeIs (by decide) ?_)
  refine wpAny_bind (wpAny_callSpecial?_slot (name := Str.ofString "__getitem__") ht.typeIs PyProof.Rows.slot_tuple_getitem
    (wpAny_call_entry PyProof.Rows.slot_tuple_getitem ht.typeIs entry_tuple_getitem ?_ (args_tuple_getitem _ _)))
  show wpAny _ _ (Builtin.Tuple.tupleItemsOf (.ref t) >>= _) _ _ s
  refine wpAny_bind (tupleItemsOf_ ht ?_)
  refine wpAny_bind (wpAny_typeOf hTs ?_)
  rw [if_pos (by decide)]
  refine wpAny_bind (sliceApplied_gen hs pl pu ?_)
  have hno : ¬ ((((sIx items.size 0 lo : Nat) : Int) == 0 && (1 : Int) == 1 && (sIx items.size items.size hi - sIx items.size 0 lo) == items.size) = true) := by
    intro q
    rw [Bool.and_eq_true, Bool.and_eq_true] at q
    have q1 : ((sIx items.size 0 lo : Nat) : Int) = 0 := eq_of_beq q.1.1
    have q2 : sIx items.size items.size hi - sIx items.size 0 lo = items.size := eq_of_beq q.2
    exact hw ⟨by omega, by omega⟩
  show wpAny _ _ (if (((sIx items.size 0 lo : Nat) : Int) == 0 && (1 : Int) == 1 && (sIx items.size items.size hi - sIx items.size 0 lo) == items.size) = true then _ else _) _ _ s
  rw [if_neg hno, pick_gen]
  first
    | exact wpAny_bind (m := Builtin.Tuple.tupleExact _) (wpAny_newObj_type (wpAny_pure ⟨_, rfl, wpAny_pure h⟩) htake)
    | exact wpAny_bind (m := Builtin.Tuple.tupleExact _) (wpAny_newObj_type (wpAny_bind (wpAny_pure (wpAny_pure ⟨_, rfl, wpAny_pure h⟩))) htake)
    | exact wpAny_bind (wpAny_bind (m := Builtin.Tuple.tupleExact _) (wpAny_newObj_type (wpAny_pure (wpAny_pure ⟨_, rfl, wpAny_pure h⟩)) htake))
    | exact wpAny_bind (wpAny_bind (m := Builtin.Tuple.tupleExact _) (wpAny_newObj_type (wpAny_pure ⟨_, rfl, wpAny_pure h⟩) htake))
end
end HT

namespace L2
open PySem PySem.Spec PyProof.Rows

/-! ### the parts of a slice -/
abbrev TO := St → Hp → (Option Int → Hp → Prop) → Prop
/-- a slice's part (left out, or an int) -/
def PO (X : Cx) (e : Option Expr) (t : TO) : Prop :=
  ∀ (pins : List (Addr × Obj)) (s : Shared) (σ : St) (H : Hp) (Q : Option Int → Hp → Prop), Inv X pins σ H s → t σ H Q →
    wpAny (model X.prog X.w) X.A (evalPart e X.env) (fun u s' => ∃ o H', Inv X pins σ H' s' ∧ IsPart u o ∧ Q o H') X.xe s
def tNoPart : TO := fun _ H Q => Q none H
def tPart (t : TE) : TO := fun σ H Q => t σ H fun x H1 => ∃ i, x = .int i ∧ Q (some i) H1

theorem intsAre_of {ns : List Int} : ∀ {us : List Value}, Vals (ns.map V.int) us → IntsAre us ns := by
  induction ns with
  | nil => intro us r; rw [List.map_nil] at r; cases r; exact .nil
  | cons n ns ih =>
    intro us r
    rw [List.map_cons] at r
    cases r with
    | cons r1 r2 =>
      obtain ⟨t, e⟩ := r1
      subst e
      exact .cons n t (ih r2)

section
variable {X : Cx} {e : Expr} {te : TE} {lo hi : Option Expr} {tl th : TO} {pos p2 : Pos}

theorem po_none : PO X none tNoPart := by
  intro pins s σ H Q I h
  rw [evalPart_none]
  exact wpAny_pure ⟨none, H, I, .none, h⟩
theorem po_some (h : PE X e te) : PO X (some e) (tPart te) := by
  intro pins s σ H Q I hw
  rw [evalPart_some]
  refine thn (h pins s σ H _ I hw) fun u s1 ⟨x, H1, I1, r1, q1⟩ => ?_
  obtain ⟨i, rfl, q⟩ := q1
  obtain ⟨t, rfl⟩ := r1
  exact ⟨some i, H1, I1, .int i t, q⟩

/-- what a slice of a value is, by values: the slice object stands at sl -/
def SlR (X : Cx) (r : V → Option Int → Option Int → Hp → VK → Prop) : Prop :=
  ∀ (pins : List (Addr × Obj)) (s : Shared) (σ : St) (H : Hp) (x : V) (v vl vu : Value) (lo hi : Option Int) (sl : Addr) (Q : VK), Inv X pins σ H s → RelV x v → s.heap.IsSliceOf sl vl vu .none → IsPart vl lo → IsPart vu hi → r x lo hi H Q →
    ∃ T id, typeLookup (.type T) "__getitem__" = pure (some (.builtin id)) ∧ s.TypeIs v T ∧ wpAny (model X.prog X.w) X.A (getItem v (.ref sl)) (EP X pins σ Q) X.xe s
theorem SlR.or {r r' : V → Option Int → Option Int → Hp → VK → Prop} (h : SlR X r) (h' : SlR X r') : SlR X (fun x lo hi H Q => r x lo hi H Q ∨ r' x lo hi H Q) := by
  intro pins s σ H x v vl vu lo hi sl Q I rx hs pl pu q
  rcases q with q | q
  · exact h pins s σ H x v vl vu lo hi sl Q I rx hs pl pu q
  · exact h' pins s σ H x v vl vu lo hi sl Q I rx hs pl pu q
def tSl (r : V → Option Int → Option Int → Hp → VK → Prop) (te : TE) (tl th : TO) : TE := fun σ H Q => te σ H fun x H1 => tl σ H1 fun l H2 => th σ H2 fun u H3 => r x l u H3 Q
/-- a[lo:hi], any a -/
theorem pe_slice {r : V → Option Int → Option Int → Hp → VK → Prop} (hr : SlR X r) (he : PE X e te) (hl : PO X lo tl) (hu : PO X hi th) : PE X (.Subscript e (.Slice lo hi none p2) pos) (tSl r te tl th) := by
  intro pins s σ H Q I h
  refine Subscript_ (thn (he pins s σ H _ I h) fun v s1 ⟨x, H1, I1, r1, q1⟩ => ?_)
  refine wpAny_Slice (thn (hl pins s1 σ H1 _ I1 q1) fun vl s2 ⟨l, H2, I2, pl, q2⟩ => thn (hu pins s2 σ H2 _ I2 q2) fun vu s3 ⟨u, H3, I3, pu, q3⟩ => ?_)
  rw [evalPart_none]
  refine wpAny_pure ?_
  have I4 : Inv X pins σ H3 { s3 with heap := s3.heap.push { cls := .type "slice", data := .fields #[vl, vu, .none] } } := I3.kept (t' := s3.toks) fun b ob q => Heap.get?_push_of_some _ q
  obtain ⟨T, id, hT, ht, hg⟩ := hr pins { s3 with heap := s3.heap.push { cls := .type "slice", data := .fields #[vl, vu, .none] } } σ H3 x v vl vu l u s3.heap.objs.size Q I4 r1 (Heap.IsSliceOf.new ..) pl pu q3
  show wpAny (model X.prog X.w) X.A (subscriptTail e (.Slice lo hi none p2) v (.ref s3.heap.objs.size)) (EP X pins σ Q) X.xe { s3 with heap := s3.heap.push { cls := .type "slice", data := .fields #[vl, vu, .none] } }
  exact tail_any (ops := [.ref s3.heap.objs.size, v]) ht hT hg (by with_unfolding_all rfl)

/-- the items of xs[lo:hi] -/
def cutV (xs : List V) (lo hi : Option Int) : List V := (xs.drop (HT.sIx xs.length 0 lo)).take (HT.sIx xs.length xs.length hi - HT.sIx xs.length 0 lo)
theorem cutV_length (xs : List V) (lo hi : Option Int) : (cutV xs lo hi).length ≤ xs.length := by
  unfold cutV
  rw [List.length_take, List.length_drop]
  omega
/-- t[lo:hi], not the whole of it (the whole would be t itself) -/
def rSlT (K : PySem.W.Frag) : V → Option Int → Option Int → Hp → VK → Prop := fun x lo hi H Q => ∃ a xs, x = .ref a ∧ SqT K H a xs ∧
  ¬ (HT.sIx xs.length 0 lo = 0 ∧ HT.sIx xs.length xs.length hi = xs.length) ∧ ∀ p, H p = none → Q (.ref p) (upd H p (.tup (cutV xs lo hi)))
theorem sl_tup : SlR X (rSlT X.K) := by
  intro pins s σ H x v vl vu lo hi sl Q I rx hs pl pu h
  obtain ⟨a, xs, rfl, hx, hw, q⟩ := h
  cases rx
  obtain ⟨its, r, ht, hz⟩ := I.tuple hx
  have hlen : its.toArray.size = xs.length := by rw [List.size_toArray]; exact r.length.symm
  refine ⟨"tuple", _, PyProof.Rows.slot_tuple_getitem.lookup, ht.typeIs, ?_⟩
  refine HT.getItem_tuple_cut ht hs pl pu (by rw [hlen]; exact hw) ?_ (by rw [hlen]; exact hz)
  rw [hlen]
  refine ⟨.ref s.heap.objs.size, _, I.laid (t' := s.toks) (o := .tup (cutV xs lo hi)) (fun b ob q => Heap.get?_push_of_some _ q) (Nat.le_refl _) ?_, rfl, q _ (I.hok.fresh (Nat.le_refl _))⟩
  exact ⟨Nat.le_trans (cutV_length xs lo hi) hz, _, (r.drop (HT.sIx xs.length 0 lo)).take (HT.sIx xs.length xs.length hi - HT.sIx xs.length 0 lo), IsTup.new _ _⟩

/-! ### t < u, t + u -/
def rLtT (K : PySem.W.Frag) : R2 := fun x y H Q => ∃ a b ns ms, x = .ref a ∧ y = .ref b ∧ SqT K H a (ns.map V.int) ∧ SqT K H b (ms.map V.int) ∧ Q (.bl (HT.lexLt ns ms)) H
theorem op_ltT (hu : X.A.units < cLine) : OpR X (compareOp .Lt) (rLtT X.K) := by
  intro pins s σ H x y v u Q I rx ry h
  obtain ⟨a, b, ns, ms, rfl, rfl, ha, hb, q⟩ := h
  cases rx
  cases ry
  obtain ⟨its, r1, p1, _⟩ := I.tuple ha
  obtain ⟨its2, r2, p2, _⟩ := I.tuple hb
  have i1 : IntsAre its.toArray.toList ns := intsAre_of r1
  have i2 : IntsAre its2.toArray.toList ms := intsAre_of r2
  exact HT.lt_tupInts p1 p2 i1 i2 hu ⟨.bl (HT.lexLt ns ms), H, I, rfl, q⟩
/-- t + u, t not empty: u empty gives t itself -/
def rCatT (K : PySem.W.Frag) : R2 := fun x y H Q => ∃ a b xs ys, x = .ref a ∧ y = .ref b ∧ SqT K H a xs ∧ SqT K H b ys ∧ xs ≠ [] ∧ xs.length + ys.length ≤ sizeLine ∧
  (ys = [] → Q (.ref a) H) ∧ (ys ≠ [] → ∀ p, H p = none → Q (.ref p) (upd H p (.tup (xs ++ ys))))
theorem Vals.nil_iff {xs : List V} {us : List Value} (r : Vals xs us) : us = [] ↔ xs = [] := by
  cases r with
  | nil => simp
  | cons _ _ => simp
theorem op_catT : OpR X (binaryOp .Add) (rCatT X.K) := by
  intro pins s σ H x y v u Q I rx ry h
  obtain ⟨a, b, xs, ys, rfl, rfl, ha, hb, hx, hz, q1, q2⟩ := h
  cases rx
  cases ry
  obtain ⟨its, r1, p1, _⟩ := I.tuple ha
  obtain ⟨its2, r2, p2, _⟩ := I.tuple hb
  refine HT.cat_tup p1 p2 (fun z => hx (r1.nil_iff.mp z)) (fun z => ⟨.ref a, H, I, rfl, q1 (r2.nil_iff.mp z)⟩) (fun z => ?_) (by rw [← r1.length, ← r2.length]; exact hz)
  refine ⟨.ref s.heap.objs.size, _, I.laid (t' := s.toks) (o := .tup (xs ++ ys)) (fun b ob q => Heap.get?_push_of_some _ q) (Nat.le_refl _) ?_, rfl, q2 (fun w => z (r2.nil_iff.mpr w)) _ (I.hok.fresh (Nat.le_refl _))⟩
  exact ⟨by rw [List.length_append]; exact hz, _, r1.append r2, IsTup.new _ _⟩
/-- tuple(t) -/
theorem call_tupleT : CallR X (.type "tuple") (fun xs H Q => ∃ a ys, xs = [.ref a] ∧ SqT X.K H a ys ∧ Q (.ref a) H) := by
  intro pins s σ H xs us Q I r h
  obtain ⟨a, ys, rfl, ha, q⟩ := h
  obtain ⟨u, rfl, ru⟩ := vals1 r
  cases ru
  obtain ⟨its, _, p1, _⟩ := I.tuple ha
  exact call_tuple_same (items := its.toArray) p1 ⟨.ref a, H, I, rfl, q⟩
end
end L2

namespace L2
open PySem PySem.Spec PyProof.Rows

/-! ### places -/
/-- the place that an index of any sign means -/
def ixN (n : Nat) (i : Int) : Option Nat := if 0 ≤ i then (if i < n then some i.toNat else none) else if -(n : Int) ≤ i then some (i + n).toNat else none
def atI {α : Type} (xs : List α) (i : Int) : Option α := (ixN xs.length i).bind fun j => xs[j]?
theorem ixN_seq {n : Nat} {i : Int} {j : Nat} (h : ixN n i = some j) : seqIndex? i n = some j ∧ j < n ∧ -(n : Int) ≤ i ∧ i < n := by
  unfold ixN at h
  by_cases h0 : 0 ≤ i
  · rw [if_pos h0] at h
    by_cases h1 : i < n
    · rw [if_pos h1] at h
      have e : i.toNat = j := Option.some.inj h
      exact ⟨by rw [seqIndex_of h0 h1, e], by omega, by omega, h1⟩
    · rw [if_neg h1] at h; cases h
  · rw [if_neg h0] at h
    by_cases h1 : -(n : Int) ≤ i
    · rw [if_pos h1] at h
      have e : (i + n).toNat = j := Option.some.inj h
      exact ⟨by rw [seqIndex_neg (by omega) h1, e], by omega, h1, by omega⟩
    · rw [if_neg h1] at h; cases h
theorem atI_get {α : Type} {xs : List α} {i : Int} {v : α} (h : atI xs i = some v) : ∃ j, seqIndex? i xs.length = some j ∧ xs[j]? = some v ∧ j < xs.length ∧ -(xs.length : Int) ≤ i ∧ i < xs.length := by
  unfold atI at h
  cases e : ixN xs.length i with
  | none => rw [e] at h; cases h
  | some j =>
    rw [e] at h
    obtain ⟨h1, h2, h3, h4⟩ := ixN_seq e
    exact ⟨j, h1, h, h2, h3, h4⟩
theorem atI_nat {α : Type} {xs : List α} {j : Nat} {v : α} (h : xs[j]? = some v) : atI xs (j : Int) = some v := by
  have hj : j < xs.length := (List.getElem?_eq_some_iff.mp h).1
  have e : ixN xs.length (j : Int) = some j := by
    unfold ixN
    rw [if_pos (by omega), if_pos (by omega)]; simp
  unfold atI; rw [e]; exact h
theorem atI_last {α : Type} (xs : List α) (v : α) : atI (xs ++ [v]) (-1) = some v := by
  have hl : (xs ++ [v]).length = xs.length + 1 := by simp
  have e : ixN (xs ++ [v]).length (-1) = some xs.length := by
    unfold ixN
    rw [hl, if_neg (by decide), if_pos (by omega)]
    congr 1
    omega
  unfold atI
  rw [e]
  show (xs ++ [v])[xs.length]? = some v
  simp

/-! ### what may be subscripted -/
/-- what stands as an index of a plain subscript -/
def PlainIx (b : Expr) : Prop := ∀ o i, subscripted b false o i = operate [o, i] (getItem o i)
/-- a subscript by values -/
def IxR (X : Cx) (r : R2) : Prop :=
  ∀ (value slice : Expr) (pins : List (Addr × Obj)) (s : Shared) (σ : St) (H : Hp) (x y : V) (v u : Value) (Q : VK), Inv X pins σ H s → RelV x v → RelV y u → r x y H Q →
    subscripted slice false v u = operate [v, u] (getItem v u) → wpAny (model X.prog X.w) X.A (subscriptTail value slice v u) (EP X pins σ Q) X.xe s
/-- a call of a builtin's method by values: the receiver, the arguments -/
def MtR (X : Cx) (id : String) (r : V → List V → Hp → VK → Prop) : Prop :=
  ∀ (pins : List (Addr × Obj)) (s : Shared) (σ : St) (H : Hp) (x : V) (xs : List V) (v : Value) (us : List Value) (Q : VK), Inv X pins σ H s → RelV x v → Vals xs us → r x xs H Q →
    wpAny (model X.prog X.w) X.A (call (.builtin id) (v :: us)) (EP X pins σ Q) X.xe s
section
variable {X : Cx} {a b : Expr} {ta tb : TE} {pos : Pos}
theorem IxR.or {r r' : R2} (h : IxR X r) (h' : IxR X r') : IxR X (fun x y H Q => r x y H Q ∨ r' x y H Q) := by
  intro value slice pins s σ H x y v u Q I rx ry q hs
  rcases q with q | q
  · exact h value slice pins s σ H x y v u Q I rx ry q hs
  · exact h' value slice pins s σ H x y v u Q I rx ry q hs
theorem MtR.or {id : String} {r r' : V → List V → Hp → VK → Prop} (h : MtR X id r) (h' : MtR X id r') : MtR X id (fun x xs H Q => r x xs H Q ∨ r' x xs H Q) := by
  intro pins s σ H x xs v us Q I rx rs q
  rcases q with q | q
  · exact h pins s σ H x xs v us Q I rx rs q
  · exact h' pins s σ H x xs v us Q I rx rs q
/-- a[b] -/
theorem pe_ix {r : R2} (hr : IxR X r) (ha : PE X a ta) (hb : PE X b tb) (hs : PlainIx b) : PE X (.Subscript a b pos) (tOp r ta tb) := by
  intro pins s σ H Q I h
  exact Subscript_ (binT ha hb I h fun v u s2 x y H2 I2 rx ry q => hr a b pins s2 σ H2 x y v u Q I2 rx ry q (hs _ _))

def rIxL (K : PySem.W.Frag) : R2 := fun x y H Q => ∃ p xs i v, x = .ref p ∧ y = .int i ∧ SqL K H p xs ∧ atI xs i = some v ∧ Q v H
def rIxT (K : PySem.W.Frag) : R2 := fun x y H Q => ∃ p xs i v, x = .ref p ∧ y = .int i ∧ SqT K H p xs ∧ atI xs i = some v ∧ Q v H
def rIxS : R2 := fun x y H Q => ∃ z i c, x = .str z ∧ y = .int i ∧ z.length ≤ sizeLine ∧ atI z.cps.toList i = some c ∧ Q (.str ⟨#[c]⟩) H
theorem ix_list : IxR X (rIxL X.K) := by
  intro value slice pins s σ H x y v u Q I rx ry h hs
  obtain ⟨p, xs, i, z, rfl, rfl, hq, he, q⟩ := h
  cases rx
  obtain ⟨t, rfl⟩ := ry
  obtain ⟨its, r, pl, hz⟩ := I.list hq
  obtain ⟨j, h1, h2, h3, h4, h5⟩ := atI_get he
  obtain ⟨w, ew, rw'⟩ := r.get h2
  have hl := r.length
  have hn := line63
  have fin : EP X pins σ Q w s := ⟨z, H, I, rw', q⟩
  by_cases h0 : 0 ≤ i
  · have hj : i.toNat = j := by
      rw [seqIndex_of h0 h5] at h1
      exact Option.some.inj h1
    exact item_listR pl.isList h0 (by omega) (by rw [hj]; simpa using ew) fin hs
  · have hj : (i + (its.toArray.size : Int)).toNat = j := by
      rw [seqIndex_neg (by omega) h4] at h1
      rw [List.size_toArray, ← hl]
      exact Option.some.inj h1
    exact subscriptTail_builtinR (x := w) pl.isList.typeIs slot_list_getitem.lookup
      (wpAny_getItem_list_neg (Q := fun r s' => r = w ∧ EP X pins σ Q r s') pl.isList (by omega) (by rw [List.size_toArray] <;> omega) (by omega) (by rw [hj]; simpa using ew) ⟨rfl, fin⟩) hs
theorem ix_tup : IxR X (rIxT X.K) := by
  intro value slice pins s σ H x y v u Q I rx ry h hs
  obtain ⟨p, xs, i, z, rfl, rfl, hq, he, q⟩ := h
  cases rx
  obtain ⟨t, rfl⟩ := ry
  obtain ⟨its, r, pl, hz⟩ := I.tuple hq
  obtain ⟨j, h1, h2, h3, h4, h5⟩ := atI_get he
  obtain ⟨w, ew, rw'⟩ := r.get h2
  have hl := r.length
  have hn := line63
  have fin : EP X pins σ Q w s := ⟨z, H, I, rw', q⟩
  exact subscriptTail_builtinR (x := w) pl.typeIs slot_tuple_getitem.lookup
    (getItem_tuple (j := j) (Q := fun r s' => r = w ∧ EP X pins σ Q r s') pl (by omega) (by omega) (by rw [List.size_toArray, ← hl]; exact h1) (by simpa using ew) ⟨rfl, fin⟩) hs
theorem ix_str : IxR X rIxS := by
  intro value slice pins s σ H x y v u Q I rx ry h hs
  obtain ⟨z, i, c, rfl, rfl, hz, he, q⟩ := h
  obtain ⟨t, rfl⟩ := rx
  obtain ⟨t', rfl⟩ := ry
  obtain ⟨j, h1, h2, h3, h4, h5⟩ := atI_get he
  have hl : z.cps.toList.length = z.length := by simp [Str.length]
  rw [hl] at h1 h4 h5
  have hn := line63
  exact tail_any (typeIs_str s z t) slot_str_getitem.lookup (getItem_str (c := c) (by
    have e1 : decide (i < -(2 ^ 63 : Int)) = false := decide_eq_false (by omega)
    have e2 : decide (i ≥ 2 ^ 63) = false := decide_eq_false (by omega)
    rw [e1, e2, Bool.or_false]) (by rw [h1]; simpa using h2) ⟨.str ⟨#[c]⟩, H, I.tok _, ⟨_, rfl⟩, q⟩) hs
/-- list, tuple or str -/
def rIx (K : PySem.W.Frag) : R2 := fun x y H Q => rIxL K x y H Q ∨ rIxT K x y H Q ∨ rIxS x y H Q
theorem ix_seq : IxR X (rIx X.K) := ix_list.or (ix_tup.or ix_str)

/-! ### xs[i] = v, any sign -/
/-- the list's object behind a store -/
theorem mapSeq_set (its : List Value) (n j : Nat) (u : Value) : Obj.mapSeq (·.setIfInBounds j u) { cls := .type "list", data := .seq its.toArray n } = { cls := .type "list", data := .seq (its.set j u).toArray n } := by
  simp [Obj.mapSeq]
theorem Inv.lst {pins : List (Addr × Obj)} {σ : St} {H : Hp} {s : Shared} {p : Addr} {xs : List V} (I : Inv X pins σ H s) (h : H p = some (.lst xs)) :
    ∃ (its : List Value) (n : Nat), Vals xs its ∧ s.heap.get? p = some { cls := .type "list", data := .seq its.toArray n } ∧ xs.length ≤ sizeLine := by
  obtain ⟨z, its, n, r, e⟩ := I.hok p _ h
  exact ⟨its, n, r, e, z⟩
/-- the list at p is written by an update of its object -/
theorem Inv.lstUpd {pins : List (Addr × Obj)} {σ : St} {H : Hp} {s : Shared} {p : Addr} {xs ys : List V} {its its' : List Value} {n n' : Nat} {f : Obj → Obj} (I : Inv X pins σ H s) (h : H p = some (.lst xs))
    (ho : s.heap.get? p = some { cls := .type "list", data := .seq its.toArray n }) (hf : f { cls := .type "list", data := .seq its.toArray n } = { cls := .type "list", data := .seq its'.toArray n' }) (r : Vals ys its') (hz : ys.length ≤ sizeLine) (t : Nat) :
    Inv X pins σ (upd H p (.lst ys)) { s with heap := s.heap.update p f, toks := t } := by
  have e : (s.heap.update p f).get? p = some { cls := .type "list", data := .seq its'.toArray n' } := by
    rw [Heap.get?_update_self f ho (by rw [hf] <;> rfl), hf]
  refine I.write (x := p) (e := p) (by rw [h]; trivial) (.inl rfl) (fun b u hb q => (Heap.get?_update_other _ _ (Ne.symm hb)).trans q) ⟨_, e⟩ ?_
  exact ⟨hz, its', n', r, e⟩
def rSetL : V → V → V → Hp → (Hp → Prop) → Prop := fun o i v H Q => ∃ p xs k j, o = .ref p ∧ i = .int k ∧ H p = some (.lst xs) ∧ ixN xs.length k = some j ∧ Q (upd H p (.lst (xs.set j v)))
theorem set_list : PSet X rSetL := by
  intro pins s σ H o i v ov iv u Q I ro ri rv h
  obtain ⟨p, xs, k, j, rfl, rfl, hp, hj, q⟩ := h
  cases ro
  obtain ⟨t, rfl⟩ := ri
  obtain ⟨its, n, r, ho, hz⟩ := I.lst hp
  obtain ⟨h1, h2, h3, h4⟩ := ixN_seq hj
  have hl := r.length
  have hn := line63
  have I' : Inv X pins σ (upd H p (.lst (xs.set j v))) { s with heap := s.heap.update p (Obj.mapSeq (·.setIfInBounds j u)) } :=
    I.lstUpd hp ho (mapSeq_set its n j u) (r.set rv j) (by rw [List.length_set]; exact hz) s.toks
  by_cases h0 : 0 ≤ k
  · have hk : k.toNat = j := by
      rw [seqIndex_of h0 h4] at h1
      exact Option.some.inj h1
    exact PySem.W.ki_setAt ho h0 (by omega) (by rw [List.size_toArray, ← hl]; exact h4) (by rw [hk]; exact ⟨_, I', q⟩)
  · have hk : (k + (its.toArray.size : Int)).toNat = j := by
      rw [seqIndex_neg (by omega) h3] at h1
      rw [List.size_toArray, ← hl]
      exact Option.some.inj h1
    exact PySem.W.ki_setBack ho (by omega) (by rw [List.size_toArray, ← hl]; exact h3) (by omega) (by rw [hk]; exact ⟨_, I', q⟩)

/-! ### slices -/
theorem slice_bounds (lo hi : Option Int) (n : Nat) : (sliceBounds lo hi none n).1 = ((HT.sIx n 0 lo : Nat) : Int) ∧ (sliceBounds lo hi none n).2.1 = ((HT.sIx n n hi : Nat) : Int) ∧ (sliceBounds lo hi none n).2.2 = 1 := by
  refine ⟨?_, ?_, rfl⟩
  · cases lo with
    | none => simp [sliceBounds, HT.sIx]
    | some i =>
      simp only [sliceBounds, HT.sIx, Option.getD_none, show (1 : Int) > 0 by decide, if_true]
      by_cases h : i < 0
      · simp only [h, if_true] <;> omega
      · simp only [h, if_false] <;> omega
  · cases hi with
    | none => simp [sliceBounds, HT.sIx]
    | some i =>
      simp only [sliceBounds, HT.sIx, Option.getD_none, show (1 : Int) > 0 by decide, if_true]
      by_cases h : i < 0
      · simp only [h, if_true] <;> omega
      · simp only [h, if_false] <;> omega
theorem slicePick_cut (its : List Value) (lo hi : Option Int) : slicePick its.toArray lo hi none = ((its.drop (HT.sIx its.length 0 lo)).take (HT.sIx its.length its.length hi - HT.sIx its.length 0 lo)).toArray := by
  obtain ⟨h1, h2, h3⟩ := slice_bounds lo hi its.toArray.size
  unfold slicePick
  rw [h1, h2, h3]
  simp only [sliceRange_one, pick_run, List.size_toArray] <;> rfl
/-- xs[lo:hi] of a list: a new list -/
def rSlL (K : PySem.W.Frag) : V → Option Int → Option Int → Hp → VK → Prop := fun x lo hi H Q => ∃ a xs, x = .ref a ∧ SqL K H a xs ∧ ∀ p, H p = none → Q (.ref p) (upd H p (.lst (cutV xs lo hi)))
theorem sl_list : SlR X (rSlL X.K) := by
  intro pins s σ H x v vl vu lo hi sl Q I rx hs pl pu h
  obtain ⟨a, xs, rfl, hx, q⟩ := h
  cases rx
  obtain ⟨its, r, ht, hz⟩ := I.list hx
  have hlen := r.length
  refine ⟨"list", _, slot_list_getitem.lookup, ht.isList.typeIs, ?_⟩
  refine wpAny_getItem_list_slice ht.isList hs pl pu .none (by simp) ?_ (by rw [List.size_toArray] <;> omega)
  rw [slicePick_cut, ← hlen]
  refine ⟨.ref s.heap.objs.size, _, I.laid (t' := s.toks) (o := .lst (cutV xs lo hi)) (fun b ob q => Heap.get?_push_of_some _ q) (Nat.le_refl _) ?_, rfl, q _ (I.hok.fresh (Nat.le_refl _))⟩
  exact ⟨Nat.le_trans (cutV_length xs lo hi) hz, _, 0, (r.drop (HT.sIx xs.length 0 lo)).take (HT.sIx xs.length xs.length hi - HT.sIx xs.length 0 lo), Heap.get?_push_size _ rfl⟩

/-! ### in, not in: flat items -/
def flatV : V → Bool
  | .non => true
  | .bl _ => true
  | .int _ => true
  | .str _ => true
  | _ => false
/-- == of flat values -/
def eqV : V → V → Bool
  | .non, .non => true
  | .bl a, .bl b => a == b
  | .bl a, .int b => (if a then 1 else 0) == b
  | .int a, .bl b => a == (if b then 1 else 0)
  | .int a, .int b => a == b
  | .str a, .str b => a == b
  | _, _ => false
theorem eqAt_V {A : Around} {s : Shared} {y x : V} {u v : Value} (ry : RelV y u) (rx : RelV x v) (fy : flatV y = true) (fx : flatV x = true) : SeqAt.EqAt A s u v (eqV y x) := by
  cases y with
  | non =>
    cases ry
    cases x with
    | non => cases rx; exact SeqAt.EqAt.same _
    | bl b => cases rx; exact SeqAt.EqAt.none_bool b
    | int b => obtain ⟨t, rfl⟩ := rx; exact SeqAt.EqAt.none_int b t
    | str b => obtain ⟨t, rfl⟩ := rx; exact SeqAt.EqAt.none_str b t
    | _ => exact absurd (show false = true from fx) Bool.false_ne_true
  | bl a =>
    cases ry
    cases x with
    | non => cases rx; exact SeqAt.EqAt.bool_none a
    | bl b => cases rx; exact SeqAt.EqAt.bool_bool a b
    | int b => obtain ⟨t, rfl⟩ := rx; exact SeqAt.EqAt.bool_int a b t
    | str b => obtain ⟨t, rfl⟩ := rx; exact SeqAt.EqAt.bool_str a b t
    | _ => exact absurd (show false = true from fx) Bool.false_ne_true
  | int a =>
    obtain ⟨t', rfl⟩ := ry
    cases x with
    | non => cases rx; exact SeqAt.EqAt.int_none a t'
    | bl b => cases rx; exact SeqAt.EqAt.int_bool a t' b
    | int b => obtain ⟨t, rfl⟩ := rx; exact SeqAt.EqAt.int_int a t' b t
    | str b => obtain ⟨t, rfl⟩ := rx; exact SeqAt.EqAt.int_str a t' b t
    | _ => exact absurd (show false = true from fx) Bool.false_ne_true
  | str a =>
    obtain ⟨t', rfl⟩ := ry
    cases x with
    | non => cases rx; exact SeqAt.EqAt.str_none a t'
    | bl b => cases rx; exact SeqAt.EqAt.str_bool a t' b
    | int b => obtain ⟨t, rfl⟩ := rx; exact SeqAt.EqAt.str_int a t' b t
    | str b => obtain ⟨t, rfl⟩ := rx; exact SeqAt.EqAt.str_str a t' b t
    | _ => exact absurd (show false = true from fx) Bool.false_ne_true
  | _ => exact absurd (show false = true from fy) Bool.false_ne_true
/-- the items' answers, read off the values (a value's own answer does not lean on its token) -/
def eqU (x : V) (u : Value) : Bool := match u with
  | .none => eqV .non x
  | .bool b => eqV (.bl b) x
  | .int i _ => eqV (.int i) x
  | .str z _ => eqV (.str z) x
  | _ => false
theorem eqU_of {x y : V} {u : Value} (r : RelV y u) (f : flatV y = true) : eqU x u = eqV y x := by
  cases y with
  | non => cases r; rfl
  | bl b => cases r; rfl
  | int i => obtain ⟨t, rfl⟩ := r; rfl
  | str z => obtain ⟨t, rfl⟩ := r; rfl
  | _ => exact absurd (show false = true from f) Bool.false_ne_true
theorem any_eqU {x : V} : ∀ {xs : List V} {us : List Value}, Vals xs us → xs.all flatV = true → us.any (eqU x) = xs.any fun y => eqV y x
  | _, _, .nil, _ => rfl
  | y :: xs, u :: us, .cons r t, f => by
    rw [List.all_cons, Bool.and_eq_true] at f
    rw [List.any_cons, List.any_cons, eqU_of r f.1, any_eqU t f.2]
theorem mem_eqAt {A : Around} {s : Shared} {x : V} {v : Value} (rx : RelV x v) (fx : flatV x = true) : ∀ {xs : List V} {us : List Value}, Vals xs us → xs.all flatV = true → ∀ u ∈ us, SeqAt.EqAt A s u v (eqU x u)
  | _, _, .nil, _ => fun u hu => by cases hu
  | y :: xs, u :: us, .cons r t, f => fun u' hu => by
    rw [List.all_cons, Bool.and_eq_true] at f
    rcases List.mem_cons.mp hu with rfl | hu
    · rw [eqU_of r f.1]; exact eqAt_V r rx f.1 fx
    · exact mem_eqAt rx fx t f.2 u' hu
def inV (x : V) (xs : List V) : Bool := xs.any fun y => eqV y x
/-- x in a list or tuple of flat items -/
def rIn (K : PySem.W.Frag) (neg : Bool) : R2 := fun x y H Q => ∃ p xs, y = .ref p ∧ (SqL K H p xs ∨ SqT K H p xs) ∧ flatV x = true ∧ xs.all flatV = true ∧ Q (.bl (if neg then !inV x xs else inV x xs)) H
theorem op_in_seq : OpR X (compareOp .In) (rIn X.K false) := by
  intro pins s σ H x y v u Q I rx ry h
  obtain ⟨p, xs, rfl, hq, fx, fs, q⟩ := h
  cases ry
  rcases hq with hq | hq
  · obtain ⟨its, r, pl, hz⟩ := I.list hq
    refine SeqAt.in_listAt (eqU x) pl.isList (fun w hw => mem_eqAt rx fx r fs w (by simpa using hw)) ⟨.bl _, H, I, rfl, ?_⟩
    rw [show its.toArray.any (eqU x) = its.any (eqU x) by simp, any_eqU r fs]
    exact q
  · obtain ⟨its, r, pl, hz⟩ := I.tuple hq
    refine SeqAt.in_tupleAt (eqU x) pl (fun w hw => mem_eqAt rx fx r fs w (by simpa using hw)) ⟨.bl _, H, I, rfl, ?_⟩
    rw [show its.toArray.any (eqU x) = its.any (eqU x) by simp, any_eqU r fs]
    exact q
theorem op_notIn_seq : OpR X (compareOp .NotIn) (rIn X.K true) := by
  intro pins s σ H x y v u Q I rx ry h
  obtain ⟨p, xs, rfl, hq, fx, fs, q⟩ := h
  cases ry
  rcases hq with hq | hq
  · obtain ⟨its, r, pl, hz⟩ := I.list hq
    refine SeqAt.notIn_listAt (eqU x) pl.isList (fun w hw => mem_eqAt rx fx r fs w (by simpa using hw)) ⟨.bl _, H, I, rfl, ?_⟩
    rw [show its.toArray.any (eqU x) = its.any (eqU x) by simp, any_eqU r fs]
    exact q
  · obtain ⟨its, r, pl, hz⟩ := I.tuple hq
    refine SeqAt.notIn_tupleAt (eqU x) pl (fun w hw => mem_eqAt rx fx r fs w (by simpa using hw)) ⟨.bl _, H, I, rfl, ?_⟩
    rw [show its.toArray.any (eqU x) = its.any (eqU x) by simp, any_eqU r fs]
    exact q
theorem op_notIn_str : OpR X (compareOp .NotIn) (fun x y H Q => ∃ i j, x = .str i ∧ y = .str j ∧ Q (.bl (!(!(Builtin.Str.occurrences j i 0 j.length 1).isEmpty))) H) := by
  intro pins s σ H x y v u Q I rx ry h
  obtain ⟨i, j, rfl, rfl, q⟩ := h
  obtain ⟨t, rfl⟩ := rx
  obtain ⟨t', rfl⟩ := ry
  exact notIn_str ⟨.bl _, H, I, rfl, q⟩

/-! ### len, list(x), tuple(x) of any list or tuple that is read -/
theorem call_len_seq : CallR X (.builtin "len") (fun xs H Q => ∃ p ys, xs = [.ref p] ∧ (SqL X.K H p ys ∨ SqT X.K H p ys) ∧ Q (.int ys.length) H) := by
  intro pins s σ H xs us Q I r h
  obtain ⟨p, ys, rfl, hq, q⟩ := h
  obtain ⟨u, rfl, rx⟩ := vals1 r
  cases rx
  have hn := line63
  rcases hq with hq | hq
  · obtain ⟨its, r', pl, hz⟩ := I.list hq
    have hlen := r'.length
    exact Calls.call_len_list pl.isList (by simp only [List.size_toArray] <;> omega) ⟨.int ys.length, H, I.tok _, ⟨s.toks + 1, by rw [List.size_toArray, hlen]⟩, q⟩
  · obtain ⟨its, r', pl, hz⟩ := I.tuple hq
    have hlen := r'.length
    exact len_tuple pl (by simp only [List.size_toArray] <;> omega) ⟨.int ys.length, H, I.tok _, ⟨s.toks + 1, by rw [List.size_toArray, hlen]⟩, q⟩
theorem call_len_str : CallR X (.builtin "len") (fun xs H Q => ∃ z, xs = [.str z] ∧ z.length ≤ sizeLine ∧ Q (.int z.length) H) := by
  intro pins s σ H xs us Q I r h
  obtain ⟨z, rfl, hz, q⟩ := h
  obtain ⟨u, rfl, t, rfl⟩ := vals1 r
  have hn := line63
  exact len_str (by omega) ⟨.int z.length, H, I.tok _, ⟨_, rfl⟩, q⟩
theorem CallR.or {f : Value} {r r' : List V → Hp → VK → Prop} (h : CallR X f r) (h' : CallR X f r') : CallR X f (fun xs H Q => r xs H Q ∨ r' xs H Q) := by
  intro pins s σ H xs us Q I rs q
  rcases q with q | q
  · exact h pins s σ H xs us Q I rs q
  · exact h' pins s σ H xs us Q I rs q
theorem call_list_of : CallR X (.type "list") (fun xs H Q => ∃ p ys, xs = [.ref p] ∧ (SqL X.K H p ys ∨ SqT X.K H p ys) ∧ ∀ l, H l = none → Q (.ref l) (upd H l (.lst ys))) := by
  intro pins s σ H xs us Q I r h
  obtain ⟨p, ys, rfl, hq, q⟩ := h
  obtain ⟨u, rfl, rx⟩ := vals1 r
  cases rx
  have fin : ∀ (its : List Value), Vals ys its → ys.length ≤ sizeLine → ∀ (h' : Heap) (c' : Nat), (∀ b o', s.heap.get? b = some o' → h'.get? b = some o') →
      h'.get? s.heap.objs.size = some { cls := .type "list", dict := none, data := .seq its.toArray c', slots := #[] } → EP X pins σ Q (.ref s.heap.objs.size) { s with heap := h' } := fun its r' hz h' c' kp e =>
    ⟨.ref s.heap.objs.size, _, I.laid (t' := s.toks) kp (Nat.le_refl _) (show ObjOk X.prog X.w _ h' _ (.lst ys) from ⟨hz, its, c', r', e⟩), rfl, q _ (I.hok.fresh (Nat.le_refl _))⟩
  rcases hq with hq | hq
  · obtain ⟨its, r', pl, hz⟩ := I.list hq
    have hlen := r'.length
    obtain ⟨o, ho, hc, n, hd⟩ := pl.isList
    exact call_list_seq p (.inl rfl) ho hc hd (fun h' c' kp e => fin its r' hz h' c' kp e) (by simp only [List.size_toArray] <;> omega)
  · obtain ⟨its, r', pl, hz⟩ := I.tuple hq
    have hlen := r'.length
    obtain ⟨o, ho, hc, n, hd⟩ := pl
    exact call_list_seq p (.inr rfl) ho hc hd (fun h' c' kp e => fin its r' hz h' c' kp e) (by simp only [List.size_toArray] <;> omega)
theorem call_tuple_of : CallR X (.type "tuple") (fun xs H Q => ∃ p ys, xs = [.ref p] ∧ ((SqL X.K H p ys ∧ ∀ l, H l = none → Q (.ref l) (upd H l (.tup ys))) ∨ (SqT X.K H p ys ∧ Q (.ref p) H))) := by
  intro pins s σ H xs us Q I r h
  obtain ⟨p, ys, rfl, h⟩ := h
  obtain ⟨u, rfl, rx⟩ := vals1 r
  cases rx
  rcases h with ⟨hq, q⟩ | ⟨hq, q⟩
  · obtain ⟨its, r', pl, hz⟩ := I.list hq
    have hlen := r'.length
    refine call_tuple_list pl.isList (fun h' kp => ?_) (by simp only [List.size_toArray] <;> omega)
    have I1 : Inv X pins σ H { s with heap := h' } := I.kept (t' := s.toks) kp
    have I2 : Inv X pins σ (upd H h'.objs.size (.tup ys)) { s with heap := h'.push { cls := .type "tuple", data := .seq its.toArray } } :=
      I1.laid (t' := s.toks) (fun b o e => Heap.get?_push_of_some _ e) (Nat.le_refl _) (show ObjOk X.prog X.w _ _ _ (.tup ys) from ⟨hz, its, r', IsTup.new _ _⟩)
    exact ⟨.ref h'.objs.size, _, I2, rfl, q _ (I1.hok.fresh (Nat.le_refl _))⟩
  · obtain ⟨its, r', pl, hz⟩ := I.tuple hq
    exact call_tuple_same pl ⟨.ref p, H, I, rfl, q⟩

/-! ### the call of a builtin's method: o.m(..) -/
/-- the value is of that builtin type -/
def tyV (K : PySem.W.Frag) (T : String) (x : V) (H : Hp) : Prop := match x with
  | .str _ => T = "str"
  | .int _ => T = "int"
  | .ref p => (T = "list" ∧ ∃ xs, SqL K H p xs) ∨ (T = "tuple" ∧ ∃ o, K.lookup p = some o ∧ o.cls = .type "tuple" ∧ o.dict = none) ∨
      (T = "dict" ∧ ((∃ kvs, H p = some (.dK kvs)) ∨ ∃ kvs, H p = some (.dT kvs))) ∨ (T = "set" ∧ ∃ S n, H p = some (.set S n))
  | _ => False
theorem tyV_is {pins : List (Addr × Obj)} {σ : St} {H : Hp} {s : Shared} {T : String} {x : V} {v : Value} (I : Inv X pins σ H s) (r : RelV x v) (ty : tyV X.K T x H) :
    s.TypeIs v T ∧ ∀ a, v = .ref a → ∃ ob, s.heap.get? a = some ob ∧ ob.dict = none := by
  cases x with
  | str z =>
    obtain ⟨t, rfl⟩ := r
    cases (show T = "str" from ty)
    exact ⟨typeIs_str s z t, fun _ e => nomatch e⟩
  | int i =>
    obtain ⟨t, rfl⟩ := r
    cases (show T = "int" from ty)
    exact ⟨typeIs_int s i t, fun _ e => nomatch e⟩
  | ref p =>
    cases r
    rcases ty with ⟨rfl, xs, hq⟩ | ⟨rfl, o, hk, hc, hd⟩ | ⟨rfl, hk⟩ | ⟨rfl, S, n, hk⟩
    · obtain ⟨its, _, pl, _⟩ := I.list hq
      refine ⟨pl.isList.typeIs, fun a e => ?_⟩
      cases e
      obtain ⟨o, n, e, c, hd, _⟩ := pl
      exact ⟨o, e, hd⟩
    · refine ⟨⟨o, I.kIn p o hk, hc⟩, fun a e => ?_⟩
      cases e
      exact ⟨o, I.kIn _ o hk, hd⟩
    · have z : ∃ o, s.heap.get? p = some o ∧ o.ExactDict := by
        rcases hk with ⟨kvs, hk⟩ | ⟨kvs, hk⟩
        · obtain ⟨_, _, _, _, o, _, _, e, ex, _⟩ := I.hok p _ hk
          exact ⟨o, e, ex⟩
        · obtain ⟨_, _, _, _, o, _, _, e, ex, _⟩ := I.hok p _ hk
          exact ⟨o, e, ex⟩
      obtain ⟨o, e, ex⟩ := z
      refine ⟨⟨o, e, ex.1⟩, fun a e2 => ?_⟩
      cases e2
      exact ⟨o, e, ex.2.1⟩
    · obtain ⟨o, _, _, _, e, ex, _⟩ := I.hok p _ hk
      refine ⟨⟨o, e, ex.1⟩, fun a e2 => ?_⟩
      cases e2
      exact ⟨o, e, ex.2.1⟩
  | _ => exact False.elim ty
def tBM0 (K : PySem.W.Frag) (T : String) (r : V → List V → Hp → VK → Prop) (to : TE) : TE := fun σ H Q => to σ H fun x H1 => tyV K T x H1 ∧ r x [] H1 Q
def tBM (K : PySem.W.Frag) (T : String) (r : V → List V → Hp → VK → Prop) (to : TE) (t : TA) : TE := fun σ H Q => to σ H fun x H1 => tyV K T x H1 ∧ t σ H1 fun xs H2 => r x xs H2 Q
variable {o e : Expr} {es : List Expr} {to : TE} {t : TA} {name : Str} {apos cpos : Pos} {T id : String} {r : V → List V → Hp → VK → Prop}
theorem pe_bm0 (pa : PlainAttrs T) (slot : Slot T name id) (hty : typeOf (.builtin id) = pure (.type "method_descriptor")) (hm : MtR X id r) (ho : PE X o to)
    (hbase : attributeBase o name X.env (eval o X.env) = eval o X.env := by rfl) (hline : (apos.endLine == cpos.line) = true := by rfl) : PE X (.Call (.Attribute o name apos) [] [] cpos) (tBM0 X.K T r to) := by
  intro pins s σ H Q I h
  refine wpAny_Call_method0_late hbase hline (thn (ho pins s σ H _ I h) fun v s1 ⟨x, H1, I1, r1, ty, q1⟩ => ?_)
  obtain ⟨h1, h2⟩ := tyV_is I1 r1 ty
  exact ⟨T, id, pa, slot, hty, h1, h2, Calls.callWith_builtin rfl (PySem.evalArgs_none (hm pins s1 σ H1 x [] v [] Q I1 r1 .nil q1))⟩
theorem pe_bm (pa : PlainAttrs T) (slot : Slot T name id) (hty : typeOf (.builtin id) = pure (.type "method_descriptor")) (hm : MtR X id r) (ho : PE X o to) (ha : PA X (e :: es) t)
    (hbase : attributeBase o name X.env (eval o X.env) = eval o X.env := by rfl)
    (hfew : ((backTo cpos (starEach (e :: es) X.env)).all (fun x => !x.1) && (backToKw cpos (keywordEach [] X.env)).all (fun x => x.1.isSome)
      && decide ((e :: es).length + ([] : List Keyword).length + (if ([] : List Keyword).isEmpty then 0 else 1) < 30)) = true := by rfl)
    (hline : (apos.endLine == cpos.line) = true := by rfl) (hs : starEach (e :: es) X.env = (false, eval e X.env) :: starEach es X.env := by rfl) (hplain : (backTo cpos (starEach es X.env)).any (·.1) = false := by rfl) :
    PE X (.Call (.Attribute o name apos) (e :: es) [] cpos) (tBM X.K T r to t) := by
  intro pins s σ H Q I h
  refine wpAny_Call_method_late hbase hfew hline rfl (thn (ho pins s σ H _ I h) fun v s1 ⟨x, H1, I1, r1, ty, q1⟩ => ?_)
  obtain ⟨h1, h2⟩ := tyV_is I1 r1 ty
  refine ⟨T, id, pa, slot, hty, h1, h2, ?_⟩
  have hA := ha cpos pins s1 σ H1 _ I1 q1
  rw [hs] at hA ⊢
  refine Calls.callWith_builtin (by show (false || (backTo cpos (starEach es X.env)).any (·.1)) = false; rw [hplain] <;> rfl) (Calls.evalArgs_plain ?_)
  exact thn hA fun us s2 ⟨vs, H2, I2, r2, q2⟩ => hm pins s2 σ H2 x vs v us Q I2 r1 r2 q2
/- xs.append(e), list.index on a module's tuple .. are MtR facts of 06m -/
end
end L2

namespace L2
open PySem PySem.Spec PyProof.Rows

def MtM (X : Cx) (id : String) (r : V → List V → Hp → VK → Prop) : Prop :=
  ∀ (pins : List (Addr × Obj)) (s : Shared) (σ : St) (H : Hp) (x : V) (xs : List V) (v : Value) (us : List Value) (Q : VK), Inv X pins σ H s → RelV x v → Vals xs us → r x xs H Q →
    wpAny (model X.prog X.w) X.A (call (.builtin id) (v :: us)) (EP X pins σ Q) X.xe s

/-! ### lists of values -/
theorem Vals.one : ∀ {x : V} {us : List Value}, Vals [x] us → ∃ u, us = [u] ∧ RelV x u
  | _, _, .cons r .nil => ⟨_, rfl, r⟩
theorem Vals.two : ∀ {x y : V} {us : List Value}, Vals [x, y] us → ∃ u v, us = [u, v] ∧ RelV x u ∧ RelV y v
  | _, _, _, .cons r (.cons q .nil) => ⟨_, _, rfl, r, q⟩
theorem Vals.zero : ∀ {us : List Value}, Vals [] us → us = []
  | _, .nil => rfl
theorem Vals.dropLast {xs : List V} {us : List Value} (h : Vals xs us) : Vals xs.dropLast us.dropLast := by
  induction h with
  | nil => exact .nil
  | cons r t ih =>
    cases t with
    | nil => exact .nil
    | cons q t' => exact .cons r ih
theorem Vals.eraseIdx : ∀ {xs : List V} {us : List Value} (i : Nat), Vals xs us → Vals (xs.eraseIdx i) (us.eraseIdx i)
  | _, _, _, .nil => .nil
  | _, _, 0, .cons _ t => t
  | _, _, i + 1, .cons r t => .cons r (Vals.eraseIdx i t)
theorem Vals.reverse {xs : List V} {us : List Value} (h : Vals xs us) : Vals xs.reverse us.reverse := by
  induction h with
  | nil => exact .nil
  | cons r t ih => rw [List.reverse_cons, List.reverse_cons]; exact Vals.append ih (.cons r .nil)
theorem Vals.rep {xs : List V} {us : List Value} (h : Vals xs us) : ∀ k : Nat, Vals (List.replicate k xs).flatten (List.replicate k us).flatten
  | 0 => .nil
  | k + 1 => by
    rw [List.replicate_succ, List.replicate_succ, List.flatten_cons, List.flatten_cons]
    exact Vals.append h (Vals.rep h k)
theorem erase_last {α : Type} (l : List α) : l.eraseIdx (l.length - 1) = l.dropLast := by
  induction l with
  | nil => rfl
  | cons a r ih =>
    cases r with
    | nil => rfl
    | cons b r =>
      have e : (a :: b :: r).length - 1 = ((b :: r).length - 1) + 1 := by
        have h1 : (a :: b :: r).length = r.length + 2 := rfl
        have h2 : (b :: r).length = r.length + 1 := rfl
        omega
      rw [e, List.eraseIdx_cons_succ, ih]
      all_goals rfl
theorem len_erase {α : Type} : ∀ (l : List α) (i : Nat), (l.eraseIdx i).length ≤ l.length
  | [], _ => Nat.le_refl _
  | _ :: _, 0 => Nat.le_succ _
  | _ :: r, i + 1 => Nat.succ_le_succ (len_erase r i)
theorem foldl_rep (its : List Value) : ∀ (k : Nat) (acc : List Value),
    List.foldl (fun x1 x2 => x1 ++ x2) acc.toArray (List.replicate k its.toArray) = (acc ++ (List.replicate k its).flatten).toArray
  | 0, acc => by simp
  | k + 1, acc => by
    have e : acc.toArray ++ its.toArray = (acc ++ its).toArray := by simp
    have e2 : (acc ++ its) ++ (List.replicate k its).flatten = acc ++ (List.replicate (k + 1) its).flatten := by
      rw [List.replicate_succ, List.flatten_cons, List.append_assoc]
    rw [← e2, ← foldl_rep its k (acc ++ its), ← e, List.replicate_succ, List.foldl_cons]

section
variable {X : Cx} {pins : List (Addr × Obj)} {σ : St} {H : Hp} {s : Shared} {l b : Addr} {xs ys zs : List V}

/-! ### the two steps: a tracked list is rewritten, a new list is laid -/
theorem Inv.lset {its its' : List Value} {n : Nat} {f : Array Value → Array Value} {t' : Nat} (I : Inv X pins σ H s) (hH : H l = some (.lst xs))
    (e : s.heap.get? l = some { cls := .type "list", data := .seq its.toArray n }) (hf : f its.toArray = its'.toArray) (hv : Vals ys its') (hz : ys.length ≤ sizeLine) :
    Inv X pins σ (upd H l (.lst ys)) { s with heap := s.heap.update l (Obj.mapSeq f), toks := t' } := by
  have q := PySem.IsL.update e f
  rw [hf] at q
  refine I.write (x := l) (e := l) (by rw [hH]; exact trivial) (.inl rfl) (fun b' u hb hu => (Heap.get?_update_other s.heap (Obj.mapSeq f) (Ne.symm hb)).trans hu) ⟨_, q⟩ ?_
  exact ⟨hz, its', _, hv, q⟩
theorem Inv.lnew {its : List Value} {t' : Nat} (I : Inv X pins σ H s) (hv : Vals ys its) (hz : ys.length ≤ sizeLine) :
    Inv X pins σ (upd H s.heap.objs.size (.lst ys)) { s with heap := s.heap.push { cls := .type "list", data := .seq its.toArray }, toks := t' } :=
  I.laid (fun _ _ q => Heap.get?_push_of_some _ q) (Nat.le_refl _) ⟨hz, its, 0, hv, Heap.get?_push_size _ rfl⟩
theorem Inv.fresh (I : Inv X pins σ H s) : H s.heap.objs.size = none := I.hok.fresh (Nat.le_refl _)
theorem Inv.lstM (I : Inv X pins σ H s) (hH : H l = some (.lst xs)) : xs.length ≤ sizeLine ∧ ∃ (its : List Value) (n : Nat), Vals xs its ∧ xs.length = its.length ∧ s.heap.get? l = some { cls := .type "list", data := .seq its.toArray n } := by
  obtain ⟨z, its, n, r, e⟩ := I.hok l _ hH
  exact ⟨z, its, n, r, r.length, e⟩

theorem notLongL {n : Nat} (h : n ≤ sizeLine) : Builtin.List.listTooLong n = false := by
  unfold Builtin.List.listTooLong
  exact decide_eq_false (by omega)
end

section
variable {X : Cx}

/-! ### methods -/
def rAppend : V → List V → Hp → VK → Prop := fun x vs H Q => ∃ l xs y, x = .ref l ∧ vs = [y] ∧ H l = some (.lst xs) ∧ xs.length < sizeLine ∧ Q .non (upd H l (.lst (xs ++ [y])))
theorem mt_append : MtM X "list.append" rAppend := by
  intro pins s σ H x vs v us Q I rx rv h
  obtain ⟨l, xs, y, rfl, rfl, hH, hz, q⟩ := h
  cases rx
  obtain ⟨u, rfl, ru⟩ := rv.one
  obtain ⟨z, its, n, r, hl, e⟩ := I.lstM hH
  refine call_meets F.slot_list_append ⟨_, e, rfl⟩ F.entry_list_append (F.args_list_append_2 _ _) (PySem.list_append l its.toArray n u (by rw [List.size_toArray]; omega)) ⟨e, ?_⟩
  refine ⟨.non, _, I.lset (its' := its ++ [u]) hH e (by simp) (r.append (.cons ru .nil)) ?_, rfl, q⟩
  rw [List.length_append, List.length_singleton]
  omega

def rExtend : V → List V → Hp → VK → Prop := fun x vs H Q => ∃ l b xs zs, x = .ref l ∧ vs = [.ref b] ∧ H l = some (.lst xs) ∧ H b = some (.lst zs) ∧ xs.length + zs.length ≤ sizeLine ∧ Q .non (upd H l (.lst (xs ++ zs)))
theorem mt_extend : MtM X "list.extend" rExtend := by
  intro pins s σ H x vs v us Q I rx rv h
  obtain ⟨l, b, xs, zs, rfl, rfl, hH, hB, hz, q⟩ := h
  cases rx
  obtain ⟨u, rfl, ru⟩ := rv.one
  cases ru
  obtain ⟨z, its, n, r, hl, e⟩ := I.lstM hH
  obtain ⟨z2, its2, n2, r2, hl2, e2⟩ := I.lstM hB
  have hsz : its.toArray.size + its2.toArray.size ≤ sizeLine := by rw [List.size_toArray, List.size_toArray]; omega
  have hlong : ¬ (!its.toArray.isEmpty && Builtin.List.listTooLong (its.toArray.size + its2.toArray.size)) = true := by
    rw [notLongL hsz, Bool.and_false]
    exact Bool.false_ne_true
  refine call_meets F.slot_list_extend ⟨_, e, rfl⟩ F.entry_list_extend (F.args_list_extend_2 _ _)
    (AutoSeq1.list_extend_list_list_0 l its.toArray n b its2.toArray n2 hlong (by rw [List.size_toArray]; omega) (by omega)) ⟨e, e2, ?_⟩
  refine ⟨.non, _, I.lset (its' := its ++ its2) hH e (by simp) (r.append r2) ?_, rfl, q⟩
  rw [List.length_append]
  omega

def rPop : V → List V → Hp → VK → Prop := fun x vs H Q => ∃ l xs y, x = .ref l ∧ vs = [] ∧ H l = some (.lst xs) ∧ xs[xs.length - 1]? = some y ∧ Q y (upd H l (.lst xs.dropLast))
theorem mt_pop : MtM X "list.pop" rPop := by
  intro pins s σ H x vs v us Q I rx rv h
  obtain ⟨l, xs, y, rfl, rfl, hH, hy, q⟩ := h
  cases rx
  have hus := rv.zero
  subst hus
  obtain ⟨z, its, n, r, hl, e⟩ := I.lstM hH
  obtain ⟨u, hu, ru⟩ := r.get hy
  have hy' : its.toArray[its.toArray.size - 1]? = some u := by
    show its.toArray[its.length - 1]? = some u
    rw [← Array.getElem?_toList, ← hl]
    exact hu
  refine call_meets F.slot_list_pop ⟨_, e, rfl⟩ F.entry_list_pop (F.args_list_pop_1 _) (MeetsSeq.list_pop_last l its.toArray n u hy' (by rw [List.size_toArray]; omega)) ⟨e, ?_⟩
  refine ⟨y, _, I.lset (its' := its.dropLast) hH e ?_ r.dropLast ?_, ru, q⟩
  · show its.toArray.eraseIdxIfInBounds (its.toArray.size - 1) = its.dropLast.toArray
    rw [List.size_toArray, List.eraseIdxIfInBounds_toArray, erase_last]
  · rw [List.length_dropLast]
    omega

def rPopAt : V → List V → Hp → VK → Prop := fun x vs H Q => ∃ l xs i k y, x = .ref l ∧ vs = [.int i] ∧ H l = some (.lst xs) ∧ -(2 ^ 63) ≤ i ∧ i < 2 ^ 63 ∧ seqIndex? i xs.length = some k ∧ xs[k]? = some y ∧ Q y (upd H l (.lst (xs.eraseIdx k)))
theorem mt_popAt : MtM X "list.pop" rPopAt := by
  intro pins s σ H x vs v us Q I rx rv h
  obtain ⟨l, xs, i, k, y, rfl, rfl, hH, h1, h2, hk, hy, q⟩ := h
  cases rx
  obtain ⟨u, rfl, ru⟩ := rv.one
  obtain ⟨t, rfl⟩ := ru
  obtain ⟨z, its, n, r, hl, e⟩ := I.lstM hH
  obtain ⟨w, hw, rw'⟩ := r.get hy
  refine call_meets F.slot_list_pop ⟨_, e, rfl⟩ F.entry_list_pop (F.args_list_pop_2 _ _)
    (MeetsSeq.list_pop_at l its.toArray n i t k w (fitsIndex_both h1 h2) (by rw [List.size_toArray, ← hl]; exact hk) (by rw [← Array.getElem?_toList]; exact hw) (by rw [List.size_toArray]; omega)) ⟨e, ?_⟩
  refine ⟨y, _, I.lset (its' := its.eraseIdx k) hH e ?_ (r.eraseIdx k) ?_, rw', q⟩
  · show its.toArray.eraseIdxIfInBounds k = (its.eraseIdx k).toArray
    rw [List.eraseIdxIfInBounds_toArray]
  · have := len_erase xs k
    omega

def rReverse : V → List V → Hp → VK → Prop := fun x vs H Q => ∃ l xs, x = .ref l ∧ vs = [] ∧ H l = some (.lst xs) ∧ Q .non (upd H l (.lst xs.reverse))
theorem mt_reverse : MtM X "list.reverse" rReverse := by
  intro pins s σ H x vs v us Q I rx rv h
  obtain ⟨l, xs, rfl, rfl, hH, q⟩ := h
  cases rx
  have hus := rv.zero
  subst hus
  obtain ⟨z, its, n, r, hl, e⟩ := I.lstM hH
  refine call_meets F.slot_list_reverse ⟨_, e, rfl⟩ F.entry_list_reverse (F.args_list_reverse_1 _) (AutoSeq1.list_reverse_list_0 l its.toArray n (by rw [List.size_toArray]; omega)) ⟨e, ?_⟩
  refine ⟨.non, _, I.lset (its' := its.reverse) hH e (by simp) r.reverse ?_, rfl, q⟩
  rw [List.length_reverse]
  omega

def rClear : V → List V → Hp → VK → Prop := fun x vs H Q => ∃ l xs, x = .ref l ∧ vs = [] ∧ H l = some (.lst xs) ∧ Q .non (upd H l (.lst []))
theorem mt_clear : MtM X "list.clear" rClear := by
  intro pins s σ H x vs v us Q I rx rv h
  obtain ⟨l, xs, rfl, rfl, hH, q⟩ := h
  cases rx
  have hus := rv.zero
  subst hus
  obtain ⟨z, its, n, r, hl, e⟩ := I.lstM hH
  refine call_meets F.slot_list_clear ⟨_, e, rfl⟩ F.entry_list_clear (F.args_list_clear_1 _) (AutoSeq1.list_clear_list_0 l its.toArray n (by rw [List.size_toArray]; omega)) ⟨e, ?_⟩
  exact ⟨.non, _, I.lset (its' := []) (ys := []) hH e rfl .nil (Nat.zero_le _), rfl, q⟩

/-! ### list + list, list += list, list * int -/
def rCat : R2 := fun x y H Q => ∃ l b xs zs, x = .ref l ∧ y = .ref b ∧ H l = some (.lst xs) ∧ H b = some (.lst zs) ∧ xs.length + zs.length ≤ sizeLine ∧ ∀ p, H p = none → Q (.ref p) (upd H p (.lst (xs ++ zs)))
theorem op_cat : OpR X (binaryOp .Add) rCat := by
  intro pins s σ H x y v u Q I rx ry h
  obtain ⟨l, b, xs, zs, rfl, rfl, hH, hB, hz, q⟩ := h
  cases rx
  cases ry
  obtain ⟨z, its, n, r, hl, e⟩ := I.lstM hH
  obtain ⟨z2, its2, n2, r2, hl2, e2⟩ := I.lstM hB
  refine PySem.P.add_list e e2 ?_ (by rw [List.size_toArray, List.size_toArray]; omega)
  have ea : its.toArray ++ its2.toArray = (its ++ its2).toArray := by simp
  rw [ea]
  exact ⟨.ref _, _, I.lnew (t' := s.toks) (r.append r2) (by rw [List.length_append]; omega), rfl, q _ I.fresh⟩
/-- a list times an int (a negative one is nothing) -/
def rRep : R2 := fun x y H Q => ∃ l k xs, x = .ref l ∧ y = .int k ∧ H l = some (.lst xs) ∧ -(2 ^ 63) ≤ k ∧ k < 2 ^ 63 ∧ xs.length * k.toNat ≤ sizeLine ∧
  ∀ p, H p = none → Q (.ref p) (upd H p (.lst (List.replicate k.toNat xs).flatten))
theorem len_rep {α : Type} (xs : List α) (k : Nat) : (List.replicate k xs).flatten.length = k * xs.length := by
  induction k with
  | zero => simp
  | succ k ih => rw [List.replicate_succ, List.flatten_cons, List.length_append, ih, Nat.succ_mul, Nat.add_comm]
theorem op_rep : OpR X (binaryOp .Mult) rRep := by
  intro pins s σ H x y v u Q I rx ry h
  obtain ⟨l, k, xs, rfl, rfl, hH, h1, h2, hz, q⟩ := h
  cases rx
  obtain ⟨t, rfl⟩ := ry
  obtain ⟨z, its, n, r, hl, e⟩ := I.lstM hH
  have hlen : its.toArray.size * k.toNat ≤ sizeLine := by rw [List.size_toArray, ← hl]; exact hz
  have hcap : ¬ its.toArray.size * k.toNat > (2 ^ 63 - 1) / 8 := by
    have : (sizeLine : Nat) ≤ (2 ^ 63 - 1) / 8 := by decide
    omega
  have hfit : ¬ (!Builtin.List.listFitsIndex k) = true := by
    rw [fitsIndex_both h1 h2]
    exact Bool.false_ne_true
  have hlong : ¬ Builtin.List.listTooLong (its.toArray.size * k.toNat) = true := by
    rw [notLongL hlen]
    exact Bool.false_ne_true
  have hnew : List.foldl (fun x1 x2 => x1 ++ x2) #[] (List.replicate (if its.toArray.isEmpty = true then 0 else k.toNat) its.toArray) = (List.replicate k.toNat its).flatten.toArray := by
    have f0 : ∀ m : Nat, List.foldl (fun x1 x2 => x1 ++ x2) #[] (List.replicate m its.toArray) = (List.replicate m its).flatten.toArray := fun m => by
      have := foldl_rep its m []
      rw [List.nil_append] at this
      exact this
    rw [f0]
    cases its with
    | nil => simp
    | cons a r' => rw [if_neg (by simp)]
  refine wpAny_binaryOp_repeat_ref (T := "list") (U := "int") (by decide) ⟨_, e, rfl⟩ (fun s' => typeIs_int s' k t) noFill_list_mul F.fills_int_mul F.slot_int_rmul repeat_list F.slot_int_index.lookup
    (call_meets F.slot_int_rmul (typeIs_int s k t) F.entry_int_rmul (F.args_int_rmul_2 _ _) (int___rmul___int_list k t l its.toArray n)
      ⟨e, rfl, ⟨_, e, rfl⟩, call_meets F.slot_list_mul ⟨_, e, rfl⟩ F.entry_list_mul (F.args_list_mul_2 _ _) (AutoListH.list___mul___list_int_3 l its.toArray n k t hfit hcap hlong) ⟨e, ?_⟩⟩)
  rw [hnew]
  exact ⟨.ref _, _, I.lnew (t' := s.toks) (r.rep k.toNat) (by rw [len_rep, Nat.mul_comm]; exact hz), rfl, q _ I.fresh⟩

/-! ### del xs[i] -/
theorem del_list {pins : List (Addr × Obj)} {s : Shared} {σ : St} {H : Hp} {l : Addr} {xs : List V} {i : Int} {t : Tok} {k : Nat} {Q : Unit → Shared → Prop} (I : Inv X pins σ H s) (hH : H l = some (.lst xs))
    (h1 : -(2 ^ 63) ≤ i) (h2 : i < 2 ^ 63) (hk : seqIndex? i xs.length = some k) (h : ∀ s', Inv X pins σ (upd H l (.lst (xs.eraseIdx k))) s' → Q () s') :
    wpAny (model X.prog X.w) X.A (delItem (.ref l) (.int i t)) Q X.xe s := by
  obtain ⟨z, its, n, r, hl, e⟩ := I.lstM hH
  refine PySem.P.delItem_list (k := k) e (fitsIndex_both h1 h2) (by rw [List.size_toArray, ← hl]; exact hk) (h _ ?_) (by rw [List.size_toArray]; omega)
  refine I.lset (its' := its.eraseIdx k) (t' := s.toks) hH e ?_ (r.eraseIdx k) ?_
  · show its.toArray.eraseIdxIfInBounds k = (its.eraseIdx k).toArray
    rw [List.eraseIdxIfInBounds_toArray]
  · have := len_erase xs k
    omega
end

/-! ### xs[a:b] = ys -/
section
variable {prog : Program} {w : World} {A : Around} {E : Value → Shared → Prop} {s : Shared}
theorem splice_eq (its its2 : List Value) (a c : Nat) : its.toArray.extract 0 a ++ its2.toArray ++ its.toArray.extract c its.toArray.size = (its.take a ++ its2 ++ its.drop c).toArray := by
  apply Array.toList_inj.mp
  first
    | (simp
       exact List.take_of_length_le (by simp))
    | simp [List.take_of_length_le]
    | simp
theorem bounds_run {a c n : Nat} (hac : a ≤ c) (hc : c ≤ n) : sliceBounds (some (a : Int)) (some (c : Int)) none n = ((a : Int), (c : Int), 1) := by
  simp only [sliceBounds, Option.getD_none]
  have h1 : ¬ ((a : Int) < 0) := by omega
  have h2 : ¬ ((c : Int) < 0) := by omega
  simp only [h1, h2, if_false, show (1 : Int) > 0 by decide, if_true]
  congr 1
  · omega
  · congr 1; omega
set_option maxRecDepth 100000 in
/-- list.__setitem__ with a slice of step one and another list -/
theorem setItem_slice {l b sl : Addr} {items new : Array Value} {n n2 : Nat} {vl vu : Value} {a c : Nat} {Q : Unit → Shared → Prop}
    (e : s.heap.get? l = some { cls := .type "list", data := .seq items n }) (e2 : s.heap.get? b = some { cls := .type "list", data := .seq new n2 }) (hne : l ≠ b)
    (hs : s.heap.IsSliceOf sl vl vu .none) (pl : IsPart vl (some (a : Int))) (pu : IsPart vu (some (c : Int))) (hac : a ≤ c) (hc : c ≤ items.size)
    (hsz : items.size + new.size ≤ sizeLine) (h : Q () { s with heap := s.heap.update l (Obj.mapSeq fun xs => xs.extract 0 a ++ new ++ xs.extract c xs.size) }) :
    wpAny (model prog w) A (setItem (.ref l) (.ref sl) (.ref b)) Q E s := by
  have hl : s.heap.IsList l items := PySem.IsL.isList e
  have hb : s.heap.IsList b new := PySem.IsL.isList e2
  obtain ⟨os, hos, hcs, hds⟩ := id hs
  have hTs : s.TypeIs (.ref sl) "slice" := ⟨os, hos, hcs⟩
  have hstep : ¬ ((rawPart none == rawInt 0) = true) := Bool.false_ne_true
  have hsame : Builtin.List.listSameRef (.ref l) (.ref b) = false := by
    unfold Builtin.List.listSameRef
    exact beq_eq_false_iff_ne.mpr hne
  have hmax : (max (a : Int) (c : Int)).toNat = c := by omega
  have hz' : ((fun xs : Array Value => xs.extract 0 a ++ new ++ xs.extract c xs.size) items).size ≤ sizeLine + 1 := by
    simp only [Array.size_append, Array.size_extract]
    omega
  unfold setItem
  try with_reducible refine wpAny_holding ?_
  first | refine wpAny_bind (wpAny_pure ?_) | skip
  refine wpAny_bind (wpAny_sequenceKey hl.typeIs (by decide) ?_)
  refine wpAny_bind (wpAny_callSpecial?_slot (name := Str.ofString "__setitem__") hl.typeIs slot_list_setitem
    (wpAny_call_entry slot_list_setitem hl.typeIs entry_list_setitem ?_ (args_list_setitem _ _ _)))
  show wpAny _ _ (Builtin.List.listSubscript? (.ref sl) >>= _) _ _ s
  refine wpAny_bind ?_
  unfold Builtin.List.listSubscript?
  refine wpAny_bind (wpAny_specialOf hTs slice_no_index ?_)
  simp only [Option.isNone_none, if_true]
  refine wpAny_pure ?_
  show wpAny _ _ (typeOf (.ref sl) >>= _) _ _ s
  refine wpAny_bind (wpAny_typeOf hTs ?_)
  first
    | rw [if_neg (by decide)]
    | refine PySem.W.KFB.if_not (by decide) ?_
  rw [listSliceParts_eq]
  refine wpAny_bind (wpAny_bind (wpAny_field hos hds (x := .none) rfl (wpAny_bind (wpAny_listPart .none ?_))))
  rw [if_neg hstep]
  refine wpAny_bind (wpAny_field hos hds (x := vl) rfl (wpAny_bind (wpAny_listPart pl ?_)))
  refine wpAny_bind (wpAny_field hos hds (x := vu) rfl (wpAny_bind (wpAny_listPart pu (wpAny_pure ?_))))
  first
    | simp only [hsame, Bool.false_eq_true, if_false]
    | refine PySem.W.KFB.if_not hsame ?_
    | (dsimp only
       rw [if_neg (by rw [hsame]; exact Bool.false_ne_true)])
  refine wpAny_bind (m := Builtin.List.listAllItems (.ref b) "must assign iterable to extended slice") ?_
  unfold Builtin.List.listAllItems
  refine wpAny_bind (wpAny_typeOf hb.typeIs ?_)
  first
    | refine PySem.W.KFB.if_so (by decide) ?_
    | rw [if_pos (by decide)]
    | simp only [beq_self_eq_true, Bool.true_or, if_true]
  unfold Builtin.List.listItems
  refine wpAny_bind (wpAny_seqItems e2 rfl (wpAny_pure ?_))
  refine wpAny_bind (wpAny_bind (wpAny_seqItems e rfl (wpAny_pure ?_)))
  refine wpAny_bind (wpAny_of_eq ((sliceIndices_raw (some (a : Int)) (some (c : Int)) none items.size (by simp)).trans (congrArg (pure : Int × Int × Int → Sem (Int × Int × Int)) (bounds_run hac hc))) ?_)
  show wpAny _ _ (if ((1 : Int) == 1) = true then _ else _) _ _ s
  rw [if_pos (by decide)]
  refine wpAny_bind (wpAny_rule ?_)
  first
    | simp only [notLongL hsz, Bool.false_eq_true, if_false]
    | refine PySem.W.KFB.if_not (notLongL hsz) ?_
  first | refine wpAny_bind (wpAny_pure ?_) | skip
  show wpAny _ _ (updateSeq l (fun xs => xs.extract 0 ((a : Int)).toNat ++ new ++ xs.extract (max (a : Int) (c : Int)).toNat xs.size) >>= _) _ _ s
  rw [hmax, Int.toNat_natCast]
  refine wpAny_bind (wpAny_updateSeq (hz := Nat.le_trans (Nat.le_add_right _ _) hsz) (_hz' := hz') e rfl ?_)
  refine wpAny_bind (wpAny_letGo ?_)
  first
    | exact wpAny_bind (wpAny_pure (wpAny_pure ⟨.none, rfl, wpAny_pure h⟩))
    | exact wpAny_pure ⟨.none, rfl, wpAny_pure h⟩
end

section
variable {X : Cx}
/-- xs[a:c] = ys of another list, at the value level: sl is the slice object that was just made -/
theorem set_slice {pins : List (Addr × Obj)} {s : Shared} {σ : St} {H : Hp} {l b sl : Addr} {xs ys : List V} {a c : Int} {vl vu : Value} {Q : Unit → Shared → Prop} (I : Inv X pins σ H s)
    (hH : H l = some (.lst xs)) (hB : H b = some (.lst ys)) (hne : l ≠ b) (hs : s.heap.IsSliceOf sl vl vu .none) (ra : RelV (.int a) vl) (rc : RelV (.int c) vu) (h0 : 0 ≤ a) (hac : a ≤ c) (hc : c ≤ xs.length)
    (hz : xs.length + ys.length ≤ sizeLine) (h : ∀ s', Inv X pins σ (upd H l (.lst (xs.take a.toNat ++ ys ++ xs.drop c.toNat))) s' → Q () s') :
    wpAny (model X.prog X.w) X.A (setItem (.ref l) (.ref sl) (.ref b)) Q X.xe s := by
  obtain ⟨ta, rfl⟩ := ra
  obtain ⟨tc, rfl⟩ := rc
  obtain ⟨z, its, n, r, hl, e⟩ := I.lstM hH
  obtain ⟨z2, its2, n2, r2, hl2, e2⟩ := I.lstM hB
  obtain ⟨a', rfl⟩ := Int.eq_ofNat_of_zero_le h0
  obtain ⟨c', rfl⟩ := Int.eq_ofNat_of_zero_le (Int.le_trans h0 hac)
  simp only [Int.toNat_natCast] at h
  refine setItem_slice (a := a') (c := c') e e2 hne hs (.int _ _) (.int _ _) (by omega) (by rw [List.size_toArray]; omega) (by rw [List.size_toArray, List.size_toArray]; omega) (h _ ?_)
  refine I.lset (its' := its.take a' ++ its2 ++ its.drop c') (t' := s.toks) hH e ?_ (Vals.append (Vals.append (r.take _) r2) (r.drop _)) ?_
  · exact splice_eq its its2 a' c'
  · rw [List.length_append, List.length_append, List.length_take, List.length_drop]
    omega
end
end L2

namespace Att
open PySem PySem.W PySem.Calls PyProof.Rows

/-! ### the script -/
theorem ints_of_wellAll {P : Params} {h : Heap} : ∀ (ns : List Int) (vs : List Value), WellAll P h vs (ns.map WData.int) → IntsAre vs ns := by
  intro ns
  induction ns with
  | nil =>
    intro vs w
    rw [List.map_nil] at w
    cases w
    exact .nil
  | cons n ns ih =>
    intro vs w
    rw [List.map_cons] at w
    cases w with
    | cons a b =>
      cases a
      exact .cons _ _ (ih _ b)

theorem script_of {l : OpenLaw} {n : Nat} (hn : l.most = some n) {P : Params} {h : Heap} {args : List WData} {vals : List Value}
    (hpre : l.row.toRowW.claim.pre args = true) (hwl : WellAll P h vals args) :
    ∃ a vs ns, vals = [Value.ref a] ∧ args = [WData.list (ns.map WData.int)] ∧ h.get? a = some { cls := .type "list", data := .seq vs.toArray } ∧ IntsAre vs ns ∧ ns.length ≤ n := by
  have hsh : WShape.hasAll [] args [.list .int] = true := (pre_splitW hpre).1
  have hc : l.pre.holds [] { args := args } = true := (pre_splitW hpre).2
  obtain ⟨d, r, rfl, h1, h2⟩ := hasAllW_cons hsh
  obtain rfl := hasAllW_nil h2
  obtain ⟨xs, rfl, h3⟩ := hasW_list h1
  obtain ⟨ns, rfl⟩ := items_int h3
  have hlen : ns.length ≤ n := by
    unfold OpenLaw.pre at hc
    have h4 : (WTm.not (.lt (.lit (.int (n : Int))) (.len (.arg 0)))).holds [] { args := [.list (ns.map .int)] } = true := by
      have h4 := (holds_andW hc).1
      rw [hn] at h4
      exact h4
    have h5 := condW_of h4 (w_not (w_lt w_lit (w_len_list (w_arg rfl))))
    rw [List.length_map] at h5
    refine Nat.le_of_not_lt fun q => ?_
    have q' : (n : Int) < ((ns.length : Nat) : Int) := by omega
    first
      | (rw [decide_eq_true q'] at h5; exact absurd h5 (by decide))
      | (simp at h5; omega)
  cases hwl with
  | cons w1 w2 =>
    cases w2
    cases w1 with
    | list ho hall => exact ⟨_, _, ns, rfl, rfl, ho, ints_of_wellAll ns _ hall, hlen⟩

theorem post_true (l : OpenLaw) (args : List WData) : l.row.toRowW.claim.post args (.bool true) args = true :=
  postW_of (r := l.row.toRowW) (X := (true == true))
    (show WShape.has [] (.bool true) .bool = true by first | rfl | decide | simp [WShape.has, WShape.arms, WShape.armsAll])
    (show (WTm.eq .res (.lit (.bool true))).value [] { args := args, res := some (.bool true), after := args } = some (.bool (true == true)) from w_eq_bool (w_res rfl) w_lit) rfl

/-! ### the attachment: holds_open's last premise (the goal 'hc' behind k_head) from a wpAny of the law's body -/
theorem attach {l : OpenLaw} {n : Nat} {q : Program} {loose : List Str} {XP : (Str → Option Value) → Heap → Prop} {YP : World → Heap → Prop} {d : DefRec} {x : Str}
    (hn : l.most = some n) (hdf : d.params.defaults = [])
    (hbind : ∀ pm cd doc v : Value, bindArgs (docDef d.name d.params d.body d.scope pm cd doc) ⟨[v], []⟩ = pure [(x, v)])
    (hx : d.scope.names.lookup x = some .local ∨ d.scope.names.lookup x = some .cell)
    (hk : d.scope.kind = .function) (hco : d.scope.isCoroutine = false) (hgen : d.scope.isGenerator = false)
    (body : ∀ (w : World) (s₀ s₁ s : Shared) (mg mb : Str → Option Value) (fa : Addr) (o : Obj) (pm cd doc : Value) (a : Addr) (vs : List Value) (ns : List Int),
      Ground q loose [] XP w s₀ mg mb s₁.heap → YP w s₁.heap →
      s₁.heap.get? fa = some o → o.data = .func (docDef d.name d.params d.body d.scope pm cd doc) → s₁.heap.CodeRec cd d.name → mg d.name = some (.ref fa) →
      s₁.heap.get? a = some { cls := .type "list", data := .seq vs.toArray } → IntsAre vs ns → ns.length ≤ n →
      s.gens = #[] → s.os = s₁.os →
      Fr s₁.heap s₁.heap.objs.size s.heap (bindL (envOfC d.name d.scope s₁.heap.objs.size fa cd).kindOf [(x, .ref a)] fun _ => none) →
      Cl s₁.heap.objs.size (cellsFrom (s₁.heap.objs.size + 1) d.scope.names []) s.heap (bindC (envOfC d.name d.scope s₁.heap.objs.size fa cd).kindOf [(x, .ref a)] fun _ => none) →
      wpAny (model l.prog w) (callerA.deeper (envOfC d.name d.scope s₁.heap.objs.size fa cd)) (execs d.body (envOfC d.name d.scope s₁.heap.objs.size fa cd))
        (fun f s' => f = .ret (.bool true) ∧ OldK s₁.heap s'.heap ∧ s'.os = s₁.os ∧ AllBare s'.gens) (fun _ _ => False) s) :
    WalkO q loose XP YP l.row.toRowW d [] (fun f vs => PySem.call f vs) := by
  intro w s₀ s₁ mg mb G Y fa o pm cd doc dV kV ho hd hcd hD hmg hg args vals as hpre hlay hrd hwl hlo
  obtain rfl : dV = .none := Dflts.none hD hdf
  obtain rfl : kV = .none := Dflts.noKw hD
  obtain ⟨a, vs, ns, rfl, rfl, hobj, hints, hlen⟩ := script_of hn hpre hwl
  refine enter_call ?_
  refine call_cells_ret (o := o) (by rw [depth_caller]; decide) ho (fd_plain hd) G.T.nolimit hcd (hbind pm cd doc (.ref a)) (fun y hy => ?_) (fun h₁ tk F X => ?_) hco hgen hk
  · obtain rfl : y = (x, Value.ref a) := List.mem_singleton.mp hy
    rcases hx with e | e
    · exact .inl e
    · exact .inr ⟨e, cellsFrom_some _ _ _ (.inl e)⟩
  · refine wpAny_mono (body w s₀ s₁ { s₁ with heap := h₁, toks := tk } mg mb fa o pm cd doc a vs ns G Y ho (fd_plain hd) hcd hmg hobj hints hlen hg rfl F X) (fun f s' hq => ?_) (fun _ _ hq => hq)
    obtain ⟨rfl, h2, h3, h4⟩ := hq
    exact ⟨.inl ⟨.bool true, .bool true, [], rfl, fun _ => rfl, .bool true, post_true l _, fun _ => ⟨List.Pairwise.nil, fun _ hm => (nomatch hm)⟩⟩, h2, h3, h4⟩

/-- the same from a codeAny of the CALL (for a layer whose function contracts speak of calls) -/
theorem attach_call {l : OpenLaw} {n : Nat} {q : Program} {loose : List Str} {XP : (Str → Option Value) → Heap → Prop} {YP : World → Heap → Prop} {d : DefRec}
    (hn : l.most = some n) (hdf : d.params.defaults = [])
    (call : ∀ (w : World) (s₀ s₁ : Shared) (mg mb : Str → Option Value) (fa : Addr) (o : Obj) (pm cd doc : Value) (a : Addr) (vs : List Value) (ns : List Int),
      Ground q loose [] XP w s₀ mg mb s₁.heap → YP w s₁.heap →
      s₁.heap.get? fa = some o → o.data = .func (docDef d.name d.params d.body d.scope pm cd doc) → s₁.heap.CodeRec cd d.name → mg d.name = some (.ref fa) →
      s₁.heap.get? a = some { cls := .type "list", data := .seq vs.toArray } → IntsAre vs ns → ns.length ≤ n → s₁.gens = #[] →
      codeAny (model l.prog w) callerA (.call (.ref fa) ⟨[.ref a], []⟩) (fun r s' => r = .ok (.ret (.bool true)) ∧ OldK s₁.heap s'.heap ∧ s'.os = s₁.os ∧ AllBare s'.gens) s₁) :
    WalkO q loose XP YP l.row.toRowW d [] (fun f vs => PySem.call f vs) := by
  intro w s₀ s₁ mg mb G Y fa o pm cd doc dV kV ho hd hcd hD hmg hg args vals as hpre hlay hrd hwl hlo
  obtain rfl : dV = .none := Dflts.none hD hdf
  obtain rfl : kV = .none := Dflts.noKw hD
  obtain ⟨a, vs, ns, rfl, rfl, hobj, hints, hlen⟩ := script_of hn hpre hwl
  refine enter_call (codeAny_mono (call w s₀ s₁ mg mb fa o pm cd doc a vs ns G Y ho (fd_plain hd) hcd hmg hobj hints hlen hg) fun r s' hq => ?_)
  obtain ⟨rfl, h2, h3, h4⟩ := hq
  exact ⟨.inl ⟨.bool true, .bool true, [], rfl, fun _ => rfl, .bool true, post_true l _, fun _ => ⟨List.Pairwise.nil, fun _ hm => (nomatch hm)⟩⟩, h2, h3, h4⟩

/-- the same where the top left finished generators (o_head chose holds_openN): nothing may have changed at all and no generator may be left -/
theorem attachN {l : OpenLaw} {n : Nat} {q : Program} {loose : List Str} {XP : (Str → Option Value) → Heap → Prop} {YP : World → Heap → Prop} {d : DefRec} {x : Str}
    (hn : l.most = some n) (hdf : d.params.defaults = [])
    (hbind : ∀ pm cd doc v : Value, bindArgs (docDef d.name d.params d.body d.scope pm cd doc) ⟨[v], []⟩ = pure [(x, v)])
    (hx : d.scope.names.lookup x = some .local ∨ d.scope.names.lookup x = some .cell)
    (hk : d.scope.kind = .function) (hco : d.scope.isCoroutine = false) (hgen : d.scope.isGenerator = false)
    (body : ∀ (w : World) (s₀ s₁ s : Shared) (mg mb : Str → Option Value) (fa : Addr) (o : Obj) (pm cd doc : Value) (a : Addr) (vs : List Value) (ns : List Int),
      Ground q loose [] XP w s₀ mg mb s₁.heap → YP w s₁.heap →
      s₁.heap.get? fa = some o → o.data = .func (docDef d.name d.params d.body d.scope pm cd doc) → s₁.heap.CodeRec cd d.name → mg d.name = some (.ref fa) →
      s₁.heap.get? a = some { cls := .type "list", data := .seq vs.toArray } → IntsAre vs ns → ns.length ≤ n →
      s.gens = #[] → s.os = s₁.os →
      Fr s₁.heap s₁.heap.objs.size s.heap (bindL (envOfC d.name d.scope s₁.heap.objs.size fa cd).kindOf [(x, .ref a)] fun _ => none) →
      Cl s₁.heap.objs.size (cellsFrom (s₁.heap.objs.size + 1) d.scope.names []) s.heap (bindC (envOfC d.name d.scope s₁.heap.objs.size fa cd).kindOf [(x, .ref a)] fun _ => none) →
      wpAny (model l.prog w) (callerA.deeper (envOfC d.name d.scope s₁.heap.objs.size fa cd)) (execs d.body (envOfC d.name d.scope s₁.heap.objs.size fa cd))
        (fun f s' => f = .ret (.bool true) ∧ (∀ b o, s₁.heap.get? b = some o → s'.heap.get? b = some o) ∧ s'.os = s₁.os ∧ s'.gens = #[]) (fun _ _ => False) s) :
    WalkN q loose XP YP l.row.toRowW d [] (fun f vs => PySem.call f vs) := by
  intro w s₀ s₁ mg mb G Y fa o pm cd doc dV kV ho hd hcd hD hmg hg args vals as hpre hlay hrd hwl hlo
  obtain rfl : dV = .none := Dflts.none hD hdf
  obtain rfl : kV = .none := Dflts.noKw hD
  obtain ⟨a, vs, ns, rfl, rfl, hobj, hints, hlen⟩ := script_of hn hpre hwl
  refine enter_callW ?_
  refine call_cells_ret (o := o) (by rw [depth_caller]; decide) ho (fd_plain hd) G.T.nolimit hcd (hbind pm cd doc (.ref a)) (fun y hy => ?_) (fun h₁ tk F X => ?_) hco hgen hk
  · obtain rfl : y = (x, Value.ref a) := List.mem_singleton.mp hy
    rcases hx with e | e
    · exact .inl e
    · exact .inr ⟨e, cellsFrom_some _ _ _ (.inl e)⟩
  · refine wpAny_mono (body w s₀ s₁ { s₁ with heap := h₁, toks := tk } mg mb fa o pm cd doc a vs ns G Y ho (fd_plain hd) hcd hmg hobj hints hlen hg rfl F X) (fun f s' hq => ?_) (fun _ _ hq => hq)
    obtain ⟨rfl, h2, h3, h4⟩ := hq
    exact ⟨.inl ⟨.bool true, .bool true, [], rfl, fun _ => rfl, .bool true, post_true l _, fun _ => ⟨List.Pairwise.nil, fun _ hm => (nomatch hm)⟩⟩, h2, h3, h4⟩

/-! ### rules over ANY heap (no ledger) from facts about the written part K: the library's own take a ledger (News) for what they write -/
section
variable {prog : Program} {w : World} {A : Around} {E : Value → Shared → Prop} {s : Shared} {K : Frag}

/-- a def of the module, or a method (qual 'C.m'), entered: the frame is the next address; cells behind it -/
theorem call_fn {R : Result → Shared → Prop} {name qual : Str} {params : Arguments} {body : List Stmt} {scope : Scope} {dV kV doc pm cdv ct oc : Value} {an od : Option Addr} {osl : Array (Option Value)} {f : Addr} {args : Args} {binds : List (Str × Value)}
    (X : K.In s.heap) (hlim : s.heap.NoLimit) (ho : K.lookup f = some ⟨oc, od, .func (fnOf name qual params body scope dV kV doc pm an cdv ct), osl⟩) (hcd : codeIn K cdv qual = true) (hroom : A.depth < recursionLimit)
    (hbind : BindsTo s (fnOf name qual params body scope dV kV doc pm an cdv ct) args binds)
    (hkind : (binds.all fun y => scope.names.lookup y.1 == some .local || scope.names.lookup y.1 == some .cell) = true)
    (h : ∀ s₁, InCallC s s.heap.objs.size (bindL (envOfC qual scope s.heap.objs.size f cdv).kindOf binds fun _ => none) (cellsFrom (s.heap.objs.size + 1) scope.names [])
        (bindC (envOfC qual scope s.heap.objs.size f cdv).kindOf binds fun _ => none) s₁ →
      wpAny (model prog w) (A.deeper (envOfC qual scope s.heap.objs.size f cdv)) (execs body (envOfC qual scope s.heap.objs.size f cdv))
        (fun fl s' => R (.ok (.ret (match fl with | .ret v => v | _ => .none))) s')
        (fun e s' => wpAny (model prog w) (A.deeper (envOfC qual scope s.heap.objs.size f cdv)) (leaving (envOfC qual scope s.heap.objs.size f cdv) e) (fun _ s'' => R (.error e) s'') (fun e' s'' => R (.error e') s'') s') s₁)
    (hco : scope.isCoroutine = false) (hgen : scope.isGenerator = false) (hk : scope.kind = .function) : codeAny (model prog w) A (.call (.ref f) args) R s := by
  refine codeAny_call_function hroom (X _ _ ho) rfl hco hgen rfl (codeRec_of X hcd) (hbind _ _ _ _ ?_)
  refine wpAny_newFunctionEnv_cells hk (kindsX hkind _) fun env he s₁ x => ?_
  subst he
  exact ⟨hlim.keeps x.toInCall.keep, codeAny_func (h s₁ x)⟩

/-- C(..): dict at size, instance at size + 1, then __init__ -/
theorem make_obj {R : Result → Shared → Prop} {C fI : Addr} {rest : List Value} {kw : List (Str × Value)}
    (X : K.In s.heap) (hm : makesIn K C = true) (hi : findIn K (.ref C) "__init__" = some (some (.ref fI))) (hf : isFn K (.ref fI) = true)
    (h : codeAny (model prog w) (A.under (.builtin "type.__call__" ⟨.ref C :: rest, kw⟩)) (.call (.ref fI) ⟨.ref (s.heap.objs.size + 1) :: rest, kw⟩) (InitBack (s.heap.objs.size + 1) R)
      { s with heap := (s.heap.push emptyDict).push (instObj C s.heap.objs.size) }) : codeAny (model prog w) A (.call (.ref C) ⟨rest, kw⟩) R s := by
  obtain ⟨hh, g, d, t, os⟩ := s
  exact make_core (makes_of X hm) (looks_findIn X hi) (fun self => bind_fn X self (beq_iff_eq.mp hf)) (.inl rfl) h

/-- x.name where the instance's dict holds the name and the class does not -/
theorem get_field {x C : Addr} {ox : Obj} {es : List DictEntry} {n : Nat} {name : Str} {expr : Bool} {v : Value} {Q : Value → Shared → Prop}
    (X : K.In s.heap) (I : PySem.W.InstAt s.heap x ox C (some (dictOf es n))) (hg : plainGet K C name = true) (hh : hasDictIn K C = true) (ha : findIn K (.ref C) name = some none)
    (hl : getL name es = some (some v)) (hv : handedIn v = true) (h : Q v { s with toks := s.toks + 1 }) : wpAny (model prog w) A (getAttr (.ref x) name expr) Q E s :=
  get_value X I (plainGet_of hg).1 (findObj_own hh ha rfl hl) hv h

/-- x.m(..): the method found in the class -/
theorem get_method {x C f : Addr} {ox : Obj} {es : List DictEntry} {n : Nat} {name : Str} {pl : Sem Bool} {Q : Value × List Value → Shared → Prop}
    (X : K.In s.heap) (I : PySem.W.InstAt s.heap x ox C (some (dictOf es n))) (hg : plainGet K C name = true) (hf : findIn K (.ref C) name = some (some (.ref f))) (ht : isFn K (.ref f) = true)
    (hl : getL name es = some none) (h : Q (.ref f, [.ref x]) s) : wpAny (model prog w) A (getMethod (.ref x) name pl) Q E s :=
  method_fn X I (plainGet_of hg).1 (plainGet_of hg).2 hf (beq_iff_eq.mp ht) (by show (lookIn name (dictOf es n)).map _ = _; rw [lookIn_dict, hl]; rfl) h

/-! the whole heap as the ledger: makes every rule that writes through a ledger a rule over any heap -/
def noObjs (h : Heap) : Heap := { h with objs := #[] }
theorem noObjs_get (h : Heap) (b : Addr) : (noObjs h).get? b = none := by
  cases e : (noObjs h).get? b with
  | none => rfl
  | some o => exact absurd (Heap.lt_size e) (Nat.not_lt_zero _)
def ledger (h : Heap) (L d : Addr) : List (Addr × Obj) := (List.range h.objs.size).filterMap fun a => if a = L ∨ a = d then none else (h.get? a).map fun o => (a, o)
theorem mem_ledger {h : Heap} {L d a : Addr} {o : Obj} : (a, o) ∈ ledger h L d ↔ a ≠ L ∧ a ≠ d ∧ h.get? a = some o := by
  unfold ledger
  rw [List.mem_filterMap]
  constructor
  · rintro ⟨b, _, e⟩
    split at e
    · cases e
    · rename_i hb
      obtain ⟨o', ho, e'⟩ := Option.map_eq_some_iff.mp e
      cases e'
      exact ⟨fun q => hb (.inl q), fun q => hb (.inr q), ho⟩
  · rintro ⟨n1, n2, ho⟩
    refine ⟨a, List.mem_range.mpr (Heap.lt_size ho), ?_⟩
    rw [if_neg (show ¬ (a = L ∨ a = d) from fun q => q.elim n1 n2), ho] <;> rfl
theorem news_ledger {h : Heap} {L d : Addr} {od : Obj} (hne : d ≠ L) (ho : h.get? d = some od) : News (noObjs h) L h ([] ++ (d, od) :: ledger h L d) := by
  rintro ⟨a, o⟩ hp
  rcases List.mem_cons.mp hp with e | hp
  · cases e
    exact ⟨ho, hne, noObjs_get _ _⟩
  · obtain ⟨n1, n2, e⟩ := mem_ledger.mp hp
    exact ⟨e, n1, noObjs_get _ _⟩
theorem fr_all {h : Heap} {L : Addr} {m : Str → Option Value} (n : h.Ns L m) : Fr (noObjs h) L h m :=
  ⟨n, fun b o e => (by rw [noObjs_get] at e; cases e), Nat.zero_le _⟩
/-- Upd of the head entry (for append_K, setItem_K ..) -/
theorem upd_ledger {h : Heap} {L d : Addr} {o o' : Obj} : Upd d o o' ((d, o) :: ledger h L d) ((d, o') :: ledger h L d) :=
  .head fun ⟨_, _⟩ hp => (mem_ledger.mp hp).2.1

/-- x.name = v over any heap: L is any namespace of the heap (the frame's, say): its map stays, its object is not told; all else but the dict stays -/
theorem set_field {x C dx L : Addr} {ox : Obj} {m : Str → Option Value} {es es' : List DictEntry} {n n' : Nat} {name : Str} {v : Value} {Q : Unit → Shared → Prop}
    (X : K.In s.heap) (I : PySem.W.InstAt s.heap x ox C (some (dictOf es n))) (hd : ox.dict = some dx) (hL : s.heap.Ns L m) (hne : dx ≠ L)
    (hs : findIn K (.ref C) "__setattr__" = some (some (.builtin "object.__setattr__"))) (hp : plainOver K C = true) (ht : takerIn K C name = some none) (hh : hasDictIn K C = true) (hl : (getL name es).isSome = true)
    (e : (putL name (PyData.keyHash w.params name) (.str name (s.toks + 1)) v es, putN name es n) = (es', n')) (hz : es'.length ≤ 1000)
    (h : ∀ h' : Heap, h'.Ns L m → h'.get? dx = some (dictOf es' n') → (∀ b o, b ≠ dx → b ≠ L → s.heap.get? b = some o → h'.get? b = some o) → Q () { s with heap := h', toks := s.toks + 2 }) :
    wpAny (model prog w) A (setAttr (.ref x) name v) Q E s := by
  obtain ⟨e1, e2⟩ := Prod.mk.inj e
  have hdx : s.heap.get? dx = some (dictOf es n) := by
    have := I.dict
    rw [hd] at this
    exact this
  refine set_plain X I hs (osa_dict (s := { s with toks := s.toks + 1 }) (h₀ := noObjs s.heap) (L := L) (m := m) (od := dictOf es n) (od' := dictOf es' n') (es := es') (n := n') (pre := []) (post := ledger s.heap L dx)
    (fr_all hL) (news_ledger hne hdx) X I hd hp ht hh hl (fun _ q => nomatch q) (fun ⟨_, _⟩ q => (mem_ledger.mp q).2.1) (by rw [putName_dict, e1, e2]) rfl hz fun h' F' N' => ?_)
  exact h h' F'.ns (N'.get (List.Mem.head _)) fun b o n1 n2 ho => N'.get (List.Mem.tail _ (mem_ledger.mpr ⟨n2, n1, ho⟩))
end
end Att

namespace L2
open PySem PySem.Spec PyProof.Rows

theorem vals_ints : ∀ {vs : List Value} {ns : List Int}, IntsAre vs ns → Vals (ns.map V.int) vs
  | _, _, .nil => .nil
  | _, _, .cons n t h => .cons ⟨t, rfl⟩ (vals_ints h)

/-- nothing is tracked but the script, known to the object (or it is an object of the module) -/
def Only (H : Hp) : Prop := ∀ b, H b = none ∨ ∃ o xs, H b = some (.frz o (.lst xs))

/-- THE HEAD: the law's promise, at the heap behind the top. F, the promise of the law's def, may use that base is part of the heap (so K.In base, base.Ns mainGlobals mg stand in Mod) -/
theorem law_call {P : Program} {w : World} {K : PySem.W.Frag} {mg mb : Str → Option Value} {CX : CXT} {k : Nat} {fa a : Addr} {fd : FuncData} {x : Str} {sp : Sp} {s₁ : Shared} {vs : List Value} {ns : List Int}
    (KX : K.In s₁.heap) (hns : s₁.heap.Ns mainGlobals mg) (hb : s₁.heap.Ns builtinsNs mb) (hbb : ∀ x : Str, x ≠ "__name__" → mb x = bootBuiltins x) (hlim : s₁.heap.NoLimit) (hg : s₁.gens = #[])
    (ha : s₁.heap.get? a = some { cls := .type "list", data := .seq vs.toArray }) (hi : IntsAre vs ns) (hl : ns.length ≤ sizeLine) (hr : Room k callerA)
    (F : ∀ base : Heap, K.In base → base.Ns mainGlobals mg → FnOk P w K mg base CX k fa fd [x] sp) (hbind : ∀ (s : Shared) (u : Value), BindsTo s fd ⟨[u], []⟩ [(x, u)])
    (hsp : ∀ H : Hp, Only H → SqL K H a (ns.map V.int) → sp [.ref a] H (fun v _ => v = .bl true) fun _ _ _ => False)
    (hCX : ∀ H e s', CX [] H s₁ (fun _ _ _ => False) e s' → False) :
    codeAny (model P w) callerA (.call (.ref fa) ⟨[.ref a], []⟩) (fun r s' => r = .ok (.ret (.bool true)) ∧ OldK s₁.heap s'.heap ∧ s'.os = s₁.os ∧ AllBare s'.gens) s₁ := by
  have rv := vals_ints hi
  have lenV := hi.length
  -- from an abstract heap in which nothing but the script may be tracked
  have core : ∀ H : Hp, Only H → SqL K H a (ns.map V.int) → HOk P w H s₁.heap → (∀ b, H b ≠ none → b = a) → (H a ≠ none → K.lookup a = none) →
      codeAny (model P w) callerA (.call (.ref fa) ⟨[.ref a], []⟩) (fun r s' => r = .ok (.ret (.bool true)) ∧ OldK s₁.heap s'.heap ∧ s'.os = s₁.os ∧ AllBare s'.gens) s₁ := by
    intro H hO hS hok hA hK
    have base_of : ∀ {b : Addr} {o : Obj}, s₁.heap.get? b = some o → H b = none → (hidT s₁.heap H).get? b = some o := fun e n => hidT_get e n
    have noA : ∀ {b : Addr} {o : Obj} {es : Array DictEntry} {ep : Nat}, s₁.heap.get? b = some o → o.data = .dict es ep → H b = none := fun {b o es ep} e d => by
      cases q : H b with
      | none => rfl
      | some u =>
        have e' : b = a := hA b (by rw [q]; simp)
        subst e'
        rw [ha] at e; cases e
        have d' : Data.seq vs.toArray _ = Data.dict es ep := d
        cases d'
    have nsK : ∀ {b : Addr} {m : Str → Option Value}, s₁.heap.Ns b m → (hidT s₁.heap H).Ns b m := fun {b m} ⟨o, es, ep, e, d, r⟩ => ⟨o, es, ep, base_of e (noA e d), d, r⟩
    have hKb : K.In (hidT s₁.heap H) := fun b o e => base_of (KX b o e) (by
      cases q : H b with
      | none => rfl
      | some u =>
        have e' : b = a := hA b (by rw [q]; simp)
        subst e'
        rw [hK (by rw [q]; simp)] at e; cases e)
    have hM : Mod K mg (hidT s₁.heap H) := ⟨hKb, nsK hns, ⟨mb, nsK hb, hbb⟩, let ⟨mc, h1, h2⟩ := hlim; ⟨mc, nsK h1, h2⟩⟩
    have e0 : Env0 P w K mg (hidT s₁.heap H) callerA [] s₁ H := ⟨rfl, hM, fun b o e => of_hidT e, Nat.le_of_eq (hidT_size _ _), trivial, fun b hb => absurd (show b ∈ ([] : List Addr) from hb) (by simp), hok, .of_eq hg⟩
    refine codeAny_mono ((F _ hKb (nsK hns)).run callerA [] s₁ H ⟨[.ref a], []⟩ [.ref a] [.ref a] _ _ hr e0 (hbind s₁ (.ref a)) (.cons rfl .nil) (hsp H hO hS)) fun r s' h => ?_
    cases r with
    | error e => exact (hCX H e s' h).elim
    | ok fl =>
      cases fl with
      | next => exact False.elim h
      | brk => exact False.elim h
      | cont => exact False.elim h
      | ret u =>
        obtain ⟨v, H', os, bare, un, hok', r', q⟩ := h
        have q' : v = .bl true := q
        subst q'
        obtain rfl : u = Value.bool true := r'
        refine ⟨rfl, OldK.of_keep fun b o e => ?_, os, bare⟩
        cases q : H b with
        | none => exact un.keep b o e q (by intro z; exact absurd (show b ∈ ([] : List Addr) from z) (by simp)) (by simp)
        | some u =>
          rcases hO b with z | ⟨ob, xs, z⟩
          · rw [q] at z; cases z
          · have z2 := un.frzs b ob _ z
            obtain ⟨e1, _⟩ := hok b _ z
            obtain ⟨e2, _⟩ := hok' b _ z2
            rw [e] at e1; cases e1
            exact e2
  cases hk : K.lookup a with
  | some o =>
    -- the script is one of the module's own objects
    have e := KX a o hk
    rw [ha] at e
    cases e
    refine core (fun _ => none) (fun _ => .inl rfl) (.inr ⟨_, vs.toArray, _, hk, rfl, rfl, rfl, by rw [List.size_toArray, lenV]; exact hl, by simpa using rv⟩) (fun b u z => by have z' : (none : Option HO) = some u := z; cases z') (fun b z => absurd rfl z) fun z => absurd rfl z
  | none =>
    refine core (fun b => if b = a then some (.frz { cls := .type "list", data := .seq vs.toArray } (.lst (ns.map V.int))) else none) (fun b => ?_) (.inl (.inr ⟨{ cls := .type "list", data := .seq vs.toArray }, if_pos rfl⟩)) (fun b u z => ?_) (fun b z => ?_) fun _ => hk
    · by_cases hb : b = a
      · exact .inr ⟨_, _, if_pos hb⟩
      · exact .inl (if_neg hb)
    · by_cases hb : b = a
      · have z' := (if_pos hb).symm.trans z
        cases z'
        subst hb
        exact ⟨ha, by rw [List.length_map]; exact hl, vs, _, rv, ha⟩
      · have z' := (if_neg hb).symm.trans z
        cases z'
    · by_cases hb : b = a
      · exact hb
      · exact absurd (if_neg hb) z
end L2

namespace L2
open PySem PySem.Spec PyProof.Rows

abbrev KOf {K : PySem.W.Frag} {h : Heap} (_ : K.In h) : PySem.W.Frag := K

/-- the goal that k_head leaves (case hc), from the law's promise. F gives the function object fd (K's own) once, then the promise over every base -/
theorem walk_of {l : PySem.W.OpenLaw} {n k : Nat} {q : Program} {loose : List Str} {XP : (Str → Option Value) → Heap → Prop} {YP : World → Heap → Prop} {d : DefRec} {K : Params → PySem.W.Frag} {CX : World → CXT} {sp : World → Sp} {x : Str}
    (hn : l.most = some n) (hn2 : n ≤ sizeLine) (hdf : d.params.defaults = []) (hr : Room k callerA)
    (hY : ∀ (w : World) (h : Heap), YP w h → (K w.params).In h)
    (F : ∀ (w : World) (mg : Str → Option Value) (fa : Addr) (h : Heap), (K w.params).In h → h.Ns mainGlobals mg → mg d.name = some (.ref fa) →
      ∃ fd : FuncData, (∀ (s : Shared) (u : Value), BindsTo s fd ⟨[u], []⟩ [(x, u)]) ∧
        ∀ base : Heap, (K w.params).In base → base.Ns mainGlobals mg → FnOk l.prog w (K w.params) mg base (CX w) k fa fd [x] (sp w))
    (hsp : ∀ (w : World) (H : Hp) (a : Addr) (ns : List Int), ns.length ≤ n → Only H → SqL (K w.params) H a (ns.map V.int) → sp w [.ref a] H (fun v _ => v = .bl true) fun _ _ _ => False)
    (hCX : ∀ (w : World) (H : Hp) (s : Shared) (e : Value) (s' : Shared), CX w [] H s (fun _ _ _ => False) e s' → False) :
    PySem.W.WalkO q loose XP YP l.row.toRowW d [] (fun f vs => PySem.call f vs) := by
  refine Att.attach_call hn hdf fun w s₀ s₁ mg mb fa o pm cd doc a vs ns G Y ho hd hcd hmg hobj hints hlen hg => ?_
  have KX := hY w _ Y
  obtain ⟨fd, hb, hF⟩ := F w mg fa _ KX G.T.g hmg
  exact law_call KX G.T.g G.T.b G.T.builtins G.T.nolimit hg hobj hints (Nat.le_trans hlen hn2) hr hF hb (fun H hO hS => hsp w H a ns hlen hO hS) fun H e s' => hCX w H s₁ e s'
/-- the same where the promise hangs on the written part alone: (sp := My.sp_law), no hole under a binder -/
theorem walk_ofK {l : PySem.W.OpenLaw} {n k : Nat} {q : Program} {loose : List Str} {XP : (Str → Option Value) → Heap → Prop} {YP : World → Heap → Prop} {d : DefRec} {K : Params → PySem.W.Frag} {CX : CXT} {sp : PySem.W.Frag → Sp} {x : Str}
    (hn : l.most = some n) (hn2 : n ≤ sizeLine) (hdf : d.params.defaults = []) (hr : Room k callerA)
    (hY : ∀ (w : World) (h : Heap), YP w h → (K w.params).In h)
    (F : ∀ (w : World) (mg : Str → Option Value) (fa : Addr) (h : Heap), (K w.params).In h → h.Ns mainGlobals mg → mg d.name = some (.ref fa) →
      ∃ fd : FuncData, (∀ (s : Shared) (u : Value), BindsTo s fd ⟨[u], []⟩ [(x, u)]) ∧
        ∀ base : Heap, (K w.params).In base → base.Ns mainGlobals mg → FnOk l.prog w (K w.params) mg base CX k fa fd [x] (sp (K w.params)))
    (hsp : ∀ (K : PySem.W.Frag) (H : Hp) (a : Addr) (ns : List Int), ns.length ≤ n → Only H → SqL K H a (ns.map V.int) → sp K [.ref a] H (fun v _ => v = .bl true) fun _ _ _ => False)
    (hCX : ∀ (H : Hp) (s : Shared) (e : Value) (s' : Shared), CX [] H s (fun _ _ _ => False) e s' → False) :
    PySem.W.WalkO q loose XP YP l.row.toRowW d [] (fun f vs => PySem.call f vs) :=
  walk_of (K := K) (CX := fun _ => CX) (sp := fun w => sp (K w.params)) hn hn2 hdf hr hY F (fun w H a ns h1 h2 h3 => hsp (K w.params) H a ns h1 h2 h3) fun _ H s e s' => hCX H s e s'
end L2

/- THE LAST THEOREM (shape; LID, My.* are yours):
   My.Adr: a structure of the addresses that your layer names (classes, functions); My.Txt K t: a structure (Prop) of the equations over K;
   My.txt_mk : {K} {implicit addresses ..} (e1 : nsIn K mainGlobals "law" = some (some (.ref f))) (e2 : K.lookup f = some ⟨oc, od, .func (fnOf "law" "law" params body scope dV kV doc pm an cdv ct), sl⟩) (e3 : codeIn K cdv "law" = true) .. : ∃ t, My.Txt K t

set_option maxRecDepth 100000 in
set_option maxHeartbeats 0 in
theorem PySem.Challenge.cw_LID_holds : PySem.Challenge.rw_LID.Holds := by
  w_on; o_law; k_head; (case hw => w_witness2)
  k_fill
  refine L2.walk_of (l := PySem.Challenge.rw_LID) (n := 63) (k := 40) (x := "script") (CX := fun w => ..) (sp := fun _ => My.sp_law) rfl (by decide) rfl ⟨rfl, by decide, by decide⟩ (fun w h Y => PySem.W.kIn_of Y) ?F ?S ?C
  case F =>
    intro w mg fa h KX G hmg
    have T : ∃ t, My.Txt (L2.KOf KX) t := by
      dsimp only [L2.KOf]                          -- K must stand as «<heap const> w.params» for k_is
      refine' My.txt_mk ?e1 ?e2 ?e3 ..
      (case e1 => PySem.W.k_is)                    -- in the order: a name -> its address -> its object -> its parts
      (case e2 => PySem.W.k_is)
      ..
    obtain ⟨t, T⟩ := T
    have e0 := hmg.symm.trans (PySem.W.mg_of KX G T.law)
    cases e0                                       -- fa is the law's own address
    exact ⟨_, fun s u => .of_eq rfl, fun base kb nb => My.law_fn T kb nb⟩     -- if «.of_eq rfl» comes too early: refine' ⟨_, ?b, fun base kb nb => My.law_fn T kb nb⟩; exact fun s u => .of_eq rfl
  case S => exact fun w H a ns hl hO hS => ..
  case C => exact ..
(the tactic k_is has no namespace: write k_is) -/

/-! SHORT WORDS over the layer: a def of the text, its body, what a loop and a test want. -/
namespace L2
open PySem PySem.Spec PyProof.Rows

/-! ### the text by places -/
/-- the j-th statement of a class's body -/
def inClass (s : Stmt) (j : Nat) : Stmt := match s with
  | .ClassDef _ _ _ body _ _ _ _ _ _ _ => body.getD j (.Pass ⟨0, 0, 0, 0⟩)
  | _ => .Pass ⟨0, 0, 0, 0⟩
def defArgs (s : Stmt) : Arguments := match s with
  | .FunctionDef _ a _ _ _ _ _ _ _ _ => a
  | _ => { posonlyargs := [], args := [], vararg := none, kwonlyargs := [], kw_defaults := [], kwarg := none, defaults := [] }
def defBody (s : Stmt) : List Stmt := match s with
  | .FunctionDef _ _ b _ _ _ _ _ _ _ => b
  | _ => []
def defScope (s : Stmt) : Scope := match s with
  | .FunctionDef _ _ _ _ _ _ sc _ _ _ => sc
  | _ => { kind := .function, names := [], isGenerator := false, isCoroutine := false }

/-! ### no exception leaves a def -/
abbrev CX0 : CXT := fun _ _ _ _ _ _ => False
abbrev E0 : XK := fun _ _ _ => False
theorem pass0 {X : Cx} : Passes CX0 X E0 := fun _ _ _ _ _ _ _ h => h.elim

/-! ### a def (or method) of the text as it stands behind the top -/
structure Fun (K : PySem.W.Frag) (x qual : Str) (st : Stmt) (f : Addr) (fd : FuncData) : Prop where
  ex : ∃ (oc : Value) (od : Option Addr) (kV doc pm : Value) (an : Option Addr) (cdv ct : Value) (osl : Array (Option Value)),
    fd = PySem.W.fnOf x qual (defArgs st) (defBody st) (defScope st) .none kV doc pm an cdv ct ∧ K.lookup f = some ⟨oc, od, .func fd, osl⟩ ∧ PySem.W.codeIn K cdv qual = true
  kp : PySem.W.keepIn K (.ref f) = true
section
variable {P : Program} {w : World} {K : PySem.W.Frag} {mg : Str → Option Value} {base : Heap}
/-- THE RULE for a def: its body as a term of rules, and the reading of that term -/
theorem Fun.ok {x qual : Str} {st : Stmt} {f : Addr} {fd : FuncData} {N ps : List Str} {k : Nat} {sp : Sp} (F : Fun K x qual st f fd) (S : FnScope N ps (defScope st)) (len : ∀ vs H Q E, sp vs H Q E → vs.length = ps.length)
    (hbody : ∀ (cdv : Value) (A : Around) (outer : List Env) (s : Shared) (H : Hp) (vs : List V) (Q : VK) (E : XK), Room k (A.deeper (envOfC qual (defScope st) s.heap.objs.size f cdv)) → sp vs H Q E →
      ∃ t, PSs (cxOf CX0 P w K mg base N qual (defScope st) f cdv A outer s H E).nox (defBody st) t ∧ t { nx := fun _ H' => Q .non H', rt := Q } (start N vs) H) : FnOk P w K mg base CX0 (k + 1) f fd ps sp := by
  obtain ⟨oc, od, kV, doc, pm, an, cdv, ct, osl, rfl, lk, hcd⟩ := F.ex
  refine fn_of lk hcd S len fun A outer s H vs Q E hr hsp => ?_
  obtain ⟨t, h, q⟩ := hbody cdv A outer s H vs Q E hr hsp
  exact ⟨t, h.nox, q⟩
/-- how its arguments bind (no defaults): h is «fun _ _ _ _ _ _ us hl => match us, hl with | [_, _], _ => rfl», one _ a parameter -/
theorem Fun.binds {x qual : Str} {st : Stmt} {f : Addr} {fd : FuncData} {ps : List Str} (F : Fun K x qual st f fd)
    (h : ∀ (kV doc pm : Value) (an : Option Addr) (cdv ct : Value) (us : List Value), us.length = ps.length → bindArgs (PySem.W.fnOf x qual (defArgs st) (defBody st) (defScope st) .none kV doc pm an cdv ct) ⟨us, []⟩ = pure (ps.zip us)) : Binds K fd ps [] := by
  obtain ⟨oc, od, kV, doc, pm, an, cdv, ct, osl, rfl, lk, hcd⟩ := F.ex
  exact .all (h kV doc pm an cdv ct)
theorem fun_mk {x qual : Str} {st : Stmt} {f : Addr} {oc : Value} {od an : Option Addr} {osl : Array (Option Value)} {kV doc pm cdv ct : Value} (l : K.lookup f = some ⟨oc, od, .func (PySem.W.fnOf x qual (defArgs st) (defBody st) (defScope st) .none kV doc pm an cdv ct), osl⟩)
    (c : PySem.W.codeIn K cdv qual = true) (k : PySem.W.keepIn K (.ref f) = true) : Fun K x qual st f (PySem.W.fnOf x qual (defArgs st) (defBody st) (defScope st) .none kV doc pm an cdv ct) := ⟨⟨oc, od, kV, doc, pm, an, cdv, ct, osl, rfl, l, c⟩, k⟩
end
theorem hu_of {A : Around} {k : Nat} (hr : Room k A) : A.units + 1 < cLine := Nat.lt_of_le_of_lt (Nat.add_le_add_left (by decide : 1 ≤ 64) _) hr.units
theorem small1000 {n : Nat} (h : n ≤ 1000) : n < sizeLine := Nat.lt_of_le_of_lt h (by decide)

/-! ### expressions in short: the name that stands in the i-th slot -/
section
variable {X : Cx}
theorem pv (i : Nat) {x : Str} {pos : Pos} (hN : X.N[i]? = some x := by rfl) (hv : Vis X.env.scope x := by first | exact Or.inl rfl | exact Or.inr (Or.inl rfl) | exact Or.inr (Or.inr rfl)) (hd : (x == ("__debug__" : Str)) = false := by decide)
    (hcd : (x == ("__classdict__" : Str)) = false := by decide) : PE X (.Name x pos) (tVar i) := pe_var hN hv hd hcd
end

/-! ### tests -/
theorem iteF {A B : Prop} (h : B) : if false = true then A else B := by
  rw [if_neg Bool.false_ne_true]
  exact h
theorem iteT {A B : Prop} (h : A) : if true = true then A else B := by
  rw [if_pos rfl]
  exact h
theorem ite2 {c A B : Prop} [Decidable c] (h1 : c → A) (h2 : ¬ c → B) : if c then A else B := by
  by_cases h : c
  · rw [if_pos h]
    exact h1 h
  · rw [if_neg h]
    exact h2 h
theorem iteNS {c A B : Prop} [Decidable c] (hc : c) (h : B) : if (!decide c) = true then A else B := by
  rw [decide_eq_true hc]
  exact iteF h

/-! ### heaps -/
/-- all that was tracked is as it was -/
def Same (H H' : Hp) : Prop := ∀ b o, H b = some o → H' b = some o
theorem Same.refl (H : Hp) : Same H H := fun _ _ h => h
theorem Same.trans {H H1 H2 : Hp} (a : Same H H1) (b : Same H1 H2) : Same H H2 := fun c o h => b c o (a c o h)
theorem Same.free {H H' : Hp} (e : Same H H') {l : Addr} (h : H' l = Option.none) : H l = Option.none := by
  cases q : H l with
  | none => rfl
  | some o =>
    rw [e l o q] at h
    cases h
theorem Same.seq {K : PySem.W.Frag} {H H' : Hp} {a : Addr} {xs : List V} (e : Same H H') (h : SqL K H a xs) : SqL K H' a xs := by
  rcases h with (h | ⟨o, h⟩) | h
  · exact .inl (.inl (e _ _ h))
  · exact .inl (.inr ⟨o, e _ _ h⟩)
  · exact .inr h

end L2
namespace L2
open PySem PySem.Spec PyProof.Rows

/-! ### a list comprehension over the hand layer -/
def clOf (env : Env) (names : List (Str × NameKind)) (acc : List (Str × Addr)) : List (Str × Addr) :=
  match names with
  | [] => acc
  | x :: r => clOf env r (if x.2 == .free then (x.1, (env.cells.lookup x.1).getD 0) :: acc else acc)

theorem cl_forIn (env : Env) : ∀ (names : List (Str × NameKind)) (acc : List (Str × Addr)), (∀ x ∈ names, x.2 = .free → ∃ c, env.cells.lookup x.1 = some c) →
    (forIn names acc (fun (x : Str × NameKind) (cs : List (Str × Addr)) => (if x.2 == .free then (do
      let c ← cellOf env x.1
      pure (ForInStep.yield ((x.1, c) :: cs))) else pure (ForInStep.yield cs) : Sem (ForInStep (List (Str × Addr)))))) = (pure (clOf env names acc) : Sem _) := by
  intro names
  induction names with
  | nil => intro acc _; rw [List.forIn_nil]; rfl
  | cons x r ih =>
    intro acc h
    rw [List.forIn_cons]
    have hr := fun y hy => h y (List.mem_cons_of_mem _ hy)
    show _ = (pure (clOf env r (if x.2 == .free then (x.1, (env.cells.lookup x.1).getD 0) :: acc else acc)) : Sem _)
    by_cases hf : x.2 = .free
    · obtain ⟨c, e⟩ := h x List.mem_cons_self hf
      have e1 : cellOf env x.1 = pure c := by unfold cellOf; rw [e]
      have e2 : (x.2 == NameKind.free) = true := by rw [hf]; rfl
      simp only [e2, if_true, e1, pure_bind]
      rw [ih _ hr]
      simp only [e, Option.getD_some]
    · have e2 : (x.2 == NameKind.free) = false := by simpa using hf
      simp only [e2, Bool.false_eq_true, if_false, pure_bind]
      exact ih _ hr

theorem closureFor_some {scope : Scope} {env : Env} (h : ∀ x ∈ scope.names, x.2 = .free → ∃ c, env.cells.lookup x.1 = some c) : closureFor scope env = pure (clOf env scope.names []) := by
  have q := cl_forIn env scope.names [] h
  unfold closureFor
  simp only [bind_pure]
  exact q

theorem clOf_lookup (env : Env) (x : Str) : ∀ (names : List (Str × NameKind)) (acc : List (Str × Addr)),
    (clOf env names acc).lookup x = if (x, NameKind.free) ∈ names then some ((env.cells.lookup x).getD 0) else acc.lookup x := by
  intro names
  induction names with
  | nil => intro acc; rfl
  | cons y r ih =>
    intro acc
    obtain ⟨n, k⟩ := y
    show (clOf env r (if k == .free then (n, (env.cells.lookup n).getD 0) :: acc else acc)).lookup x = _
    rw [ih]
    by_cases h1 : (x, NameKind.free) ∈ r
    · rw [if_pos h1, if_pos (List.mem_cons_of_mem _ h1)]
    · rw [if_neg h1]
      by_cases hk : k = .free
      · subst hk
        rw [if_pos (by rfl), List.lookup_cons]
        by_cases hx : x = n
        · subst hx
          simp
        · have : (x == n) = false := by simpa using hx
          rw [this, if_neg]
          intro z
          rcases List.mem_cons.mp z with z | z
          · exact hx (Prod.mk.inj z).1
          · exact h1 z
      · have : (k == NameKind.free) = false := by simpa using hk
        rw [this, if_neg (by simp), if_neg]
        intro z
        rcases List.mem_cons.mp z with z | z
        · exact hk (Prod.mk.inj z).2.symm
        · exact h1 z

theorem lookup_mapk (f : Str → NameKind → NameKind) (x : Str) : ∀ names : List (Str × NameKind), (names.map fun y => (y.1, f y.1 y.2)).lookup x = (names.lookup x).map (f x)
  | [] => rfl
  | (n, k) :: r => by
    rw [List.map_cons, List.lookup_cons, List.lookup_cons, lookup_mapk f x r]
    by_cases hx : x = n
    · subst hx; simp
    · have : (x == n) = false := by simpa using hx
      simp [this]

theorem lookup_relabel (scope : Scope) (env : Env) (x : Str) : (relabel scope env).names.lookup x =
    (scope.names.lookup x).map fun k => if (k == .free && env.scope.kind == .function && env.kindOf x == some .cell) then .cell else k := by
  have q := lookup_mapk (fun n k => if (k == .free && env.scope.kind == .function && env.kindOf n == some .cell) then .cell else k) x scope.names
  rw [← q]
  unfold relabel
  dsimp only
  congr 1
  refine List.map_congr_left fun y _ => ?_
  obtain ⟨n, k⟩ := y
  dsimp only
  split <;> rfl

def compOk (sc cs : Scope) (N Nc : List Str) (fr : List (Option Nat)) : Bool :=
  cs.kind == .function && cs.names.all (fun x => x.2 != .cell && (x.2 != .local || cs.names.lookup x.1 == some .local) && (x.2 != .free || sc.names.lookup x.1 == some .cell || sc.names.lookup x.1 == some .free))
    && fr.length == Nc.length && (fr.zip Nc).all (fun y => match y.1 with
      | none => true
      | some j => N[j]? == some y.2 && cs.names.lookup y.2 == some .free)

structure CompOk (sc cs : Scope) (N Nc : List Str) (fr : List (Option Nat)) : Prop where
  kind : cs.kind = .function
  nocell : ∀ x ∈ cs.names, x.2 ≠ .cell
  nms : ∀ x ∈ cs.names, x.2 = .local → cs.names.lookup x.1 = some .local
  fre : ∀ x ∈ cs.names, x.2 = .free → sc.names.lookup x.1 = some .cell ∨ sc.names.lookup x.1 = some .free
  len : fr.length = Nc.length
  frs : ∀ (i j : Nat), fr[i]? = some (some j) → ∃ x, Nc[i]? = some x ∧ N[j]? = some x ∧ cs.names.lookup x = some .free

theorem CompOk.of {sc cs : Scope} {N Nc : List Str} {fr : List (Option Nat)} (h : compOk sc cs N Nc fr = true) : CompOk sc cs N Nc fr := by
  unfold compOk at h
  rw [Bool.and_eq_true, Bool.and_eq_true, Bool.and_eq_true] at h
  obtain ⟨⟨⟨h1, h2⟩, h3⟩, h4⟩ := h
  rw [List.all_eq_true] at h2 h4
  refine ⟨by simpa using h1, fun x hx => ?_, fun x hx hk => ?_, fun x hx hk => ?_, by simpa using h3, fun i j e => ?_⟩
  · have q := h2 x hx
    simp only [Bool.and_eq_true] at q
    simpa using q.1.1
  · have q := h2 x hx
    simp only [Bool.and_eq_true] at q
    have q2 := q.1.2
    rw [hk] at q2
    simpa using q2
  · have q := h2 x hx
    simp only [Bool.and_eq_true] at q
    have q2 := q.2
    rw [hk] at q2
    simp at q2
    rcases q2 with a | a
    · exact .inl a
    · exact .inr a
  · have hl : fr.length = Nc.length := by simpa using h3
    obtain ⟨hi, ei⟩ := List.getElem?_eq_some_iff.mp e
    have hi' : i < Nc.length := by omega
    have hm : (fr[i], Nc[i]) ∈ fr.zip Nc := by
      have : (fr.zip Nc)[i]'(by simp; omega) = (fr[i], Nc[i]) := by simp
      rw [← this]
      exact List.getElem_mem _
    have q := h4 _ hm
    rw [ei] at q
    simp only [Bool.and_eq_true] at q
    exact ⟨Nc[i], by simp [hi'], by simpa using q.1, by simpa using q.2⟩

/-- the block's own context -/
def cxC (X : Cx) (scope : Scope) (Nc : List Str) (Cc : Addr) (pins : List (Addr × Obj)) (fp : List Addr) (s3 : Shared) (H3 : Hp) : Cx :=
  { X with N := Nc, s₀ := s3, H₀ := H3, env := compEnvC scope (clOf X.env scope.names []) Cc X.env, outer := X.stack, stack := X.stack, ex := fp, fn := fun _ => false, pn := X.pn ++ pins, xe := fun _ _ => False }
def σc (fr : List (Option Nat)) (σ : St) : St := fr.map fun o => o.bind fun j => (σ[j]?).bind id
/-- the state may be forgotten down to σ -/
def Fwd (σ' σ : St) : Prop := σ'.length = σ.length ∧ ∀ (i : Nat) v, σ[i]? = some (some v) → σ'[i]? = some (some v)

/-- the tests of a comprehension -/
def PIfs (X : Cx) (ifs : List Expr) (t : TT) : Prop :=
  ∀ (pins : List (Addr × Obj)) (s : Shared) (σ : St) (H : Hp) (Q : Bool → Hp → Prop), Inv X pins σ H s → t σ H Q →
    wpAny (model X.prog X.w) X.A (forIn ifs true fun c r => if r = true then do
      let ok ← isTrue c X.env (eval c X.env)
      pure (ForInStep.yield ok) else pure (ForInStep.yield r)) (TP X pins σ Q) X.xe s
def tTrue : TT := fun _ H Q => Q true H
theorem pifs_nil {X : Cx} : PIfs X [] tTrue := fun _ _ _ H _ I h => wpAny_tests_nil ⟨H, I, h⟩
theorem pifs_one {X : Cx} {c : Expr} {t : TT} (h : PT X c t) : PIfs X [c] t := fun pins s σ H Q I q => wpAny_tests_one (h pins s σ H Q I q)

section
variable {prog : Program} {w : World} {A : Around} {R : Result → Shared → Prop} {s : Shared}
/-- the loop of a comprehension, any target -/
theorem comp_loop {elt target iter : Expr} {ifs : List Expr} {scope : Scope} {pos : Pos} {it acc : Value} {env : Env} (I : Nat → Shared → Prop)
    (turn : ∀ n s, I n s → wpAny (model prog w) A (pyNext it) (fun r s₁ => match r with
      | none => R (.ok .next) s₁
      | some v => wpAny (model prog w) A (letOwnedTupleGo target it v) (fun _ s₂ => wpAny (model prog w) A (assign target env v) (fun _ s₃ =>
          wpAny (model prog w) A (forIn ifs true fun c r => if r = true then do
            let ok ← isTrue c env (eval c env)
            pure (ForInStep.yield ok) else pure (ForInStep.yield r)) (fun ok s₄ =>
            if ok = true then wpAny (model prog w) A (eval elt env) (fun x s₅ =>
              wpAny (model prog w) A (call (.builtin "list.append") [acc, x]) (fun _ s₆ => ∃ m, m < n ∧ I m s₆) (fun _ _ => False) s₅) (fun _ _ => False) s₄
            else ∃ m, m < n ∧ I m s₄) (fun _ _ => False) s₃) (fun _ _ => False) s₂) (fun _ _ => False) s₁) (fun _ _ => False) s)
    (n : Nat) (h : I n s) :
    codeAny (model prog w) A (.compLoop (.ListComp elt [⟨target, iter, ifs, 0⟩] scope pos) 0 it acc env) R s := by
  refine codeAny_loop rfl I (fun n s hI => ?_) n h
  refine wpAny_noted (m := compTurn (.ListComp elt [⟨target, iter, ifs, 0⟩] scope pos) 0 it acc env) (env := env) ?_
  rw [compTurn_list]
  have no : ∀ {E : Value → Shared → Prop} (e : Value) (s : Shared), False → E e s := fun _ _ f => f.elim
  refine wpAny_bind (wpAny_standAt (wpAny_bind (wpAny_mono (turn n s hI) (fun r s₁ h₁ => ?_) no)))
  cases r with
  | none => exact wpAny_pure h₁
  | some v =>
    refine wpAny_bind (wpAny_mono h₁ (fun _ s₂ h₂ => ?_) no)
    refine wpAny_bind (wpAny_mono h₂ (fun _ s₃ h₃ => ?_) no)
    refine wpAny_bind (wpAny_mono h₃ (fun ok s₄ h₄ => ?_) no)
    cases ok with
    | false => exact wpAny_pure ⟨rfl, h₄⟩
    | true =>
      refine wpAny_bind (wpAny_bind (wpAny_mono h₄ (fun x s₅ h₅ => ?_) no))
      exact wpAny_bind (wpAny_mono h₅ (fun _ s₆ h₆ => wpAny_pure (wpAny_pure ⟨rfl, h₆⟩)) no)
end
end L2
namespace L2
open PySem PySem.Spec PyProof.Rows

theorem cl_fact {env : Env} {names : List (Str × NameKind)} {x : Str} {c : Addr} (hf : ∀ y ∈ names, y.2 = .free → ∃ c, env.cells.lookup y.1 = some c) (h : (clOf env names []).lookup x = some c) : (x, NameKind.free) ∈ names ∧ env.cells.lookup x = some c := by
  rw [clOf_lookup] at h
  by_cases hm : (x, NameKind.free) ∈ names
  · rw [if_pos hm] at h
    obtain ⟨c', e⟩ := hf _ hm rfl
    rw [e] at h
    exact ⟨hm, by rw [e]; exact h⟩
  · rw [if_neg hm] at h
    cases h
theorem cl_some {env : Env} {names : List (Str × NameKind)} {x : Str} {c : Addr} (hm : (x, NameKind.free) ∈ names) (h : env.cells.lookup x = some c) : (clOf env names []).lookup x = some c := by
  rw [clOf_lookup, if_pos hm, h]
  rfl

section
variable {X : Cx} {scope : Scope} {Nc : List Str} {fr : List (Option Nat)} {pins : List (Addr × Obj)} {σ : St} {H : Hp} {s : Shared} {fp : List Addr}

theorem comp_cells (ok : CompOk X.env.scope scope X.N Nc fr) (I : Inv X pins σ H s) : ∀ y ∈ scope.names, y.2 = .free → ∃ c, X.env.cells.lookup y.1 = some c := fun y hy hk => by
  rcases ok.fre y hy hk with z | z
  · exact I.ok.has y.1 (.inl z)
  · exact I.ok.has y.1 (.inr z)

/-- the block begins: the frame's dict is new, at the heap's end -/
theorem comp_start (ok : CompOk X.env.scope scope X.N Nc fr) (I : Inv X pins σ H s) (hf : ∀ b ∈ fp, FpOk X pins H b) (hlt : ∀ b ∈ fp, b < s.heap.objs.size) {h1 : Heap} {m1 : Str → Option Value} {tk : Nat} {o1 : Obj}
    (hn : h1.Ns s.heap.objs.size m1) (hs : Heap.SameBut s.heap.objs.size (s.heap.push o1) h1) :
    Inv (cxC X scope Nc s.heap.objs.size pins fp s H) [] (σc fr σ) H { s with heap := h1, toks := tk } := by
  have hcell := comp_cells ok I
  have up : ∀ b o, s.heap.get? b = some o → h1.get? b = some o := fun b o e => (hs.2 b (Nat.ne_of_lt (Heap.lt_size e))).trans (Heap.get?_push_of_some _ e)
  have stk : ∀ b, b ∈ frs X.stack → b ∈ X.env.locals :: X.fs := I.stkSub
  have clt : ∀ x c, X.env.cells.lookup x = some c → c < s.heap.objs.size := fun x c e => by
    obtain ⟨v, q⟩ := I.cell x c e
    exact q.lt
  have kw : ∀ x, (relabel scope X.env).names.lookup x = some .cell ∨ (relabel scope X.env).names.lookup x = some .free → scope.names.lookup x = some .free := fun x h => by
    rw [lookup_relabel] at h
    cases e : scope.names.lookup x with
    | none => rw [e] at h; rcases h with h | h <;> cases h
    | some k =>
      rw [e] at h
      have hm : (x, k) ∈ scope.names := PySem.mem_of_lookup e
      have nk := ok.nocell _ hm
      by_cases hk : k = .free
      · rw [hk]
      · exfalso
        have : (k == NameKind.free) = false := by simpa using hk
        simp only [Option.map_some, this, Bool.false_and, Bool.false_eq_true, if_false] at h
        rcases h with h | h
        · exact nk (Option.some.inj h)
        · exact hk (Option.some.inj h)
  refine ⟨⟨I.ok.mod, ok.kind, I.ok.glob, I.ok.blt, Nat.le_refl _, fun x y c h1 h2 => ?_, fun x hx => ?_, fun x c h _ => ?_, I.ok.hd, I.ok.frames, .inl rfl, fun b hb => ⟨?_, fun x c e => ?_⟩, I.bs, Nat.le_trans I.ok.bsz I.sz, fun b o e hb => ?_, fun b hb hb' => ?_, I.stack, I.stkFree⟩,
    rfl, I.bare, Un.kept up, ⟨m1, hn, fun i x v e1 e2 e3 => ?_⟩, fun x c e => ?_, I.hok.fresh (Nat.le_refl _), fun x c e => ?_, fun p hp => ?_, I.hok.kept up, ?_⟩
  · exact I.ok.inj x y c (cl_fact hcell h1).2 (cl_fact hcell h2).2
  · have q := kw x hx
    have hm : (x, NameKind.free) ∈ scope.names := PySem.mem_of_lookup q
    obtain ⟨c, e⟩ := hcell _ hm rfl
    exact ⟨c, cl_some hm e⟩
  · exact absurd h (by show ¬ (false = true); decide)
  · exact Nat.ne_of_lt (hlt b hb)
  · exact (hf b hb).2.2.2.2.1 x c (cl_fact hcell e).2
  · rcases (hf b hb).2.2.2.1 with z | z
    · exact I.ok.noex b o e z
    · exact absurd (Nat.lt_of_lt_of_le (Heap.lt_size e) (Nat.le_trans I.ok.bsz z)) (Nat.lt_irrefl _)
  · have q := hf b hb
    rcases List.mem_cons.mp (stk b hb') with z | z
    · exact q.2.1 z
    · exact q.2.2.1 z
  · have e2' : (σc fr σ)[i]? = some (some v) := e2
    unfold σc at e2'
    rw [List.getElem?_map] at e2'
    cases ef : fr[i]? with
    | none => rw [ef] at e2'; cases e2'
    | some o =>
      rw [ef] at e2'
      cases o with
      | none => cases e2'
      | some j =>
        obtain ⟨y, a1, a2, a3⟩ := ok.frs i j ef
        have a1' : (cxC X scope Nc s.heap.objs.size pins fp s H).N[i]? = some y := a1
        rw [a1'] at e1
        obtain rfl : y = x := Option.some.inj e1
        have ej : σ[j]? = some (some v) := by
          have e2'' : (σ[j]?).bind id = some v := Option.some.inj e2'
          cases es : σ[j]? with
          | none => rw [es] at e2''; cases e2''
          | some z => rw [es] at e2''; cases z with
            | none => cases e2''
            | some z' => exact congrArg some e2''
        have hm : (y, NameKind.free) ∈ scope.names := PySem.mem_of_lookup a3
        have kc := ok.fre _ hm rfl
        obtain ⟨m, hn', hl⟩ := I.loc
        obtain ⟨u, r, l⟩ := hl j y v a2 ej (.inr kc)
        refine ⟨u, r, .inr ?_⟩
        rcases l with ⟨k, _⟩ | ⟨k, c, e, z⟩
        · exfalso
          have k' : X.env.scope.names.lookup y = some .local := k
          rcases kc with q | q <;> (rw [q] at k'; cases k')
        · refine ⟨?_, c, cl_some hm e, ?_⟩
          · show (relabel scope X.env).names.lookup y = some .cell ∨ (relabel scope X.env).names.lookup y = some .free
            rw [lookup_relabel, a3]
            show some (if _ then _ else _) = _ ∨ some (if _ then _ else _) = _
            split
            · exact .inl rfl
            · exact .inr rfl
          · obtain ⟨oc, ho, hd⟩ := z
            exact ⟨oc, up _ _ ho, hd⟩
  · obtain ⟨v, oc, ho, hd⟩ := I.cell x c (cl_fact hcell e).2
    exact ⟨v, oc, up _ _ ho, hd⟩
  · exact I.freeC x c (cl_fact hcell e).2
  · have hp' : p ∈ X.pn ++ pins := by
      rcases List.mem_append.mp hp with z | z
      · exact z
      · exact absurd z (by simp)
    obtain ⟨e, n, ne, nf, d⟩ := I.pin p hp'
    refine ⟨up _ _ e, n, Nat.ne_of_lt (Heap.lt_size e), fun z => ?_, d⟩
    rcases List.mem_cons.mp (stk _ z) with z | z
    · exact ne z
    · exact nf z
  · unfold σc
    rw [List.length_map]
    exact ok.len
end
end L2
namespace L2
open PySem PySem.Spec PyProof.Rows

/-- the turns of a comprehension whose list is at D -/
def tTurns (J : It) (σ₀ : St) (g : TG) (tt : TT) (te : TE) (D : Addr) (H1 : Hp) (Q : VK) : Prop :=
  ∃ W : Nat → Nat → List V → Hp → Prop, (∃ m, W 0 m [] (upd H1 D (.lst []))) ∧ ∀ i m ys H, W i m ys H →
    (J.stop i H ∧ Q (.ref D) H) ∨ (J.go i H ∧ ∀ x H', J.yld i H x H' → g x σ₀ H' fun σ2 H2 => Fwd σ2 σ₀ ∧ tt σ2 H2 fun b H3 =>
      if b = true then te σ2 H3 fun y H4 => H4 D = some (.lst ys) ∧ ys.length < sizeLine ∧ ∃ m', m' < m ∧ W (i + 1) m' (ys ++ [y]) (upd H4 D (.lst (ys ++ [y])))
      else ∃ m', m' < m ∧ W (i + 1) m' ys H3)
def CompEndR (X : Cx) (pins : List (Addr × Obj)) (σ : St) (Q : VK) (acc : Value) (C : Addr) (r : Result) (s' : Shared) : Prop :=
  ∃ D H', acc = .ref D ∧ r = .ok .next ∧ Inv X pins σ H' s' ∧ FpOk X pins H' C ∧ (∃ m, s'.heap.Ns C m) ∧ Q (.ref D) H'

section
variable {X : Cx} {scope : Scope} {Nc : List Str} {fr : List (Option Nat)} {pins : List (Addr × Obj)} {σ : St} {H : Hp} {s : Shared} {fp : List Addr}
theorem comp_core {tg elt iter : Expr} {ifs : List Expr} {pos : Pos} {g : TG} {tt : TT} {te : TE} {J : It} {it : Addr} {tn : Nat → Heap → Prop} {Q : VK} {E : Value → Shared → Prop} (ok : CompOk X.env.scope scope X.N Nc fr) (hc : X.calm = true)
    (hg : ∀ Cc pins fp s3 H3, PG (cxC X scope Nc Cc pins fp s3 H3) tg g) (ht : ∀ Cc pins fp s3 H3, PIfs (cxC X scope Nc Cc pins fp s3 H3) ifs tt) (he : ∀ Cc pins fp s3 H3, PE (cxC X scope Nc Cc pins fp s3 H3) elt te)
    (I : Inv X pins σ H s) (T : Turn X.prog X.w X.K tg J fp it tn) (st : tn 0 s.heap) (hf : ∀ b ∈ fp, FpOk X pins H b) (w : ∀ D, H D = none → tTurns J (σc fr σ) g tt te D H Q) :
    wpAny (model X.prog X.w) X.A (newList []) (fun acc s₃ => wpAny (model X.prog X.w) X.A (newFunctionEnv scope X.env.globals (clOf X.env scope.names []) [] X.env.qual none .none (some X.env)) (fun cenv s₄ =>
      codeAny (model X.prog X.w) X.A (.compStart (.ListComp elt [⟨tg, iter, ifs, 0⟩] scope pos) 0 (.ref it) acc { cenv with scope := relabel scope X.env }) (CompEndR X pins σ Q acc cenv.locals) s₄) E s₃) E s := by
  have flt : ∀ b ∈ fp, b < s.heap.objs.size := fun b hb => by
    obtain ⟨o, e, _⟩ := T.obj 0 _ st b hb
    exact Heap.lt_size e
  refine wpAny_newList ?_ (by show 0 ≤ sizeLine; exact Nat.zero_le _)
  have I3 := I.lnew (ys := []) (its := []) (t' := s.toks) .nil (Nat.zero_le _)
  have st3 : tn 0 (s.heap.push { cls := .type "list", data := .seq ([] : List Value).toArray }) := T.keep 0 _ _ st fun b _ o e => Heap.get?_push_of_some _ e
  obtain ⟨W, ⟨m0, w0⟩, turn⟩ := w s.heap.objs.size I.fresh
  have hf3 : ∀ b ∈ fp, FpOk X pins (upd H s.heap.objs.size (.lst [])) b := fun b hb => ⟨by rw [upd_ne (Nat.ne_of_lt (flt b hb))]; exact (hf b hb).1, (hf b hb).2⟩
  generalize hD : s.heap.objs.size = D at *
  generalize hs3 : ({ s with heap := s.heap.push { cls := .type "list", data := .seq ([] : List Value).toArray } } : Shared) = s3
  have I3' : Inv X pins σ (upd H D (.lst [])) s3 := hs3 ▸ I3
  have st3' : tn 0 s3.heap := by rw [← hs3]; exact st3
  have flt3 : ∀ b ∈ fp, b < s3.heap.objs.size := fun b hb => by
    obtain ⟨o, e, _⟩ := T.obj 0 _ st3' b hb
    exact Heap.lt_size e
  refine wpAny_newFunctionEnv ok.nocell (fun x hx => absurd hx (by simp)) (fun h1 hn1 hsb => ?_) ok.kind
  have up : ∀ b o, s3.heap.get? b = some o → h1.get? b = some o := fun b o e => (hsb.2 b (Nat.ne_of_lt (Heap.lt_size e))).trans (Heap.get?_push_of_some _ e)
  have I4 : Inv (cxC X scope Nc s3.heap.objs.size pins fp s3 (upd H D (.lst []))) [] (σc fr σ) (upd H D (.lst [])) { s3 with heap := h1, toks := s3.toks + ([] : List (Str × Value)).length } := comp_start ok I3' hf3 flt3 hn1 hsb
  have st4 : tn 0 h1 := T.keep 0 _ _ st3' fun b _ o e => up b o e
  generalize hXc : cxC X scope Nc s3.heap.objs.size pins fp s3 (upd H D (.lst [])) = Xc at I4
  have hg' : PG Xc tg g := hXc ▸ hg _ _ _ _ _
  have ht' : PIfs Xc ifs tt := hXc ▸ ht _ _ _ _ _
  have he' : PE Xc elt te := hXc ▸ he _ _ _ _ _
  have eP : Xc.prog = X.prog := by rw [← hXc]; rfl
  have ew : Xc.w = X.w := by rw [← hXc]; rfl
  have eK : Xc.K = X.K := by rw [← hXc]; rfl
  have eA : Xc.A = X.A := by rw [← hXc]; rfl
  have ec : Xc.calm = true := by rw [← hXc]; exact hc
  have ex : Xc.xe = fun _ _ => False := by rw [← hXc]; rfl
  have ee : Xc.env = compEnvC scope (clOf X.env scope.names []) s3.heap.objs.size X.env := by rw [← hXc]; rfl
  have elo : Xc.env.locals = s3.heap.objs.size := by rw [ee]; rfl
  have stat : ∀ {H' : Hp}, (∀ b ∈ fp, H' b = none) → ∀ b ∈ fp, FpOk Xc [] H' b := fun {H'} hn b hb => by
    have q := hf b hb
    refine ⟨hn b hb, by rw [elo]; exact Nat.ne_of_lt (flt3 b hb), fun z => ?_, .inl (by rw [← hXc]; exact hb), fun x c e => ?_, fun p hp => ?_⟩
    · have z' : b ∈ frs X.stack := by rw [← hXc] at z; exact z
      rcases List.mem_cons.mp (I.stkSub b z') with z | z
      · exact q.2.1 z
      · exact q.2.2.1 z
    · have e' : (clOf X.env scope.names []).lookup x = some c := by rw [ee] at e; exact e
      exact q.2.2.2.2.1 x c (cl_fact (comp_cells ok I) e').2
    · have hp' : p ∈ (X.pn ++ pins) ++ [] := by rw [← hXc] at hp; exact hp
      rw [List.append_nil] at hp'
      exact q.2.2.2.2.2 p hp'
  have loop : codeAny (model X.prog X.w) X.A (.compLoop (.ListComp elt [⟨tg, iter, ifs, 0⟩] scope pos) 0 (.ref it) (.ref D) Xc.env) (CompEndR X pins σ Q (.ref D) s3.heap.objs.size) { s3 with heap := h1, toks := s3.toks + ([] : List (Str × Value)).length } := by
    refine comp_loop (fun n s' => ∃ i ys H', Inv Xc [] (σc fr σ) H' s' ∧ tn i s'.heap ∧ (∀ b ∈ fp, H' b = none) ∧ W i n ys H') ?_ m0 ⟨0, [], _, I4, st4, fun b hb => (hf3 b hb).1, w0⟩
    rintro n s5 ⟨i, ys, H5, I5, st5, fr5, w5⟩
    rcases turn i n ys H5 w5 with ⟨stop, qn⟩ | ⟨go, step⟩
    · have q := T.done Xc eP ew eK ec i [] s5 (σc fr σ) H5 (fun _ _ => False) I5 (stat fr5) st5 stop
      rw [eA] at q
      refine thn q fun r s6 ⟨hr, I6⟩ => ?_
      subst hr
      obtain ⟨m6, hn6, _⟩ := I6.loc
      have fC : H5 s3.heap.objs.size = none := by have := I6.free; rwa [elo] at this
      have bs := I6.base
      have os := I6.os
      have hk := I6.hok
      rw [← hXc] at bs os hk
      refine ⟨D, H5, rfl, rfl, I3'.call' os bs hk I6.bare fun b hb => ?_, I3'.fpOk (Nat.le_refl _) fC, ⟨m6, by rw [elo] at hn6; exact hn6⟩, qn⟩
      have q := hf b hb
      exact ⟨q.2.2.2.1, q.2.1, q.2.2.2.2.1, q.2.2.2.2.2⟩
    · have q := T.item Xc eP ew eK ec i [] s5 (σc fr σ) H5 (fun _ _ => False) I5 (stat fr5) st5 go
      rw [eA] at q
      refine thn q fun r s6 ⟨u, hr, h6⟩ => ?_
      subst hr
      refine thn h6 fun _ s7 ⟨x, H7, I7, r7, y7, st7, fr7⟩ => ?_
      have I7' := I7.pinned (stat fr7) (T.obj _ _ st7)
      have q8 := hg' _ s7 _ H7 x u _ I7' r7 (step x H7 y7)
      rw [eP, ew, eA, ex] at q8
      refine thn q8 fun _ s8 ⟨σ8, H8, I8, fw8, q8⟩ => ?_
      have q9 := ht' _ s8 σ8 H8 _ I8 q8
      rw [eP, ew, eA, ex] at q9
      refine thn q9 fun b s9 ⟨H9, I9, q9⟩ => ?_
      have again : ∀ {H' : Hp} {ys' : List V} {s' : Shared}, Inv Xc ([] ++ pinsAt fp s7.heap) σ8 H' s' → (∃ m', m' < n ∧ W (i + 1) m' ys' H') → ∃ m, m < n ∧ ∃ i ys H', Inv Xc [] (σc fr σ) H' s' ∧ tn i s'.heap ∧ (∀ b ∈ fp, H' b = none) ∧ W i m ys H' := fun {H' ys' s'} J' ⟨m', hm, w'⟩ => by
        refine ⟨m', hm, i + 1, ys', H', (J'.unpinned).weak fw8.1.symm fw8.2, T.keep _ _ _ st7 fun b hb o e => (J'.pin (b, o) (List.mem_append_right _ (List.mem_append_right _ (mem_pinsAt hb e)))).1, fun b hb => ?_, w'⟩
        obtain ⟨o, e, d⟩ := T.obj _ _ st7 b hb
        exact (J'.pin (b, o) (List.mem_append_right _ (List.mem_append_right _ (mem_pinsAt hb e)))).2.1
      cases b with
      | false =>
        rw [if_neg (by simp)]
        exact again I9 q9
      | true =>
        rw [if_pos rfl]
        have q9' : te σ8 H9 fun y H4 => H4 D = some (.lst ys) ∧ ys.length < sizeLine ∧ ∃ m', m' < n ∧ W (i + 1) m' (ys ++ [y]) (upd H4 D (.lst (ys ++ [y]))) := q9
        have q10 := he' _ s9 σ8 H9 _ I9 q9'
        rw [eP, ew, eA, ex] at q10
        refine thn q10 fun y s10 ⟨z, H10, I10, r10, e10, l10, w10⟩ => ?_
        have q11 := mt_append (X := Xc) _ s10 σ8 H10 (.ref D) [z] (.ref D) [y] (fun v H' => ∃ m', m' < n ∧ W (i + 1) m' (ys ++ [z]) H') I10 rfl (.cons r10 .nil) ⟨D, ys, z, rfl, rfl, e10, l10, w10⟩
        rw [eP, ew, eA, ex] at q11
        exact thn q11 fun _ s11 ⟨_, H11, I11, _, w11⟩ => again I11 w11
  have loop' := loop
  rw [ee] at loop'
  exact codeAny_compStart_list loop' (T.self X.A 0 _ _ _ st4 loop')

/-- e's own reading -/
def tComp (fr : List (Option Nat)) (wi : TI) (g : TG) (tt : TT) (te : TE) : TE := fun σ H Q => wi σ H fun J H1 => ∀ D, H1 D = none → tTurns J (σc fr σ) g tt te D H1 Q

theorem comp_after {C : Addr} {H' : Hp} {s' : Shared} {h' : Heap} (I : Inv X pins σ H' s') (f : FpOk X pins H' C) (hs : Heap.SameBut C s'.heap h') : Inv X pins σ H' { s' with heap := h' } :=
  I.turned (t' := s'.toks) (fun b o hb e => (hs.2 b hb).trans e) f.1 f.2.1 f.2.2.2.1 f.2.2.2.2.1 f.2.2.2.2.2

theorem pe_comp {tg elt iter : Expr} {ifs : List Expr} {pos : Pos} {g : TG} {tt : TT} {te : TE} {wi : TI} (ok : compOk X.env.scope scope X.N Nc fr = true) (hc : X.calm = true) (hi : PI X tg iter wi)
    (hg : ∀ Cc pins fp s3 H3, PG (cxC X scope Nc Cc pins fp s3 H3) tg g) (ht : ∀ Cc pins fp s3 H3, PIfs (cxC X scope Nc Cc pins fp s3 H3) ifs tt) (he : ∀ Cc pins fp s3 H3, PE (cxC X scope Nc Cc pins fp s3 H3) elt te)
    (hs : ∀ x, foldedSetIterable iter X.env x = pure x := by intro _; rfl) :
    PE X (.ListComp elt [⟨tg, iter, ifs, 0⟩] scope pos) (tComp fr wi g tt te) := by
  have ok := CompOk.of ok
  intro pins s σ H Q I h
  rw [eval_ListComp]
  refine wpAny_comprehension_free (use := none) rfl hs (closureFor_some (comp_cells ok I)) ok.kind ok.nms (thn (hi pins s σ H _ I h) fun v s1 h1 => thn h1 fun itv s2 h2 => ?_)
  obtain ⟨it, fp, tn, J, H2, e, I2, T, st2, f2, w⟩ := h2
  subst e
  refine thn (comp_core ok hc hg ht he I2 T st2 f2 w) fun acc s3 h3 => thn h3 fun cenv s4 h4 => codeAny_mono h4 fun r s5 h5 => ?_
  obtain ⟨D, H5, rfl, rfl, I5, f5, ⟨m5, n5⟩, q5⟩ := h5
  exact ⟨m5, n5, fun h' sb => ⟨.ref D, H5, comp_after I5 f5 sb, rfl, q5⟩⟩

/-- name = a comprehension: the store comes ahead of the letting go -/
theorem ps_comp {tg elt iter : Expr} {ifs : List Expr} {pos pos' pos'' : Pos} {g : TG} {tt : TT} {te : TE} {wi : TI} {i : Nat} {x : Str} (ok : compOk X.env.scope scope X.N Nc fr = true) (hc : X.calm = true) (hN : X.N.Nodup) (hi : X.N[i]? = some x) (hx : Loc X.env.scope x) (hit : PI X tg iter wi)
    (hg : ∀ Cc pins fp s3 H3, PG (cxC X scope Nc Cc pins fp s3 H3) tg g) (ht : ∀ Cc pins fp s3 H3, PIfs (cxC X scope Nc Cc pins fp s3 H3) ifs tt) (he : ∀ Cc pins fp s3 H3, PE (cxC X scope Nc Cc pins fp s3 H3) elt te)
    (hsw : swapsWith (.ListComp elt [⟨tg, iter, ifs, 0⟩] scope pos) (some (.Name x pos')) pos''.line X.env = pure true)
    (hs : ∀ x, foldedSetIterable iter X.env x = pure x := by intro _; rfl) (hf : X.fn x = true ∨ X.env.scope.names.lookup x = some .local := by first | exact .inl rfl | exact .inr rfl | assumption) :
    PS X (.Assign [.Name x pos'] (.ListComp elt [⟨tg, iter, ifs, 0⟩] scope pos) pos'') (tAsg (tComp fr wi g tt te) (gName i)) := by
  have ok := CompOk.of ok
  intro pins s σ H Dn I h
  rw [exec_Assign_Name_used _ _ _ _ hsw]
  refine wpAny_bind (wpAny_standAt (wpAny_bind ?_))
  refine wpAny_bind (m := comprehension (.ListComp elt [⟨tg, iter, ifs, 0⟩] scope pos) scope X.env (firstIterPos [⟨tg, iter, ifs, 0⟩] pos) (newList []) false (eval iter X.env) (some (assign (.Name x pos') X.env))) ?_
  refine thn (wpAny_comprehension_free (use := some (assign (.Name x pos') X.env)) (Q := fun _ s' => SP X pins Dn .next s') rfl hs (closureFor_some (comp_cells ok I)) ok.kind ok.nms (thn (hit pins s σ H _ I h) fun v s1 h1 => thn h1 fun itv s2 h2 => ?_)) fun _ s' q => wpAny_pure (wpAny_pure q)
  obtain ⟨it, fp, tn, J, H2, e, I2, T, st2, f2, w⟩ := h2
  subst e
  refine thn (comp_core ok hc hg ht he I2 T st2 f2 w) fun acc s3 h3 => thn h3 fun cenv s4 h4 => codeAny_mono h4 fun r s5 h5 => ?_
  obtain ⟨D, H5, rfl, rfl, I5, f5, ⟨m5, n5⟩, q5⟩ := h5
  refine wpAny_assign_Name (store_ok2 (v := .ref D) I5 hN hi hx rfl (fun s6 I6 ⟨a, sb, ha⟩ => ?_) hf)
  have nC : cenv.locals ≠ a := by
    rcases ha with ha | ha
    · rw [ha]; exact f5.2.1
    · exact Ne.symm (f5.2.2.2.2.1 x a ha)
  refine ⟨m5, n5.sameBut sb nC, fun h' sb' => ⟨_, H5, comp_after I6 f5 sb', q5⟩⟩
end
end L2
namespace L2
open PySem PySem.Spec PyProof.Rows
section
variable {X : Cx}
/-! ### is, is not, of bools -/
theorem op_isB : OpR X (compareOp .Is) (fun x y H Q => ∃ c d, x = .bl c ∧ y = .bl d ∧ Q (.bl (c == d)) H) := by
  intro pins s σ H x y v u Q I rx ry h
  obtain ⟨c, d, rfl, rfl, q⟩ := h
  cases rx
  cases ry
  exact is_bool (fin_bl I q rfl)
theorem op_isnotB : OpR X (compareOp .IsNot) (fun x y H Q => ∃ c d, x = .bl c ∧ y = .bl d ∧ Q (.bl (c != d)) H) := by
  intro pins s σ H x y v u Q I rx ry h
  obtain ⟨c, d, rfl, rfl, q⟩ := h
  cases rx
  cases ry
  exact isnot_bool (fin_bl I q rfl)
/-! ### () + u -/
def rCat0 (K : PySem.W.Frag) : R2 := fun x y H Q => ∃ a b ys, x = .ref a ∧ y = .ref b ∧ SqT K H a [] ∧ SqT K H b ys ∧ Q (.ref b) H
theorem op_cat0 : OpR X (binaryOp .Add) (rCat0 X.K) := by
  intro pins s σ H x y v u Q I rx ry h
  obtain ⟨a, b, ys, rfl, rfl, ha, hb, q⟩ := h
  cases rx
  cases ry
  obtain ⟨its, r1, p1, _⟩ := I.tuple ha
  obtain ⟨its2, r2, p2, _⟩ := I.tuple hb
  have e : its = [] := r1.nil_iff.mpr rfl
  subst e
  obtain ⟨⟨cls, dd, data, sl⟩, ho, hc, n, hd⟩ := id p1
  obtain ⟨⟨cls2, dd2, data2, sl2⟩, ho2, hc2, n2, hd2⟩ := id p2
  simp only at hc hd hc2 hd2
  subst hc hd hc2 hd2
  exact concat_meets ⟨_, ho, rfl⟩ ⟨_, ho2, rfl⟩ noFill_tuple_add seq_tuple_add PySem.F.slot_tuple_add PySem.F.entry_tuple_add (PySem.F.args_tuple_add_2 _ _)
    (tuple_addW0 a b [].toArray its2.toArray n n2 dd dd2 sl sl2 (by simp)) ⟨ho, ho2, ⟨.ref b, H, I, rfl, q⟩⟩
/-! ### the whole of a tuple -/
theorem getItem_tuple_all {prog : Program} {w : World} {A : Around} {E : Value → Shared → Prop} {s : Shared} {t sl : Addr} {items : Array Value} {vl vu : Value} {lo hi : Option Int} {Q : Value → Shared → Prop} (ht : IsTup s.heap t items) (hs : s.heap.IsSliceOf sl vl vu .none) (pl : IsPart vl lo) (pu : IsPart vu hi)
    (hw : HT.sIx items.size 0 lo = 0 ∧ HT.sIx items.size items.size hi = items.size) (h : Q (.ref t) s) : wpAny (model prog w) A (getItem (.ref t) (.ref sl)) Q E s := by
  obtain ⟨os, hos, hcs, hds⟩ := id hs
  have hTs : s.TypeIs (.ref sl) "slice" := ⟨os, hos, hcs⟩
  unfold getItem
  try with_reducible refine wpAny_holding ?_
  first | refine wpAny_bind (wpAny_pure ?_) | skip
  refine wpAny_bind (wpAny_sequenceKey ht.typeIs (by decide) ?_)
  refine wpAny_bind (wpAny_callSpecial?_slot (name := Str.ofString "__getitem__") ht.typeIs PyProof.Rows.slot_tuple_getitem
    (wpAny_call_entry PyProof.Rows.slot_tuple_getitem ht.typeIs entry_tuple_getitem ?_ (args_tuple_getitem _ _)))
  show wpAny _ _ (Builtin.Tuple.tupleItemsOf (.ref t) >>= _) _ _ s
  refine wpAny_bind (tupleItemsOf_ ht ?_)
  refine wpAny_bind (wpAny_typeOf hTs ?_)
  rw [if_pos (by decide)]
  refine wpAny_bind (HT.sliceApplied_gen hs pl pu ?_)
  have hyes : ((((HT.sIx items.size 0 lo : Nat) : Int) == 0 && (1 : Int) == 1 && (HT.sIx items.size items.size hi - HT.sIx items.size 0 lo) == items.size) = true) := by
    rw [hw.1, hw.2]
    simp
  show wpAny _ _ (if (((HT.sIx items.size 0 lo : Nat) : Int) == 0 && (1 : Int) == 1 && (HT.sIx items.size items.size hi - HT.sIx items.size 0 lo) == items.size) = true then _ else _) _ _ s
  rw [if_pos hyes]
  have ex : wpAny (model prog w) A.in1 (Builtin.Tuple.tupleIsExact (.ref t)) (fun b s' => b = true ∧ s' = s) E s := by
    unfold Builtin.Tuple.tupleIsExact
    exact wpAny_bind (wpAny_typeOf ht.typeIs (wpAny_pure ⟨by decide, rfl⟩))
  refine wpAny_bind (thn ex fun b s' q => ?_)
  obtain ⟨rfl, rfl⟩ := q
  rw [if_pos rfl]
  exact wpAny_bind (wpAny_rule (wpAny_pure ⟨_, rfl, wpAny_pure h⟩))
def rSlW (K : PySem.W.Frag) : V → Option Int → Option Int → Hp → VK → Prop := fun x lo hi H Q => ∃ a xs, x = .ref a ∧ SqT K H a xs ∧
  (HT.sIx xs.length 0 lo = 0 ∧ HT.sIx xs.length xs.length hi = xs.length) ∧ Q (.ref a) H
theorem sl_tupW : SlR X (rSlW X.K) := by
  intro pins s σ H x v vl vu lo hi sl Q I rx hs pl pu h
  obtain ⟨a, xs, rfl, hx, hw, q⟩ := h
  cases rx
  obtain ⟨its, r, ht, hz⟩ := I.tuple hx
  have hlen : its.toArray.size = xs.length := by rw [List.size_toArray]; exact r.length.symm
  refine ⟨"tuple", _, PyProof.Rows.slot_tuple_getitem.lookup, ht.typeIs, ?_⟩
  exact getItem_tuple_all ht hs pl pu (by rw [hlen]; exact hw) ⟨.ref a, H, I, rfl, q⟩
/-! ### t * n -/
theorem noFill_tuple_mul : fillsNumberSlot (.type "tuple") "mul" = pure false :=
  PySem.fillsNumberSlot_seq (id := "tuple.__mul__") (r := some (.builtin "tuple.__rmul__")) F.slot_tuple_mul.lookup (by decide +kernel) F.slot_tuple_rmul.lookup (by decide +kernel)
theorem repeat_tuple : seqRepeat? (.type "tuple") = pure (some (.builtin "tuple.__mul__")) := by
  unfold seqRepeat?
  have e1   := PySem.seqSlot_of (T := "tuple") (name := "__mul__") (id := "tuple.__mul__") F.slot_tuple_mul.lookup (by decide +kernel)
  have e2   := PySem.seqSlot_of (T := "tuple") (name := "__rmul__") (id := "tuple.__rmul__") F.slot_tuple_rmul.lookup (by decide +kernel)
  rw [e1, e2]
  rfl
theorem rmul_int_tuple (a : Int) (t : Tok) (l : Addr) (items : Array Value) (n : Nat) (dd : Option Addr) (sl : Array (Option Value)) :
    Meets (Builtin.«int.__rmul__» ⟨[.int a t, .ref l], []⟩) (fun _ R s => s.heap.get? l = some { cls := .type "tuple", dict := dd, data := .seq items n, slots := sl } ∧ R (.ok (.ret Value.notImplemented)) s) :=
  .of_wp fun prog w A R s h => by
    obtain ⟨hp, g, d, tk, os⟩ := s
    obtain ⟨hl, h⟩ := h
    wp_walk
    exact ⟨_, rfl, h⟩
theorem tuple_mulW (l : Addr) (items : Array Value) (n : Nat) (dd : Option Addr) (sl : Array (Option Value)) (x : Int) (u : Tok) (h1 : 1 < x) (h2 : x < 2 ^ 63) (h3 : items.isEmpty = false) (h4 : items.size * x ≤ sizeLine) :
    Meets (Builtin.«tuple.__mul__» ⟨[.ref l, .int x u], []⟩) (fun _ R s => s.heap.get? l = some { cls := .type "tuple", dict := dd, data := .seq items n, slots := sl } ∧
      R (.ok (.ret (Value.ref s.heap.objs.size))) { s with heap := s.heap.push { cls := Value.type "tuple", data := Data.seq (List.foldl (fun x1 x2 => x1 ++ x2) #[] (List.replicate x.toNat items)) } }) :=
  .of_wp fun prog w A R s h => by
    obtain ⟨hl, h⟩ := h
    have hT : s.TypeIs (.ref l) "tuple" := ⟨_, hl, rfl⟩
    have hI : IsTup s.heap l items := ⟨_, hl, rfl, n, rfl⟩
    have f1 := AutoSeq1.idx_int
    unfold Builtin.«tuple.__mul__»
    obtain ⟨hp, g, d, tk, os⟩ := s
    wp_walk using wpAny_loadPart' hl
    rw [if_neg (by simp; omega)]
    refine wpAny_bind (tupleItemsOf_ hI ?_)
    dsimp only
    have hx1 : (x == 1) = false := by
      have : x ≠ 1 := by omega
      simpa using this
    have e0 : ¬ (items.isEmpty || x == 1) = true := by
      rw [h3, hx1]
      simp
    have e1 : ¬ (decide (x ≤ 0) || items.isEmpty) = true := by
      have : ¬ x ≤ 0 := by omega
      rw [h3]
      simpa using this
    have hl9 : (sizeLine : Int) ≤ (2 ^ 63 - 1) / 8 := by decide
    have e2 : ¬ ((items.size : Int) * x > (2 ^ 63 - 1) / 8) := by omega
    have e3 : ¬ Builtin.Tuple.tupleTooMany ((items.size : Int) * x) = true := by
      unfold Builtin.Tuple.tupleTooMany
      simpa using h4
    rw [if_neg e0, if_neg e1, if_neg e2, if_neg e3]
    have hsz : (List.foldl (fun x1 x2 => x1 ++ x2) #[] (List.replicate x.toNat items)).size ≤ sizeLine := by
      have q := foldl_rep items.toList x.toNat []
      have q2 : List.foldl (fun x1 x2 => x1 ++ x2) #[] (List.replicate x.toNat items) = (List.replicate x.toNat items.toList).flatten.toArray := by
        simpa using q
      rw [q2, List.size_toArray, len_rep, Array.length_toList]
      have e : ((x.toNat : Nat) : Int) = x := by omega
      have : ((x.toNat * items.size : Nat) : Int) ≤ (sizeLine : Int) := by
        rw [Int.natCast_mul, e, Int.mul_comm]
        exact h4
      omega
    exact wpAny_bind (m := Builtin.Tuple.tupleExact _) (wpAny_newObj_type (wpAny_pure ⟨_, rfl, h⟩) hsz)
def rRepT (K : PySem.W.Frag) : R2 := fun x y H Q => ∃ l k xs, x = .ref l ∧ y = .int k ∧ SqT K H l xs ∧ 1 < k ∧ k < 2 ^ 63 ∧ xs ≠ [] ∧ (xs.length : Int) * k ≤ sizeLine ∧
  ∀ p, H p = none → Q (.ref p) (upd H p (.tup (List.replicate k.toNat xs).flatten))
theorem op_repT : OpR X (binaryOp .Mult) (rRepT X.K) := by
  intro pins s σ H x y v u Q I rx ry h
  obtain ⟨l, k, xs, rfl, rfl, hH, h1, h2, hne, hz, q⟩ := h
  cases rx
  obtain ⟨t, rfl⟩ := ry
  obtain ⟨its, r, ht, hzz⟩ := I.tuple hH
  have hl := r.length
  obtain ⟨⟨cls, dd, data, sl⟩, ho, hc, n, hd⟩ := id ht
  simp only at hc hd
  subst hc hd
  have hnew : List.foldl (fun x1 x2 => x1 ++ x2) #[] (List.replicate k.toNat its.toArray) = (List.replicate k.toNat its).flatten.toArray := by
    have := foldl_rep its k.toNat []
    rw [List.nil_append] at this
    exact this
  have h3 : its.toArray.isEmpty = false := by
    cases its with
    | nil => exact absurd (r.nil_iff.mp rfl) hne
    | cons a b => rfl
  have h4 : (its.toArray.size : Int) * k ≤ sizeLine := by rw [List.size_toArray, ← hl]; exact hz
  refine wpAny_binaryOp_repeat_ref (T := "tuple") (U := "int") (by decide) ⟨_, ho, rfl⟩ (fun s' => typeIs_int s' k t) noFill_tuple_mul F.fills_int_mul F.slot_int_rmul repeat_tuple F.slot_int_index.lookup
    (call_meets F.slot_int_rmul (typeIs_int s k t) F.entry_int_rmul (F.args_int_rmul_2 _ _) (rmul_int_tuple k t l its.toArray n dd sl)
      ⟨ho, rfl, ⟨_, ho, rfl⟩, call_meets F.slot_tuple_mul ⟨_, ho, rfl⟩ F.entry_tuple_mul (F.args_tuple_mul_2 _ _) (tuple_mulW l its.toArray n dd sl k t h1 h2 h3 h4) ⟨ho, ?_⟩⟩)
  rw [hnew]
  have hln : (List.replicate k.toNat xs).flatten.length ≤ sizeLine := by
    rw [len_rep]
    have e : ((k.toNat : Nat) : Int) = k := by omega
    have : ((k.toNat * xs.length : Nat) : Int) ≤ (sizeLine : Int) := by
      rw [Int.natCast_mul, e, Int.mul_comm]
      exact hz
    omega
  refine ⟨.ref s.heap.objs.size, _, I.laid (t' := s.toks) (o := .tup (List.replicate k.toNat xs).flatten) (fun b ob q => Heap.get?_push_of_some _ q) (Nat.le_refl _) ⟨hln, _, r.rep k.toNat, IsTup.new _ _⟩, rfl, q _ I.fresh⟩
/-! ### all, any of a list of bools -/
theorem boolsAre_of {bs : List Bool} : ∀ {us : List Value}, Vals (bs.map V.bl) us → PyProof.Rows.LSm.BoolsAre us bs := by
  induction bs with
  | nil => intro us r; cases r; exact .nil
  | cons b bs ih =>
    intro us r
    cases r with
    | cons a t => cases a; exact .cons _ (ih t)
end
end L2
namespace L2
open PySem PySem.Spec PyProof.Rows
section
variable {X : Cx}
theorem iter_up {s : Shared} {h' : Heap} {o : Obj} (hk : ∀ b x, b ∉ [s.heap.objs.size] → (s.heap.push o).get? b = some x → h'.get? b = some x) : ∀ b x, s.heap.get? b = some x → h'.get? b = some x :=
  fun b x e => hk b x (fun hm => by
    rw [List.mem_singleton.mp hm] at e
    exact Nat.lt_irrefl _ (Heap.lt_size e)) (Heap.get?_push_of_some _ e)
theorem all_of (bs : List Bool) : ((List.range bs.length).all fun i => (bs[i]?).getD true) = bs.all id := by
  rw [Bool.eq_iff_iff]
  simp only [List.all_eq_true, List.mem_range, id]
  constructor
  · intro h b hb
    obtain ⟨i, hi, rfl⟩ := List.mem_iff_getElem.mp hb
    have := h i hi
    simpa [hi] using this
  · intro h i hi
    simp only [List.getElem?_eq_getElem hi, Option.getD_some]
    exact h _ (List.getElem_mem hi)
theorem any_of (bs : List Bool) : ((List.range bs.length).any fun i => (bs[i]?).getD false) = bs.any id := by
  rw [Bool.eq_iff_iff]
  simp only [List.any_eq_true, List.mem_range, id]
  constructor
  · rintro ⟨i, hi, h⟩
    simp only [List.getElem?_eq_getElem hi, Option.getD_some] at h
    exact ⟨_, List.getElem_mem hi, h⟩
  · rintro ⟨b, hb, h⟩
    obtain ⟨i, hi, rfl⟩ := List.mem_iff_getElem.mp hb
    exact ⟨i, hi, by simpa [hi] using h⟩
theorem call_all (hc : X.calm = true) : CallR X (.builtin "all") (fun xs H Q => ∃ (p : Addr) (bs : List Bool), xs = [.ref p] ∧ SqL X.K H p (bs.map V.bl) ∧ Q (.bl (bs.all id)) H) := by
  intro pins s σ H xs us Q I r h
  obtain ⟨p, bs, rfl, hq, q⟩ := h
  obtain ⟨u, rfl, rx⟩ := vals1 r
  cases rx
  obtain ⟨its, r', pl, hz⟩ := I.list hq
  have hb := boolsAre_of r'
  have hl := pl.isList
  have hlt : p < s.heap.objs.size := by obtain ⟨_, e, _⟩ := hl; exact Heap.lt_size e
  refine call_all_walk (wpAny_pyIter_list hl ?_)
  refine ⟨s.heap.objs.size, [s.heap.objs.size, p], [s.heap.objs.size], its.toArray.size, _, _, fun i => (bs[i]?).getD true, rfl, Walks.list (A := X.A.in1) (I.ok.hd hc) _ p (Nat.ne_of_lt hlt) its.toArray,
    ⟨⟨_, Heap.get?_push_size _ rfl, rfl, rfl⟩, hl.push _⟩, fun i v s' Q' E' hP hQ => ?_, fun h' tk hk => ?_⟩
  · obtain ⟨b, e, rfl⟩ := hb.get i v (by simpa using hP)
    simp only [e, Option.getD_some] at hQ
    exact wpAny_truthy_bool hQ
  · have e : its.toArray.size = bs.length := by
      have := r'.length
      rw [List.length_map] at this
      rw [List.size_toArray, ← this]
    rw [e, all_of]
    exact ⟨.bl (bs.all id), H, I.kept (iter_up hk), rfl, q⟩
theorem call_any (hc : X.calm = true) : CallR X (.builtin "any") (fun xs H Q => ∃ (p : Addr) (bs : List Bool), xs = [.ref p] ∧ SqL X.K H p (bs.map V.bl) ∧ Q (.bl (bs.any id)) H) := by
  intro pins s σ H xs us Q I r h
  obtain ⟨p, bs, rfl, hq, q⟩ := h
  obtain ⟨u, rfl, rx⟩ := vals1 r
  cases rx
  obtain ⟨its, r', pl, hz⟩ := I.list hq
  have hb := boolsAre_of r'
  have hl := pl.isList
  have hlt : p < s.heap.objs.size := by obtain ⟨_, e, _⟩ := hl; exact Heap.lt_size e
  refine call_any_walk (wpAny_pyIter_list hl ?_)
  refine ⟨s.heap.objs.size, [s.heap.objs.size, p], [s.heap.objs.size], its.toArray.size, _, _, fun i => (bs[i]?).getD false, rfl, Walks.list (A := X.A.in1) (I.ok.hd hc) _ p (Nat.ne_of_lt hlt) its.toArray,
    ⟨⟨_, Heap.get?_push_size _ rfl, rfl, rfl⟩, hl.push _⟩, fun i v s' Q' E' hP hQ => ?_, fun h' tk hk => ?_⟩
  · obtain ⟨b, e, rfl⟩ := hb.get i v (by simpa using hP)
    simp only [e, Option.getD_some] at hQ
    exact wpAny_truthy_bool hQ
  · have e : its.toArray.size = bs.length := by
      have := r'.length
      rw [List.length_map] at this
      rw [List.size_toArray, ← this]
    rw [e, any_of]
    exact ⟨.bl (bs.any id), H, I.kept (iter_up hk), rfl, q⟩
/-! ### isinstance(x, T), T one of the built-in types -/
/-- the built-in type of a thing: int, bool, str, None, list, tuple -/
def tyName (K : PySem.W.Frag) (H : Hp) (x : V) (n : String) : Prop := match x with
  | .non => n = "NoneType"
  | .bl _ => n = "bool"
  | .int _ => n = "int"
  | .str _ => n = "str"
  | .ref a => (n = "list" ∧ ∃ xs, SqL K H a xs) ∨ (n = "tuple" ∧ ∃ xs, SqT K H a xs)
  | _ => False
theorem inst_ok {pins : List (Addr × Obj)} {σ : St} {H : Hp} {s : Shared} {A : Around} {E : Value → Shared → Prop} {Q : Value → Shared → Prop} {c : Value} {b : Bool} {x : V} {u : Value} {n : String} (I : Inv X pins σ H s) (rx : RelV x u) (ty : tyName X.K H x n)
    (e : PySem.W.kitOne X.K (.type n) c = some b) (h : ∀ tk, Q (.bool b) { s with toks := tk }) : wpAny (model X.prog X.w) A (call (.builtin "isinstance") [u, c]) Q E s := by
  cases x with
  | non => cases (show n = _ from ty); exact isinst_ok I rx .non e h
  | bl y => cases (show n = _ from ty); exact isinst_ok I rx (.bl y) e h
  | int i => cases (show n = _ from ty); exact isinst_ok I rx (.int i) e h
  | str y => cases (show n = _ from ty); exact isinst_ok I rx (.str y) e h
  | ref a =>
    cases (show u = Value.ref a from rx)
    rcases (show (n = "list" ∧ ∃ xs, SqL X.K H a xs) ∨ (n = "tuple" ∧ ∃ xs, SqT X.K H a xs) from ty) with ⟨rfl, xs, hx⟩ | ⟨rfl, xs, hx⟩
    · obtain ⟨its, _, pl, _⟩ := I.list hx
      obtain ⟨o, h1, h2, _⟩ := pl.isList
      exact PySem.W.kia_one PySem.W.kitx_list I.kIn ⟨o, h1, h2⟩ e (fun z => nomatch z) h
    · obtain ⟨its, _, pl, _⟩ := I.tuple hx
      obtain ⟨o, h1, h2, _⟩ := pl
      exact PySem.W.kia_one PySem.W.kitx_tuple I.kIn ⟨o, h1, h2⟩ e (fun z => nomatch z) h
  | _ => exact False.elim ty
/-- the answer by the names of the two types -/
def isSub (n c : String) : Bool := n == c || (n == "bool" && c == "int")
theorem kit_tab (K : PySem.W.Frag) {n c : String} (hn : n = "NoneType" ∨ n = "bool" ∨ n = "int" ∨ n = "str" ∨ n = "list" ∨ n = "tuple") (hc : c = "int" ∨ c = "bool" ∨ c = "str" ∨ c = "list" ∨ c = "tuple") : PySem.W.kitOne K (.type n) (.type c) = some (isSub n c) := by
  rcases hn with rfl | rfl | rfl | rfl | rfl | rfl <;> rcases hc with rfl | rfl | rfl | rfl | rfl <;> first | rfl | (unfold PySem.W.kitOne; rfl) | trace_state
theorem call_isinst : CallR X (.builtin "isinstance") (fun xs H Q => ∃ x c n, xs = [x, .ty c] ∧ (c = "int" ∨ c = "bool" ∨ c = "str" ∨ c = "list" ∨ c = "tuple") ∧ tyName X.K H x n ∧ Q (.bl (isSub n c)) H) := by
  intro pins s σ H xs us Q I r h
  obtain ⟨x, c, n, rfl, hc, ty, q⟩ := h
  obtain ⟨u, u2, rfl, rx, rc⟩ := vals2 r
  cases rc
  have hn : n = "NoneType" ∨ n = "bool" ∨ n = "int" ∨ n = "str" ∨ n = "list" ∨ n = "tuple" := by
    cases x with
    | non => exact .inl ty
    | bl y => exact .inr (.inl ty)
    | int i => exact .inr (.inr (.inl ty))
    | str y => exact .inr (.inr (.inr (.inl ty)))
    | ref a =>
      rcases (show (n = "list" ∧ ∃ xs, SqL X.K H a xs) ∨ (n = "tuple" ∧ ∃ xs, SqT X.K H a xs) from ty) with z | z
      · exact .inr (.inr (.inr (.inr (.inl z.1))))
      · exact .inr (.inr (.inr (.inr (.inr z.1))))
    | _ => exact False.elim ty
  exact inst_ok I rx ty (kit_tab X.K hn hc) fun tk => ⟨.bl (isSub n c), H, I.tok tk, rfl, q⟩
end
end L2
namespace L2
open PySem PySem.Spec PyProof.Rows

/-! # The data layer: values as trees, the heap hidden -/
inductive D where
  | int (i : Int) | bl (b : Bool) | non | str (x : Str) | tup (ds : List D) | lst (ds : List D)
  deriving Inhabited

mutual
def Den (K : PySem.W.Frag) (C : Hp) (v : V) : D → Prop
  | .int i => v = .int i
  | .bl b => v = .bl b
  | .non => v = .non
  | .str x => v = .str x
  | .tup ds => ∃ a xs, v = .ref a ∧ SqT K C a xs ∧ Dens K C xs ds
  | .lst ds => ∃ a xs, v = .ref a ∧ SqL K C a xs ∧ Dens K C xs ds
def Dens (K : PySem.W.Frag) (C : Hp) (vs : List V) : List D → Prop
  | [] => vs = []
  | d :: ds => ∃ x xs, vs = x :: xs ∧ Den K C x d ∧ Dens K C xs ds
end

theorem Same.seqT {K : PySem.W.Frag} {H H' : Hp} {a : Addr} {xs : List V} (e : Same H H') (h : SqT K H a xs) : SqT K H' a xs := by
  rcases h with h | h
  · rcases h with h | ⟨o, h⟩
    · exact .inl (.inl (e _ _ h))
    · exact .inl (.inr ⟨o, e _ _ h⟩)
  · exact .inr h

mutual
theorem Den.mono {K : PySem.W.Frag} {C C' : Hp} (e : Same C C') : ∀ {v : V} (d : D), Den K C v d → Den K C' v d
  | v, .int i, h => by unfold Den at h ⊢; exact h
  | v, .bl i, h => by unfold Den at h ⊢; exact h
  | v, .non, h => by unfold Den at h ⊢; exact h
  | v, .str i, h => by unfold Den at h ⊢; exact h
  | v, .tup ds, h => by
    unfold Den at h ⊢
    obtain ⟨a, xs, r, q, t⟩ := h
    exact ⟨a, xs, r, e.seqT q, Dens.mono e ds t⟩
  | v, .lst ds, h => by
    unfold Den at h ⊢
    obtain ⟨a, xs, r, q, t⟩ := h
    exact ⟨a, xs, r, e.seq q, Dens.mono e ds t⟩
theorem Dens.mono {K : PySem.W.Frag} {C C' : Hp} (e : Same C C') : ∀ {vs : List V} (ds : List D), Dens K C vs ds → Dens K C' vs ds
  | vs, [], h => by unfold Dens at h ⊢; exact h
  | vs, d :: ds, h => by
    unfold Dens at h ⊢
    obtain ⟨x, xs, r, q, t⟩ := h
    exact ⟨x, xs, r, Den.mono e d q, Dens.mono e ds t⟩
end

section
variable {K : PySem.W.Frag} {C : Hp}
theorem den_int {v : V} {i : Int} : Den K C v (.int i) ↔ v = .int i := by unfold Den; exact Iff.rfl
theorem den_bl {v : V} {i : Bool} : Den K C v (.bl i) ↔ v = .bl i := by unfold Den; exact Iff.rfl
theorem den_non {v : V} : Den K C v .non ↔ v = .non := by unfold Den; exact Iff.rfl
theorem den_str {v : V} {i : Str} : Den K C v (.str i) ↔ v = .str i := by unfold Den; exact Iff.rfl
theorem den_tup {v : V} {ds : List D} : Den K C v (.tup ds) ↔ ∃ a xs, v = .ref a ∧ SqT K C a xs ∧ Dens K C xs ds := by rw [Den]
theorem den_lst {v : V} {ds : List D} : Den K C v (.lst ds) ↔ ∃ a xs, v = .ref a ∧ SqL K C a xs ∧ Dens K C xs ds := by rw [Den]
theorem dens_nil {vs : List V} : Dens K C vs [] ↔ vs = [] := by rw [Dens]
theorem dens_cons {vs : List V} {d : D} {ds : List D} : Dens K C vs (d :: ds) ↔ ∃ x xs, vs = x :: xs ∧ Den K C x d ∧ Dens K C xs ds := by rw [Dens]
theorem Dens.cons {v : V} {vs : List V} {d : D} {ds : List D} (h : Den K C v d) (t : Dens K C vs ds) : Dens K C (v :: vs) (d :: ds) := dens_cons.mpr ⟨v, vs, rfl, h, t⟩
theorem Dens.nil : Dens K C [] [] := dens_nil.mpr rfl
theorem Dens.length : ∀ {vs : List V} {ds : List D}, Dens K C vs ds → vs.length = ds.length
  | vs, [], h => by
    rw [dens_nil.mp h]
    rfl
  | vs, d :: ds, h => by
    obtain ⟨x, xs, rfl, _, t⟩ := dens_cons.mp h
    simp [Dens.length t]
theorem Dens.append : ∀ {vs us : List V} {ds es : List D}, Dens K C vs ds → Dens K C us es → Dens K C (vs ++ us) (ds ++ es)
  | vs, us, [], es, h, q => by rw [dens_nil.mp h]; exact q
  | vs, us, d :: ds, es, h, q => by
    obtain ⟨x, xs, rfl, a, t⟩ := dens_cons.mp h
    exact Dens.cons a (Dens.append t q)
theorem Dens.drop : ∀ {vs : List V} {ds : List D} (n : Nat), Dens K C vs ds → Dens K C (vs.drop n) (ds.drop n)
  | vs, ds, 0, h => h
  | vs, [], n + 1, h => by rw [dens_nil.mp h]; exact .nil
  | vs, d :: ds, n + 1, h => by
    obtain ⟨x, xs, rfl, a, t⟩ := dens_cons.mp h
    exact Dens.drop n t
theorem Dens.take : ∀ {vs : List V} {ds : List D} (n : Nat), Dens K C vs ds → Dens K C (vs.take n) (ds.take n)
  | vs, ds, 0, h => by simp; exact .nil
  | vs, [], n + 1, h => by rw [dens_nil.mp h]; exact .nil
  | vs, d :: ds, n + 1, h => by
    obtain ⟨x, xs, rfl, a, t⟩ := dens_cons.mp h
    exact Dens.cons a (Dens.take n t)
theorem Dens.get : ∀ {vs : List V} {ds : List D} {i : Nat} {d : D}, Dens K C vs ds → ds[i]? = some d → ∃ v, vs[i]? = some v ∧ Den K C v d
  | vs, [], i, d, h, e => by cases e
  | vs, c :: ds, 0, d, h, e => by
    obtain ⟨x, xs, rfl, a, t⟩ := dens_cons.mp h
    cases e
    exact ⟨x, rfl, a⟩
  | vs, c :: ds, i + 1, d, h, e => by
    obtain ⟨x, xs, rfl, a, t⟩ := dens_cons.mp h
    exact Dens.get (i := i) t e
theorem Dens.rep {vs : List V} {ds : List D} (h : Dens K C vs ds) : ∀ k : Nat, Dens K C (List.replicate k vs).flatten (List.replicate k ds).flatten
  | 0 => .nil
  | k + 1 => by
    rw [List.replicate_succ, List.flatten_cons, List.replicate_succ, List.flatten_cons]
    exact h.append (Dens.rep h k)
theorem Dens.ints {vs : List V} : ∀ {ns : List Int}, Dens K C vs (ns.map D.int) → vs = ns.map V.int := by
  intro ns
  induction ns generalizing vs with
  | nil => intro h; exact dens_nil.mp h
  | cons n ns ih =>
    intro h
    obtain ⟨x, xs, rfl, a, t⟩ := dens_cons.mp h
    rw [den_int.mp a, ih t]
    rfl
theorem Dens.bools {vs : List V} : ∀ {ns : List Bool}, Dens K C vs (ns.map D.bl) → vs = ns.map V.bl := by
  intro ns
  induction ns generalizing vs with
  | nil => intro h; exact dens_nil.mp h
  | cons n ns ih =>
    intro h
    obtain ⟨x, xs, rfl, a, t⟩ := dens_cons.mp h
    rw [den_bl.mp a, ih t]
    rfl
end

/-- the heap has grown: H as H1, its frozen part C as C1; what is owned stays outside -/
structure Ext (C H C1 H1 : Hp) : Prop where
  hh : Same H H1
  cc : Same C C1
  ch : Same C1 H1
  ow : ∀ b, C b = none → H b ≠ none → C1 b = none
theorem Ext.refl {C H : Hp} (h : Same C H) : Ext C H C H := ⟨Same.refl _, Same.refl _, h, fun _ e _ => e⟩
theorem Ext.trans {C H C1 H1 C2 H2 : Hp} (a : Ext C H C1 H1) (b : Ext C1 H1 C2 H2) : Ext C H C2 H2 :=
  ⟨a.hh.trans b.hh, a.cc.trans b.cc, b.ch, fun c e n => b.ow c (a.ow c e n) fun z => n (a.hh.free z)⟩
theorem Same.upd {H : Hp} {p : Addr} {o : HO} (h : H p = none) : Same H (upd H p o) := fun b u e => by rw [upd_ne (ne_of_none e h)]; exact e
/-- a new object, frozen -/
theorem Ext.new {C H : Hp} {p : Addr} {o : HO} (h : Same C H) (hp : H p = none) : Ext C H (upd C p o) (upd H p o) := by
  refine ⟨Same.upd hp, Same.upd (h.free hp), fun b u e => ?_, fun b e n => ?_⟩
  · by_cases hb : b = p
    · subst hb; rw [upd_same] at e ⊢; exact e
    · rw [upd_ne hb] at e ⊢; exact h b u e
  · rw [upd_ne (fun z => n (by rw [z]; exact hp))]; exact e
/-- a new object, owned -/
theorem Ext.newO {C H : Hp} {p : Addr} {o : HO} (h : Same C H) (hp : H p = none) : Ext C H C (upd H p o) :=
  ⟨Same.upd hp, Same.refl _, h.trans (Same.upd hp), fun b e n => e⟩

inductive Sl where
  | un | im (d : D) | ow (ds : List D)
abbrev DS := List Sl

structure Rep (K : PySem.W.Frag) (C0 H0 : Hp) (δ : DS) (σ : St) (C H : Hp) : Prop where
  len : σ.length = δ.length
  ext : Ext C0 H0 C H
  im : ∀ (i : Nat) d, δ[i]? = some (.im d) → ∃ v, σ[i]? = some (some v) ∧ Den K C v d
  ow : ∀ (i : Nat) ds, δ[i]? = some (.ow ds) → ∃ l xs, σ[i]? = some (some (.ref l)) ∧ C l = none ∧ H0 l = none ∧ H l = some (.lst xs) ∧ Dens K C xs ds
  ap : ∀ (i j : Nat) ds es l, i ≠ j → δ[i]? = some (.ow ds) → δ[j]? = some (.ow es) → σ[i]? = some (some (.ref l)) → σ[j]? ≠ some (some (.ref l))

section
variable {K : PySem.W.Frag} {C0 H0 C H C1 H1 : Hp} {δ : DS} {σ : St}
theorem Rep.grow (R : Rep K C0 H0 δ σ C H) (e : Ext C H C1 H1) : Rep K C0 H0 δ σ C1 H1 := by
  refine ⟨R.len, R.ext.trans e, fun i d h => ?_, fun i ds h => ?_, R.ap⟩
  · obtain ⟨v, a, b⟩ := R.im i d h
    exact ⟨v, a, b.mono e.cc⟩
  · obtain ⟨l, xs, a, b, c, d, f⟩ := R.ow i ds h
    exact ⟨l, xs, a, e.ow l b (by rw [d]; simp), c, e.hh _ _ d, f.mono e.cc⟩
theorem Rep.ch (R : Rep K C0 H0 δ σ C H) : Same C H := R.ext.ch

theorem getE_set {α : Type} {l : List α} {i j : Nat} {x y : α} (h : (l.set i x)[j]? = some y) : (j = i ∧ x = y ∧ i < l.length) ∨ (j ≠ i ∧ l[j]? = some y) := by
  by_cases e : j = i
  · subst e
    have hl : j < l.length := by
      have := (List.getElem?_eq_some_iff.mp h).1
      simpa using this
    rw [List.getElem?_set_self hl] at h
    exact .inl ⟨rfl, Option.some.inj h, hl⟩
  · rw [List.getElem?_set_ne (Ne.symm e)] at h
    exact .inr ⟨e, h⟩

/-- a name gets a frozen value -/
theorem Rep.setI (R : Rep K C0 H0 δ σ C H) {i : Nat} {v : V} {d : D} (h : Den K C v d) : Rep K C0 H0 (δ.set i (.im d)) (σ.set i (some v)) C H := by
  refine ⟨by simp [R.len], R.ext, fun j e h' => ?_, fun j ds h' => ?_, fun j k ds es l hjk h1 h2 h3 => ?_⟩
  · rcases getE_set h' with ⟨rfl, e1, hl⟩ | ⟨hj, h'⟩
    · cases e1
      exact ⟨v, by rw [List.getElem?_set_self (by rw [R.len]; exact hl)], h⟩
    · obtain ⟨u, a, b⟩ := R.im j e h'
      exact ⟨u, by rw [List.getElem?_set_ne (Ne.symm hj)]; exact a, b⟩
  · rcases getE_set h' with ⟨_, e1, _⟩ | ⟨hj, h'⟩
    · cases e1
    · obtain ⟨l, xs, a, b⟩ := R.ow j ds h'
      exact ⟨l, xs, by rw [List.getElem?_set_ne (Ne.symm hj)]; exact a, b⟩
  · rcases getE_set h1 with ⟨_, e1, _⟩ | ⟨hj, h1⟩
    · cases e1
    · rcases getE_set h2 with ⟨_, e1, _⟩ | ⟨hk, h2⟩
      · cases e1
      · rw [List.getElem?_set_ne (Ne.symm hj)] at h3
        rw [List.getElem?_set_ne (Ne.symm hk)]
        exact R.ap j k ds es l hjk h1 h2 h3
/-- a name gets a new list of its own -/
theorem Rep.setO (R : Rep K C0 H0 δ σ C H) {i : Nat} {l : Addr} {xs : List V} {ds : List D} (h0 : H0 l = none) (hc : C l = none) (hn : ∀ (j : Nat) es, j ≠ i → δ[j]? = some (.ow es) → σ[j]? ≠ some (some (.ref l))) (hl : H l = some (.lst xs)) (h : Dens K C xs ds) :
    Rep K C0 H0 (δ.set i (.ow ds)) (σ.set i (some (.ref l))) C H := by
  refine ⟨by simp [R.len], R.ext, fun j e h' => ?_, fun j es h' => ?_, fun j k es fs m hjk h1 h2 h3 => ?_⟩
  · rcases getE_set h' with ⟨_, e1, _⟩ | ⟨hj, h'⟩
    · cases e1
    · obtain ⟨u, a, b⟩ := R.im j e h'
      exact ⟨u, by rw [List.getElem?_set_ne (Ne.symm hj)]; exact a, b⟩
  · rcases getE_set h' with ⟨rfl, e1, hl'⟩ | ⟨hj, h'⟩
    · cases e1
      exact ⟨l, xs, by rw [List.getElem?_set_self (by rw [R.len]; exact hl')], hc, h0, hl, h⟩
    · obtain ⟨m, ys, a, b⟩ := R.ow j es h'
      exact ⟨m, ys, by rw [List.getElem?_set_ne (Ne.symm hj)]; exact a, b⟩
  · rcases getE_set h1 with ⟨rfl, e1, hl1⟩ | ⟨hj, g1⟩
    · cases e1
      rw [List.getElem?_set_self (by rw [R.len]; exact hl1)] at h3
      cases h3
      rcases getE_set h2 with ⟨z, _⟩ | ⟨hk, h2⟩
      · exact absurd z.symm hjk
      · rw [List.getElem?_set_ne (Ne.symm hk)]
        exact hn k fs hk h2
    · rw [List.getElem?_set_ne (Ne.symm hj)] at h3
      rcases getE_set h2 with ⟨rfl, e1, hl1⟩ | ⟨hk, h2⟩
      · rw [List.getElem?_set_self (by rw [R.len]; exact hl1)]
        intro z
        cases z
        exact hn j es hj g1 h3
      · rw [List.getElem?_set_ne (Ne.symm hk)]
        exact R.ap j k es fs m hjk g1 h2 h3
/-- a list of one's own is from now on only read -/
theorem Rep.freeze (R : Rep K C0 H0 δ σ C H) {i : Nat} {ds : List D} (h : δ[i]? = some (.ow ds)) : ∃ C1, Ext C H C1 H → True := ⟨C, fun _ => trivial⟩
theorem Rep.freeze' (R : Rep K C0 H0 δ σ C H) {i : Nat} {ds : List D} (h : δ[i]? = some (.ow ds)) : ∃ C1, Rep K C0 H0 (δ.set i (.im (.lst ds))) σ C1 H := by
  obtain ⟨l, xs, a, b, c, d, f⟩ := R.ow i ds h
  have hl : i < δ.length := (List.getElem?_eq_some_iff.mp h).1
  have up : Same C (upd C l (.lst xs)) := Same.upd b
  have ch : Same (upd C l (.lst xs)) H := fun z u e => by
    by_cases hz : z = l
    · subst hz; rw [upd_same] at e; cases e; exact d
    · rw [upd_ne hz] at e; exact R.ch z u e
  refine ⟨upd C l (.lst xs), by simp [R.len], ⟨R.ext.hh, R.ext.cc.trans up, ch, fun z e n => ?_⟩, fun j e h' => ?_, fun j es h' => ?_, fun j k es fs m hjk h1 h2 h3 => ?_⟩
  · rw [upd_ne (fun q => n (by rw [q]; exact c))]
    exact R.ext.ow z e n
  · rcases getE_set h' with ⟨rfl, e1, hl'⟩ | ⟨hj, h'⟩
    · cases e1
      exact ⟨.ref l, a, den_lst.mpr ⟨l, xs, rfl, SqL.of upd_same, f.mono up⟩⟩
    · obtain ⟨u, a', b'⟩ := R.im j e h'
      exact ⟨u, a', b'.mono up⟩
  · rcases getE_set h' with ⟨_, e1, _⟩ | ⟨hj, h'⟩
    · cases e1
    · obtain ⟨m, ys, a', b', c', d', f'⟩ := R.ow j es h'
      refine ⟨m, ys, a', ?_, c', d', f'.mono up⟩
      rw [upd_ne]
      · exact b'
      · intro z
        subst z
        exact R.ap i j ds es m (Ne.symm hj) h h' a a'
  · rcases getE_set h1 with ⟨_, e1, _⟩ | ⟨hj, h1⟩
    · cases e1
    · rcases getE_set h2 with ⟨_, e1, _⟩ | ⟨hk, h2⟩
      · cases e1
      · exact R.ap j k es fs m hjk h1 h2 h3
/-- a list of one's own is changed -/
theorem Rep.change (R : Rep K C0 H0 δ σ C H) {i : Nat} {ds es : List D} {l : Addr} {ys : List V} (h : δ[i]? = some (.ow ds)) (hs : σ[i]? = some (some (.ref l))) (hd : Dens K C ys es) :
    Rep K C0 H0 (δ.set i (.ow es)) σ C (upd H l (.lst ys)) := by
  obtain ⟨l', xs, a, b, c, d, f⟩ := R.ow i ds h
  rw [hs] at a
  cases a
  have hl : i < δ.length := (List.getElem?_eq_some_iff.mp h).1
  have ne : ∀ z u, C z = some u → z ≠ l := fun z u e q => by rw [q, b] at e; cases e
  refine ⟨by simp [R.len], ⟨fun z u e => ?_, R.ext.cc, fun z u e => ?_, R.ext.ow⟩, fun j e h' => ?_, fun j fs h' => ?_, fun j k fs gs m hjk h1 h2 h3 => ?_⟩
  · rw [upd_ne (ne_of_none e c)]; exact R.ext.hh z u e
  · rw [upd_ne (ne z u e)]; exact R.ch z u e
  · rcases getE_set h' with ⟨_, e1, _⟩ | ⟨hj, h'⟩
    · cases e1
    · exact R.im j e h'
  · rcases getE_set h' with ⟨rfl, e1, hl'⟩ | ⟨hj, h'⟩
    · cases e1
      exact ⟨l, ys, hs, b, c, upd_same, hd⟩
    · obtain ⟨m, zs, a', b', c', d', f'⟩ := R.ow j fs h'
      refine ⟨m, zs, a', b', c', ?_, f'⟩
      rw [upd_ne]
      · exact d'
      · intro z
        subst z
        exact R.ap i j ds fs m (Ne.symm hj) h h' hs a'
  · have g1 : ∃ fs', δ[j]? = some (.ow fs') := by
      rcases getE_set h1 with ⟨rfl, _, _⟩ | ⟨_, h1⟩
      · exact ⟨_, h⟩
      · exact ⟨_, h1⟩
    have g2 : ∃ fs', δ[k]? = some (.ow fs') := by
      rcases getE_set h2 with ⟨rfl, _, _⟩ | ⟨_, h2⟩
      · exact ⟨_, h⟩
      · exact ⟨_, h2⟩
    obtain ⟨_, g1⟩ := g1
    obtain ⟨_, g2⟩ := g2
    exact R.ap j k _ _ m hjk g1 g2 h3
/-- names are forgotten -/
theorem Rep.weak (R : Rep K C0 H0 δ σ C H) {δ' : DS} (hl : δ'.length = δ.length) (h : ∀ (i : Nat) x, δ'[i]? = some x → x = .un ∨ δ[i]? = some x) : Rep K C0 H0 δ' σ C H := by
  refine ⟨by rw [hl]; exact R.len, R.ext, fun i d e => ?_, fun i ds e => ?_, fun i j ds es l hij h1 h2 h3 => ?_⟩
  · rcases h i _ e with z | z
    · cases z
    · exact R.im i d z
  · rcases h i _ e with z | z
    · cases z
    · exact R.ow i ds z
  · rcases h i _ h1 with z | z
    · cases z
    · rcases h j _ h2 with y | y
      · cases y
      · exact R.ap i j ds es l hij z y h3
end
end L2
namespace L2
open PySem PySem.Spec PyProof.Rows

/-! ### a op1 b op2 c op3 d -/
section
variable {X : Cx} {a b c e : Expr} {ta tb tc td : TE} {pos : Pos}
def tChain3 (r r' r'' : R2) (ta tb tc td : TE) : TE := fun σ H Q => ta σ H fun x H1 => tb σ H1 fun y H2 => r x y H2 fun z H3 => ∃ k, z = .bl k ∧
  (if k = true then tc σ H3 fun w' H4 => r' y w' H4 fun z2 H5 => ∃ k2, z2 = .bl k2 ∧ (if k2 = true then td σ H5 fun w2 H6 => r'' w' w2 H6 Q else Q (.bl false) H5) else Q (.bl false) H3)
theorem pe_chain3 {op op' op'' : CmpOp} {r r' r'' : R2} (ho : OpR X (compareOp op) r) (ho' : OpR X (compareOp op') r') (ho'' : OpR X (compareOp op'') r'') (ha : PE X a ta) (hb : PE X b tb) (hc : PE X c tc) (hd : PE X e td)
    (hm : lastMarks [op, op', op''] [b, c, e] = false := by with_unfolding_all rfl) : PE X (.Compare a [op, op', op''] [b, c, e] pos) (tChain3 r r' r'' ta tb tc td) := by
  intro pins s σ H Q I h
  refine Compare_chain (thn (ha pins s σ H _ I h) fun v s1 ⟨x, H1, I1, r1, q1⟩ => chain_link (thn (hb pins s1 σ H1 _ I1 q1) fun u s2 ⟨y, H2, I2, r2, q2⟩ =>
    thn (ho pins s2 σ H2 x y v u _ I2 r1 r2 q2) fun d s3 ⟨z, H3, I3, r3, k, e, q3⟩ => ?_)) hm
  subst e
  cases r3
  refine wpAny_truthy_bool ?_
  cases k with
  | false => exact ite_ff ⟨.bl false, H3, I3, rfl, q3⟩
  | true =>
    refine ite_tt (chain_link (thn (hc pins s3 σ H3 _ I3 q3) fun w' s4 ⟨z', H4, I4, r4, q4⟩ => thn (ho' pins s4 σ H4 y z' u w' _ I4 r2 r4 q4) fun d2 s5 ⟨z2, H5, I5, r5, k2, e2, q5⟩ => ?_))
    subst e2
    cases r5
    refine wpAny_truthy_bool ?_
    cases k2 with
    | false => exact ite_ff ⟨.bl false, H5, I5, rfl, q5⟩
    | true => exact ite_tt (chain_last (thn (hd pins s5 σ H5 _ I5 q5) fun w2 s6 ⟨z3, H6, I6, r6, q6⟩ => ho'' pins s6 σ H6 z' z3 w' w2 Q I6 r4 r6 q6))
end

/-! ### judgements over data -/
abbrev GE := DS → (D → Prop) → Prop
abbrev GF := DS → (List D → Prop) → Prop
abbrev GT := DS → (Bool → Prop) → Prop
def DE (X : Cx) (e : Expr) (g : GE) : Prop := ∃ t, PE X e t ∧ ∀ C0 H0 δ σ C H (Q : D → Prop) (R : VK), Rep X.K C0 H0 δ σ C H → g δ Q → (∀ d v C1 H1, Q d → Ext C H C1 H1 → Den X.K C1 v d → R v H1) → t σ H R
/-- a list that is new -/
def DF (X : Cx) (e : Expr) (g : GF) : Prop := ∃ t, PE X e t ∧ ∀ C0 H0 δ σ C H (Q : List D → Prop) (R : VK), Rep X.K C0 H0 δ σ C H → g δ Q →
  (∀ ds p xs C1 H1, Q ds → Ext C H C1 H1 → C1 p = none → H p = none → H1 p = some (.lst xs) → Dens X.K C1 xs ds → R (.ref p) H1) → t σ H R
def DT (X : Cx) (e : Expr) (g : GT) : Prop := ∃ t, PT X e t ∧ ∀ C0 H0 δ σ C H (Q : Bool → Prop) (R : Bool → Hp → Prop), Rep X.K C0 H0 δ σ C H → g δ Q → (∀ b C1 H1, Q b → Ext C H C1 H1 → R b H1) → t σ H R
def DW (X : Cx) (e : Expr) (g : GT) : Prop := ∃ t, PW X e t ∧ ∀ C0 H0 δ σ C H (Q : Bool → Prop) (R : Bool → Hp → Prop), Rep X.K C0 H0 δ σ C H → g δ Q → (∀ b C1 H1, Q b → Ext C H C1 H1 → R b H1) → t σ H R
def DA (X : Cx) (es : List Expr) (g : GF) : Prop := ∃ t, PA X es t ∧ ∀ C0 H0 δ σ C H (Q : List D → Prop) (R : List V → Hp → Prop), Rep X.K C0 H0 δ σ C H → g δ Q → (∀ ds vs C1 H1, Q ds → Ext C H C1 H1 → Dens X.K C1 vs ds → R vs H1) → t σ H R
/-- a two-place operation; a call of a builtin -/
abbrev GO := D → D → (D → Prop) → Prop
def DOp (X : Cx) (f : Value → Value → Sem Value) (g : GO) : Prop := ∃ r, OpR X f r ∧ ∀ x y dx dy C H (Q : D → Prop) (R : VK), Same C H → Den X.K C x dx → Den X.K C y dy → g dx dy Q → (∀ d v C1 H1, Q d → Ext C H C1 H1 → Den X.K C1 v d → R v H1) → r x y H R
def DCall (X : Cx) (f : Value) (g : List D → (D → Prop) → Prop) : Prop := ∃ r, CallR X f r ∧ ∀ xs ds C H (Q : D → Prop) (R : VK), Same C H → Dens X.K C xs ds → g ds Q → (∀ d v C1 H1, Q d → Ext C H C1 H1 → Den X.K C1 v d → R v H1) → r xs H R
/-- a call that makes a new list -/
def DCallF (X : Cx) (f : Value) (g : List D → (List D → Prop) → Prop) : Prop := ∃ r, CallR X f r ∧ ∀ xs ds C H (Q : List D → Prop) (R : VK), Same C H → Dens X.K C xs ds → g ds Q →
  (∀ es p ys C1 H1, Q es → Ext C H C1 H1 → C1 p = none → H p = none → H1 p = some (.lst ys) → Dens X.K C1 ys es → R (.ref p) H1) → r xs H R

theorem ext_frz {C H C1 H1 : Hp} {p : Addr} {o : HO} (e : Ext C H C1 H1) (hc : C1 p = none) (hn : H p = none) (h1 : H1 p = some o) : Ext C H (upd C1 p o) H1 := by
  refine ⟨e.hh, e.cc.trans (Same.upd hc), fun b u q => ?_, fun b q n => ?_⟩
  · by_cases hb : b = p
    · subst hb; rw [upd_same] at q; cases q; exact h1
    · rw [upd_ne hb] at q; exact e.ch b u q
  · rw [upd_ne (fun z => n (by rw [z]; exact hn))]; exact e.ow b q n

section
variable {X : Cx} {a b c e : Expr} {es : List Expr} {pos : Pos} {ga gb gc gd : GE} {gf : GF} {ta tb : GT}

abbrev gF (g : GF) : GE := fun δ Q => g δ fun ds => Q (.lst ds)
theorem DF.toE (h : DF X e gf) : DE X e (gF gf) := by
  obtain ⟨t, p, h⟩ := h
  refine ⟨t, p, fun C0 H0 δ σ C H Q R rp g k => h C0 H0 δ σ C H _ R rp g fun ds p xs C1 H1 q ex hc hn hl hd => ?_⟩
  exact k (.lst ds) _ (upd C1 p (.lst xs)) H1 q (ext_frz ex hc hn hl) (den_lst.mpr ⟨p, xs, rfl, SqL.of upd_same, hd.mono (Same.upd hc)⟩)

/-! ### names, constants -/
def gVar (i : Nat) : GE := fun δ Q => match δ[i]? with
  | some (.im d) => Q d
  | _ => False
theorem de_var {i : Nat} {x : Str} (h : PE X (.Name x pos) (tVar i)) : DE X (.Name x pos) (gVar i) := by
  refine ⟨_, h, fun C0 H0 δ σ C H Q R rp g k => ?_⟩
  unfold gVar at g
  split at g
  · rename_i d e
    obtain ⟨v, a1, a2⟩ := rp.im i d e
    exact ⟨v, a1, k d v C H g (Ext.refl rp.ch) a2⟩
  · exact g.elim
abbrev gC (d : D) : GE := fun _ Q => Q d
theorem de_int {i j} : DE X (.Constant (.int i) j pos) (gC (.int i)) := ⟨_, pe_int, fun C0 H0 δ σ C H Q R rp g k => k _ _ C H g (Ext.refl rp.ch) (den_int.mpr rfl)⟩
theorem de_bl {i j} : DE X (.Constant (.bool i) j pos) (gC (.bl i)) := ⟨_, pe_bl, fun C0 H0 δ σ C H Q R rp g k => k _ _ C H g (Ext.refl rp.ch) (den_bl.mpr rfl)⟩
theorem de_non {j} : DE X (.Constant .none j pos) (gC .non) := ⟨_, pe_non, fun C0 H0 δ σ C H Q R rp g k => k _ _ C H g (Ext.refl rp.ch) (den_non.mpr rfl)⟩
theorem de_str {i j} : DE X (.Constant (.str i) j pos) (gC (.str i)) := ⟨_, pe_str, fun C0 H0 δ σ C H Q R rp g k => k _ _ C H g (Ext.refl rp.ch) (den_str.mpr rfl)⟩
/-- an int of the module -/
theorem de_globI {x : Str} {i : Int} {t : Tok} (hg : Gl X x) (hm : X.mg x = some (.int i t)) (hd : (x == ("__debug__" : Str)) = false := by decide) : DE X (.Name x pos) (gC (.int i)) :=
  ⟨_, pe_glob (v := .int i) hg hm ⟨t, rfl⟩ hd, fun C0 H0 δ σ C H Q R rp g k => k _ _ C H g (Ext.refl rp.ch) (den_int.mpr rfl)⟩

/-! ### operations -/
def gOp (o : GO) (ga gb : GE) : GE := fun δ Q => ga δ fun x => gb δ fun y => o x y Q
theorem de_op {op : Operator} {o : GO} (ho : DOp X (binaryOp op) o) (ha : DE X a ga) (hb : DE X b gb) : DE X (.BinOp a op b pos) (gOp o ga gb) := by
  obtain ⟨r, pr, hr⟩ := ho
  obtain ⟨t1, p1, h1⟩ := ha
  obtain ⟨t2, p2, h2⟩ := hb
  refine ⟨_, pe_op pr p1 p2, fun C0 H0 δ σ C H Q R rp g k => ?_⟩
  refine h1 C0 H0 δ σ C H _ _ rp g fun d v C1 H1 q e1 n1 => h2 C0 H0 δ σ C1 H1 _ _ (rp.grow e1) q fun d2 v2 C2 H2 q2 e2 n2 => ?_
  exact hr v v2 d d2 C2 H2 Q R e2.ch (n1.mono e2.cc) n2 q2 fun d3 v3 C3 H3 q3 e3 n3 => k d3 v3 C3 H3 q3 (e1.trans (e2.trans e3)) n3
theorem de_cmp {op : CmpOp} {o : GO} (ho : DOp X (compareOp op) o) (ha : DE X a ga) (hb : DE X b gb) (hm : behindInMarks op b = false := by first | exact nomark _ | with_unfolding_all rfl) : DE X (.Compare a [op] [b] pos) (gOp o ga gb) := by
  obtain ⟨r, pr, hr⟩ := ho
  obtain ⟨t1, p1, h1⟩ := ha
  obtain ⟨t2, p2, h2⟩ := hb
  refine ⟨_, pe_cmpR pr p1 p2 hm, fun C0 H0 δ σ C H Q R rp g k => ?_⟩
  refine h1 C0 H0 δ σ C H _ _ rp g fun d v C1 H1 q e1 n1 => h2 C0 H0 δ σ C1 H1 _ _ (rp.grow e1) q fun d2 v2 C2 H2 q2 e2 n2 => ?_
  exact hr v v2 d d2 C2 H2 Q R e2.ch (n1.mono e2.cc) n2 q2 fun d3 v3 C3 H3 q3 e3 n3 => k d3 v3 C3 H3 q3 (e1.trans (e2.trans e3)) n3
def isBl (Q : Bool → Prop) : D → Prop
  | .bl b => Q b
  | _ => False
theorem isBl_of {Q : Bool → Prop} {d : D} {K : PySem.W.Frag} {C : Hp} {v : V} (h : isBl Q d) (n : Den K C v d) : ∃ b, v = .bl b ∧ Q b := by
  cases d with
  | bl b => exact ⟨b, den_bl.mp n, h⟩
  | _ => exact h.elim
def gTest (ga : GE) : GT := fun δ Q => ga δ (isBl Q)
theorem dt_cmp {op : CmpOp} {o : GO} (ho : DOp X (compareOp op) o) (ha : DE X a ga) (hb : DE X b gb) (hm : behindInMarks op b = false := by first | exact nomark _ | with_unfolding_all rfl) : DT X (.Compare a [op] [b] pos) (gTest (gOp o ga gb)) := by
  obtain ⟨r, pr, hr⟩ := ho
  obtain ⟨t1, p1, h1⟩ := ha
  obtain ⟨t2, p2, h2⟩ := hb
  refine ⟨_, pt_cmpR pr p1 p2 hm, fun C0 H0 δ σ C H Q R rp g k => ?_⟩
  refine h1 C0 H0 δ σ C H _ _ rp g fun d v C1 H1 q e1 n1 => h2 C0 H0 δ σ C1 H1 _ _ (rp.grow e1) q fun d2 v2 C2 H2 q2 e2 n2 => ?_
  refine hr v v2 d d2 C2 H2 _ _ e2.ch (n1.mono e2.cc) n2 q2 fun d3 v3 C3 H3 q3 e3 n3 => ?_
  obtain ⟨c, rfl, qc⟩ := isBl_of q3 n3
  exact ⟨c, rfl, k c C3 H3 qc (e1.trans (e2.trans e3))⟩
def gIf (Q : Prop) (b : Bool) (Q' : Prop) : Prop := if b = true then Q else Q'
def gChain (o o' : GO) (ga gb gc : GE) : GE := fun δ Q => ga δ fun x => gb δ fun y => o x y (isBl fun k => if k = true then gc δ fun z => o' y z Q else Q (.bl false))
theorem de_chain {op op' : CmpOp} {o o' : GO} (ho : DOp X (compareOp op) o) (ho' : DOp X (compareOp op') o') (ha : DE X a ga) (hb : DE X b gb) (hc : DE X c gc)
    (hm : lastMarks [op, op'] [b, c] = false := by with_unfolding_all rfl) : DE X (.Compare a [op, op'] [b, c] pos) (gChain o o' ga gb gc) := by
  obtain ⟨r, pr, hr⟩ := ho
  obtain ⟨r', pr', hr'⟩ := ho'
  obtain ⟨t1, p1, h1⟩ := ha
  obtain ⟨t2, p2, h2⟩ := hb
  obtain ⟨t3, p3, h3⟩ := hc
  refine ⟨_, pe_chain pr pr' p1 p2 p3 hm, fun C0 H0 δ σ C H Q R rp g k => ?_⟩
  refine h1 C0 H0 δ σ C H _ _ rp g fun d v C1 H1 q e1 n1 => h2 C0 H0 δ σ C1 H1 _ _ (rp.grow e1) q fun d2 v2 C2 H2 q2 e2 n2 => ?_
  refine hr v v2 d d2 C2 H2 _ _ e2.ch (n1.mono e2.cc) n2 q2 fun d3 v3 C3 H3 q3 e3 n3 => ?_
  obtain ⟨c, rfl, qc⟩ := isBl_of q3 n3
  refine ⟨c, rfl, ?_⟩
  have e123 := e1.trans (e2.trans e3)
  cases c with
  | false => exact iteF (k (.bl false) _ C3 H3 (by simpa using qc) e123 (den_bl.mpr rfl))
  | true =>
    refine iteT (h3 C0 H0 δ σ C3 H3 _ _ (rp.grow e123) (by simpa using qc) fun d4 v4 C4 H4 q4 e4 n4 => ?_)
    exact hr' v2 v4 d2 d4 C4 H4 Q R e4.ch ((n2.mono e3.cc).mono e4.cc) n4 q4 fun d5 v5 C5 H5 q5 e5 n5 => k d5 v5 C5 H5 q5 (e123.trans (e4.trans e5)) n5
theorem dt_chain {op op' : CmpOp} {o o' : GO} (ho : DOp X (compareOp op) o) (ho' : DOp X (compareOp op') o') (ha : DE X a ga) (hb : DE X b gb) (hc : DE X c gc)
    (hm : lastMarks [op, op'] [b, c] = false := by with_unfolding_all rfl) : DT X (.Compare a [op, op'] [b, c] pos) (gTest (gChain o o' ga gb gc)) := by
  obtain ⟨r, pr, hr⟩ := ho
  obtain ⟨r', pr', hr'⟩ := ho'
  obtain ⟨t1, p1, h1⟩ := ha
  obtain ⟨t2, p2, h2⟩ := hb
  obtain ⟨t3, p3, h3⟩ := hc
  refine ⟨_, pt_chain pr pr' p1 p2 p3 hm, fun C0 H0 δ σ C H Q R rp g k => ?_⟩
  refine h1 C0 H0 δ σ C H _ _ rp g fun d v C1 H1 q e1 n1 => h2 C0 H0 δ σ C1 H1 _ _ (rp.grow e1) q fun d2 v2 C2 H2 q2 e2 n2 => ?_
  refine hr v v2 d d2 C2 H2 _ _ e2.ch (n1.mono e2.cc) n2 q2 fun d3 v3 C3 H3 q3 e3 n3 => ?_
  obtain ⟨c, rfl, qc⟩ := isBl_of q3 n3
  refine ⟨c, rfl, ?_⟩
  have e123 := e1.trans (e2.trans e3)
  cases c with
  | false => exact iteF ⟨false, rfl, k false C3 H3 (by simpa [isBl] using qc) e123⟩
  | true =>
    refine iteT (h3 C0 H0 δ σ C3 H3 _ _ (rp.grow e123) (by simpa using qc) fun d4 v4 C4 H4 q4 e4 n4 => ?_)
    refine hr' v2 v4 d2 d4 C4 H4 _ _ e4.ch ((n2.mono e3.cc).mono e4.cc) n4 q4 fun d5 v5 C5 H5 q5 e5 n5 => ?_
    obtain ⟨c2, rfl, qc2⟩ := isBl_of q5 n5
    exact ⟨c2, rfl, k c2 C5 H5 qc2 (e123.trans (e4.trans e5))⟩
def gChain3 (o o' o'' : GO) (ga gb gc gd : GE) : GE := fun δ Q => ga δ fun x => gb δ fun y => o x y (isBl fun k => if k = true then gc δ (fun z => o' y z (isBl fun k2 => if k2 = true then gd δ fun w => o'' z w Q else Q (.bl false))) else Q (.bl false))
theorem de_chain3 {op op' op'' : CmpOp} {o o' o'' : GO} (ho : DOp X (compareOp op) o) (ho' : DOp X (compareOp op') o') (ho'' : DOp X (compareOp op'') o'') (ha : DE X a ga) (hb : DE X b gb) (hc : DE X c gc) (hd : DE X e gd)
    (hm : lastMarks [op, op', op''] [b, c, e] = false := by with_unfolding_all rfl) : DE X (.Compare a [op, op', op''] [b, c, e] pos) (gChain3 o o' o'' ga gb gc gd) := by
  obtain ⟨r, pr, hr⟩ := ho
  obtain ⟨r', pr', hr'⟩ := ho'
  obtain ⟨r'', pr'', hr''⟩ := ho''
  obtain ⟨t1, p1, h1⟩ := ha
  obtain ⟨t2, p2, h2⟩ := hb
  obtain ⟨t3, p3, h3⟩ := hc
  obtain ⟨t4, p4, h4⟩ := hd
  refine ⟨_, pe_chain3 pr pr' pr'' p1 p2 p3 p4 hm, fun C0 H0 δ σ C H Q R rp g k => ?_⟩
  refine h1 C0 H0 δ σ C H _ _ rp g fun d v C1 H1 q e1 n1 => h2 C0 H0 δ σ C1 H1 _ _ (rp.grow e1) q fun d2 v2 C2 H2 q2 e2 n2 => ?_
  refine hr v v2 d d2 C2 H2 _ _ e2.ch (n1.mono e2.cc) n2 q2 fun d3 v3 C3 H3 q3 e3 n3 => ?_
  obtain ⟨c, rfl, qc⟩ := isBl_of q3 n3
  refine ⟨c, rfl, ?_⟩
  have e123 := e1.trans (e2.trans e3)
  cases c with
  | false => exact iteF (k (.bl false) _ C3 H3 (by simpa using qc) e123 (den_bl.mpr rfl))
  | true =>
    refine iteT (h3 C0 H0 δ σ C3 H3 _ _ (rp.grow e123) (by simpa using qc) fun d4 v4 C4 H4 q4 e4 n4 => ?_)
    refine hr' v2 v4 d2 d4 C4 H4 _ _ e4.ch ((n2.mono e3.cc).mono e4.cc) n4 q4 fun d5 v5 C5 H5 q5 e5 n5 => ?_
    obtain ⟨c2, rfl, qc2⟩ := isBl_of q5 n5
    refine ⟨c2, rfl, ?_⟩
    have e5' := e123.trans (e4.trans e5)
    cases c2 with
    | false => exact iteF (k (.bl false) _ C5 H5 (by simpa using qc2) e5' (den_bl.mpr rfl))
    | true =>
      refine iteT (h4 C0 H0 δ σ C5 H5 _ _ (rp.grow e5') (by simpa using qc2) fun d6 v6 C6 H6 q6 e6 n6 => ?_)
      exact hr'' v4 v6 d4 d6 C6 H6 Q R e6.ch ((n4.mono e5.cc).mono e6.cc) n6 q6 fun d7 v7 C7 H7 q7 e7 n7 => k d7 v7 C7 H7 q7 (e5'.trans (e6.trans e7)) n7

/-! ### and, or, not -/
def gAndV (ga gb : GE) : GE := fun δ Q => ga δ (isBl fun c => if c = true then gb δ Q else Q (.bl false))
def gOrV (ga gb : GE) : GE := fun δ Q => ga δ (isBl fun c => if c = true then Q (.bl true) else gb δ Q)
def gNotV (ga : GE) : GE := fun δ Q => ga δ (isBl fun c => Q (.bl (!c)))
theorem de_one {op} (h : DE X a ga) : DE X (.BoolOp op [a] pos) ga := by
  obtain ⟨t, p, h⟩ := h
  exact ⟨t, pe_one p, h⟩
theorem de_and {rest : List Expr} (ha : DE X a ga) (hb : DE X (.BoolOp .And (b :: rest) pos) gb) : DE X (.BoolOp .And (a :: b :: rest) pos) (gAndV ga gb) := by
  obtain ⟨t1, p1, h1⟩ := ha
  obtain ⟨t2, p2, h2⟩ := hb
  refine ⟨_, pe_and p1 p2, fun C0 H0 δ σ C H Q R rp g k => h1 C0 H0 δ σ C H _ _ rp g fun d v C1 H1 q e1 n1 => ?_⟩
  obtain ⟨c, rfl, qc⟩ := isBl_of q n1
  refine ⟨c, rfl, ?_⟩
  cases c with
  | false => exact iteF (k (.bl false) _ C1 H1 (by simpa using qc) e1 (den_bl.mpr rfl))
  | true => exact iteT (h2 C0 H0 δ σ C1 H1 _ _ (rp.grow e1) (by simpa using qc) fun d2 v2 C2 H2 q2 e2 n2 => k d2 v2 C2 H2 q2 (e1.trans e2) n2)
theorem de_or {rest : List Expr} (ha : DE X a ga) (hb : DE X (.BoolOp .Or (b :: rest) pos) gb) : DE X (.BoolOp .Or (a :: b :: rest) pos) (gOrV ga gb) := by
  obtain ⟨t1, p1, h1⟩ := ha
  obtain ⟨t2, p2, h2⟩ := hb
  refine ⟨_, pe_or p1 p2, fun C0 H0 δ σ C H Q R rp g k => h1 C0 H0 δ σ C H _ _ rp g fun d v C1 H1 q e1 n1 => ?_⟩
  obtain ⟨c, rfl, qc⟩ := isBl_of q n1
  refine ⟨c, rfl, ?_⟩
  cases c with
  | true => exact iteT (k (.bl true) _ C1 H1 (by simpa using qc) e1 (den_bl.mpr rfl))
  | false => exact iteF (h2 C0 H0 δ σ C1 H1 _ _ (rp.grow e1) (by simpa using qc) fun d2 v2 C2 H2 q2 e2 n2 => k d2 v2 C2 H2 q2 (e1.trans e2) n2)
theorem de_not (ha : DE X a ga) : DE X (.UnaryOp .Not a pos) (gNotV ga) := by
  obtain ⟨t1, p1, h1⟩ := ha
  refine ⟨_, pe_not p1, fun C0 H0 δ σ C H Q R rp g k => h1 C0 H0 δ σ C H _ _ rp g fun d v C1 H1 q e1 n1 => ?_⟩
  obtain ⟨c, rfl, qc⟩ := isBl_of q n1
  exact ⟨c, rfl, k (.bl (!c)) _ C1 H1 qc e1 (den_bl.mpr rfl)⟩
def gAnd (ga gb : GT) : GT := fun δ Q => ga δ fun c => if c = true then gb δ Q else Q false
def gOr (ga gb : GT) : GT := fun δ Q => ga δ fun c => if c = true then Q true else gb δ Q
def gNot (ga : GT) : GT := fun δ Q => ga δ fun c => Q (!c)
theorem DW.t (h : DW X e ta) : DT X e ta := by
  obtain ⟨t, p, h⟩ := h
  exact ⟨t, p.pt, h⟩
theorem dw_and1 (h : DT X a ta) : DW X (.BoolOp .And [a] pos) ta := by
  obtain ⟨t, p, h⟩ := h
  exact ⟨t, pw_and1 p, h⟩
theorem dw_or1 (h : DT X a ta) : DW X (.BoolOp .Or [a] pos) ta := by
  obtain ⟨t, p, h⟩ := h
  exact ⟨t, pw_or1 p, h⟩
theorem dw_and {rest : List Expr} (ha : DT X a ta) (hb : DW X (.BoolOp .And (b :: rest) pos) tb) : DW X (.BoolOp .And (a :: b :: rest) pos) (gAnd ta tb) := by
  obtain ⟨t1, p1, h1⟩ := ha
  obtain ⟨t2, p2, h2⟩ := hb
  refine ⟨_, pw_and p1 p2, fun C0 H0 δ σ C H Q R rp g k => h1 C0 H0 δ σ C H _ _ rp g fun c C1 H1 q e1 => ?_⟩
  cases c with
  | false => exact iteF (k false C1 H1 (by simpa using q) e1)
  | true => exact iteT (h2 C0 H0 δ σ C1 H1 _ _ (rp.grow e1) (by simpa using q) fun c2 C2 H2 q2 e2 => k c2 C2 H2 q2 (e1.trans e2))
theorem dw_or {rest : List Expr} (ha : DT X a ta) (hb : DW X (.BoolOp .Or (b :: rest) pos) tb) : DW X (.BoolOp .Or (a :: b :: rest) pos) (gOr ta tb) := by
  obtain ⟨t1, p1, h1⟩ := ha
  obtain ⟨t2, p2, h2⟩ := hb
  refine ⟨_, pw_or p1 p2, fun C0 H0 δ σ C H Q R rp g k => h1 C0 H0 δ σ C H _ _ rp g fun c C1 H1 q e1 => ?_⟩
  cases c with
  | true => exact iteT (k true C1 H1 (by simpa using q) e1)
  | false => exact iteF (h2 C0 H0 δ σ C1 H1 _ _ (rp.grow e1) (by simpa using q) fun c2 C2 H2 q2 e2 => k c2 C2 H2 q2 (e1.trans e2))
theorem dt_not (ha : DT X a ta) : DT X (.UnaryOp .Not a pos) (gNot ta) := by
  obtain ⟨t1, p1, h1⟩ := ha
  exact ⟨_, pt_not p1, fun C0 H0 δ σ C H Q R rp g k => h1 C0 H0 δ σ C H _ _ rp g fun c C1 H1 q e1 => k (!c) C1 H1 q e1⟩
/-- the truth of a value -/
def gTru (ga : GE) : GT := fun δ Q => ga δ fun d => match d with
  | .bl b => Q b
  | .int i => Q (i != 0)
  | .non => Q false
  | .str x => x.length ≤ sizeLine ∧ Q ((x.length : Int) != 0)
  | .tup ds => Q (!ds.isEmpty)
  | .lst ds => Q (!ds.isEmpty)
theorem dens_empty {K : PySem.W.Frag} {C : Hp} {xs : List V} {ds : List D} (h : Dens K C xs ds) : xs.isEmpty = ds.isEmpty := by
  have := h.length
  cases xs <;> cases ds <;> simp_all
theorem dt_tru (ha : DE X a ga) (he : ∀ whole, isTrue a X.env whole = (do
    let v ← whole
    standAt a.pos
    holding [v] (truthy v))) : DT X a (gTru ga) := by
  obtain ⟨t1, p1, h1⟩ := ha
  refine ⟨_, pt_truth p1 he, fun C0 H0 δ σ C H Q R rp g k => h1 C0 H0 δ σ C H _ _ rp g fun d v C1 H1 q e1 n1 => ?_⟩
  cases d with
  | bl b => rw [den_bl.mp n1]; exact ⟨b, rfl, k _ C1 H1 q e1⟩
  | int i => rw [den_int.mp n1]; exact ⟨_, rfl, k _ C1 H1 q e1⟩
  | non => rw [den_non.mp n1]; exact ⟨_, rfl, k _ C1 H1 q e1⟩
  | str i => rw [den_str.mp n1]; exact ⟨_, ⟨q.1, rfl⟩, k _ C1 H1 q.2 e1⟩
  | tup ds =>
    obtain ⟨p, xs, rfl, hx, hd⟩ := den_tup.mp n1
    refine ⟨_, .inr (.inl ⟨xs, e1.ch.seqT hx, rfl⟩), k _ C1 H1 ?_ e1⟩
    rw [dens_empty hd]; exact q
  | lst ds =>
    obtain ⟨p, xs, rfl, hx, hd⟩ := den_lst.mp n1
    refine ⟨_, .inl ⟨xs, e1.ch.seq hx, rfl⟩, k _ C1 H1 ?_ e1⟩
    rw [dens_empty hd]; exact q
def gIfE (t : GT) (ga gb : GE) : GE := fun δ Q => t δ fun c => if c = true then ga δ Q else gb δ Q
theorem de_if (hc : DT X c ta) (ha : DE X a ga) (hb : DE X b gb) : DE X (.IfExp c a b pos) (gIfE ta ga gb) := by
  obtain ⟨t0, p0, h0⟩ := hc
  obtain ⟨t1, p1, h1⟩ := ha
  obtain ⟨t2, p2, h2⟩ := hb
  refine ⟨_, pe_ifExp p0 p1 p2, fun C0 H0 δ σ C H Q R rp g k => h0 C0 H0 δ σ C H _ _ rp g fun c C1 H1 q e1 => ?_⟩
  cases c with
  | true => exact iteT (h1 C0 H0 δ σ C1 H1 _ _ (rp.grow e1) (by simpa using q) fun d2 v2 C2 H2 q2 e2 n2 => k d2 v2 C2 H2 q2 (e1.trans e2) n2)
  | false => exact iteF (h2 C0 H0 δ σ C1 H1 _ _ (rp.grow e1) (by simpa using q) fun d2 v2 C2 H2 q2 e2 n2 => k d2 v2 C2 H2 q2 (e1.trans e2) n2)

/-! ### argument lists, displays, calls -/
abbrev gNilA : GF := fun _ Q => Q []
def gConsA (ga : GE) (gr : GF) : GF := fun δ Q => ga δ fun d => gr δ fun ds => Q (d :: ds)
theorem da_nil : DA X [] gNilA := ⟨_, pa_nil, fun C0 H0 δ σ C H Q R rp g k => k [] [] C H g (Ext.refl rp.ch) .nil⟩
theorem da_cons (ha : DE X e ga) (hr : DA X es gf) (hs : starEach (e :: es) X.env = (false, eval e X.env) :: starEach es X.env := by rfl) : DA X (e :: es) (gConsA ga gf) := by
  obtain ⟨t1, p1, h1⟩ := ha
  obtain ⟨t2, p2, h2⟩ := hr
  refine ⟨_, pa_cons p1 p2 hs, fun C0 H0 δ σ C H Q R rp g k => h1 C0 H0 δ σ C H _ _ rp g fun d v C1 H1 q e1 n1 => ?_⟩
  exact h2 C0 H0 δ σ C1 H1 _ _ (rp.grow e1) q fun ds vs C2 H2 q2 e2 n2 => k (d :: ds) (v :: vs) C2 H2 q2 (e1.trans e2) (.cons (n1.mono e2.cc) n2)
def gTupE (gf : GF) : GE := fun δ Q => gf δ fun ds => ds.length ≤ sizeLine ∧ Q (.tup ds)
theorem de_tup {x1} (h : DA X es gf) : DE X (.Tuple es x1 pos) (gTupE gf) := by
  obtain ⟨t, p, h⟩ := h
  refine ⟨_, pe_tup p, fun C0 H0 δ σ C H Q R rp g k => h C0 H0 δ σ C H _ _ rp g fun ds vs C1 H1 q e1 n1 => ⟨by rw [n1.length]; exact q.1, fun p hp => ?_⟩⟩
  exact k (.tup ds) _ (upd C1 p (.tup vs)) _ q.2 (e1.trans (Ext.new e1.ch hp)) (den_tup.mpr ⟨p, vs, rfl, SqT.of upd_same, n1.mono (Same.upd (e1.ch.free hp))⟩)
def gLst (gf : GF) : GF := fun δ Q => gf δ fun ds => ds.length ≤ sizeLine ∧ Q ds
theorem df_lst (h : DA X es gf) : DF X (.List es pos) (gLst gf) := by
  obtain ⟨t, p, h⟩ := h
  refine ⟨_, pe_lst p, fun C0 H0 δ σ C H Q R rp g k => h C0 H0 δ σ C H _ _ rp g fun ds vs C1 H1 q e1 n1 => ⟨by rw [n1.length]; exact q.1, fun p hp => ?_⟩⟩
  exact k ds p vs C1 _ q.2 (e1.trans (Ext.newO e1.ch hp)) (e1.ch.free hp) (e1.hh.free hp) upd_same n1
def gCallB (g : List D → (D → Prop) → Prop) (gf : GF) : GE := fun δ Q => gf δ fun ds => g ds Q
theorem de_callB {x : Str} {id : String} {g : List D → (D → Prop) → Prop} {pos' : Pos} (hc : DCall X (.builtin id) g) (hg : Gl X x) (hm : X.mg x = none) (hv : bootBuiltins x = some (.builtin id)) (ha : DA X (e :: es) gf)
    (hp : ∀ {t : TA} {r : List V → Hp → VK → Prop}, CallR X (.builtin id) r → PA X (e :: es) t → PE X (.Call (.Name x pos') (e :: es) [] pos) (tCB r t)) : DE X (.Call (.Name x pos') (e :: es) [] pos) (gCallB g gf) := by
  obtain ⟨r, pr, hr⟩ := hc
  obtain ⟨t, p, h⟩ := ha
  refine ⟨_, hp pr p, fun C0 H0 δ σ C H Q R rp g k => h C0 H0 δ σ C H _ _ rp g fun ds vs C1 H1 q e1 n1 => ?_⟩
  exact hr vs ds C1 H1 Q R e1.ch n1 q fun d v C2 H2 q2 e2 n2 => k d v C2 H2 q2 (e1.trans e2) n2
theorem de_callT {x : Str} {T : String} {g : List D → (D → Prop) → Prop} {pos' : Pos} (hc : DCall X (.type T) g) (ha : DA X (e :: es) gf)
    (hp : ∀ {t : TA} {r : List V → Hp → VK → Prop}, CallR X (.type T) r → PA X (e :: es) t → PE X (.Call (.Name x pos') (e :: es) [] pos) (tCB r t)) : DE X (.Call (.Name x pos') (e :: es) [] pos) (gCallB g gf) := by
  obtain ⟨r, pr, hr⟩ := hc
  obtain ⟨t, p, h⟩ := ha
  refine ⟨_, hp pr p, fun C0 H0 δ σ C H Q R rp g k => h C0 H0 δ σ C H _ _ rp g fun ds vs C1 H1 q e1 n1 => ?_⟩
  exact hr vs ds C1 H1 Q R e1.ch n1 q fun d v C2 H2 q2 e2 n2 => k d v C2 H2 q2 (e1.trans e2) n2
def gCallF (g : List D → (List D → Prop) → Prop) (gf : GF) : GF := fun δ Q => gf δ fun ds => g ds Q
theorem df_call {x : Str} {f : Value} {g : List D → (List D → Prop) → Prop} {pos' : Pos} (hc : DCallF X f g) (ha : DA X (e :: es) gf)
    (hp : ∀ {t : TA} {r : List V → Hp → VK → Prop}, CallR X f r → PA X (e :: es) t → PE X (.Call (.Name x pos') (e :: es) [] pos) (tCB r t)) : DF X (.Call (.Name x pos') (e :: es) [] pos) (gCallF g gf) := by
  obtain ⟨r, pr, hr⟩ := hc
  obtain ⟨t, p, h⟩ := ha
  refine ⟨_, hp pr p, fun C0 H0 δ σ C H Q R rp g k => h C0 H0 δ σ C H _ _ rp g fun ds vs C1 H1 q e1 n1 => ?_⟩
  exact hr vs ds C1 H1 Q R e1.ch n1 q fun es' p ys C2 H2 q2 e2 h1 h2 h3 h4 => k es' p ys C2 H2 q2 (e1.trans e2) h1 (e1.hh.free h2) h3 h4
end
end L2
namespace L2
open PySem PySem.Spec PyProof.Rows

/-! ### a def of the text, by a function over data -/
def gOpt (o : Option D) (Q : D → Prop) : Prop := match o with
  | some d => Q d
  | none => False
theorem gOpt_some {d : D} {Q : D → Prop} : gOpt (some d) Q = Q d := rfl
def spD (K : PySem.W.Frag) (F : List D → Option D) : Sp := fun vs H Q _ => ∃ C ds d, Same C H ∧ Dens K C vs ds ∧ F ds = some d ∧ ∀ v C' H', Ext C H C' H' → Den K C' v d → Q v H'
def DFn (P : Program) (w : World) (K : PySem.W.Frag) (mg : Str → Option Value) (base : Heap) (k : Nat) (x : Str) (F : List D → Option D) : Prop :=
  ∃ f fd ps, FnOk P w K mg base CX0 k f fd ps (spD K F) ∧ mg x = some (.ref f) ∧ PySem.W.keepIn K (.ref f) = true ∧ Binds K fd ps []
theorem DFn.mono {P : Program} {w : World} {K : PySem.W.Frag} {mg : Str → Option Value} {base : Heap} {j k : Nat} {x : Str} {F : List D → Option D} (h : DFn P w K mg base j x F) (hk : j ≤ k) : DFn P w K mg base k x F := by
  obtain ⟨f, fd, ps, a, b⟩ := h
  exact ⟨f, fd, ps, a.mono hk, b⟩
section
variable {X : Cx} {a b c e : Expr} {es : List Expr} {pos : Pos} {ga gb gc gd : GE} {gf : GF} {ta tb : GT}
def gCallD (F : List D → Option D) (gf : GF) : GE := fun δ Q => gf δ fun ds => gOpt (F ds) Q
theorem de_call {F : List D → Option D} {k : Nat} {x : Str} {p : Pos} (h : DFn X.prog X.w X.K X.mg X.base k x F) (hr : Room k X.A) (hg : Gl X x) (ha : DA X (e :: es) gf) (hdb : (x == ("__debug__" : Str)) = false := by decide)
    (he : starEach (e :: es) X.env = (false, eval e X.env) :: starEach es X.env := by rfl) (hpl : (backTo pos (starEach es X.env)).any (·.1) = false := by rfl) : DE X (.Call (.Name x p) (e :: es) [] pos) (gCallD F gf) := by
  obtain ⟨f, fd, ps, Fk, hm, hk, hb⟩ := h
  obtain ⟨t, pa, h⟩ := ha
  refine ⟨_, pe_call Fk hr hg hm hk hb .nil pass0 pa hdb he hpl, fun C0 H0 δ σ C H Q R rp g k => h C0 H0 δ σ C H _ _ rp g fun ds vs C1 H1 q e1 n1 => ?_⟩
  cases e2 : F ds with
  | none => rw [e2] at q; exact q.elim
  | some d =>
    rw [e2] at q
    exact ⟨C1, ds, d, e1.ch, by rw [List.append_nil]; exact n1, e2, fun v C' H' ex nv => k d v C' H' q (e1.trans ex) nv⟩

/-! ### subscripts, slices -/
def gIx : GO := fun x y Q => match x, y with
  | .tup ds, .int i => gOpt (atI ds i) Q
  | .lst ds, .int i => gOpt (atI ds i) Q
  | _, _ => False
theorem dens_at {K : PySem.W.Frag} {C : Hp} {xs : List V} {ds : List D} {i : Int} {d : D} (h : Dens K C xs ds) (e : atI ds i = some d) : ∃ v, atI xs i = some v ∧ Den K C v d := by
  unfold atI at e ⊢
  rw [h.length]
  cases z : ixN ds.length i with
  | none => rw [z] at e; cases e
  | some j =>
    rw [z] at e
    exact h.get e
theorem de_ix (ha : DE X a ga) (hb : DE X b gb) (hs : PlainIx b) : DE X (.Subscript a b pos) (gOp gIx ga gb) := by
  obtain ⟨t1, p1, h1⟩ := ha
  obtain ⟨t2, p2, h2⟩ := hb
  refine ⟨_, pe_ix ix_seq p1 p2 hs, fun C0 H0 δ σ C H Q R rp g k => ?_⟩
  refine h1 C0 H0 δ σ C H _ _ rp g fun d v C1 H1 q e1 n1 => h2 C0 H0 δ σ C1 H1 _ _ (rp.grow e1) q fun d2 v2 C2 H2 q2 e2 n2 => ?_
  have n1' := n1.mono e2.cc
  cases d with
  | tup ds =>
    cases d2 with
    | int i =>
      obtain ⟨p, xs, rfl, hx, hd⟩ := den_tup.mp n1'
      rw [den_int.mp n2]
      have q2' : gOpt (atI ds i) Q := q2
      cases z : atI ds i with
      | none => rw [z] at q2'; exact q2'.elim
      | some d3 =>
        rw [z] at q2'
        obtain ⟨v3, ev, nv⟩ := dens_at hd z
        exact .inr (.inl ⟨p, xs, i, v3, rfl, rfl, e2.ch.seqT hx, ev, k d3 v3 C2 H2 q2' (e1.trans e2) nv⟩)
    | _ => exact q2.elim
  | lst ds =>
    cases d2 with
    | int i =>
      obtain ⟨p, xs, rfl, hx, hd⟩ := den_lst.mp n1'
      rw [den_int.mp n2]
      have q2' : gOpt (atI ds i) Q := q2
      cases z : atI ds i with
      | none => rw [z] at q2'; exact q2'.elim
      | some d3 =>
        rw [z] at q2'
        obtain ⟨v3, ev, nv⟩ := dens_at hd z
        exact .inl ⟨p, xs, i, v3, rfl, rfl, e2.ch.seq hx, ev, k d3 v3 C2 H2 q2' (e1.trans e2) nv⟩
    | _ => exact q2.elim
  | _ => exact q2.elim
/-- a slice's part -/
abbrev GP := DS → (Option Int → Prop) → Prop
def DO (X : Cx) (e : Option Expr) (g : GP) : Prop := ∃ t, PO X e t ∧ ∀ C0 H0 δ σ C H (Q : Option Int → Prop) (R : Option Int → Hp → Prop), Rep X.K C0 H0 δ σ C H → g δ Q → (∀ o C1 H1, Q o → Ext C H C1 H1 → R o H1) → t σ H R
abbrev gNoP : GP := fun _ Q => Q none
def gPart (g : GE) : GP := fun δ Q => g δ fun d => match d with
  | .int i => Q (some i)
  | _ => False
theorem do_none : DO X none gNoP := ⟨_, po_none, fun C0 H0 δ σ C H Q R rp g k => k none C H g (Ext.refl rp.ch)⟩
theorem do_some (h : DE X e ga) : DO X (some e) (gPart ga) := by
  obtain ⟨t, p, h⟩ := h
  refine ⟨_, po_some p, fun C0 H0 δ σ C H Q R rp g k => h C0 H0 δ σ C H _ _ rp g fun d v C1 H1 q e1 n1 => ?_⟩
  cases d with
  | int i => exact ⟨i, den_int.mp n1, k (some i) C1 H1 q e1⟩
  | _ => exact q.elim
def cutD (xs : List D) (lo hi : Option Int) : List D := (xs.drop (HT.sIx xs.length 0 lo)).take (HT.sIx xs.length xs.length hi - HT.sIx xs.length 0 lo)
def gSlT (ga : GE) (gl gh : GP) : GE := fun δ Q => ga δ fun d => gl δ fun lo => gh δ fun hi => match d with
  | .tup ds => Q (.tup (cutD ds lo hi))
  | _ => False
theorem dens_cut {K : PySem.W.Frag} {C : Hp} {xs : List V} {ds : List D} {lo hi : Option Int} (h : Dens K C xs ds) : Dens K C (cutV xs lo hi) (cutD ds lo hi) := by
  unfold cutV cutD
  rw [h.length]
  exact (h.drop _).take _
theorem de_slT {lo hi : Option Expr} {gl gh : GP} {p2 : Pos} (ha : DE X a ga) (hl : DO X lo gl) (hh : DO X hi gh) : DE X (.Subscript a (.Slice lo hi none p2) pos) (gSlT ga gl gh) := by
  obtain ⟨t1, p1, h1⟩ := ha
  obtain ⟨t2, p2', h2⟩ := hl
  obtain ⟨t3, p3, h3⟩ := hh
  refine ⟨_, pe_slice (sl_tup.or sl_tupW) p1 p2' p3, fun C0 H0 δ σ C H Q R rp g k => ?_⟩
  refine h1 C0 H0 δ σ C H _ _ rp g fun d v C1 H1 q e1 n1 => h2 C0 H0 δ σ C1 H1 _ _ (rp.grow e1) q fun o C2 H2 q2 e2 => h3 C0 H0 δ σ C2 H2 _ _ ((rp.grow e1).grow e2) q2 fun o2 C3 H3 q3 e3 => ?_
  have n1' := (n1.mono e2.cc).mono e3.cc
  have e123 := e1.trans (e2.trans e3)
  cases d with
  | tup ds =>
    obtain ⟨p, xs, rfl, hx, hd⟩ := den_tup.mp n1'
    by_cases hw : HT.sIx xs.length 0 o = 0 ∧ HT.sIx xs.length xs.length o2 = xs.length
    · refine .inr ⟨p, xs, rfl, e3.ch.seqT hx, hw, k (.tup ds) _ C3 H3 ?_ e123 n1'⟩
      have q3' : Q (.tup (cutD ds o o2)) := q3
      unfold cutD at q3'
      rw [← hd.length, hw.1, hw.2, List.drop_zero, Nat.sub_zero, hd.length, List.take_length] at q3'
      exact q3'
    · refine .inl ⟨p, xs, rfl, e3.ch.seqT hx, hw, fun p' hp => ?_⟩
      exact k _ _ (upd C3 p' (.tup (cutV xs o o2))) _ q3 (e123.trans (Ext.new e3.ch hp)) (den_tup.mpr ⟨p', _, rfl, SqT.of upd_same, (dens_cut hd).mono (Same.upd (e3.ch.free hp))⟩)
  | _ => exact q3.elim

/-! ### operations -/
def oInt (f : Int → Int → D) : GO := fun x y Q => match x, y with
  | .int i, .int j => Q (f i j)
  | _, _ => False
def oIntC (c : Int → Int → Prop) (f : Int → Int → D) : GO := fun x y Q => match x, y with
  | .int i, .int j => c i j ∧ Q (f i j)
  | _, _ => False
theorem dop_intC {f : Value → Value → Sem Value} {c : Int → Int → Prop} {g : Int → Int → Int} (h : OpR X f (rI c fun i j => .int (g i j))) : DOp X f (oIntC c fun i j => .int (g i j)) := by
  refine ⟨_, h, fun x y dx dy C H Q R ch n1 n2 q k => ?_⟩
  cases dx with
  | int i =>
    cases dy with
    | int j => exact ⟨i, j, den_int.mp n1, den_int.mp n2, q.1, k _ _ C H q.2 (Ext.refl ch) (den_int.mpr rfl)⟩
    | _ => exact q.elim
  | _ => exact q.elim
theorem dop_intB {f : Value → Value → Sem Value} {g : Int → Int → Bool} (h : OpR X f (rI0 fun i j => .bl (g i j))) : DOp X f (oInt fun i j => .bl (g i j)) := by
  refine ⟨_, h, fun x y dx dy C H Q R ch n1 n2 q k => ?_⟩
  cases dx with
  | int i =>
    cases dy with
    | int j => exact ⟨i, j, den_int.mp n1, den_int.mp n2, k _ _ C H q (Ext.refl ch) (den_bl.mpr rfl)⟩
    | _ => exact q.elim
  | _ => exact q.elim
theorem dop_intI {f : Value → Value → Sem Value} {g : Int → Int → Int} (h : OpR X f (rI0 fun i j => .int (g i j))) : DOp X f (oInt fun i j => .int (g i j)) := by
  refine ⟨_, h, fun x y dx dy C H Q R ch n1 n2 q k => ?_⟩
  cases dx with
  | int i =>
    cases dy with
    | int j => exact ⟨i, j, den_int.mp n1, den_int.mp n2, k _ _ C H q (Ext.refl ch) (den_int.mpr rfl)⟩
    | _ => exact q.elim
  | _ => exact q.elim
abbrev oSub : GO := oInt fun i j => .int (i - j)
abbrev oLt : GO := oInt fun i j => .bl (decide (i < j))
abbrev oLe : GO := oInt fun i j => .bl (decide (i ≤ j))
abbrev oGt : GO := oInt fun i j => .bl (decide (j < i))
abbrev oGe : GO := oInt fun i j => .bl (decide (j ≤ i))
abbrev oMod : GO := oIntC (fun _ j => 0 < j) fun i j => .int (i % j)
abbrev oDiv : GO := oIntC CDiv fun i j => .int (i / j)
theorem do_sub : DOp X (binaryOp .Sub) oSub := dop_intI op_sub
theorem do_lt : DOp X (compareOp .Lt) oLt := dop_intB op_lt
theorem do_le : DOp X (compareOp .LtE) oLe := dop_intB op_le
theorem do_gt : DOp X (compareOp .Gt) oGt := dop_intB op_gt
theorem do_ge : DOp X (compareOp .GtE) oGe := dop_intB op_ge
theorem do_mod : DOp X (binaryOp .Mod) oMod := dop_intC op_mod
theorem do_div : DOp X (binaryOp .FloorDiv) oDiv := dop_intC op_fdiv
/-- + of ints, of tuples -/
def oAdd : GO := fun x y Q => match x, y with
  | .int i, .int j => Q (.int (i + j))
  | .tup xs, .tup ys => xs.length + ys.length ≤ sizeLine ∧ Q (.tup (xs ++ ys))
  | _, _ => False
theorem do_add : DOp X (binaryOp .Add) oAdd := by
  refine ⟨_, op_add.or (op_catT.or op_cat0), fun x y dx dy C H Q R ch n1 n2 q k => ?_⟩
  cases dx with
  | int i =>
    cases dy with
    | int j => exact .inl ⟨i, j, den_int.mp n1, den_int.mp n2, k _ _ C H q (Ext.refl ch) (den_int.mpr rfl)⟩
    | _ => exact q.elim
  | tup ds =>
    cases dy with
    | tup es =>
      obtain ⟨p, xs, rfl, hx, hd⟩ := den_tup.mp n1
      obtain ⟨p2, ys, rfl, hy, he⟩ := den_tup.mp n2
      have q' : ds.length + es.length ≤ sizeLine ∧ Q (.tup (ds ++ es)) := q
      refine .inr ?_
      cases ds with
      | nil =>
        have e := dens_nil.mp hd
        subst e
        exact .inr ⟨p, p2, ys, rfl, rfl, ch.seqT hx, ch.seqT hy, k _ _ C H q'.2 (Ext.refl ch) n2⟩
      | cons d ds =>
        refine .inl ⟨p, p2, xs, ys, rfl, rfl, ch.seqT hx, ch.seqT hy, ?_, by rw [hd.length, he.length]; exact q'.1, fun z => ?_, fun _ p' hp => ?_⟩
        · intro z
          have := hd.length
          rw [z] at this
          simp at this
        · subst z
          have e : es = [] := by
            have := he.length
            simpa using this.symm
          subst e
          rw [List.append_nil] at q'
          exact k _ _ C H q'.2 (Ext.refl ch) n1
        · exact k _ _ (upd C p' (.tup (xs ++ ys))) _ q'.2 (Ext.new ch hp) (den_tup.mpr ⟨p', _, rfl, SqT.of upd_same, (hd.append he).mono (Same.upd (ch.free hp))⟩)
    | _ => exact q.elim
  | _ => exact q.elim
/-- * of ints (one of them small), of a tuple and a number -/
def oMul : GO := fun x y Q => match x, y with
  | .int i, .int j => CMul i j ∧ Q (.int (i * j))
  | .tup xs, .int k => 1 < k ∧ k < 2 ^ 63 ∧ xs ≠ [] ∧ (xs.length : Int) * k ≤ sizeLine ∧ Q (.tup (List.replicate k.toNat xs).flatten)
  | _, _ => False
theorem do_mul : DOp X (binaryOp .Mult) oMul := by
  refine ⟨_, op_mul.or op_repT, fun x y dx dy C H Q R ch n1 n2 q k => ?_⟩
  cases dx with
  | int i =>
    cases dy with
    | int j => exact .inl ⟨i, j, den_int.mp n1, den_int.mp n2, q.1, k _ _ C H q.2 (Ext.refl ch) (den_int.mpr rfl)⟩
    | _ => exact q.elim
  | tup ds =>
    cases dy with
    | int j =>
      obtain ⟨p, xs, rfl, hx, hd⟩ := den_tup.mp n1
      obtain ⟨q1, q2, q3, q4, q5⟩ := q
      refine .inr ⟨p, j, xs, rfl, den_int.mp n2, ch.seqT hx, q1, q2, ?_, by rw [hd.length]; exact q4, fun p' hp => ?_⟩
      · intro z
        have := hd.length
        rw [z] at this
        exact q3 (by simpa using this.symm)
      · exact k _ _ (upd C p' _) _ q5 (Ext.new ch hp) (den_tup.mpr ⟨p', _, rfl, SqT.of upd_same, (hd.rep _).mono (Same.upd (ch.free hp))⟩)
    | _ => exact q.elim
  | _ => exact q.elim
/-- is True, is not True .. -/
def oIs : GO := fun x y Q => match x, y with
  | .bl a, .bl b => Q (.bl (a == b))
  | _, _ => False
def oIsnot : GO := fun x y Q => match x, y with
  | .bl a, .bl b => Q (.bl (a != b))
  | _, _ => False
theorem do_is : DOp X (compareOp .Is) oIs := by
  refine ⟨_, op_isB, fun x y dx dy C H Q R ch n1 n2 q k => ?_⟩
  cases dx with
  | bl i =>
    cases dy with
    | bl j => exact ⟨i, j, den_bl.mp n1, den_bl.mp n2, k _ _ C H q (Ext.refl ch) (den_bl.mpr rfl)⟩
    | _ => exact q.elim
  | _ => exact q.elim
theorem do_isnot : DOp X (compareOp .IsNot) oIsnot := by
  refine ⟨_, op_isnotB, fun x y dx dy C H Q R ch n1 n2 q k => ?_⟩
  cases dx with
  | bl i =>
    cases dy with
    | bl j => exact ⟨i, j, den_bl.mp n1, den_bl.mp n2, k _ _ C H q (Ext.refl ch) (den_bl.mpr rfl)⟩
    | _ => exact q.elim
  | _ => exact q.elim
def gNeg (ga : GE) : GE := fun δ Q => ga δ fun d => match d with
  | .int i => Q (.int (-i))
  | _ => False
theorem de_neg (ha : DE X a ga) : DE X (.UnaryOp .USub a pos) (gNeg ga) := by
  obtain ⟨t1, p1, h1⟩ := ha
  refine ⟨_, pe_un un_neg p1, fun C0 H0 δ σ C H Q R rp g k => h1 C0 H0 δ σ C H _ _ rp g fun d v C1 H1 q e1 n1 => ?_⟩
  cases d with
  | int i => exact ⟨i, den_int.mp n1, k _ _ C1 H1 q e1 (den_int.mpr rfl)⟩
  | _ => exact q.elim

/-! ### calls of builtins -/
def cLen : List D → (D → Prop) → Prop := fun ds Q => match ds with
  | [.tup xs] => Q (.int xs.length)
  | [.lst xs] => Q (.int xs.length)
  | _ => False
theorem dens_one {K : PySem.W.Frag} {C : Hp} {vs : List V} {d : D} (h : Dens K C vs [d]) : ∃ v, vs = [v] ∧ Den K C v d := by
  obtain ⟨x, xs, rfl, a, t⟩ := dens_cons.mp h
  rw [dens_nil.mp t]
  exact ⟨x, rfl, a⟩
theorem dens_two {K : PySem.W.Frag} {C : Hp} {vs : List V} {d d2 : D} (h : Dens K C vs [d, d2]) : ∃ v u, vs = [v, u] ∧ Den K C v d ∧ Den K C u d2 := by
  obtain ⟨x, xs, rfl, a, t⟩ := dens_cons.mp h
  obtain ⟨u, rfl, b⟩ := dens_one t
  exact ⟨x, u, rfl, a, b⟩
theorem dc_len : DCall X (.builtin "len") cLen := by
  refine ⟨_, call_len_seq, fun xs ds C H Q R ch n q k => ?_⟩
  unfold cLen at q
  split at q
  · obtain ⟨v, rfl, n1⟩ := dens_one n
    obtain ⟨p, ys, rfl, hy, hd⟩ := den_tup.mp n1
    refine ⟨p, ys, rfl, .inr (ch.seqT hy), ?_⟩
    rw [hd.length]
    exact k _ _ C H q (Ext.refl ch) (den_int.mpr rfl)
  · obtain ⟨v, rfl, n1⟩ := dens_one n
    obtain ⟨p, ys, rfl, hy, hd⟩ := den_lst.mp n1
    refine ⟨p, ys, rfl, .inl (ch.seq hy), ?_⟩
    rw [hd.length]
    exact k _ _ C H q (Ext.refl ch) (den_int.mpr rfl)
  · exact q.elim
def cTuple : List D → (D → Prop) → Prop := fun ds Q => match ds with
  | [.tup xs] => Q (.tup xs)
  | [.lst xs] => Q (.tup xs)
  | _ => False
theorem dc_tuple : DCall X (.type "tuple") cTuple := by
  refine ⟨_, call_tuple_of, fun xs ds C H Q R ch n q k => ?_⟩
  unfold cTuple at q
  split at q
  · obtain ⟨v, rfl, n1⟩ := dens_one n
    obtain ⟨p, ys, rfl, hy, hd⟩ := den_tup.mp n1
    exact ⟨p, ys, rfl, .inr ⟨ch.seqT hy, k _ _ C H q (Ext.refl ch) n1⟩⟩
  · obtain ⟨v, rfl, n1⟩ := dens_one n
    obtain ⟨p, ys, rfl, hy, hd⟩ := den_lst.mp n1
    exact ⟨p, ys, rfl, .inl ⟨ch.seq hy, fun l hl => k _ _ (upd C l (.tup ys)) _ q (Ext.new ch hl) (den_tup.mpr ⟨l, ys, rfl, SqT.of upd_same, hd.mono (Same.upd (ch.free hl))⟩)⟩⟩
  · exact q.elim
def cList : List D → (List D → Prop) → Prop := fun ds Q => match ds with
  | [.tup xs] => Q xs
  | [.lst xs] => Q xs
  | _ => False
theorem dc_list : DCallF X (.type "list") cList := by
  refine ⟨_, call_list_of, fun xs ds C H Q R ch n q k => ?_⟩
  unfold cList at q
  split at q
  · obtain ⟨v, rfl, n1⟩ := dens_one n
    obtain ⟨p, ys, rfl, hy, hd⟩ := den_tup.mp n1
    exact ⟨p, ys, rfl, .inr (ch.seqT hy), fun l hl => k _ l ys C _ q (Ext.newO ch hl) (ch.free hl) hl upd_same hd⟩
  · obtain ⟨v, rfl, n1⟩ := dens_one n
    obtain ⟨p, ys, rfl, hy, hd⟩ := den_lst.mp n1
    exact ⟨p, ys, rfl, .inl (ch.seq hy), fun l hl => k _ l ys C _ q (Ext.newO ch hl) (ch.free hl) hl upd_same hd⟩
  · exact q.elim
def cAbs : List D → (D → Prop) → Prop := fun ds Q => match ds with
  | [.int i] => Q (.int (if i < 0 then -i else i))
  | _ => False
theorem dc_abs : DCall X (.builtin "abs") cAbs := by
  refine ⟨_, call_abs, fun xs ds C H Q R ch n q k => ?_⟩
  unfold cAbs at q
  split at q
  · obtain ⟨v, rfl, n1⟩ := dens_one n
    rw [den_int.mp n1]
    exact ⟨_, rfl, k _ _ C H q (Ext.refl ch) (den_int.mpr rfl)⟩
  · exact q.elim
/-- the bools of a list -/
def bools : List D → Option (List Bool)
  | [] => some []
  | .bl b :: r => (bools r).map (b :: ·)
  | _ :: _ => none
theorem bools_eq : ∀ {ds : List D} {bs : List Bool}, bools ds = some bs → ds = bs.map D.bl
  | [], bs, h => by cases h; rfl
  | .bl b :: r, bs, h => by
    unfold bools at h
    cases e : bools r with
    | none => rw [e] at h; cases h
    | some cs => rw [e] at h; cases h; rw [List.map_cons, ← bools_eq e]
  | .int _ :: _, _, h => by cases h
  | .non :: _, _, h => by cases h
  | .str _ :: _, _, h => by cases h
  | .tup _ :: _, _, h => by cases h
  | .lst _ :: _, _, h => by cases h
theorem bools_map (bs : List Bool) : bools (bs.map D.bl) = some bs := by
  induction bs with
  | nil => rfl
  | cons b bs ih => rw [List.map_cons, bools, ih]; rfl
theorem bools_mapf {α : Type} (f : α → Bool) (l : List α) : bools (l.map fun x => D.bl (f x)) = some (l.map f) := by
  rw [← bools_map, List.map_map]; rfl
def cAll : List D → (D → Prop) → Prop := fun ds Q => match ds with
  | [.lst xs] => match bools xs with
    | some bs => Q (.bl (bs.all id))
    | none => False
  | _ => False
theorem dc_all (hc : X.calm = true) : DCall X (.builtin "all") cAll := by
  refine ⟨_, call_all hc, fun xs ds C H Q R ch n q k => ?_⟩
  unfold cAll at q
  split at q
  · split at q
    · rename_i bs e
      obtain ⟨v, rfl, n1⟩ := dens_one n
      obtain ⟨p, ys, rfl, hy, hd⟩ := den_lst.mp n1
      rw [bools_eq e] at hd
      rw [hd.bools] at hy
      exact ⟨p, bs, rfl, ch.seq hy, k _ _ C H q (Ext.refl ch) (den_bl.mpr rfl)⟩
    · exact q.elim
  · exact q.elim
def cAny : List D → (D → Prop) → Prop := fun ds Q => match ds with
  | [.lst xs] => match bools xs with
    | some bs => Q (.bl (bs.any id))
    | none => False
  | _ => False
theorem dc_any (hc : X.calm = true) : DCall X (.builtin "any") cAny := by
  refine ⟨_, call_any hc, fun xs ds C H Q R ch n q k => ?_⟩
  unfold cAny at q
  split at q
  · split at q
    · rename_i bs e
      obtain ⟨v, rfl, n1⟩ := dens_one n
      obtain ⟨p, ys, rfl, hy, hd⟩ := den_lst.mp n1
      rw [bools_eq e] at hd
      rw [hd.bools] at hy
      exact ⟨p, bs, rfl, ch.seq hy, k _ _ C H q (Ext.refl ch) (den_bl.mpr rfl)⟩
    · exact q.elim
  · exact q.elim
/-- isinstance(x, T) -/
def tyD : D → String
  | .int _ => "int"
  | .bl _ => "bool"
  | .non => "NoneType"
  | .str _ => "str"
  | .tup _ => "tuple"
  | .lst _ => "list"
theorem tyD_name {K : PySem.W.Frag} {C H : Hp} {v : V} {d : D} (ch : Same C H) (n : Den K C v d) : tyName K H v (tyD d) := by
  cases d with
  | int i => rw [den_int.mp n]; rfl
  | bl i => rw [den_bl.mp n]; rfl
  | non => rw [den_non.mp n]; rfl
  | str i => rw [den_str.mp n]; rfl
  | tup ds => obtain ⟨p, ys, rfl, hy, hd⟩ := den_tup.mp n; exact .inr ⟨rfl, ys, ch.seqT hy⟩
  | lst ds => obtain ⟨p, ys, rfl, hy, hd⟩ := den_lst.mp n; exact .inl ⟨rfl, ys, ch.seq hy⟩
def gInst (T : String) (ga : GE) : GE := fun δ Q => ga δ fun d => Q (.bl (isSub (tyD d) T))
theorem de_inst {T : String} {y : Str} {p p' : Pos} (hT : T = "int" ∨ T = "bool" ∨ T = "str" ∨ T = "list" ∨ T = "tuple") (ha : DE X a ga) (hy : PE X (.Name y p') (tC (.ty T)))
    (hp : ∀ {t : TA} {r : List V → Hp → VK → Prop}, CallR X (.builtin "isinstance") r → PA X [a, .Name y p'] t → PE X (.Call (.Name "isinstance" p) [a, .Name y p'] [] pos) (tCB r t))
    (hs : starEach [a, .Name y p'] X.env = (false, eval a X.env) :: starEach [.Name y p'] X.env := by rfl) : DE X (.Call (.Name "isinstance" p) [a, .Name y p'] [] pos) (gInst T ga) := by
  obtain ⟨t1, p1, h1⟩ := ha
  refine ⟨_, hp call_isinst (pa_cons p1 (pa_cons hy pa_nil) hs), fun C0 H0 δ σ C H Q R rp g k => h1 C0 H0 δ σ C H _ _ rp g fun d v C1 H1 q e1 n1 => ?_⟩
  exact ⟨v, T, tyD d, rfl, hT, tyD_name e1.ch n1, k _ _ C1 H1 q e1 (den_bl.mpr rfl)⟩
end
end L2
namespace L2
open PySem PySem.Spec PyProof.Rows

/-! ### what a loop walks -/
def Walk (K : PySem.W.Frag) (J : It) (its : List D) (C1 : Hp) : Prop := ∀ C2 H2, Same C1 C2 → Same C2 H2 → ∀ i : Nat,
  (∀ d, its[i]? = some d → J.go i H2 ∧ ∀ x H3, J.yld i H2 x H3 → ∃ C3, Ext C2 H2 C3 H3 ∧ Den K C3 x d) ∧ (its.length ≤ i → J.stop i H2)
def DI (X : Cx) (tg iter : Expr) (g : GF) : Prop := ∃ wi, PI X tg iter wi ∧ ∀ C0 H0 δ σ C H (Q : List D → Prop) (R : It → Hp → Prop), Rep X.K C0 H0 δ σ C H → g δ Q →
  (∀ its J C1 H1, Q its → Ext C H C1 H1 → Walk X.K J its C1 → R J H1) → wi σ H R
section
variable {X : Cx} {a b c e tg iter : Expr} {es : List Expr} {pos : Pos} {ga gb gc gd : GE} {gf : GF} {ta tb : GT}
/-- over a tuple or a list (which: as the text has it) -/
def gIt (ga : GE) : GF := fun δ Q => ga δ fun d => match d with
  | .tup ds => Q ds
  | _ => False
def gIl (ga : GE) : GF := fun δ Q => ga δ fun d => match d with
  | .lst ds => Q ds
  | _ => False
theorem walk_tup {K : PySem.W.Frag} {C1 : Hp} {p : Addr} {xs : List V} {ds : List D} (hx : SqT K C1 p xs) (hd : Dens K C1 xs ds) (inj : ∀ H ys, Same C1 H → SqT K H p ys → True) : Walk K ⟨fun i H => ∃ xs x, SqT K H p xs ∧ xs[i]? = some x, fun i H x H' => H' = H ∧ ∀ xs, SqT K H p xs → xs[i]? = some x, fun i H => ∃ xs, SqT K H p xs ∧ xs.length ≤ i⟩ ds C1 := by
  intro C2 H2 c1 c2 i
  have hx2 := c2.seqT (c1.seqT hx)
  refine ⟨fun d e => ?_, fun hl => ⟨xs, hx2, by rw [hd.length]; exact hl⟩⟩
  obtain ⟨v, ev, nv⟩ := hd.get e
  refine ⟨⟨xs, v, hx2, ev⟩, fun x H3 y => ?_⟩
  obtain ⟨rfl, y⟩ := y
  have := y xs hx2
  rw [ev] at this
  cases this
  exact ⟨C2, Ext.refl c2, nv.mono c1⟩
theorem walk_lst {K : PySem.W.Frag} {C1 : Hp} {p : Addr} {xs : List V} {ds : List D} (hx : SqL K C1 p xs) (hd : Dens K C1 xs ds) : Walk K (Itl K p) ds C1 := by
  intro C2 H2 c1 c2 i
  have hx2 := c2.seq (c1.seq hx)
  refine ⟨fun d e => ?_, fun hl => ⟨xs, hx2, by rw [hd.length]; exact hl⟩⟩
  obtain ⟨v, ev, nv⟩ := hd.get e
  refine ⟨⟨xs, v, hx2, ev⟩, fun x H3 y => ?_⟩
  obtain ⟨rfl, y⟩ := y
  have := y xs hx2
  rw [ev] at this
  cases this
  exact ⟨C2, Ext.refl c2, nv.mono c1⟩
theorem di_tup (ha : DE X a ga) : DI X tg a (gIt ga) := by
  obtain ⟨t, p, h⟩ := ha
  refine ⟨_, pi_tup p, fun C0 H0 δ σ C H Q R rp g k => h C0 H0 δ σ C H _ _ rp g fun d v C1 H1 q e1 n1 => ?_⟩
  cases d with
  | tup ds =>
    obtain ⟨p, xs, rfl, hx, hd⟩ := den_tup.mp n1
    exact ⟨p, rfl, ⟨xs, e1.ch.seqT hx⟩, k ds _ C1 H1 q e1 (walk_tup hx hd fun _ _ _ _ => trivial)⟩
  | _ => exact q.elim
theorem di_lst (ha : DE X a ga) : DI X tg a (gIl ga) := by
  obtain ⟨t, p, h⟩ := ha
  refine ⟨_, pi_list p, fun C0 H0 δ σ C H Q R rp g k => h C0 H0 δ σ C H _ _ rp g fun d v C1 H1 q e1 n1 => ?_⟩
  cases d with
  | lst ds =>
    obtain ⟨p, xs, rfl, hx, hd⟩ := den_lst.mp n1
    exact ⟨p, rfl, ⟨xs, e1.ch.seq hx⟩, k ds _ C1 H1 q e1 (walk_lst hx hd)⟩
  | _ => exact q.elim
def rangeD (lo : Int) (n : Nat) : List D := (List.range n).map fun (k : Nat) => D.int (lo + (k : Int))
theorem walk_rng {K : PySem.W.Frag} {C1 : Hp} (lo : Int) (n : Nat) : Walk K (Itr lo n) (rangeD lo n) C1 := by
  intro C2 H2 c1 c2 i
  have hl : (rangeD lo n).length = n := by simp [rangeD]
  refine ⟨fun d e => ?_, fun h => by rw [hl] at h; exact h⟩
  have hi : i < n := by rw [← hl]; exact (List.getElem?_eq_some_iff.mp e).1
  have ed : d = .int (lo + i) := by
    unfold rangeD at e
    rw [List.getElem?_map, List.getElem?_range hi] at e
    exact (Option.some.inj e).symm
  subst ed
  exact ⟨hi, fun x H3 y => by obtain ⟨rfl, rfl⟩ := y; exact ⟨C2, Ext.refl c2, den_int.mpr rfl⟩⟩
def gRng1 (ga : GE) : GF := fun δ Q => ga δ fun d => match d with
  | .int j => (-(2 ^ 62) ≤ j ∧ j < 2 ^ 62) ∧ Q (rangeD 0 j.toNat)
  | _ => False
theorem di_rng1 {p : Pos} (hg : Gl X "range") (hm : X.mg "range" = none) (ha : DE X a ga) (hs : starEach [a] X.env = [(false, eval a X.env)] := by rfl) : DI X tg (.Call (.Name "range" p) [a] [] pos) (gRng1 ga) := by
  obtain ⟨t, p, h⟩ := ha
  refine ⟨_, pi_range1 hg hm (pa_cons p pa_nil hs) hs, fun C0 H0 δ σ C H Q R rp g k => h C0 H0 δ σ C H _ _ rp g fun d v C1 H1 q e1 n1 => ?_⟩
  cases d with
  | int j => rw [den_int.mp n1]; exact ⟨j, rfl, q.1.1, q.1.2, k _ _ C1 H1 q.2 e1 (walk_rng 0 _)⟩
  | _ => exact q.elim
def gRng2 (ga gb : GE) : GF := fun δ Q => ga δ fun d => gb δ fun d2 => match d, d2 with
  | .int i, .int j => (-(2 ^ 62) ≤ i ∧ i < 2 ^ 62 ∧ -(2 ^ 62) ≤ j ∧ j < 2 ^ 62) ∧ Q (rangeD i (j - i).toNat)
  | _, _ => False
theorem di_rng2 {p : Pos} (hg : Gl X "range") (hm : X.mg "range" = none) (ha : DE X a ga) (hb : DE X b gb) (hs1 : starEach [a, b] X.env = (false, eval a X.env) :: starEach [b] X.env := by rfl) (hs2 : starEach [b] X.env = [(false, eval b X.env)] := by rfl)
    (hp : ∀ {t : TA}, PA X [a, b] t → PI X tg (.Call (.Name "range" p) [a, b] [] pos) (iRng2 t)) : DI X tg (.Call (.Name "range" p) [a, b] [] pos) (gRng2 ga gb) := by
  obtain ⟨t1, p1, h1⟩ := ha
  obtain ⟨t2, p2, h2⟩ := hb
  refine ⟨_, hp (pa_cons p1 (pa_cons p2 pa_nil hs2) hs1), fun C0 H0 δ σ C H Q R rp g k => h1 C0 H0 δ σ C H _ _ rp g fun d v C1 H1 q e1 n1 => h2 C0 H0 δ σ C1 H1 _ _ (rp.grow e1) q fun d2 v2 C2 H2 q2 e2 n2 => ?_⟩
  cases d with
  | int i =>
    cases d2 with
    | int j =>
      rw [den_int.mp n1, den_int.mp n2]
      exact ⟨i, j, rfl, q2.1, k _ _ C2 H2 q2.2 (e1.trans e2) (walk_rng i _)⟩
    | _ => exact q2.elim
  | _ => exact q2.elim

/-! ### targets -/
abbrev GG := D → DS → (DS → Prop) → Prop
def DG (X : Cx) (tg : Expr) (ss : List Nat) (g : GG) : Prop := ∃ t, PG X tg t ∧ ∀ C0 H0 δ σ C H v d (Q : DS → Prop) (R : St → Hp → Prop), Rep X.K C0 H0 δ σ C H → Den X.K C v d → g d δ Q →
  (∀ δ' σ', Q δ' → Rep X.K C0 H0 δ' σ' C H → σ'.length = σ.length → (∀ j : Nat, j ∉ ss → σ'[j]? = σ[j]?) → R σ' H) → t v σ H R
abbrev gNm (i : Nat) : GG := fun d δ Q => Q (δ.set i (.im d))
theorem dg_name {i : Nat} {x : Str} (h : PG X (.Name x pos) (gName i)) : DG X (.Name x pos) [i] (gNm i) :=
  ⟨_, h, fun C0 H0 δ σ C H v d Q R rp n g k => k _ _ g (rp.setI n) (by simp) fun j hj => by rw [List.getElem?_set_ne]; intro z; exact hj (by simp [z])⟩
/-- (x, y) = a pair -/
def gNm2 (i j : Nat) : GG := fun d δ Q => match d with
  | .tup [a, b] => Q ((δ.set i (.im a)).set j (.im b))
  | _ => False
theorem dg_two {i j : Nat} {x y : Str} {p1 p2 : Pos} {k : Nat} (h1 : PG X (.Name x p1) (gName i)) (h2 : PG X (.Name y p2) (gName j))
    (hp : ∀ {t1 t2 : TG}, PG X (.Name x p1) t1 → PG X (.Name y p2) t2 → PG X (.Tuple [.Name x p1, .Name y p2] k pos) (gTup X.K 2 (gCons t1 (gCons t2 gNil)))) : DG X (.Tuple [.Name x p1, .Name y p2] k pos) [i, j] (gNm2 i j) := by
  refine ⟨_, hp h1 h2, fun C0 H0 δ σ C H v d Q R rp n g k => ?_⟩
  unfold gNm2 at g
  split at g
  · rename_i d1 d2
    obtain ⟨p, xs, rfl, hx, hd⟩ := den_tup.mp n
    obtain ⟨v1, v2, rfl, n1, n2⟩ := dens_two hd
    refine ⟨p, [v1, v2], rfl, rp.ch.seqT hx, rfl, v1, [v2], rfl, v2, [], rfl, rfl, ?_⟩
    refine k _ _ g ((rp.setI n1).setI n2) (by simp) fun m hm => ?_
    rw [List.getElem?_set_ne, List.getElem?_set_ne]
    · intro z; exact hm (by simp [z])
    · intro z; exact hm (by simp [z])
  · exact g.elim

/-! ### a comprehension -/
def δc (fr : List (Option Nat)) (δ : DS) : DS := fr.map fun o => match o with
  | none => .un
  | some j => match δ[j]? with
    | some (.im d) => .im d
    | _ => .un
theorem Rep.comp {K : PySem.W.Frag} {C0 H0 δ σ C H C1 H1} (fr : List (Option Nat)) (R : Rep K C0 H0 δ σ C H) (cc : Same C C1) (ch : Same C1 H1) : Rep K C1 H1 (δc fr δ) (σc fr σ) C1 H1 := by
  have no : ∀ (i : Nat) ds, (δc fr δ)[i]? ≠ some (.ow ds) := fun i ds e => by
    unfold δc at e
    rw [List.getElem?_map] at e
    cases ef : fr[i]? with
    | none => rw [ef] at e; cases e
    | some o =>
      rw [ef] at e
      cases o with
      | none => cases e
      | some j =>
        simp only [Option.map_some] at e
        split at e <;> cases e
  refine ⟨by unfold σc δc; simp, Ext.refl ch, fun i d e => ?_, fun i ds e => absurd e (no i ds), fun i j ds es l _ e _ => absurd e (no i ds)⟩
  unfold δc at e
  unfold σc
  rw [List.getElem?_map] at e ⊢
  cases ef : fr[i]? with
  | none => rw [ef] at e; cases e
  | some o =>
    rw [ef] at e
    cases o with
    | none => cases e
    | some j =>
      simp only [Option.map_some] at e ⊢
      split at e
      · rename_i d' ed
        cases e
        obtain ⟨v, ev, nv⟩ := R.im j d ed
        refine ⟨v, ?_, nv.mono cc⟩
        show some ((σ[j]?).bind id) = _
        rw [ev]
        rfl
      · cases e
/-- [e for x in ..] -/
def gComp (fr : List (Option Nat)) (gi : GF) (gg : GG) (ge : GE) : GF := fun δ Q => gi δ fun its => its.length ≤ sizeLine ∧ ∃ f : D → D, (∀ d ∈ its, gg d (δc fr δ) fun δ2 => ge δ2 fun y => y = f d) ∧ Q (its.map f)
/-- [e for x in .. if c] -/
def gCompIf (fr : List (Option Nat)) (gi : GF) (gg : GG) (gt : GT) (ge : GE) : GF := fun δ Q => gi δ fun its => its.length ≤ sizeLine ∧ ∃ (p : D → Bool) (f : D → D), (∀ d ∈ its, gg d (δc fr δ) fun δ2 => gt δ2 fun c => c = p d ∧ (c = true → ge δ2 fun y => y = f d)) ∧ Q ((its.filter p).map f)
def frOk (fr : List (Option Nat)) (ss : List Nat) : Bool := ss.all fun j => fr[j]? == some none
theorem frOk_of {fr : List (Option Nat)} {ss : List Nat} (h : frOk fr ss = true) {σ : St} {j : Nat} (hj : j ∈ ss) : (σc fr σ)[j]? = some none := by
  unfold frOk at h
  rw [List.all_eq_true] at h
  have e : fr[j]? = some none := by simpa using h j hj
  unfold σc
  rw [List.getElem?_map, e]
  rfl
theorem fwd_of {fr : List (Option Nat)} {ss : List Nat} (h : frOk fr ss = true) {σ σ' : St} (hl : σ'.length = (σc fr σ).length) (hj : ∀ j : Nat, j ∉ ss → σ'[j]? = (σc fr σ)[j]?) : Fwd σ' (σc fr σ) := by
  refine ⟨hl, fun i v e => ?_⟩
  by_cases hi : i ∈ ss
  · rw [frOk_of h hi] at e
    cases e
  · rw [hj i hi]; exact e
def DIfs (X : Cx) (ifs : List Expr) (g : GT) : Prop := ∃ t, PIfs X ifs t ∧ ∀ C0 H0 δ σ C H (Q : Bool → Prop) (R : Bool → Hp → Prop), Rep X.K C0 H0 δ σ C H → g δ Q → (∀ b C1 H1, Q b → Ext C H C1 H1 → R b H1) → t σ H R
end

/-- the turns, by data -/
theorem turns_of {K : PySem.W.Frag} {C0 H0 C H C1 H1 : Hp} {δ : DS} {σ : St} {fr : List (Option Nat)} {ss : List Nat} {J : It} {its : List D} {g : TG} {tt : TT} {te : TE} {gg : GG} {gt : GT} {ge : GE} {p : D → Bool} {f : D → D} {A : Addr} {Q : List D → Prop} {R : VK}
    (hg : ∀ C0 H0 δ σ C H v d (Q : DS → Prop) (R : St → Hp → Prop), Rep K C0 H0 δ σ C H → Den K C v d → gg d δ Q → (∀ δ' σ', Q δ' → Rep K C0 H0 δ' σ' C H → σ'.length = σ.length → (∀ j : Nat, j ∉ ss → σ'[j]? = σ[j]?) → R σ' H) → g v σ H R)
    (ht : ∀ C0 H0 δ σ C H (Q : Bool → Prop) (R : Bool → Hp → Prop), Rep K C0 H0 δ σ C H → gt δ Q → (∀ b C1 H1, Q b → Ext C H C1 H1 → R b H1) → tt σ H R)
    (he : ∀ C0 H0 δ σ C H (Q : D → Prop) (R : VK), Rep K C0 H0 δ σ C H → ge δ Q → (∀ d v C1 H1, Q d → Ext C H C1 H1 → Den K C1 v d → R v H1) → te σ H R)
    (fo : frOk fr ss = true) (rp : Rep K C0 H0 δ σ C H) (e1 : Ext C H C1 H1) (wk : Walk K J its C1) (hz : its.length ≤ sizeLine)
    (hf : ∀ d ∈ its, gg d (δc fr δ) fun δ2 => gt δ2 fun c => c = p d ∧ (c = true → ge δ2 fun y => y = f d)) (q : Q ((its.filter p).map f))
    (k : ∀ ds p xs C1 H1, Q ds → Ext C H C1 H1 → C1 p = none → H p = none → H1 p = some (.lst xs) → Dens K C1 xs ds → R (.ref p) H1) (hA : H1 A = none) : tTurns J (σc fr σ) g tt te A H1 R := by
  have hflt : ∀ i : Nat, (((its.take i).filter p).map f).length ≤ i := fun i => by
    rw [List.length_map]
    exact Nat.le_trans (List.length_filter_le _ _) (by rw [List.length_take]; omega)
  refine ⟨fun i m ys H2 => m = its.length - i ∧ i ≤ its.length ∧ ∃ C2, Ext C1 H1 C2 H2 ∧ H2 A = some (.lst ys) ∧ C2 A = none ∧ Dens K C2 ys (((its.take i).filter p).map f), ⟨_, rfl, Nat.zero_le _, C1, Ext.newO e1.ch hA, upd_same, e1.ch.free hA, by simpa using Dens.nil⟩, ?_⟩
  rintro i m ys H2 ⟨rfl, hi, C2, ex, hl, hc, hd⟩
  have W := wk C2 H2 ex.cc ex.ch i
  by_cases hlt : i < its.length
  · have ed : its[i]? = some its[i] := by simp [hlt]
    obtain ⟨go, yl⟩ := W.1 _ ed
    refine .inr ⟨go, fun x H3 y => ?_⟩
    obtain ⟨C3, e3, n3⟩ := yl x H3 y
    have rc : Rep K C3 H3 (δc fr δ) (σc fr σ) C3 H3 := rp.comp fr ((e1.cc.trans ex.cc).trans e3.cc) e3.ch
    refine hg C3 H3 _ _ C3 H3 x its[i] _ _ rc n3 (hf its[i] (List.getElem_mem hlt)) fun δ' σ' q' rp' hl' hj' => ⟨fwd_of fo hl' hj', ?_⟩
    refine ht C3 H3 δ' σ' C3 H3 _ _ rp' q' fun b C4 H4 q4 e4 => ?_
    have hA4 : H4 A = some (.lst ys) := e4.hh _ _ (e3.hh _ _ hl)
    have hc4 : C4 A = none := e4.ow A (e3.ow A hc (by rw [hl]; simp)) (by rw [e3.hh _ _ hl]; simp)
    have ed2 := ((hd.mono e3.cc).mono e4.cc)
    have tk : its.take (i + 1) = its.take i ++ [its[i]] := by rw [List.take_succ, ed]; rfl
    cases b with
    | false =>
      rw [if_neg (by simp)]
      refine ⟨its.length - (i + 1), by omega, rfl, hlt, C4, ex.trans (e3.trans e4), hA4, hc4, ?_⟩
      rw [tk, List.filter_append, List.filter_cons_of_neg (by rw [← q4.1]; simp)]
      simpa using ed2
    | true =>
      rw [if_pos rfl]
      refine he C3 H3 δ' σ' C4 H4 _ _ (rp'.grow e4) (q4.2 rfl) fun d v C5 H5 q5 e5 n5 => ?_
      have hA5 : H5 A = some (.lst ys) := e5.hh _ _ hA4
      have hc5 : C5 A = none := e5.ow A hc4 (by rw [hA4]; simp)
      have hyl : ys.length < sizeLine := by
        rw [hd.length]
        exact Nat.lt_of_le_of_lt (hflt i) (by omega)
      refine ⟨hA5, hyl, its.length - (i + 1), by omega, rfl, hlt, C5, ?_, upd_same, hc5, ?_⟩
      · have e := ex.trans (e3.trans (e4.trans e5))
        refine ⟨fun z u ez => ?_, e.cc, fun z u ez => ?_, e.ow⟩
        · rw [upd_ne (ne_of_none ez hA)]; exact e.hh z u ez
        · rw [upd_ne (ne_of_none ez hc5)]; exact e.ch z u ez
      · rw [tk, List.filter_append, List.filter_cons_of_pos (by rw [← q4.1]), List.map_append, List.filter_nil, List.map_cons, List.map_nil]
        refine (ed2.mono e5.cc).append (.cons ?_ .nil)
        rw [← q5]; exact n5
  · have e : i = its.length := by omega
    refine .inl ⟨W.2 (by omega), ?_⟩
    rw [e, List.take_length] at hd
    exact k _ A ys C2 H2 q (e1.trans ex) hc (e1.hh.free hA) hl hd

section
variable {X : Cx} {a b c e tg iter elt : Expr} {es : List Expr} {pos : Pos} {ge : GE} {gi : GF} {gt : GT} {gg : GG} {scope : Scope} {Nc : List Str} {fr : List (Option Nat)} {ss : List Nat}
/-- the readings, by data alone -/
def tDE (K : PySem.W.Frag) (g : GE) : TE := fun σ H R => ∃ C0 H0 δ C Q, Rep K C0 H0 δ σ C H ∧ g δ Q ∧ ∀ d v C1 H1, Q d → Ext C H C1 H1 → Den K C1 v d → R v H1
def tDT (K : PySem.W.Frag) (g : GT) : TT := fun σ H R => ∃ C0 H0 δ C Q, Rep K C0 H0 δ σ C H ∧ g δ Q ∧ ∀ b C1 H1, Q b → Ext C H C1 H1 → R b H1
def tDG (K : PySem.W.Frag) (ss : List Nat) (g : GG) : TG := fun v σ H R => ∃ C0 H0 δ C d Q, Rep K C0 H0 δ σ C H ∧ Den K C v d ∧ g d δ Q ∧ ∀ δ' σ', Q δ' → Rep K C0 H0 δ' σ' C H → σ'.length = σ.length → (∀ j : Nat, j ∉ ss → σ'[j]? = σ[j]?) → R σ' H
theorem DE.can (h : DE X e ge) : PE X e (tDE X.K ge) := by
  obtain ⟨t, p, h⟩ := h
  intro pins s σ H Q I q
  obtain ⟨C0, H0, δ, C, Q', rp, g, k⟩ := q
  exact p pins s σ H Q I (h C0 H0 δ σ C H Q' Q rp g k)
theorem DG.can (h : DG X tg ss gg) : PG X tg (tDG X.K ss gg) := by
  obtain ⟨t, p, h⟩ := h
  intro pins s σ H v u Q I r q
  obtain ⟨C0, H0, δ, C, d, Q', rp, n, g, k⟩ := q
  exact p pins s σ H v u Q I r (h C0 H0 δ σ C H v d Q' Q rp n g k)
theorem DIfs.can {ifs : List Expr} (h : DIfs X ifs gt) : PIfs X ifs (tDT X.K gt) := by
  obtain ⟨t, p, h⟩ := h
  intro pins s σ H Q I q
  obtain ⟨C0, H0, δ, C, Q', rp, g, k⟩ := q
  exact p pins s σ H Q I (h C0 H0 δ σ C H Q' Q rp g k)
abbrev gYes : GT := fun _ Q => Q true
theorem difs_nil : DIfs X [] gYes := ⟨_, pifs_nil, fun C0 H0 δ σ C H Q R rp g k => k true C H g (Ext.refl rp.ch)⟩
theorem difs_one (h : DT X c gt) : DIfs X [c] gt := by
  obtain ⟨t, p, h⟩ := h
  exact ⟨t, pifs_one p, h⟩
theorem comp_data {ifs : List Expr} (h : DI X tg iter gi) (fo : frOk fr ss = true) : ∃ wi, PI X tg iter wi ∧ ∀ C0 H0 δ σ C H (Q : List D → Prop) (R : VK), Rep X.K C0 H0 δ σ C H → gCompIf fr gi gg gt ge δ Q →
    (∀ ds p xs C1 H1, Q ds → Ext C H C1 H1 → C1 p = none → H p = none → H1 p = some (.lst xs) → Dens X.K C1 xs ds → R (.ref p) H1) → tComp fr wi (tDG X.K ss gg) (tDT X.K gt) (tDE X.K ge) σ H R := by
  obtain ⟨wi, pi, h⟩ := h
  refine ⟨wi, pi, fun C0 H0 δ σ C H Q R rp g k => h C0 H0 δ σ C H _ _ rp g fun its J C1 H1 q e1 wk A hA => ?_⟩
  obtain ⟨hz, p, f, hf, q⟩ := q
  refine turns_of (gg := gg) (gt := gt) (ge := ge) (ss := ss) (fun C0 H0 δ σ C H v d Q R rp n g k => ⟨C0, H0, δ, C, d, Q, rp, n, g, k⟩) (fun C0 H0 δ σ C H Q R rp g k => ⟨C0, H0, δ, C, Q, rp, g, k⟩) (fun C0 H0 δ σ C H Q R rp g k => ⟨C0, H0, δ, C, Q, rp, g, k⟩) fo rp e1 wk hz hf q k hA
theorem df_compIf {ifs : List Expr} (ok : compOk X.env.scope scope X.N Nc fr = true) (fo : frOk fr ss = true) (hc : X.calm = true) (hi : DI X tg iter gi) (hg : ∀ Cc pins fp s3 H3, DG (cxC X scope Nc Cc pins fp s3 H3) tg ss gg)
    (ht : ∀ Cc pins fp s3 H3, DIfs (cxC X scope Nc Cc pins fp s3 H3) ifs gt) (he : ∀ Cc pins fp s3 H3, DE (cxC X scope Nc Cc pins fp s3 H3) elt ge) (hs : ∀ x, foldedSetIterable iter X.env x = pure x := by intro _; rfl) :
    DF X (.ListComp elt [⟨tg, iter, ifs, 0⟩] scope pos) (gCompIf fr gi gg gt ge) := by
  obtain ⟨wi, pi, h⟩ := comp_data (ifs := ifs) (gg := gg) (gt := gt) (ge := ge) hi fo
  exact ⟨_, pe_comp ok hc pi (fun a b c d e => (hg a b c d e).can) (fun a b c d e => (ht a b c d e).can) (fun a b c d e => (he a b c d e).can) hs, h⟩
theorem comp_noif {δ : DS} {Q : List D → Prop} (h : gComp fr gi gg ge δ Q) (mono : ∀ δ (P P' : List D → Prop), (∀ l, P l → P' l) → gi δ P → gi δ P') (mg : ∀ d δ (P P' : DS → Prop), (∀ l, P l → P' l) → gg d δ P → gg d δ P') : gCompIf fr gi gg gYes ge δ Q := by
  refine mono δ _ _ (fun its q => ?_) h
  obtain ⟨hz, f, hf, q⟩ := q
  refine ⟨hz, fun _ => true, f, fun d hd => mg d _ _ _ (fun δ2 q2 => ⟨rfl, fun _ => q2⟩) (hf d hd), ?_⟩
  rw [List.filter_eq_self.mpr (fun _ _ => rfl)]
  exact q
end

/-! ### statements -/
structure DEnds where
  nx : DS → Prop
  rt : D → Prop
  bk : DS → Prop := fun _ => False
  ct : DS → Prop := fun _ => False
abbrev GS := DEnds → DS → Prop
structure Adm (K : PySem.W.Frag) (C0 H0 : Hp) (E : Ends) (De : DEnds) : Prop where
  nx : ∀ δ σ C H, Rep K C0 H0 δ σ C H → De.nx δ → E.nx σ H
  rt : ∀ d v C H, Ext C0 H0 C H → Den K C v d → De.rt d → E.rt v H
  bk : ∀ δ σ C H, Rep K C0 H0 δ σ C H → De.bk δ → E.bk σ H
  ct : ∀ δ σ C H, Rep K C0 H0 δ σ C H → De.ct δ → E.ct σ H
def DSt (X : Cx) (st : Stmt) (g : GS) : Prop := ∃ t, PS X st t ∧ ∀ C0 H0 δ σ C H De E, Rep X.K C0 H0 δ σ C H → g De δ → Adm X.K C0 H0 E De → t E σ H
def DSs (X : Cx) (sts : List Stmt) (g : GS) : Prop := ∃ t, PSs X sts t ∧ ∀ C0 H0 δ σ C H De E, Rep X.K C0 H0 δ σ C H → g De δ → Adm X.K C0 H0 E De → t E σ H
section
variable {X : Cx} {a b c e tg iter elt : Expr} {st : Stmt} {sts s2 : List Stmt} {pos : Pos} {ge : GE} {gi gf : GF} {gt : GT} {gg : GG} {g1 g2 : GS} {scope : Scope} {Nc : List Str} {fr : List (Option Nat)} {ss : List Nat}
abbrev gNext : GS := fun De δ => De.nx δ
def gSeq (g1 g2 : GS) : GS := fun De δ => g1 { De with nx := g2 De } δ
theorem dss_nil : DSs X [] gNext := ⟨_, pss_nil, fun C0 H0 δ σ C H De E rp g k => k.nx δ σ C H rp g⟩
theorem dss_cons (h1 : DSt X st g1) (h2 : DSs X sts g2) : DSs X (st :: sts) (gSeq g1 g2) := by
  obtain ⟨t1, p1, h1⟩ := h1
  obtain ⟨t2, p2, h2⟩ := h2
  refine ⟨_, pss_cons p1 p2, fun C0 H0 δ σ C H De E rp g k => h1 C0 H0 δ σ C H { De with nx := g2 De } { E with nx := t2 E } rp g ⟨fun δ' σ' C' H' rp' q => ?_, k.rt, k.bk, k.ct⟩⟩
  exact h2 C0 H0 δ' σ' C' H' De E rp' q k
theorem dss_one (h1 : DSt X st g1) : DSs X [st] g1 := by
  obtain ⟨t1, p1, h1⟩ := h1
  exact ⟨_, pss_one p1, h1⟩
theorem ds_pass : DSt X (.Pass pos) gNext := ⟨_, ps_pass, fun C0 H0 δ σ C H De E rp g k => k.nx δ σ C H rp g⟩
theorem ds_break : DSt X (.Break pos) (fun De δ => De.bk δ) := ⟨_, ps_break, fun C0 H0 δ σ C H De E rp g k => k.bk δ σ C H rp g⟩
theorem ds_continue : DSt X (.Continue pos) (fun De δ => De.ct δ) := ⟨_, ps_continue, fun C0 H0 δ σ C H De E rp g k => k.ct δ σ C H rp g⟩
/-- a list of one's own is from here on only read -/
def gFrz (i : Nat) (g : GS) : GS := fun De δ => match δ[i]? with
  | some (.ow ds) => g De (δ.set i (.im (.lst ds)))
  | _ => False
theorem dss_frz (i : Nat) (h : DSs X sts g1) : DSs X sts (gFrz i g1) := by
  obtain ⟨t, p, h⟩ := h
  refine ⟨t, p, fun C0 H0 δ σ C H De E rp g k => ?_⟩
  unfold gFrz at g
  split at g
  · rename_i ds e
    obtain ⟨C1, rp'⟩ := rp.freeze' e
    exact h C0 H0 _ σ C1 H De E rp' g k
  · exact g.elim
def gRet (ge : GE) : GS := fun De δ => ge δ De.rt
theorem ds_ret (he : DE X e ge) : DSt X (.Return (some e) pos) (gRet ge) := by
  obtain ⟨t, p, h⟩ := he
  exact ⟨_, ps_ret p, fun C0 H0 δ σ C H De E rp g k => h C0 H0 δ σ C H _ _ rp g fun d v C1 H1 q e1 n1 => k.rt d v C1 H1 (rp.ext.trans e1) n1 q⟩
theorem ds_retN : DSt X (.Return none pos) (fun De _ => De.rt .non) := ⟨_, ps_retN, fun C0 H0 δ σ C H De E rp g k => k.rt .non _ C H rp.ext (den_non.mpr rfl) g⟩
def gIfS (gt : GT) (g1 g2 : GS) : GS := fun De δ => gt δ fun c => if c = true then g1 De δ else g2 De δ
theorem ds_if (hc : DT X c gt) (h1 : DSs X sts g1) (h2 : DSs X s2 g2) : DSt X (.If c sts s2 pos) (gIfS gt g1 g2) := by
  obtain ⟨t0, p0, h0⟩ := hc
  obtain ⟨t1, p1, h1⟩ := h1
  obtain ⟨t2, p2, h2⟩ := h2
  refine ⟨_, ps_if p0 p1 p2, fun C0 H0 δ σ C H De E rp g k => h0 C0 H0 δ σ C H _ _ rp g fun c C1 H1 q e1 => ?_⟩
  cases c with
  | true => exact iteT (h1 C0 H0 δ σ C1 H1 De E (rp.grow e1) (by simpa using q) k)
  | false => exact iteF (h2 C0 H0 δ σ C1 H1 De E (rp.grow e1) (by simpa using q) k)
/-- target = e -/
def gAsg (ge : GE) (gg : GG) : GS := fun De δ => ge δ fun d => gg d δ De.nx
theorem ds_asg (he : DE X e ge) (hg : DG X tg ss gg) (hp : ∀ {te : TE} {g : TG}, PE X e te → PG X tg g → PS X (.Assign [tg] e pos) (tAsg te g)) : DSt X (.Assign [tg] e pos) (gAsg ge gg) := by
  obtain ⟨t, p, h⟩ := he
  obtain ⟨t2, p2, h2⟩ := hg
  refine ⟨_, hp p p2, fun C0 H0 δ σ C H De E rp g k => h C0 H0 δ σ C H _ _ rp g fun d v C1 H1 q e1 n1 => ?_⟩
  exact h2 C0 H0 δ σ C1 H1 v d _ _ (rp.grow e1) n1 q fun δ' σ' q' rp' _ _ => k.nx δ' σ' C1 H1 rp' q'
/-- name = a new list, one's own -/
def gAsgO (i : Nat) (gf : GF) : GS := fun De δ => gf δ fun ds => De.nx (δ.set i (.ow ds))
theorem ds_asgO {i : Nat} {x : Str} {pos' : Pos} (he : DF X e gf) (hp : ∀ {te : TE}, PE X e te → PS X (.Assign [.Name x pos'] e pos) (tAsg te (gName i))) : DSt X (.Assign [.Name x pos'] e pos) (gAsgO i gf) := by
  obtain ⟨t, p, h⟩ := he
  refine ⟨_, hp p, fun C0 H0 δ σ C H De E rp g k => h C0 H0 δ σ C H _ _ rp g fun ds p xs C1 H1 q e1 hc hn hl hd => ?_⟩
  have rp1 := rp.grow e1
  refine k.nx _ _ C1 H1 (rp1.setO (rp.ext.hh.free hn) hc (fun j es hj ho z => ?_) hl hd) q
  obtain ⟨l, ys, a, _, _, d, _⟩ := rp.ow j es ho
  rw [z] at a
  cases a
  rw [hn] at d
  cases d
/-- name = a comprehension on one row: the list is one's own -/
theorem ds_compO {i : Nat} {x : Str} {ifs : List Expr} {pos' pos'' : Pos} (ok : compOk X.env.scope scope X.N Nc fr = true) (fo : frOk fr ss = true) (hc : X.calm = true) (hN : X.N.Nodup) (hi : X.N[i]? = some x) (hx : Loc X.env.scope x) (hit : DI X tg iter gi) (hg : ∀ Cc pins fp s3 H3, DG (cxC X scope Nc Cc pins fp s3 H3) tg ss gg)
    (ht : ∀ Cc pins fp s3 H3, DIfs (cxC X scope Nc Cc pins fp s3 H3) ifs gt) (he : ∀ Cc pins fp s3 H3, DE (cxC X scope Nc Cc pins fp s3 H3) elt ge) (hsw : swapsWith (.ListComp elt [⟨tg, iter, ifs, 0⟩] scope pos) (some (.Name x pos')) pos''.line X.env = pure true)
    (hs : ∀ x, foldedSetIterable iter X.env x = pure x := by intro _; rfl) (hf : X.fn x = true ∨ X.env.scope.names.lookup x = some .local := by first | exact .inl rfl | exact .inr rfl | assumption) :
    DSt X (.Assign [.Name x pos'] (.ListComp elt [⟨tg, iter, ifs, 0⟩] scope pos) pos'') (gAsgO i (gCompIf fr gi gg gt ge)) := by
  obtain ⟨wi, pi, h⟩ := comp_data (ifs := ifs) (gg := gg) (gt := gt) (ge := ge) hit fo
  refine ⟨_, ps_comp ok hc hN hi hx pi (fun a b c d e => (hg a b c d e).can) (fun a b c d e => (ht a b c d e).can) (fun a b c d e => (he a b c d e).can) hsw hs hf, fun C0 H0 δ σ C H De E rp g k => h C0 H0 δ σ C H _ _ rp g fun ds p xs C1 H1 q e1 hc hn hl hd => ?_⟩
  have rp1 := rp.grow e1
  refine k.nx _ _ C1 H1 (rp1.setO (rp.ext.hh.free hn) hc (fun j es hj ho z => ?_) hl hd) q
  obtain ⟨l, ys, a, _, _, d, _⟩ := rp.ow j es ho
  rw [z] at a
  cases a
  rw [hn] at d
  cases d
/-- xs.append(e) -/
def gApp (i : Nat) (ge : GE) : GS := fun De δ => match δ[i]? with
  | some (.ow ds) => ge δ fun d => ds.length < sizeLine ∧ De.nx (δ.set i (.ow (ds ++ [d])))
  | _ => False
theorem ds_app {i : Nat} {o : Expr} {nm : Str} {p2 p3 : Pos} (he : DE X e ge) (hp : ∀ {te : TE}, PE X e te → PS X (.Expr (.Call (.Attribute o nm p2) [e] [] p3) pos) (tDrop (tBM X.K "list" rAppend (tVar i) (tCons te tNil)))) : DSt X (.Expr (.Call (.Attribute o nm p2) [e] [] p3) pos) (gApp i ge) := by
  obtain ⟨t, p, h⟩ := he
  refine ⟨_, hp p, fun C0 H0 δ σ C H De E rp g k => ?_⟩
  unfold gApp at g
  split at g
  · rename_i ds eo
    obtain ⟨l, xs, a, b, c, d, f⟩ := rp.ow i ds eo
    refine ⟨.ref l, a, .inl ⟨rfl, xs, SqL.of d⟩, h C0 H0 δ σ C H _ _ rp g fun dv v C1 H1 q e1 n1 => ?_⟩
    have d1 := e1.hh _ _ d
    refine ⟨l, xs, v, rfl, rfl, d1, by rw [f.length]; exact q.1, k.nx _ σ C1 _ ((rp.grow e1).change eo a ((f.mono e1.cc).append (.cons n1 .nil))) q.2⟩
  · exact g.elim
/-- xs.extend(e) -/
def gExt (i : Nat) (gf : GF) : GS := fun De δ => match δ[i]? with
  | some (.ow ds) => gf δ fun es => ds.length + es.length ≤ sizeLine ∧ De.nx (δ.set i (.ow (ds ++ es)))
  | _ => False
theorem ds_ext {i : Nat} {o : Expr} {nm : Str} {p2 p3 : Pos} (he : DF X e gf) (hp : ∀ {te : TE}, PE X e te → PS X (.Expr (.Call (.Attribute o nm p2) [e] [] p3) pos) (tDrop (tBM X.K "list" rExtend (tVar i) (tCons te tNil)))) : DSt X (.Expr (.Call (.Attribute o nm p2) [e] [] p3) pos) (gExt i gf) := by
  obtain ⟨t, p, h⟩ := he
  refine ⟨_, hp p, fun C0 H0 δ σ C H De E rp g k => ?_⟩
  unfold gExt at g
  split at g
  · rename_i ds eo
    obtain ⟨l, xs, a, b, c, d, f⟩ := rp.ow i ds eo
    refine ⟨.ref l, a, .inl ⟨rfl, xs, SqL.of d⟩, h C0 H0 δ σ C H _ _ rp g fun es p ys C1 H1 q e1 hc hn hl hd => ?_⟩
    have d1 := e1.hh _ _ d
    refine ⟨l, p, xs, ys, rfl, rfl, d1, hl, by rw [f.length, hd.length]; exact q.1, k.nx _ σ C1 _ ((rp.grow e1).change eo a ((f.mono e1.cc).append hd)) q.2⟩
  · exact g.elim
/-- without a test -/
theorem df_comp (ok : compOk X.env.scope scope X.N Nc fr = true) (fo : frOk fr ss = true) (hc : X.calm = true) (hi : DI X tg iter gi) (hg : ∀ Cc pins fp s3 H3, DG (cxC X scope Nc Cc pins fp s3 H3) tg ss gg)
    (he : ∀ Cc pins fp s3 H3, DE (cxC X scope Nc Cc pins fp s3 H3) elt ge) (mg : ∀ d δ (P P' : DS → Prop), (∀ l, P l → P' l) → gg d δ P → gg d δ P') (hs : ∀ x, foldedSetIterable iter X.env x = pure x := by intro _; rfl) :
    DF X (.ListComp elt [⟨tg, iter, [], 0⟩] scope pos) (gComp fr gi gg ge) := by
  obtain ⟨wi, pi, h⟩ := hi
  refine ⟨_, pe_comp (g := tDG X.K ss gg) (tt := tDT X.K gYes) (te := tDE X.K ge) ok hc pi (fun a b c d e => (hg a b c d e).can) (fun a b c d e => (difs_nil (X := cxC X scope Nc a b c d e)).can) (fun a b c d e => (he a b c d e).can) hs, fun C0 H0 δ σ C H Q R rp g k => h C0 H0 δ σ C H _ _ rp g fun its J C1 H1 q e1 wk A hA => ?_⟩
  obtain ⟨hz, f, hf, q⟩ := q
  refine turns_of (gg := gg) (gt := gYes) (ge := ge) (ss := ss) (p := fun _ => true) (f := f) (Q := Q) (fun C0 H0 δ σ C H v d Q R rp n g k => ⟨C0, H0, δ, C, d, Q, rp, n, g, k⟩) (fun C0 H0 δ σ C H Q R rp g k => ⟨C0, H0, δ, C, Q, rp, g, k⟩) (fun C0 H0 δ σ C H Q R rp g k => ⟨C0, H0, δ, C, Q, rp, g, k⟩) fo rp e1 wk hz
    (fun d hd => mg d _ _ _ (fun δ2 q2 => ⟨rfl, fun _ => q2⟩) (hf d hd)) (by rw [List.filter_eq_self.mpr (fun _ _ => rfl)]; exact q) k hA
theorem ds_compO0 {i : Nat} {x : Str} {pos' pos'' : Pos} (ok : compOk X.env.scope scope X.N Nc fr = true) (fo : frOk fr ss = true) (hc : X.calm = true) (hN : X.N.Nodup) (hi : X.N[i]? = some x) (hx : Loc X.env.scope x) (hit : DI X tg iter gi) (hg : ∀ Cc pins fp s3 H3, DG (cxC X scope Nc Cc pins fp s3 H3) tg ss gg)
    (he : ∀ Cc pins fp s3 H3, DE (cxC X scope Nc Cc pins fp s3 H3) elt ge) (mg : ∀ d δ (P P' : DS → Prop), (∀ l, P l → P' l) → gg d δ P → gg d δ P') (hsw : swapsWith (.ListComp elt [⟨tg, iter, [], 0⟩] scope pos) (some (.Name x pos')) pos''.line X.env = pure true)
    (hs : ∀ x, foldedSetIterable iter X.env x = pure x := by intro _; rfl) (hf : X.fn x = true ∨ X.env.scope.names.lookup x = some .local := by first | exact .inl rfl | exact .inr rfl | assumption) :
    DSt X (.Assign [.Name x pos'] (.ListComp elt [⟨tg, iter, [], 0⟩] scope pos) pos'') (gAsgO i (gComp fr gi gg ge)) := by
  obtain ⟨wi, pi, h⟩ := hit
  refine ⟨_, ps_comp (g := tDG X.K ss gg) (tt := tDT X.K gYes) (te := tDE X.K ge) ok hc hN hi hx pi (fun a b c d e => (hg a b c d e).can) (fun a b c d e => (difs_nil (X := cxC X scope Nc a b c d e)).can) (fun a b c d e => (he a b c d e).can) hsw hs hf, fun C0 H0 δ σ C H De E rp g k => h C0 H0 δ σ C H _ _ rp g fun its J C1 H1 q e1 wk A hA => ?_⟩
  obtain ⟨hz, f, hf, q⟩ := q
  refine turns_of (gg := gg) (gt := gYes) (ge := ge) (ss := ss) (p := fun _ => true) (f := f) (Q := fun ds => De.nx (δ.set i (.ow ds))) (fun C0 H0 δ σ C H v d Q R rp n g k => ⟨C0, H0, δ, C, d, Q, rp, n, g, k⟩) (fun C0 H0 δ σ C H Q R rp g k => ⟨C0, H0, δ, C, Q, rp, g, k⟩) (fun C0 H0 δ σ C H Q R rp g k => ⟨C0, H0, δ, C, Q, rp, g, k⟩) fo rp e1 wk hz
    (fun d hd => mg d _ _ _ (fun δ2 q2 => ⟨rfl, fun _ => q2⟩) (hf d hd)) (by rw [List.filter_eq_self.mpr (fun _ _ => rfl)]; exact q) (fun ds p xs C1 H1 q e1 hc hn hl hd => ?_) hA
  have rp1 := rp.grow e1
  refine k.nx _ _ C1 H1 (rp1.setO (rp.ext.hh.free hn) hc (fun j es hj ho z => ?_) hl hd) q
  obtain ⟨l, ys, a, _, _, d, _⟩ := rp.ow j es ho
  rw [z] at a
  cases a
  rw [hn] at d
  cases d
theorem mono_nm {i : Nat} : ∀ d δ (P P' : DS → Prop), (∀ l, P l → P' l) → gNm i d δ P → gNm i d δ P' := fun _ _ _ _ h q => h _ q
theorem mono_nm2 {i j : Nat} : ∀ d δ (P P' : DS → Prop), (∀ l, P l → P' l) → gNm2 i j d δ P → gNm2 i j d δ P' := fun d δ P P' h q => by
  unfold gNm2 at q ⊢
  split at q
  · exact h _ q
  · exact q.elim
/-! ### loops -/
theorem Rep.rebase {K : PySem.W.Frag} {C0 H0 δ σ C H} (R : Rep K C0 H0 δ σ C H) : Rep K C H0 δ σ C H := ⟨R.len, ⟨R.ext.hh, Same.refl _, R.ext.ch, fun _ e _ => e⟩, R.im, R.ow, R.ap⟩
theorem Ext.unbase {C0 H0 C1 H1 C H : Hp} (e : Ext C0 H0 C1 H1) (x : Ext C1 H0 C H) : Ext C0 H0 C H := ⟨x.hh, e.cc.trans x.cc, x.ch, fun b a n => x.ow b (e.ow b a n) n⟩
theorem Rep.unbase {K : PySem.W.Frag} {C0 H0 C1 H1 δ σ C H} (e : Ext C0 H0 C1 H1) (R : Rep K C1 H0 δ σ C H) : Rep K C0 H0 δ σ C H := ⟨R.len, e.unbase R.ext, R.im, R.ow, R.ap⟩
/-- for x in ..: an invariant over the turn and the names -/
def gFor (gi : GF) (gg : GG) (gb : GS) : GS := fun De δ => gi δ fun its => ∃ P : Nat → DS → Prop, P 0 δ ∧ (∀ (i : Nat) d δ', its[i]? = some d → P i δ' → gg d δ' fun δ2 => gb { De with nx := P (i + 1), ct := P (i + 1), bk := De.nx } δ2) ∧ ∀ δ', P its.length δ' → De.nx δ'
theorem ds_for {gb : GS} (hc : X.calm = true) (hp : PassesOwn (model X.prog X.w) X.A X.env X.xe) (hi : DI X tg iter gi) (hg : DG X tg ss gg) (hb : DSs X sts gb) (hs : ∀ x, foldedSetIterable iter X.env x = pure x := by intro _; rfl) : DSt X (.For tg iter sts [] pos) (gFor gi gg gb) := by
  obtain ⟨wi, pi, h⟩ := hi
  obtain ⟨t2, p2, h2⟩ := hg
  obtain ⟨t3, p3, h3⟩ := hb
  refine ⟨_, ps_for hp hc pi p2 p3 hs, fun C0 H0 δ σ C H De E rp g k => h C0 H0 δ σ C H _ _ rp g fun its J C1 H1 q e1 wk => ?_⟩
  obtain ⟨P, P0, Pt, Pe⟩ := q
  have rp1 := rp.grow e1
  refine ⟨fun i m σ' H' => m = its.length - i ∧ i ≤ its.length ∧ ∃ δ' C', Rep X.K C1 H0 δ' σ' C' H' ∧ P i δ', ⟨_, rfl, Nat.zero_le _, δ, C1, rp1.rebase, P0⟩, ?_⟩
  rintro i m σ' H' ⟨rfl, hi, δ', C', rp', p⟩
  have W := wk C' H' rp'.ext.cc rp'.ch i
  by_cases hlt : i < its.length
  · have ed : its[i]? = some its[i] := by simp [hlt]
    obtain ⟨go, yl⟩ := W.1 _ ed
    refine .inr ⟨go, fun σ2 H2 => ∃ δ2 C2, Rep X.K C1 H0 δ2 σ2 C2 H2 ∧ P (i + 1) δ2, fun σ2 H2 ⟨δ2, C2, a, b⟩ => ⟨its.length - (i + 1), by omega, rfl, hlt, δ2, C2, a, b⟩, fun x H3 y => ?_⟩
    obtain ⟨C3, e3, n3⟩ := yl x H3 y
    refine h2 C1 H0 δ' σ' C3 H3 x its[i] _ _ (rp'.grow e3) n3 (Pt i _ δ' ed p) fun δ4 σ4 q4 rp4 _ _ => ?_
    refine h3 C1 H0 δ4 σ4 C3 H3 _ _ rp4 q4 ⟨fun δ5 σ5 C5 H5 a b => ⟨δ5, C5, a, b⟩, fun d v C5 H5 a b c => k.rt d v C5 H5 (rp1.ext.unbase a) b c, fun δ5 σ5 C5 H5 a b => k.nx δ5 σ5 C5 H5 (a.unbase rp1.ext) b, fun δ5 σ5 C5 H5 a b => ⟨δ5, C5, a, b⟩⟩
  · have e : i = its.length := by omega
    subst e
    exact .inl ⟨W.2 (Nat.le_refl _), k.nx δ' σ' C' H' (rp'.unbase rp1.ext) (Pe δ' p)⟩
/-- while: an invariant over the names and a measure -/
def gWhile (gt : GT) (gb : GS) : GS := fun De δ => ∃ P : Nat → DS → Prop, (∃ n, P n δ) ∧ ∀ n δ', P n δ' → gt δ' fun c => if c = true then gb { De with nx := fun δ2 => ∃ m, m < n ∧ P m δ2, ct := fun δ2 => ∃ m, m < n ∧ P m δ2, bk := De.nx } δ' else De.nx δ'
theorem ds_while {gb : GS} (hp : PassesOwn (model X.prog X.w) X.A X.env X.xe) (hc : DT X c gt) (hb : DSs X sts gb) : DSt X (.While c sts [] pos) (gWhile gt gb) := by
  obtain ⟨t0, p0, h0⟩ := hc
  obtain ⟨t1, p1, h1⟩ := hb
  refine ⟨_, ps_while hp p0 p1, fun C0 H0 δ σ C H De E rp g k => ?_⟩
  obtain ⟨P, ⟨n0, P0⟩, Pt⟩ := g
  refine ⟨fun n σ' H' => ∃ δ' C', Rep X.K C0 H0 δ' σ' C' H' ∧ P n δ', ⟨n0, δ, C, rp, P0⟩, ?_⟩
  rintro n σ' H' ⟨δ', C', rp', p⟩
  refine h0 C0 H0 δ' σ' C' H' _ _ rp' (Pt n δ' p) fun c C2 H2 q2 e2 => ?_
  have rp2 := rp'.grow e2
  cases c with
  | true =>
    refine ⟨fun σ3 H3 => ∃ m, m < n ∧ ∃ δ3 C3, Rep X.K C0 H0 δ3 σ3 C3 H3 ∧ P m δ3, fun σ3 H3 z => z, ?_⟩
    have q2' : gb { De with nx := fun δ2 => ∃ m, m < n ∧ P m δ2, ct := fun δ2 => ∃ m, m < n ∧ P m δ2, bk := De.nx } δ' := by simpa using q2
    refine h1 C0 H0 δ' σ' C2 H2 _ _ rp2 q2' ⟨fun δ5 σ5 C5 H5 a ⟨m, b1, b2⟩ => ⟨m, b1, δ5, C5, a, b2⟩, k.rt, k.nx, fun δ5 σ5 C5 H5 a ⟨m, b1, b2⟩ => ⟨m, b1, δ5, C5, a, b2⟩⟩
  | false => exact k.nx δ' σ' C2 H2 rp2 (by simpa using q2)
end
/-! ### a def -/
def dstart (N : List Str) (ds : List D) : DS := ds.map Sl.im ++ List.replicate (N.length - ds.length) .un
theorem rep_start {K : PySem.W.Frag} {C H : Hp} {N : List Str} {vs : List V} {ds : List D} (ch : Same C H) (h : Dens K C vs ds) : Rep K C H (dstart N ds) (start N vs) C H := by
  have no : ∀ (i : Nat) es, (dstart N ds)[i]? ≠ some (.ow es) := fun i es e => by
    have := List.mem_of_getElem? e
    unfold dstart at this
    rcases List.mem_append.mp this with z | z
    · obtain ⟨d, _, q⟩ := List.mem_map.mp z
      cases q
    · have := List.eq_of_mem_replicate z
      cases this
  refine ⟨?_, Ext.refl ch, fun i d e => ?_, fun i es e => absurd e (no i es), fun i j es fs l _ e _ => absurd e (no i es)⟩
  · unfold start dstart
    simp [h.length]
  · unfold dstart at e
    unfold start
    by_cases hi : i < ds.length
    · rw [List.getElem?_append_left (by simpa using hi), List.getElem?_map] at e
      cases e2 : ds[i]? with
      | none => rw [e2] at e; cases e
      | some d' =>
        rw [e2] at e
        cases e
        obtain ⟨v, ev, nv⟩ := h.get e2
        refine ⟨v, ?_, nv⟩
        rw [List.getElem?_append_left (by rw [List.length_map, h.length]; exact hi), List.getElem?_map, ev]
        rfl
    · rw [List.getElem?_append_right (by simpa using hi), List.getElem?_replicate] at e
      split at e <;> cases e
theorem fnD {P : Program} {w : World} {K : PySem.W.Frag} {mg : Str → Option Value} {base : Heap} {x qual : Str} {st : Stmt} {f : Addr} {fd : FuncData} {N ps : List Str} {k : Nat} {F : List D → Option D} {g : GS} (Fn : Fun K x qual st f fd) (S : FnScope N ps (defScope st))
    (hl : ∀ ds d, F ds = some d → ds.length = ps.length)
    (hb : ∀ (cdv : Value) (A : Around) (outer : List Env) (s : Shared) (H : Hp) (E : XK), Room k (A.deeper (envOfC qual (defScope st) s.heap.objs.size f cdv)) → DSs (cxOf CX0 P w K mg base N qual (defScope st) f cdv A outer s H E).nox (defBody st) g)
    (hv : ∀ ds d, F ds = some d → g { nx := fun _ => d = .non, rt := fun r => r = d } (dstart N ds)) (hm : mg x = some (.ref f)) (bi : Binds K fd ps []) : DFn P w K mg base (k + 1) x F := by
  refine ⟨f, fd, ps, Fn.ok S (fun vs H Q E h => ?_) (fun cdv A outer s H vs Q E hr h => ?_), hm, Fn.kp, bi⟩
  · obtain ⟨C, ds, d, _, n, e, _⟩ := h
    rw [n.length]
    exact hl ds d e
  · obtain ⟨C, ds, d, ch, n, e, q⟩ := h
    obtain ⟨t, p, h⟩ := hb cdv A outer s H E hr
    refine ⟨t, p, h C H (dstart N ds) (start N vs) C H _ _ (rep_start ch n) (hv ds d e) ⟨fun δ σ C' H' rp z => ?_, fun r v C' H' ex nv z => ?_, fun _ _ _ _ _ z => z.elim, fun _ _ _ _ _ z => z.elim⟩⟩
    · subst z
      exact q _ C' H' rp.ext (den_non.mpr rfl)
    · subst z
      exact q v C' H' ex nv
end L2
namespace L2
open PySem PySem.Spec PyProof.Rows
section
variable {X : Cx}
/-! ### list + list, whatever is read -/
def rCatL (K : PySem.W.Frag) : R2 := fun x y H Q => ∃ l b xs zs, x = .ref l ∧ y = .ref b ∧ SqL K H l xs ∧ SqL K H b zs ∧ xs.length + zs.length ≤ sizeLine ∧ ∀ p, H p = none → Q (.ref p) (upd H p (.lst (xs ++ zs)))
theorem op_catL : OpR X (binaryOp .Add) (rCatL X.K) := by
  intro pins s σ H x y v u Q I rx ry h
  obtain ⟨l, b, xs, zs, rfl, rfl, hH, hB, hz, q⟩ := h
  cases rx
  cases ry
  obtain ⟨its, r, pl, z⟩ := I.list hH
  obtain ⟨its2, r2, pl2, z2⟩ := I.list hB
  have hl := r.length
  have hl2 := r2.length
  obtain ⟨⟨cls, dd, data, sl⟩, ho, hc, n, hd⟩ := pl.isList
  obtain ⟨⟨cls2, dd2, data2, sl2⟩, ho2, hc2, n2, hd2⟩ := pl2.isList
  simp only at hc hd hc2 hd2
  subst hc hd hc2 hd2
  refine concat_meets ⟨_, ho, rfl⟩ ⟨_, ho2, rfl⟩ noFill_list_add seq_list_add PySem.F.slot_list_add PySem.F.entry_list_add (PySem.F.args_list_add_2 _ _) (list_addW l b its.toArray its2.toArray n n2 dd dd2 sl sl2 (by rw [List.size_toArray, List.size_toArray]; omega)) ⟨ho, ho2, ?_⟩
  have ea : its.toArray ++ its2.toArray = (its ++ its2).toArray := by simp
  rw [ea]
  exact ⟨.ref _, _, I.lnew (t' := s.toks) (r.append r2) (by rw [List.length_append]; omega), rfl, q _ I.fresh⟩
variable {a b c e : Expr} {es : List Expr} {pos : Pos} {ga gb : GE}
def gCatL (ga gb : GE) : GF := fun δ Q => ga δ fun x => gb δ fun y => match x, y with
  | .lst xs, .lst ys => xs.length + ys.length ≤ sizeLine ∧ Q (xs ++ ys)
  | _, _ => False
theorem df_cat (ha : DE X a ga) (hb : DE X b gb) : DF X (.BinOp a .Add b pos) (gCatL ga gb) := by
  obtain ⟨t1, p1, h1⟩ := ha
  obtain ⟨t2, p2, h2⟩ := hb
  refine ⟨_, pe_op op_catL p1 p2, fun C0 H0 δ σ C H Q R rp g k => ?_⟩
  refine h1 C0 H0 δ σ C H _ _ rp g fun d v C1 H1 q e1 n1 => h2 C0 H0 δ σ C1 H1 _ _ (rp.grow e1) q fun d2 v2 C2 H2 q2 e2 n2 => ?_
  have n1' := n1.mono e2.cc
  have e12 := e1.trans e2
  cases d with
  | lst ds =>
    cases d2 with
    | lst es =>
      obtain ⟨p, xs, rfl, hx, hd⟩ := den_lst.mp n1'
      obtain ⟨p', ys, rfl, hy, he⟩ := den_lst.mp n2
      have q2' : ds.length + es.length ≤ sizeLine ∧ Q (ds ++ es) := q2
      exact ⟨p, p', xs, ys, rfl, rfl, e2.ch.seq hx, e2.ch.seq hy, by rw [hd.length, he.length]; exact q2'.1, fun l hl => k _ l _ C2 _ q2'.2 (e12.trans (Ext.newO e2.ch hl)) (e2.ch.free hl) (e12.hh.free hl) upd_same (hd.append he)⟩
    | _ => exact q2.elim
  | _ => exact q2.elim
end

/-! ### == and != of trees -/
mutual
def eqD : D → D → Option Bool
  | .int i, .int j => some (i == j)
  | .bl i, .bl j => some (i == j)
  | .str i, .str j => some (i == j)
  | .non, .non => some true
  | .tup xs, .tup ys => (eqDs xs ys).map fun b => b && xs.length == ys.length
  | .lst xs, .lst ys => if xs.length = ys.length then eqDs xs ys else some false
  | _, _ => none
def eqDs : List D → List D → Option Bool
  | x :: xs, y :: ys => match eqD x y, eqDs xs ys with
    | some a, some b => some (a && b)
    | _, _ => none
  | _, _ => some true
end
mutual
def dep : D → Nat
  | .tup ds => deps ds + 1
  | .lst ds => deps ds + 1
  | _ => 0
def deps : List D → Nat
  | [] => 0
  | d :: ds => max (dep d) (deps ds)
end
mutual
theorem eqD_self : ∀ d : D, eqD d d = some true
  | .int i => by simp [eqD]
  | .bl i => by simp [eqD]
  | .str i => by simp [eqD]
  | .non => by simp [eqD]
  | .tup ds => by simp [eqD, eqDs_self ds]
  | .lst ds => by simp [eqD, eqDs_self ds]
theorem eqDs_self : ∀ ds : List D, eqDs ds ds = some true
  | [] => by simp [eqDs]
  | d :: ds => by simp [eqDs, eqD_self d, eqDs_self ds]
end
/-- by places -/
theorem eqDs_at : ∀ {xs ys : List D} {r : Bool}, eqDs xs ys = some r → ∃ f : Nat → Bool, (∀ (j : Nat) x y, xs[j]? = some x → ys[j]? = some y → eqD x y = some (f j)) ∧ r = (List.range (min xs.length ys.length)).all f
  | [], ys, r, h => by
    refine ⟨fun _ => true, fun j x y e => by simp at e, ?_⟩
    have : r = true := by simpa [eqDs] using h.symm
    simp [this]
  | x :: xs, [], r, h => by
    refine ⟨fun _ => true, fun j x y _ e => by simp at e, ?_⟩
    have : r = true := by simpa [eqDs] using h.symm
    simp [this]
  | x :: xs, y :: ys, r, h => by
    rw [eqDs] at h
    cases e1 : eqD x y with
    | none => rw [e1] at h; cases h
    | some a =>
      cases e2 : eqDs xs ys with
      | none => rw [e1, e2] at h; cases h
      | some b =>
        rw [e1, e2] at h
        obtain ⟨f, hf, hb⟩ := eqDs_at e2
        refine ⟨fun j => match j with
          | 0 => a
          | j + 1 => f j, fun j x' y' h1 h2 => ?_, ?_⟩
        · cases j with
          | zero => cases h1; cases h2; exact e1
          | succ j => exact hf j x' y' h1 h2
        · have : r = (a && b) := (Option.some.inj h).symm
          rw [this, hb, List.length_cons, List.length_cons, Nat.succ_min_succ, List.range_succ_eq_map, List.all_cons, List.all_map]
          rfl
theorem deps_at : ∀ {xs : List D} {j : Nat} {x : D}, xs[j]? = some x → dep x ≤ deps xs
  | [], j, x, h => by simp at h
  | y :: ys, 0, x, h => by
    cases h
    rw [deps]
    exact Nat.le_max_left _ _
  | y :: ys, j + 1, x, h => by
    rw [deps]
    exact Nat.le_trans (deps_at (xs := ys) (j := j) h) (Nat.le_max_right _ _)
section
variable {X : Cx} {pins : List (Addr × Obj)} {σ : St} {H C : Hp} {s : Shared}
mutual
theorem den_inj (I : Inv X pins σ H s) (ch : Same C H) : ∀ {v : V} (d e : D), Den X.K C v d → Den X.K C v e → d = e
  | v, .int i, e, h, h' => by
    have z := den_int.mp h
    subst z
    cases e with
    | int j => have z := den_int.mp h'; cases z; rfl
    | bl j => have z := den_bl.mp h'; cases z
    | non => have z := den_non.mp h'; cases z
    | str j => have z := den_str.mp h'; cases z
    | tup j => obtain ⟨_, _, z, _⟩ := den_tup.mp h'; cases z
    | lst j => obtain ⟨_, _, z, _⟩ := den_lst.mp h'; cases z
  | v, .bl i, e, h, h' => by
    have z := den_bl.mp h
    subst z
    cases e with
    | int j => have z := den_int.mp h'; cases z
    | bl j => have z := den_bl.mp h'; cases z; rfl
    | non => have z := den_non.mp h'; cases z
    | str j => have z := den_str.mp h'; cases z
    | tup j => obtain ⟨_, _, z, _⟩ := den_tup.mp h'; cases z
    | lst j => obtain ⟨_, _, z, _⟩ := den_lst.mp h'; cases z
  | v, .non, e, h, h' => by
    have z := den_non.mp h
    subst z
    cases e with
    | int j => have z := den_int.mp h'; cases z
    | bl j => have z := den_bl.mp h'; cases z
    | non => rfl
    | str j => have z := den_str.mp h'; cases z
    | tup j => obtain ⟨_, _, z, _⟩ := den_tup.mp h'; cases z
    | lst j => obtain ⟨_, _, z, _⟩ := den_lst.mp h'; cases z
  | v, .str i, e, h, h' => by
    have z := den_str.mp h
    subst z
    cases e with
    | int j => have z := den_int.mp h'; cases z
    | bl j => have z := den_bl.mp h'; cases z
    | non => have z := den_non.mp h'; cases z
    | str j => have z := den_str.mp h'; cases z; rfl
    | tup j => obtain ⟨_, _, z, _⟩ := den_tup.mp h'; cases z
    | lst j => obtain ⟨_, _, z, _⟩ := den_lst.mp h'; cases z
  | v, .tup ds, e, h, h' => by
    obtain ⟨a, xs, rfl, hx, hd⟩ := den_tup.mp h
    cases e with
    | int j => have z := den_int.mp h'; cases z
    | bl j => have z := den_bl.mp h'; cases z
    | non => have z := den_non.mp h'; cases z
    | str j => have z := den_str.mp h'; cases z
    | tup es =>
      obtain ⟨a', ys, z, hy, he⟩ := den_tup.mp h'
      cases z
      have q := I.tuple_inj (ch.seqT hx) (ch.seqT hy)
      subst q
      rw [dens_inj I ch ds es hd he]
    | lst es =>
      obtain ⟨a', ys, z, hy, he⟩ := den_lst.mp h'
      cases z
      obtain ⟨its, _, ⟨o, h1, h2, _⟩, _⟩ := I.tuple (ch.seqT hx)
      obtain ⟨its2, _, pl, _⟩ := I.list (ch.seq hy)
      obtain ⟨o2, h3, h4, _⟩ := pl.isList
      rw [h1] at h3
      cases h3
      rw [h2] at h4
      exact absurd h4 (by decide)
  | v, .lst ds, e, h, h' => by
    obtain ⟨a, xs, rfl, hx, hd⟩ := den_lst.mp h
    cases e with
    | int j => have z := den_int.mp h'; cases z
    | bl j => have z := den_bl.mp h'; cases z
    | non => have z := den_non.mp h'; cases z
    | str j => have z := den_str.mp h'; cases z
    | lst es =>
      obtain ⟨a', ys, z, hy, he⟩ := den_lst.mp h'
      cases z
      have q := I.list_inj (ch.seq hx) (ch.seq hy)
      subst q
      rw [dens_inj I ch ds es hd he]
    | tup es =>
      obtain ⟨a', ys, z, hy, he⟩ := den_tup.mp h'
      cases z
      obtain ⟨its, _, ⟨o, h1, h2, _⟩, _⟩ := I.tuple (ch.seqT hy)
      obtain ⟨its2, _, pl, _⟩ := I.list (ch.seq hx)
      obtain ⟨o2, h3, h4, _⟩ := pl.isList
      rw [h1] at h3
      cases h3
      rw [h2] at h4
      exact absurd h4 (by decide)
theorem dens_inj (I : Inv X pins σ H s) (ch : Same C H) : ∀ {vs : List V} (ds es : List D), Dens X.K C vs ds → Dens X.K C vs es → ds = es
  | vs, [], es, h, h' => by
    have z := dens_nil.mp h
    subst z
    cases es with
    | nil => rfl
    | cons e es => obtain ⟨_, _, z, _⟩ := dens_cons.mp h'; cases z
  | vs, d :: ds, es, h, h' => by
    obtain ⟨x, xs, rfl, n, t⟩ := dens_cons.mp h
    cases es with
    | nil => have z := dens_nil.mp h'; cases z
    | cons e es =>
      obtain ⟨_, _, z, n', t'⟩ := dens_cons.mp h'
      cases z
      rw [den_inj I ch d e n n', dens_inj I ch ds es t t']
end
theorem vals_at {xs : List V} {its : List Value} (r : Vals xs its) {j : Nat} (h : j < its.toArray.size) : ∃ x, xs[j]? = some x ∧ RelV x its.toArray[j] := by
  have h' : j < its.length := by simpa using h
  have hx : j < xs.length := by rw [r.length]; exact h'
  have e : xs[j]? = some xs[j] := by simp [hx]
  obtain ⟨u, e1, e2⟩ := r.get e
  refine ⟨xs[j], e, ?_⟩
  have : u = its.toArray[j] := by
    have e3 : its[j]? = some its[j] := by simp [h']
    rw [e3] at e1
    cases e1
    simp
  rw [← this]
  exact e2
/-- eqBool of two trees; n: how deep the left one is -/
theorem eqAt_D (I : Inv X pins σ H s) (ch : Same C H) : ∀ (n : Nat) (d e : D) (r : Bool) (A : Around) (x y : V) (u v : Value), dep d ≤ n → A.units + n < cLine → eqD d e = some r → RelV x u → RelV y v → Den X.K C x d → Den X.K C y e → SeqAt.EqAt A s u v r := by
  intro n
  induction n with
  | zero =>
    intro d e r A x y u v hn hu he rx ry nx ny
    cases d with
    | int i =>
      cases e with
      | int j =>
        rw [eqD] at he
        cases he
        have z := den_int.mp nx
        have z2 := den_int.mp ny
        subst z z2
        obtain ⟨t, rfl⟩ := rx
        obtain ⟨t', rfl⟩ := ry
        exact SeqAt.EqAt.int_int i t j t'
      | _ => cases he
    | bl i =>
      cases e with
      | bl j =>
        rw [eqD] at he
        cases he
        have z := den_bl.mp nx
        have z2 := den_bl.mp ny
        subst z z2
        cases rx
        cases ry
        exact SeqAt.EqAt.bool_bool i j
      | _ => cases he
    | str i =>
      cases e with
      | str j =>
        rw [eqD] at he
        cases he
        have z := den_str.mp nx
        have z2 := den_str.mp ny
        subst z z2
        obtain ⟨t, rfl⟩ := rx
        obtain ⟨t', rfl⟩ := ry
        exact SeqAt.EqAt.str_str i t j t'
      | _ => cases he
    | non =>
      cases e with
      | non =>
        rw [eqD] at he
        cases he
        have z := den_non.mp nx
        have z2 := den_non.mp ny
        subst z z2
        cases rx
        cases ry
        exact SeqAt.EqAt.same _
      | _ => cases he
    | tup ds => rw [dep] at hn; omega
    | lst ds => rw [dep] at hn; omega
  | succ n ih =>
    intro d e r A x y u v hn hu he rx ry nx ny
    cases d with
    | tup ds =>
      cases e with
      | tup es =>
        obtain ⟨a, xs, rfl, hx, hd⟩ := den_tup.mp nx
        obtain ⟨b, ys, rfl, hy, hee⟩ := den_tup.mp ny
        cases rx
        cases ry
        by_cases hab : a = b
        · subst hab
          have q := den_inj I ch _ _ nx ny
          rw [← q, eqD_self] at he
          cases he
          exact SeqAt.EqAt.same _
        · refine SeqAt.EqAt.of_refs hab ?_
          rw [eqD] at he
          cases e1 : eqDs ds es with
          | none => rw [e1] at he; cases he
          | some r0 =>
            rw [e1] at he
            obtain ⟨f, hf, hr⟩ := eqDs_at e1
            obtain ⟨its, r1, t1, _⟩ := I.tuple (ch.seqT hx)
            obtain ⟨its2, r2, t2, _⟩ := I.tuple (ch.seqT hy)
            have l1 : its.toArray.size = ds.length := by rw [List.size_toArray, ← r1.length, hd.length]
            have l2 : its2.toArray.size = es.length := by rw [List.size_toArray, ← r2.length, hee.length]
            have q := SeqAt.RcAt.tuples (A := A) (e := f) t1 t2 (by omega) fun j h1 h2 => by
              obtain ⟨x', ex, rx'⟩ := vals_at r1 h1
              obtain ⟨y', ey, ry'⟩ := vals_at r2 h2
              have hj1 : j < ds.length := by omega
              have hj2 : j < es.length := by omega
              have ed : ds[j]? = some ds[j] := by simp [hj1]
              have ee : es[j]? = some es[j] := by simp [hj2]
              obtain ⟨x2, ex2, nx2⟩ := hd.get ed
              obtain ⟨y2, ey2, ny2⟩ := hee.get ee
              rw [ex] at ex2
              cases ex2
              rw [ey] at ey2
              cases ey2
              refine ih ds[j] es[j] (f j) A.in1 x' y' _ _ ?_ (by show A.units + 1 + n < cLine; omega) (hf j _ _ ed ee) rx' ry' nx2 ny2
              have := deps_at ed
              rw [dep] at hn
              omega
            rw [l1, l2] at q
            have er : r = ((List.range (min ds.length es.length)).all f && ds.length == es.length) := by
              rw [← hr]
              exact (Option.some.inj he).symm
            rw [er]
            exact q
      | _ => cases he
    | lst ds =>
      cases e with
      | lst es =>
        obtain ⟨a, xs, rfl, hx, hd⟩ := den_lst.mp nx
        obtain ⟨b, ys, rfl, hy, hee⟩ := den_lst.mp ny
        cases rx
        cases ry
        by_cases hab : a = b
        · subst hab
          have q := den_inj I ch _ _ nx ny
          rw [← q, eqD_self] at he
          cases he
          exact SeqAt.EqAt.same _
        · refine SeqAt.EqAt.of_refs hab ?_
          rw [eqD] at he
          obtain ⟨its, r1, p1, _⟩ := I.list (ch.seq hx)
          obtain ⟨its2, r2, p2, _⟩ := I.list (ch.seq hy)
          have l1 : its.toArray.size = ds.length := by rw [List.size_toArray, ← r1.length, hd.length]
          have l2 : its2.toArray.size = es.length := by rw [List.size_toArray, ← r2.length, hee.length]
          by_cases hlen : ds.length = es.length
          · rw [if_pos hlen] at he
            obtain ⟨f, hf, hr⟩ := eqDs_at he
            have q := SeqAt.RcAt.lists (A := A) (e := f) p1.isList p2.isList (by rw [l1, l2]; exact hlen) (by omega) fun j h1 h2 => by
              obtain ⟨x', ex, rx'⟩ := vals_at r1 h1
              obtain ⟨y', ey, ry'⟩ := vals_at r2 h2
              have hj1 : j < ds.length := by omega
              have hj2 : j < es.length := by omega
              have ed : ds[j]? = some ds[j] := by simp [hj1]
              have ee : es[j]? = some es[j] := by simp [hj2]
              obtain ⟨x2, ex2, nx2⟩ := hd.get ed
              obtain ⟨y2, ey2, ny2⟩ := hee.get ee
              rw [ex] at ex2
              cases ex2
              rw [ey] at ey2
              cases ey2
              refine ih ds[j] es[j] (f j) A.in1 x' y' _ _ ?_ (by show A.units + 1 + n < cLine; omega) (hf j _ _ ed ee) rx' ry' nx2 ny2
              have := deps_at ed
              rw [dep] at hn
              omega
            rw [l1] at q
            rw [hr, ← hlen, Nat.min_self]
            exact q
          · rw [if_neg hlen] at he
            cases he
            exact SeqAt.RcAt.lists_lengths p1.isList p2.isList (by rw [l1, l2]; simpa using hlen) (by omega)
      | _ => cases he
    | int i => exact ih (.int i) e r A x y u v (by simp [dep]) (by omega) he rx ry nx ny
    | bl i => exact ih (.bl i) e r A x y u v (by simp [dep]) (by omega) he rx ry nx ny
    | non => exact ih .non e r A x y u v (by simp [dep]) (by omega) he rx ry nx ny
    | str i => exact ih (.str i) e r A x y u v (by simp [dep]) (by omega) he rx ry nx ny
/-- the compare itself -/
theorem rcAt_D (I : Inv X pins σ H s) (ch : Same C H) (n : Nat) (d e : D) (r : Bool) (A : Around) (x y : V) (u v : Value) (hn : dep d ≤ n) (hu : A.units + n < cLine) (he : eqD d e = some r) (rx : RelV x u) (ry : RelV y v) (nx : Den X.K C x d) (ny : Den X.K C y e) :
    SeqAt.RcAt A s u v r ∧ SeqAt.RcNeAt A s u v (!r) := by
  cases d with
  | int i =>
    cases e with
    | int j =>
      rw [eqD] at he
      cases he
      have z := den_int.mp nx
      have z2 := den_int.mp ny
      subst z z2
      obtain ⟨t, rfl⟩ := rx
      obtain ⟨t', rfl⟩ := ry
      exact ⟨SeqAt.RcAt.int_int i t j t', SeqAt.RcNeAt.int_int i t j t'⟩
    | _ => cases he
  | bl i =>
    cases e with
    | bl j =>
      rw [eqD] at he
      cases he
      have z := den_bl.mp nx
      have z2 := den_bl.mp ny
      subst z z2
      cases rx
      cases ry
      exact ⟨SeqAt.RcAt.bool_bool i j, SeqAt.RcNeAt.bool_bool i j⟩
    | _ => cases he
  | str i =>
    cases e with
    | str j =>
      rw [eqD] at he
      cases he
      have z := den_str.mp nx
      have z2 := den_str.mp ny
      subst z z2
      obtain ⟨t, rfl⟩ := rx
      obtain ⟨t', rfl⟩ := ry
      exact ⟨SeqAt.RcAt.str_str i t j t', SeqAt.RcNeAt.str_str i t j t'⟩
    | _ => cases he
  | non =>
    cases e with
    | non =>
      rw [eqD] at he
      cases he
      have z := den_non.mp nx
      have z2 := den_non.mp ny
      subst z z2
      cases rx
      cases ry
      exact ⟨SeqAt.RcAt.none_none, SeqAt.RcNeAt.none_none⟩
    | _ => cases he
  | tup ds =>
    cases e with
    | tup es =>
      obtain ⟨a, xs, rfl, hx, hd⟩ := den_tup.mp nx
      obtain ⟨b, ys, rfl, hy, hee⟩ := den_tup.mp ny
      cases rx
      cases ry
      rw [eqD] at he
      cases e1 : eqDs ds es with
      | none => rw [e1] at he; cases he
      | some r0 =>
        rw [e1] at he
        obtain ⟨f, hf, hr⟩ := eqDs_at e1
        obtain ⟨its, r1, t1, _⟩ := I.tuple (ch.seqT hx)
        obtain ⟨its2, r2, t2, _⟩ := I.tuple (ch.seqT hy)
        have l1 : its.toArray.size = ds.length := by rw [List.size_toArray, ← r1.length, hd.length]
        have l2 : its2.toArray.size = es.length := by rw [List.size_toArray, ← r2.length, hee.length]
        rw [dep] at hn
        have hin : ∀ j (h1 : j < its.toArray.size) (h2 : j < its2.toArray.size), SeqAt.EqAt A.in1 s its.toArray[j] its2.toArray[j] (f j) := fun j h1 h2 => by
          obtain ⟨x', ex, rx'⟩ := vals_at r1 h1
          obtain ⟨y', ey, ry'⟩ := vals_at r2 h2
          have hj1 : j < ds.length := by omega
          have hj2 : j < es.length := by omega
          have ed : ds[j]? = some ds[j] := by simp [hj1]
          have ee : es[j]? = some es[j] := by simp [hj2]
          obtain ⟨x2, ex2, nx2⟩ := hd.get ed
          obtain ⟨y2, ey2, ny2⟩ := hee.get ee
          rw [ex] at ex2
          cases ex2
          rw [ey] at ey2
          cases ey2
          have := deps_at ed
          exact eqAt_D I ch (n - 1) ds[j] es[j] (f j) A.in1 x' y' _ _ (by omega) (by show A.units + 1 + (n - 1) < cLine; omega) (hf j _ _ ed ee) rx' ry' nx2 ny2
        have q := SeqAt.RcAt.tuples (A := A) (e := f) t1 t2 (by omega) hin
        have q' := SeqAt.RcNeAt.tuples (A := A) (e := f) t1 t2 (by omega) hin
        rw [l1, l2] at q q'
        have er : r = ((List.range (min ds.length es.length)).all f && ds.length == es.length) := by
          rw [← hr]
          exact (Option.some.inj he).symm
        rw [er]
        exact ⟨q, q'⟩
    | _ => cases he
  | lst ds =>
    cases e with
    | lst es =>
      obtain ⟨a, xs, rfl, hx, hd⟩ := den_lst.mp nx
      obtain ⟨b, ys, rfl, hy, hee⟩ := den_lst.mp ny
      cases rx
      cases ry
      rw [eqD] at he
      obtain ⟨its, r1, p1, _⟩ := I.list (ch.seq hx)
      obtain ⟨its2, r2, p2, _⟩ := I.list (ch.seq hy)
      have l1 : its.toArray.size = ds.length := by rw [List.size_toArray, ← r1.length, hd.length]
      have l2 : its2.toArray.size = es.length := by rw [List.size_toArray, ← r2.length, hee.length]
      rw [dep] at hn
      by_cases hlen : ds.length = es.length
      · rw [if_pos hlen] at he
        obtain ⟨f, hf, hr⟩ := eqDs_at he
        have hin : ∀ j (h1 : j < its.toArray.size) (h2 : j < its2.toArray.size), SeqAt.EqAt A.in1 s its.toArray[j] its2.toArray[j] (f j) := fun j h1 h2 => by
          obtain ⟨x', ex, rx'⟩ := vals_at r1 h1
          obtain ⟨y', ey, ry'⟩ := vals_at r2 h2
          have hj1 : j < ds.length := by omega
          have hj2 : j < es.length := by omega
          have ed : ds[j]? = some ds[j] := by simp [hj1]
          have ee : es[j]? = some es[j] := by simp [hj2]
          obtain ⟨x2, ex2, nx2⟩ := hd.get ed
          obtain ⟨y2, ey2, ny2⟩ := hee.get ee
          rw [ex] at ex2
          cases ex2
          rw [ey] at ey2
          cases ey2
          have := deps_at ed
          exact eqAt_D I ch (n - 1) ds[j] es[j] (f j) A.in1 x' y' _ _ (by omega) (by show A.units + 1 + (n - 1) < cLine; omega) (hf j _ _ ed ee) rx' ry' nx2 ny2
        have q := SeqAt.RcAt.lists (A := A) (e := f) p1.isList p2.isList (by rw [l1, l2]; exact hlen) (by omega) hin
        have q' := SeqAt.RcNeAt.lists (A := A) (e := f) p1.isList p2.isList (by rw [l1, l2]; exact hlen) (by omega) hin
        rw [l1] at q q'
        rw [hr, ← hlen, Nat.min_self]
        exact ⟨q, q'⟩
      · rw [if_neg hlen] at he
        cases he
        exact ⟨SeqAt.RcAt.lists_lengths p1.isList p2.isList (by rw [l1, l2]; simpa using hlen) (by omega), SeqAt.RcNeAt.lists_lengths p1.isList p2.isList (by rw [l1, l2]; simpa using hlen) (by omega)⟩
    | _ => cases he
end
section
variable {X : Cx}
def oEq : GO := fun x y Q => dep x ≤ 32 ∧ match eqD x y with
  | some b => Q (.bl b)
  | none => False
def oNe : GO := fun x y Q => dep x ≤ 32 ∧ match eqD x y with
  | some b => Q (.bl (!b))
  | none => False
def rEqD (K : PySem.W.Frag) (neg : Bool) : R2 := fun x y H R => ∃ C d e b, Same C H ∧ Den K C x d ∧ Den K C y e ∧ eqD d e = some b ∧ dep d ≤ 32 ∧ R (.bl (if neg then !b else b)) H
theorem do_eq (hu : X.A.units + 64 < cLine) : DOp X (compareOp .Eq) oEq := by
  refine ⟨rEqD X.K false, fun pins s σ H x y v u Q I rx ry h => ?_, fun x y dx dy C H Q R ch n1 n2 q k => ?_⟩
  · obtain ⟨C, d, e, b, ch, nx, ny, he, hd, q⟩ := h
    exact (rcAt_D I ch 32 d e b X.A x y v u hd (by omega) he rx ry nx ny).1 _ _ _ _ ⟨.bl b, H, I, rfl, q⟩
  · obtain ⟨hd, q⟩ := q
    cases z : eqD dx dy with
    | none => rw [z] at q; exact q.elim
    | some b => rw [z] at q; exact ⟨C, dx, dy, b, ch, n1, n2, z, hd, k _ _ C H q (Ext.refl ch) (den_bl.mpr rfl)⟩
theorem do_ne (hu : X.A.units + 64 < cLine) : DOp X (compareOp .NotEq) oNe := by
  refine ⟨rEqD X.K true, fun pins s σ H x y v u Q I rx ry h => ?_, fun x y dx dy C H Q R ch n1 n2 q k => ?_⟩
  · obtain ⟨C, d, e, b, ch, nx, ny, he, hd, q⟩ := h
    exact (rcAt_D I ch 32 d e b X.A x y v u hd (by omega) he rx ry nx ny).2 _ _ _ _ ⟨.bl (!b), H, I, rfl, q⟩
  · obtain ⟨hd, q⟩ := q
    cases z : eqD dx dy with
    | none => rw [z] at q; exact q.elim
    | some b => rw [z] at q; exact ⟨C, dx, dy, b, ch, n1, n2, z, hd, k _ _ C H q (Ext.refl ch) (den_bl.mpr rfl)⟩
/-! ### sorted of ints -/
theorem ints_vals : ∀ {us : List Value} {ns : List Int}, IntsAre us ns → Vals (ns.map V.int) us
  | _, _, .nil => .nil
  | _, _, .cons _ t h => .cons ⟨_, rfl⟩ (ints_vals h)
theorem call_sorted : CallR X (.builtin "sorted") (fun xs H Q => ∃ (p : Addr) (ns : List Int), xs = [.ref p] ∧ SqL X.K H p (ns.map V.int) ∧ ns.length < 64 ∧ ∀ ms : List Int, ms.Perm ns → ms.Pairwise (· ≤ ·) → ∀ l, H l = none → Q (.ref l) (upd H l (.lst (ms.map V.int)))) := by
  intro pins s σ H xs us Q I r h
  obtain ⟨p, ns, rfl, hq, h64, q⟩ := h
  obtain ⟨u, rfl, rx⟩ := vals1 r
  cases rx
  obtain ⟨its, r', pl, hz⟩ := I.list hq
  have hlen := r'.length
  rw [List.length_map] at hlen
  refine sorted_ints pl.isList (intsAre_of r') (by omega) fun out ms a1 a2 a3 => ?_
  obtain ⟨e, he⟩ := sortedAll_at s.heap its out
  have fr : H (s.heap.objs.size + 1) = none := I.hok.fresh (Nat.le_succ _)
  have hl2 : (ms.map V.int).length ≤ sizeLine := by
    rw [List.length_map, a2.length_eq]
    have : (64 : Nat) ≤ sizeLine := by decide
    omega
  refine ⟨.ref (s.heap.objs.size + 1), _, I.laid (t' := s.toks) (o := .lst (ms.map V.int)) (fun b ob z => sortedAll_old z) (Nat.le_succ _) ⟨hl2, out.toList, e, ints_vals a1, ?_⟩, rfl, q ms a2 a3 _ fr⟩
  rw [he]
/-- the ints of a list -/
def intsD : List D → Option (List Int)
  | [] => some []
  | .int b :: r => (intsD r).map (b :: ·)
  | _ :: _ => none
theorem ints_eq : ∀ {ds : List D} {bs : List Int}, intsD ds = some bs → ds = bs.map D.int
  | [], bs, h => by cases h; rfl
  | .int b :: r, bs, h => by
    unfold intsD at h
    cases e : intsD r with
    | none => rw [e] at h; cases h
    | some cs => rw [e] at h; cases h; rw [List.map_cons, ← ints_eq e]
  | .bl _ :: _, _, h => by cases h
  | .non :: _, _, h => by cases h
  | .str _ :: _, _, h => by cases h
  | .tup _ :: _, _, h => by cases h
  | .lst _ :: _, _, h => by cases h
theorem ints_map (bs : List Int) : intsD (bs.map D.int) = some bs := by
  induction bs with
  | nil => rfl
  | cons b bs ih => rw [List.map_cons, intsD, ih]; rfl
theorem dens_ints {K : PySem.W.Frag} {C : Hp} (ns : List Int) : Dens K C (ns.map V.int) (ns.map D.int) := by
  induction ns with
  | nil => exact .nil
  | cons n ns ih => exact .cons (den_int.mpr rfl) ih
def cSorted : List D → (List D → Prop) → Prop := fun ds Q => match ds with
  | [.lst xs] => match intsD xs with
    | some ns => ns.length < 64 ∧ ∀ ms : List Int, ms.Perm ns → ms.Pairwise (· ≤ ·) → Q (ms.map D.int)
    | none => False
  | _ => False
theorem dc_sorted : DCallF X (.builtin "sorted") cSorted := by
  refine ⟨_, call_sorted, fun xs ds C H Q R ch n q k => ?_⟩
  unfold cSorted at q
  split at q
  · split at q
    · rename_i ns e
      obtain ⟨v, rfl, n1⟩ := dens_one n
      obtain ⟨p, ys, rfl, hy, hd⟩ := den_lst.mp n1
      rw [ints_eq e] at hd
      rw [hd.ints] at hy
      exact ⟨p, ns, rfl, ch.seq hy, q.1, fun ms a b l hl => k _ l _ C _ (q.2 ms a b) (Ext.newO ch hl) (ch.free hl) hl upd_same (dens_ints ms)⟩
    · exact q.elim
  · exact q.elim
end
end L2
namespace L2
open PySem PySem.Spec PyProof.Rows
/-! ### zip(a, b): a, b lists or tuples -/
def At (h : Heap) (it src : Addr) (k : Nat) (xs : Array Value) : Prop := (h.IsListIter it src k ∧ h.IsList src xs) ∨ (h.IsTupleIter it src k ∧ h.IsTuple src xs)
theorem At.kept {h h' : Heap} {it src : Addr} {k : Nat} {xs : Array Value} (a : At h it src k xs) (h1 : ∀ o, h.get? it = some o → h'.get? it = some o) (h2 : ∀ o, h.get? src = some o → h'.get? src = some o) : At h' it src k xs := by
  rcases a with ⟨⟨o, a, b⟩, ⟨o', c, d⟩⟩ | ⟨⟨o, a, b⟩, ⟨o', c, d⟩⟩
  · exact .inl ⟨⟨o, h1 o a, b⟩, ⟨o', h2 o' c, d⟩⟩
  · exact .inr ⟨⟨o, h1 o a, b⟩, ⟨o', h2 o' c, d⟩⟩
theorem At.but {h h' : Heap} {it src b : Addr} {k : Nat} {xs : Array Value} (a : At h it src k xs) (hs : Heap.ExtBut b h h') (n1 : it ≠ b) (n2 : src ≠ b) : At h' it src k xs :=
  a.kept (fun o e => hs it o n1 e) fun o e => hs src o n2 e
theorem At.lt {h : Heap} {it src : Addr} {k : Nat} {xs : Array Value} (a : At h it src k xs) : it < h.objs.size := by
  rcases a with ⟨⟨o, a, _⟩, _⟩ | ⟨⟨o, a, _⟩, _⟩ <;> exact Heap.lt_size a
section
variable {prog : Program} {w : World} {A : Around} {E : Value → Shared → Prop} {s : Shared}
theorem next_at {it src : Addr} {k : Nat} {xs : Array Value} {x : Value} {Q : Value → Shared → Prop} (a : At s.heap it src k xs) (ns : src ≠ it) (hx : xs[k]? = some x) (hQ : ∀ h', At h' it src (k + 1) xs → Heap.SameBut it s.heap h' → Q x { s with heap := h' }) :
    wpAny (model prog w) A (Builtin.SmallTypes.nextOf (.ref it)) Q E s := by
  rcases a with ⟨a, l⟩ | ⟨a, l⟩
  · exact wpAny_nextOf_list_item a l hx fun h' a' sb => hQ h' (.inl ⟨a', l.extBut sb.extBut ns⟩) sb
  · obtain ⟨o, ho, hc, hd⟩ := id a
    obtain ⟨ol, hol, _, nl, hdl⟩ := id l
    unfold Builtin.SmallTypes.nextOf
    have sl := F.slot_tuple_iterator_next
    refine wpAny_bind (wpAny_callSpecial?_slot (name := Str.ofString "__next__") a.typeIs sl (wpAny_call_entry sl a.typeIs F.entry_tuple_iterator_next ?_ (F.args_tuple_iterator_next_1 _)))
    refine wpAny_bind (m := field (.ref it) 0) (wpAny_field ho hd (x := .ref src) rfl ?_)
    refine wpAny_ite_false (show (Value.ref src == Value.none) = false from rfl) ?_
    refine wpAny_bind (m := field (.ref it) 1) (wpAny_field ho hd (x := .int k 0) rfl ?_)
    refine wpAny_bind (m := seqItems? (.ref src)) (wpAny_seqItems hol hdl ?_)
    simp only [Int.toNat_natCast, hx]
    refine wpAny_bind (wpAny_setField ho hd (by simp) (wpAny_pure ⟨x, rfl, wpAny_pure (hQ _ ?_ (Heap.SameBut.update ..))⟩))
    refine .inr ⟨⟨_, Heap.get?_update_self _ ho (Obj.isFreed_of_fields (Obj.data_mapFields hd _)), (Obj.cls_mapFields ..).trans hc, ?_⟩, l.extBut (Heap.SameBut.update ..).extBut ns⟩
    rw [Obj.data_mapFields hd]
    simp [rawInt]
theorem next_end {it src : Addr} {k : Nat} {xs : Array Value} {Q : Value → Shared → Prop} (hh : A.handled = none) (a : At s.heap it src k xs) (hx : xs[k]? = none)
    (hE : ∀ h' e, Heap.ExtBut it s.heap h' → (∃ o, h'.get? e = some o ∧ o.cls = .type "StopIteration") → E (.ref e) { s with heap := h' }) : wpAny (model prog w) A (Builtin.SmallTypes.nextOf (.ref it)) Q E s := by
  rcases a with ⟨a, l⟩ | ⟨a, l⟩
  · exact wpAny_nextOf_list_end hh a l hx hE
  · obtain ⟨o, ho, hc, hd⟩ := id a
    obtain ⟨ol, hol, _, nl, hdl⟩ := id l
    unfold Builtin.SmallTypes.nextOf
    have sl := F.slot_tuple_iterator_next
    refine wpAny_bind (wpAny_callSpecial?_slot (name := Str.ofString "__next__") a.typeIs sl (wpAny_call_entry sl a.typeIs F.entry_tuple_iterator_next ?_ (F.args_tuple_iterator_next_1 _)))
    refine wpAny_bind (m := field (.ref it) 0) (wpAny_field ho hd (x := .ref src) rfl ?_)
    refine wpAny_ite_false (show (Value.ref src == Value.none) = false from rfl) ?_
    refine wpAny_bind (m := field (.ref it) 1) (wpAny_field ho hd (x := .int k 0) rfl ?_)
    refine wpAny_bind (m := seqItems? (.ref src)) (wpAny_seqItems hol hdl ?_)
    simp only [Int.toNat_natCast, hx]
    refine wpAny_bind (wpAny_rule (wpAny_bind (wpAny_setField ho hd (by simp) ?_)))
    refine wpAny_bind (m := newExc (.type "StopIteration") []) ?_
    simp only [newExc, newTuple]
    refine wpAny_bind (wpAny_newObj_type ?_ (by size_fits))
    refine wpAny_bind (m := firstArgMember _ _) (wpAny_of_eq (a := Value.none) (by first | rfl | (simp only [firstArgMember]; rfl)) ?_)
    refine wpAny_newObj_type ?_ (by size_fits)
    simp only [raiseNew]
    refine wpAny_bind (wpAny_handled ?_)
    have hh' : A.in1.handled = none := hh
    rw [hh']
    refine wpAny_bind (wpAny_pure (wpAny_throw ?_))
    exact hE _ _ (((Heap.SameBut.update ..).extBut.push _).push _) ⟨_, Heap.get?_push_size _ rfl, rfl⟩
theorem zipx_item {z TI TO i1 i2 l1 l2 : Addr} {k1 k2 : Nat} {xs ys : Array Value} {x y a b : Value} {Q : Value → Shared → Prop} (D : ZipApart z TI TO i1 i2 l1 l2)
    (hz : IsZip s.heap z TI TO .none) (hTI : IsPair s.heap TI (.ref i1) (.ref i2)) (hTO : IsPair s.heap TO a b) (h1 : At s.heap i1 l1 k1 xs) (h2 : At s.heap i2 l2 k2 ys) (hx : xs[k1]? = some x) (hy : ys[k2]? = some y)
    (hQ : ∀ h', IsZip h' z TI TO (rawInt s.heap.objs.size) → IsPair h' TO x y → At h' i1 l1 (k1 + 1) xs → At h' i2 l2 (k2 + 1) ys → IsPair h' s.heap.objs.size x y → h'.objs.size = s.heap.objs.size + 1 →
      (∀ c o, c ≠ z → c ≠ TO → c ≠ i1 → c ≠ i2 → s.heap.get? c = some o → h'.get? c = some o) → Q (.ref s.heap.objs.size) { s with heap := h' }) :
    wpAny (model prog w) A (Builtin.«zip.__next__» ⟨[.ref z], []⟩) (fun fin s' => ∃ v, fin = .done (.ret v) ∧ Q v s') E s := by
  refine wpAny_bind (m := field (.ref z) 2) (wpAny_field hz rfl (x := .bool false) rfl ?_)
  refine wpAny_bind (m := field (.ref z) 3) (wpAny_field hz rfl (x := .ref TI) rfl ?_)
  refine wpAny_bind (wpAny_seqItems hTI rfl ?_)
  refine wpAny_bind (m := Builtin.SmallTypes.ownedTupleIsFree (.ref z)) ?_
  unfold Builtin.SmallTypes.ownedTupleIsFree
  refine wpAny_bind (wpAny_field hz rfl (x := .none) rfl (wpAny_pure ?_))
  simp only [if_true]
  refine wpAny_bind (wpAny_rule ?_)
  refine wpAny_bind (wpAny_field hz rfl (x := .ref TO) rfl ?_)
  refine wpAny_bind (wpAny_setField_rec hz (by simp) fun g1 hz1 sb1 => ?_)
  replace hz1 : IsZip g1 z TI TO .ellipsis := hz1
  refine wpAny_bind ?_
  simp only [List.zipIdx_cons, List.zipIdx_nil, List.forIn_cons, List.forIn_nil]
  refine wpAny_bind (wpAny_bind (wpAny_onRaise ?_))
  refine wpAny_bind (m := Builtin.SmallTypes.nextOf (.ref i1)) (next_at (h1.but sb1.extBut D.i1z D.l1z) D.l1i1 hx fun g2 a2 sb2 => wpAny_pure ?_)
  have to2 : IsPair g2 TO a b := sb2.extBut _ _ D.TOi1 (sb1.extBut _ _ D.TOz hTO)
  refine wpAny_bind (wpAny_seqItems to2 rfl ?_)
  refine wpAny_bind (wpAny_updateSeq_pair to2 fun g3 to3 sb3 => ?_)
  replace to3 : IsPair g3 TO x b := to3
  refine wpAny_bind (wpAny_letGo (wpAny_pure ?_))
  refine wpAny_bind (wpAny_bind (wpAny_onRaise ?_))
  have a2' : At g3 i2 l2 k2 ys := ((h2.but sb1.extBut D.i2z D.l2z).but sb2.extBut D.i12.symm D.l2i1).but sb3.extBut D.TOi2.symm D.l2TO
  refine wpAny_bind (m := Builtin.SmallTypes.nextOf (.ref i2)) (next_at a2' D.l2i2 hy fun g4 a4 sb4 => wpAny_pure ?_)
  have to4 : IsPair g4 TO x b := sb4.extBut _ _ D.TOi2 to3
  refine wpAny_bind (wpAny_seqItems to4 rfl ?_)
  refine wpAny_bind (wpAny_updateSeq_pair to4 fun g5 to5 sb5 => ?_)
  replace to5 : IsPair g5 TO x y := to5
  refine wpAny_bind (wpAny_letGo (wpAny_pure (wpAny_pure ?_)))
  refine wpAny_bind (wpAny_seqItems to5 rfl ?_)
  refine wpAny_bind (wpAny_newTuple ?_)
  have esz : g5.objs.size = s.heap.objs.size := by rw [sb5.1, sb4.1, sb3.1, sb2.1, sb1.1]
  have z5 : IsZip g5 z TI TO .ellipsis := sb5.extBut _ _ D.TOz.symm (sb4.extBut _ _ D.i2z.symm (sb3.extBut _ _ D.TOz.symm (sb2.extBut _ _ D.i1z.symm hz1)))
  have k5 : ∀ c o, c ≠ z → c ≠ TO → c ≠ i1 → c ≠ i2 → s.heap.get? c = some o → g5.get? c = some o := fun c o c1 c2 c3 c4 e =>
    sb5.extBut _ _ c2 (sb4.extBut _ _ c4 (sb3.extBut _ _ c2 (sb2.extBut _ _ c3 (sb1.extBut _ _ c1 e))))
  have a15 : At g5 i1 l1 (k1 + 1) xs := ((a2.but sb3.extBut D.TOi1.symm D.l1TO).but sb4.extBut D.i12 D.l1i2).but sb5.extBut D.TOi1.symm D.l1TO
  have a25 : At g5 i2 l2 (k2 + 1) ys := a4.but sb5.extBut D.TOi2.symm D.l2TO
  have zlt : z < g5.objs.size := Heap.lt_size z5
  refine wpAny_bind (m := Builtin.SmallTypes.ownedTupleHandOut (.ref z) (.ref g5.objs.size)) ?_
  unfold Builtin.SmallTypes.ownedTupleHandOut
  have z6 : IsZip (g5.push { cls := .type "tuple", data := .seq #[x, y] }) z TI TO .ellipsis := Heap.get?_push_of_some _ z5
  refine wpAny_bind (wpAny_setField_rec z6 (by simp) fun g7 z7 sb7 => ?_)
  replace z7 : IsZip g7 z TI TO (rawInt g5.objs.size) := z7
  refine wpAny_setField_rec z7 (by simp) fun g8 z8 sb8 => ?_
  replace z8 : IsZip g8 z TI TO (rawInt g5.objs.size) := z8
  have up : ∀ c o, c ≠ z → g5.get? c = some o → g8.get? c = some o := fun c o c1 e => sb8.extBut _ _ c1 (sb7.extBut _ _ c1 (Heap.get?_push_of_some _ e))
  have t8 : IsPair g8 g5.objs.size x y := sb8.extBut _ _ (Nat.ne_of_gt zlt) (sb7.extBut _ _ (Nat.ne_of_gt zlt) (Heap.get?_push_size _ rfl))
  have sz8 : g8.objs.size = g5.objs.size + 1 := by rw [sb8.1, sb7.1, Heap.size_push]
  rw [esz] at z8 t8 sz8
  refine wpAny_pure ⟨_, rfl, ?_⟩
  show Q (.ref g5.objs.size) _
  rw [esz]
  exact hQ g8 z8 (up _ _ D.TOz to5) (a15.kept (fun o e => up _ o D.i1z e) fun o e => up _ o D.l1z e) (a25.kept (fun o e => up _ o D.i2z e) fun o e => up _ o D.l2z e) t8 sz8 fun c o c1 c2 c3 c4 e => up c o c1 (k5 c o c1 c2 c3 c4 e)
theorem zipx_end {z TI TO i1 i2 l1 l2 : Addr} {k1 k2 : Nat} {xs ys : Array Value} {a b : Value} {Q : PySem.Fin → Shared → Prop} (hh : A.handled = none) (D : ZipApart z TI TO i1 i2 l1 l2)
    (hz : IsZip s.heap z TI TO .none) (hTI : IsPair s.heap TI (.ref i1) (.ref i2)) (hTO : IsPair s.heap TO a b) (h1 : At s.heap i1 l1 k1 xs) (h2 : At s.heap i2 l2 k2 ys) (hend : xs[k1]? = none ∨ ys[k2]? = none)
    (hE : ∀ h' e, (∀ c o, c ≠ z → c ≠ TO → c ≠ i1 → c ≠ i2 → s.heap.get? c = some o → h'.get? c = some o) → (∃ o, h'.get? e = some o ∧ o.cls = .type "StopIteration") → E (.ref e) { s with heap := h' }) :
    wpAny (model prog w) A (Builtin.«zip.__next__» ⟨[.ref z], []⟩) Q E s := by
  refine wpAny_bind (m := field (.ref z) 2) (wpAny_field hz rfl (x := .bool false) rfl ?_)
  refine wpAny_bind (m := field (.ref z) 3) (wpAny_field hz rfl (x := .ref TI) rfl ?_)
  refine wpAny_bind (wpAny_seqItems hTI rfl ?_)
  refine wpAny_bind (m := Builtin.SmallTypes.ownedTupleIsFree (.ref z)) ?_
  unfold Builtin.SmallTypes.ownedTupleIsFree
  refine wpAny_bind (wpAny_field hz rfl (x := .none) rfl (wpAny_pure ?_))
  simp only [if_true]
  refine wpAny_bind (wpAny_rule ?_)
  refine wpAny_bind (wpAny_field hz rfl (x := .ref TO) rfl ?_)
  refine wpAny_bind (wpAny_setField_rec hz (by simp) fun g1 hz1 sb1 => ?_)
  replace hz1 : IsZip g1 z TI TO .ellipsis := hz1
  refine wpAny_bind ?_
  simp only [List.zipIdx_cons, List.zipIdx_nil, List.forIn_cons, List.forIn_nil]
  refine wpAny_bind (wpAny_bind (wpAny_onRaise ?_))
  have a1 := h1.but sb1.extBut D.i1z D.l1z
  cases hx : xs[k1]? with
  | none =>
    refine wpAny_bind (m := Builtin.SmallTypes.nextOf (.ref i1)) (next_end hh a1 hx fun g2 e sb2 he => ?_)
    obtain ⟨oe, hoe, hce⟩ := he
    have z2 : IsZip g2 z TI TO .ellipsis := sb2 _ _ D.i1z.symm hz1
    have hez : e ≠ z := fun q => by
      subst q
      rw [z2] at hoe
      cases hoe
      simp at hce
    exact wpAny_setField_rec z2 (by simp) fun g3 _ sb3 => hE g3 e (fun c o c1 _ c3 _ q => sb3.extBut _ _ c1 (sb2 _ _ c3 (sb1.extBut _ _ c1 q))) ⟨oe, sb3.extBut _ _ hez hoe, hce⟩
  | some x =>
    have hy : ys[k2]? = none := by
      rcases hend with h | h
      · rw [hx] at h; cases h
      · exact h
    refine wpAny_bind (m := Builtin.SmallTypes.nextOf (.ref i1)) (next_at a1 D.l1i1 hx fun g2 a2 sb2 => wpAny_pure ?_)
    have to2 : IsPair g2 TO a b := sb2.extBut _ _ D.TOi1 (sb1.extBut _ _ D.TOz hTO)
    refine wpAny_bind (wpAny_seqItems to2 rfl ?_)
    refine wpAny_bind (wpAny_updateSeq_pair to2 fun g3 to3 sb3 => ?_)
    refine wpAny_bind (wpAny_letGo (wpAny_pure ?_))
    refine wpAny_bind (wpAny_bind (wpAny_onRaise ?_))
    have a2' : At g3 i2 l2 k2 ys := ((h2.but sb1.extBut D.i2z D.l2z).but sb2.extBut D.i12.symm D.l2i1).but sb3.extBut D.TOi2.symm D.l2TO
    refine wpAny_bind (m := Builtin.SmallTypes.nextOf (.ref i2)) (next_end hh a2' hy fun g4 e sb4 he => ?_)
    obtain ⟨oe, hoe, hce⟩ := he
    have z4 : IsZip g4 z TI TO .ellipsis := sb4 _ _ D.i2z.symm (sb3.extBut _ _ D.TOz.symm (sb2.extBut _ _ D.i1z.symm hz1))
    have hez : e ≠ z := fun q => by
      subst q
      rw [z4] at hoe
      cases hoe
      simp at hce
    exact wpAny_setField_rec z4 (by simp) fun g5 _ sb5 => hE g5 e (fun c o c1 c2 c3 c4 q => sb5.extBut _ _ c1 (sb4 _ _ c4 (sb3.extBut _ _ c2 (sb2.extBut _ _ c3 (sb1.extBut _ _ c1 q))))) ⟨oe, sb5.extBut _ _ hez hoe, hce⟩
end
end L2
namespace L2
open PySem PySem.Spec PyProof.Rows
def SqX (K : PySem.W.Frag) (H : Hp) (a : Addr) (xs : List V) : Prop := SqL K H a xs ∨ SqT K H a xs
def ItX (h : Heap) (it src : Addr) (k : Nat) : Prop := h.IsListIter it src k ∨ h.IsTupleIter it src k
theorem Inv.sqx {X : Cx} {pins : List (Addr × Obj)} {σ : St} {H : Hp} {s : Shared} {a : Addr} {xs : List V} (I : Inv X pins σ H s) (h : SqX X.K H a xs) : ∃ its : List Value, Vals xs its ∧ (s.heap.IsList a its.toArray ∨ s.heap.IsTuple a its.toArray) := by
  rcases h with h | h
  · obtain ⟨its, r, pl, _⟩ := I.list h
    exact ⟨its, r, .inl pl.isList⟩
  · obtain ⟨its, r, pl, _⟩ := I.tuple h
    exact ⟨its, r, .inr pl⟩
theorem ItX.at {h : Heap} {it src : Addr} {k : Nat} {xs : Array Value} {kind : Bool} (i : if kind then h.IsListIter it src k else h.IsTupleIter it src k) (s : if kind then h.IsList src xs else h.IsTuple src xs) : At h it src k xs := by
  cases kind with
  | true => exact .inl ⟨i, s⟩
  | false => exact .inr ⟨i, s⟩
/-- what a zip yields at turn i -/
def Itz (K : PySem.W.Frag) (k1 k2 : Bool) (a b : Addr) : It :=
  ⟨fun i H => ∃ xs ys x y, (if k1 then SqL K H a xs else SqT K H a xs) ∧ (if k2 then SqL K H b ys else SqT K H b ys) ∧ xs[i]? = some x ∧ ys[i]? = some y,
   fun i H x H' => ∃ p, H p = none ∧ x = .ref p ∧ ∀ xs ys, (if k1 then SqL K H a xs else SqT K H a xs) → (if k2 then SqL K H b ys else SqT K H b ys) → ∃ u v, xs[i]? = some u ∧ ys[i]? = some v ∧ H' = upd H p (.tup [u, v]),
   fun i H => ∃ xs ys, (if k1 then SqL K H a xs else SqT K H a xs) ∧ (if k2 then SqL K H b ys else SqT K H b ys) ∧ (xs.length ≤ i ∨ ys.length ≤ i)⟩
def itk (kind : Bool) (h : Heap) (it src : Addr) (k : Nat) : Prop := if kind then h.IsListIter it src k else h.IsTupleIter it src k
def sqk (kind : Bool) (h : Heap) (src : Addr) (xs : Array Value) : Prop := if kind then h.IsList src xs else h.IsTuple src xs
theorem itk.kept {kind : Bool} {h h' : Heap} {it src : Addr} {k : Nat} (a : itk kind h it src k) (e : ∀ o, h.get? it = some o → h'.get? it = some o) : itk kind h' it src k := by
  cases kind with
  | true => obtain ⟨o, h1, h2⟩ := a; exact ⟨o, e o h1, h2⟩
  | false => obtain ⟨o, h1, h2⟩ := a; exact ⟨o, e o h1, h2⟩
theorem itk.at {kind : Bool} {h : Heap} {it src : Addr} {k : Nat} {xs : Array Value} (a : itk kind h it src k) (s : sqk kind h src xs) : At h it src k xs := by
  cases kind with
  | true => exact .inl ⟨a, s⟩
  | false => exact .inr ⟨a, s⟩
theorem itk.of {kind : Bool} {h : Heap} {it src : Addr} {k : Nat} {xs : Array Value} (a : At h it src k xs) (s : sqk kind h src xs) : itk kind h it src k := by
  rcases a with ⟨a, b⟩ | ⟨a, b⟩
  · cases kind with
    | true => exact a
    | false =>
      obtain ⟨o, h1, h2, _⟩ := b
      obtain ⟨o', h3, h4, _⟩ := (show h.IsTuple src xs from s)
      rw [h1] at h3
      cases h3
      rw [h2] at h4
      exact absurd h4 (by decide)
  · cases kind with
    | false => exact a
    | true =>
      obtain ⟨o, h1, h2, _⟩ := b
      obtain ⟨o', h3, h4, _⟩ := (show h.IsList src xs from s)
      rw [h1] at h3
      cases h3
      rw [h2] at h4
      exact absurd h4 (by decide)
theorem itk.obj {kind : Bool} {h : Heap} {it src : Addr} {k : Nat} (a : itk kind h it src k) : ∃ o, h.get? it = some o ∧ ∀ v, o.data ≠ .cell v := by
  cases kind with
  | true =>
    obtain ⟨o, h1, _, h2⟩ := a
    exact ⟨o, h1, fun v z => by rw [h2] at z; cases z⟩
  | false =>
    obtain ⟨o, h1, _, h2⟩ := a
    exact ⟨o, h1, fun v z => by rw [h2] at z; cases z⟩
theorem Inv.sqk {X : Cx} {pins : List (Addr × Obj)} {σ : St} {H : Hp} {s : Shared} {a : Addr} {xs : List V} {kind : Bool} (I : Inv X pins σ H s) (h : if kind then SqL X.K H a xs else SqT X.K H a xs) : ∃ its : List Value, Vals xs its ∧ L2.sqk kind s.heap a its.toArray := by
  cases kind with
  | true =>
    obtain ⟨its, r, pl, _⟩ := I.list h
    exact ⟨its, r, pl.isList⟩
  | false =>
    obtain ⟨its, r, pl, _⟩ := I.tuple h
    exact ⟨its, r, pl⟩
theorem Inv.sq_inj {X : Cx} {pins : List (Addr × Obj)} {σ : St} {H : Hp} {s : Shared} {a : Addr} {xs ys : List V} {kind : Bool} (I : Inv X pins σ H s) (h : if kind then SqL X.K H a xs else SqT X.K H a xs) (h' : if kind then SqL X.K H a ys else SqT X.K H a ys) : xs = ys := by
  cases kind with
  | true => exact I.list_inj h h'
  | false => exact I.tuple_inj h h'
/-- records at ch changed, a tuple laid at p -/
theorem Inv.turnedT {X : Cx} {pins : List (Addr × Obj)} {σ : St} {H : Hp} {s : Shared} {h' : Heap} {ch : List Addr} {p : Addr} {xs : List V} {us : List Value} {t' : Nat} (I : Inv X pins σ H s) (hf : ∀ b ∈ ch, FpOk X pins H b) (hp : s.heap.objs.size ≤ p)
    (k : ∀ b o, b ∉ ch → s.heap.get? b = some o → h'.get? b = some o) (there : ∀ b ∈ ch, ∃ o, h'.get? b = some o) (r : Vals xs us) (hx : xs.length ≤ sizeLine) (ht : IsTup h' p us.toArray) : Inv X pins σ (upd H p (.tup xs)) { s with heap := h', toks := t' } := by
  have nit : ∀ b u, H b = some u → b ∉ ch := fun b u e z => by rw [(hf b z).1] at e; cases e
  have fr : H p = none := I.hok.fresh hp
  have np : ∀ b o, s.heap.get? b = some o → b ≠ p := fun b o e z => absurd (Nat.lt_of_lt_of_le (Heap.lt_size e) (by rw [z]; exact hp)) (Nat.lt_irrefl _)
  refine I.step (g' := s.gens) (d' := s.drawn) (ch := ch) (fun b hb => ?_) (fun b o _ _ hc e _ => k b o hc e) (fun b o _ _ hc e _ => ⟨o.slots, k b o hc e⟩) (fun b o _ e n => by rw [upd_ne (np b o e)]; exact n)
    (fun b o hc e => ⟨o, k b o hc e⟩) (fun b ys e => by rw [upd_ne (ne_of_none e fr)]; exact e) (fun b o u e => by rw [upd_ne (ne_of_none e fr)]; exact e) (fun b ps e => ⟨#[], by rw [upd_ne (ne_of_none e fr), e]; simp⟩) (fun m hm => ?_) (fun b u e => ?_) I.bare
  · have q := hf b hb
    exact ⟨q.2.2.2.1, q.2.1, q.2.2.2.2.1, q.2.2.2.2.2⟩
  · obtain ⟨o, es, ep, ho, r⟩ := hm
    exact ⟨o, es, ep, k _ o (fun z => (hf _ z).2.1 rfl) ho, r⟩
  · by_cases hb : b = p
    · subst hb
      rw [upd_same] at e
      cases e
      exact ⟨hx, us, r, ht⟩
    · rw [upd_ne hb] at e
      refine (I.hok b u e).stay (fun c v hc q => k c v ?_ q) (fun c q => ?_) fun c ys q => ?_
      · rcases hc with z | z
        · rw [z]; exact nit b u e
        · exact nit c _ z
      · rw [upd_ne (ne_of_none q fr)]; exact q
      · rw [upd_ne (ne_of_none q fr)]; exact q
theorem Inv.turnedM {X : Cx} {pins : List (Addr × Obj)} {σ : St} {H : Hp} {s : Shared} {h' : Heap} {ch : List Addr} {t' : Nat} (I : Inv X pins σ H s) (hf : ∀ b ∈ ch, FpOk X pins H b) (k : ∀ b o, b ∉ ch → s.heap.get? b = some o → h'.get? b = some o) : Inv X pins σ H { s with heap := h', toks := t' } := by
  have nit : ∀ b u, H b = some u → b ∉ ch := fun b u e z => by rw [(hf b z).1] at e; cases e
  refine I.step (g' := s.gens) (d' := s.drawn) (ch := ch) (fun b hb => ?_) (fun b o _ _ hc e _ => k b o hc e) (fun b o _ _ hc e _ => ⟨o.slots, k b o hc e⟩) (fun b o _ e n => n)
    (fun b o hc e => ⟨o, k b o hc e⟩) (fun b ys e => e) (fun b o u e => e) (fun b ps e => ⟨#[], by rw [e]; simp⟩) (fun m hm => ?_) (fun b u e => ?_) I.bare
  · have q := hf b hb
    exact ⟨q.2.2.2.1, q.2.1, q.2.2.2.2.1, q.2.2.2.2.2⟩
  · obtain ⟨o, es, ep, ho, r⟩ := hm
    exact ⟨o, es, ep, k _ o (fun z => (hf _ z).2.1 rfl) ho, r⟩
  · refine (I.hok b u e).stay (fun c v hc q => k c v ?_ q) (fun c q => q) fun c ys q => q
    rcases hc with z | z
    · rw [z]; exact nit b u e
    · exact nit c _ z
def ZipSt (k1 k2 : Bool) (z TI TO i1 i2 l1 l2 : Addr) (i : Nat) (h : Heap) : Prop := IsZip h z TI TO .none ∧ IsPair h TI (.ref i1) (.ref i2) ∧ (∃ a b, IsPair h TO a b) ∧ itk k1 h i1 l1 i ∧ itk k2 h i2 l2 i
theorem turn_zip {P : Program} {w : World} {K : PySem.W.Frag} {elts : List Expr} {x1 : Nat} {pos : Pos} (k1 k2 : Bool) (z TI TO i1 i2 l1 l2 : Addr) (A : ZipApart z TI TO i1 i2 l1 l2) :
    Turn P w K (.Tuple elts x1 pos) (Itz K k1 k2 l1 l2) [z, TI, TO, i1, i2] z (ZipSt k1 k2 z TI TO i1 i2 l1 l2) where
  mem := by simp
  obj := fun i h st b hb => by
    obtain ⟨hz, hTI, ⟨a, c, hTO⟩, h1, h2⟩ := st
    simp only [List.mem_cons, List.not_mem_nil, or_false] at hb
    rcases hb with rfl | rfl | rfl | rfl | rfl
    · exact ⟨_, hz, fun v q => by cases (show Data.fields _ = Data.cell v from q)⟩
    · exact ⟨_, hTI, fun v q => by cases (show Data.seq _ _ = Data.cell v from q)⟩
    · exact ⟨_, hTO, fun v q => by cases (show Data.seq _ _ = Data.cell v from q)⟩
    · exact h1.obj
    · exact h2.obj
  keep := fun i h h' st k => by
    obtain ⟨hz, hTI, ⟨a, c, hTO⟩, h1, h2⟩ := st
    exact ⟨k z (by simp) _ hz, k TI (by simp) _ hTI, ⟨a, c, k TO (by simp) _ hTO⟩, h1.kept fun o e => k i1 (by simp) o e, h2.kept fun o e => k i2 (by simp) o e⟩
  item := by
    intro X hP hw hK hc i pins s σ H E I hf st hg
    subst hP hw hK
    obtain ⟨xs, ys, x, y, hx, hy, ex, ey⟩ := hg
    obtain ⟨hz, hTI, ⟨a, c, hTO⟩, h1, h2⟩ := st
    obtain ⟨its, r1, q1⟩ := I.sqk hx
    obtain ⟨its2, r2, q2⟩ := I.sqk hy
    obtain ⟨u, eu, ru⟩ := r1.get ex
    obtain ⟨v, ev, rv⟩ := r2.get ey
    have hT : s.TypeIs (.ref z) "zip" := ⟨_, hz, rfl⟩
    unfold pyNext
    have nx := F.slot_zip_next
    refine wpAny_bind (wpAny_attempt (wpAny_callSpecial?_slot (name := Str.ofString "__next__") hT nx (wpAny_call_entry nx hT F.entry_zip_next
      (zipx_item A hz hTI hTO (h1.at q1) (h2.at q2) (x := u) (y := v) (by simpa using eu) (by simpa using ev) fun h' z' to' a1 a2 t' sz kp => wpAny_pure ?_) (F.args_zip_next_1 _))))
    refine ⟨.ref s.heap.objs.size, rfl, wpAny_letOwnedTupleGo_zip z' fun h2' z2 sb => ?_⟩
    have ltT : ∀ b o, s.heap.get? b = some o → b ≠ s.heap.objs.size := fun b o e => Nat.ne_of_lt (Heap.lt_size e)
    have kp2 : ∀ b o, b ∉ [z, TI, TO, i1, i2] → s.heap.get? b = some o → h2'.get? b = some o := fun b o hb e => by
      simp only [List.mem_cons, List.not_mem_nil, or_false, not_or] at hb
      exact sb.extBut b o hb.1 (kp b o hb.1 hb.2.2.1 hb.2.2.2.1 hb.2.2.2.2 e)
    have zT : s.heap.objs.size ≠ z := fun q => ltT z _ hz q.symm
    have tT : IsPair h2' s.heap.objs.size u v := sb.extBut _ _ zT t'
    have upz : ∀ b o, b ≠ z → h'.get? b = some o → h2'.get? b = some o := fun b o hb e => sb.extBut b o hb e
    have q1' : sqk k1 h' l1 its.toArray := by
      cases k1 with
      | true => obtain ⟨o, e, r⟩ := q1; exact ⟨o, kp l1 o A.l1z A.l1TO A.l1i1 A.l1i2 e, r⟩
      | false => obtain ⟨o, e, r⟩ := q1; exact ⟨o, kp l1 o A.l1z A.l1TO A.l1i1 A.l1i2 e, r⟩
    have q2' : sqk k2 h' l2 its2.toArray := by
      cases k2 with
      | true => obtain ⟨o, e, r⟩ := q2; exact ⟨o, kp l2 o A.l2z A.l2TO A.l2i1 A.l2i2 e, r⟩
      | false => obtain ⟨o, e, r⟩ := q2; exact ⟨o, kp l2 o A.l2z A.l2TO A.l2i1 A.l2i2 e, r⟩
    have st' : ZipSt k1 k2 z TI TO i1 i2 l1 l2 (i + 1) h2' :=
      ⟨z2, upz _ _ A.TIz (kp _ _ A.TIz A.TITO A.TIi1 A.TIi2 hTI), ⟨u, v, upz _ _ A.TOz to'⟩, (itk.of a1 q1').kept fun o e => upz _ o A.i1z e, (itk.of a2 q2').kept fun o e => upz _ o A.i2z e⟩
    have fT : H s.heap.objs.size = none := I.fresh
    refine ⟨.ref s.heap.objs.size, upd H s.heap.objs.size (.tup [x, y]), I.turnedT (t' := s.toks) (us := [u, v]) hf (Nat.le_refl _) kp2 (fun b hb => ?_) (.cons ru (.cons rv .nil)) (by show 2 ≤ sizeLine; decide) ⟨_, tT, rfl, _, rfl⟩, rfl, ⟨_, fT, rfl, fun xs' ys' hx' hy' => ?_⟩, st', fun b hb => ?_⟩
    · obtain ⟨z3, ti3, ⟨a3, b3, to3⟩, i13, i23⟩ := st'
      simp only [List.mem_cons, List.not_mem_nil, or_false] at hb
      rcases hb with rfl | rfl | rfl | rfl | rfl
      · exact ⟨_, z3⟩
      · exact ⟨_, ti3⟩
      · exact ⟨_, to3⟩
      · obtain ⟨o, e, _⟩ := i13.obj; exact ⟨o, e⟩
      · obtain ⟨o, e, _⟩ := i23.obj; exact ⟨o, e⟩
    · have e1 := I.sq_inj hx' hx
      have e2 := I.sq_inj hy' hy
      subst e1 e2
      exact ⟨x, y, ex, ey, rfl⟩
    · obtain ⟨o, e, _⟩ : ∃ o, s.heap.get? b = some o ∧ True := by
        simp only [List.mem_cons, List.not_mem_nil, or_false] at hb
        rcases hb with rfl | rfl | rfl | rfl | rfl
        · exact ⟨_, hz, trivial⟩
        · exact ⟨_, hTI, trivial⟩
        · exact ⟨_, hTO, trivial⟩
        · obtain ⟨o, e, _⟩ := h1.obj; exact ⟨o, e, trivial⟩
        · obtain ⟨o, e, _⟩ := h2.obj; exact ⟨o, e, trivial⟩
      rw [upd_ne (ltT b o e)]
      exact (hf b hb).1
  done := by
    intro X hP hw hK hc i pins s σ H E I hf st hg
    subst hP hw hK
    obtain ⟨xs, ys, hx, hy, hend⟩ := hg
    obtain ⟨hz, hTI, ⟨a, c, hTO⟩, h1, h2⟩ := st
    obtain ⟨its, r1, q1⟩ := I.sqk hx
    obtain ⟨its2, r2, q2⟩ := I.sqk hy
    have hT : s.TypeIs (.ref z) "zip" := ⟨_, hz, rfl⟩
    have l1 := r1.length
    have l2 := r2.length
    unfold pyNext
    have nx := F.slot_zip_next
    refine wpAny_bind (wpAny_attempt (wpAny_callSpecial?_slot (name := Str.ofString "__next__") hT nx (wpAny_call_entry nx hT F.entry_zip_next
      (zipx_end (I.ok.hd hc) A hz hTI hTO (h1.at q1) (h2.at q2) ?_ fun h' e kp he => ?_) (F.args_zip_next_1 _))))
    · rcases hend with z | z
      · exact .inl (by simp; omega)
      · exact .inr (by simp; omega)
    · obtain ⟨o, ho, hcl⟩ := he
      refine wpAny_bind (wpAny_isInstance (T := "StopIteration") (b := true) ⟨o, ho, hcl⟩ isSubtype_stop ?_)
      refine wpAny_pure ⟨rfl, I.turnedM (t' := s.toks) hf fun b o hb e => ?_⟩
      simp only [List.mem_cons, List.not_mem_nil, or_false, not_or] at hb
      exact kp b o hb.1 hb.2.2.1 hb.2.2.2.1 hb.2.2.2.2 e
  self := fun _ _ _ _ _ st h => wpAny_pyIter_zip st.1 h
def iterObj (kind : Bool) (l : Addr) : Obj := { cls := .type (if kind then "list_iterator" else "tuple_iterator"), data := .fields #[.ref l, .int 0 0] }
theorem pyIter_k {prog : Program} {w : World} {A : Around} {E : Value → Shared → Prop} {s : Shared} {kind : Bool} {l : Addr} {xs : Array Value} {Q : Value → Shared → Prop} (h : sqk kind s.heap l xs) (hQ : Q (.ref s.heap.objs.size) { s with heap := s.heap.push (iterObj kind l) }) : wpAny (model prog w) A (pyIter (.ref l)) Q E s := by
  cases kind with
  | true => exact wpAny_pyIter_list h hQ
  | false => exact wpAny_pyIter_tuple h hQ
theorem sqk.push {kind : Bool} {h : Heap} {l : Addr} {xs : Array Value} (a : sqk kind h l xs) (o : Obj) : sqk kind (h.push o) l xs := by
  cases kind with
  | true => exact Heap.IsList.push a o
  | false => exact Heap.IsTuple.push a o
theorem itk.new {kind : Bool} {h : Heap} {l it : Addr} (e : h.get? it = some (iterObj kind l)) : itk kind h it l 0 := by
  cases kind with
  | true => exact ⟨_, e, rfl, rfl⟩
  | false => exact ⟨_, e, rfl, rfl⟩
theorem zip_new (k1 k2 : Bool) (l1 l2 : Addr) (xs ys : Array Value) :
    Meets (Builtin.«zip.__new__» ⟨[.type "zip", .ref l1, .ref l2], []⟩) (fun _ R s => sqk k1 s.heap l1 xs ∧ sqk k2 s.heap l2 ys ∧
      R (.ok (.ret (.ref ((((s.heap.push (iterObj k1 l1)).push (iterObj k2 l2)).push { cls := .type "tuple", data := .seq #[.ref s.heap.objs.size, .ref (s.heap.push (iterObj k1 l1)).objs.size] }).push { cls := .type "tuple", data := .seq #[.none, .none] }).objs.size)))
        { s with heap := ((((s.heap.push (iterObj k1 l1)).push (iterObj k2 l2)).push { cls := .type "tuple", data := .seq #[.ref s.heap.objs.size, .ref (s.heap.push (iterObj k1 l1)).objs.size] }).push { cls := .type "tuple", data := .seq #[.none, .none] }).push { cls := .type "zip", data := .fields #[.none, .bool false, .bool false, .ref ((s.heap.push (iterObj k1 l1)).push (iterObj k2 l2)).objs.size, .ref (((s.heap.push (iterObj k1 l1)).push (iterObj k2 l2)).push { cls := .type "tuple", data := .seq #[.ref s.heap.objs.size, .ref (s.heap.push (iterObj k1 l1)).objs.size] }).objs.size] } }) :=
  .of_wp fun prog w A R s h => by
    obtain ⟨hp, g, d, tk, os⟩ := s
    obtain ⟨hl1, hl2, h⟩ := h
    have hsub := sub_zip
    have hL1 : sqk k1 (Shared.heap ⟨hp, g, d, tk, os⟩) l1 xs := hl1
    have hL2 : sqk k2 (Shared.heap ⟨hp.push (iterObj k1 l1), g, d, tk, os⟩) l2 ys := hl2.push _
    wp_walk using pyIter_k hL1, pyIter_k hL2
    exact ⟨_, rfl, h⟩
theorem call_zipk {prog : Program} {w : World} {A : Around} {E : Value → Shared → Prop} {s : Shared} {k1 k2 : Bool} {l1 l2 : Addr} {xs ys : Array Value} {Q : Value → Shared → Prop} (hl1 : sqk k1 s.heap l1 xs) (hl2 : sqk k2 s.heap l2 ys)
    (h : ∀ h', ZipSt k1 k2 (s.heap.objs.size + 4) (s.heap.objs.size + 2) (s.heap.objs.size + 3) s.heap.objs.size (s.heap.objs.size + 1) l1 l2 0 h' → (∀ c o, s.heap.get? c = some o → h'.get? c = some o) → Q (.ref (s.heap.objs.size + 4)) { s with heap := h' }) :
    wpAny (model prog w) A (call (.type "zip") [.ref l1, .ref l2]) Q E s := by
  refine callType_new F.called_zip (by decide) (F.typeCall_zip_2 _ _) (F.newCall_zip_2 _ _) (fun obj => F.args_object_init_3 obj _ _) F.entry_zip_new (zip_new k1 k2 l1 l2 xs ys) ⟨hl1, hl2, ?_⟩
  generalize hh1 : s.heap.push (iterObj k1 l1) = h1
  have s1 : h1.objs.size = s.heap.objs.size + 1 := by rw [← hh1, Heap.size_push]
  generalize hh2 : h1.push (iterObj k2 l2) = h2
  have s2 : h2.objs.size = s.heap.objs.size + 2 := by rw [← hh2, Heap.size_push, s1]
  generalize hh3 : h2.push { cls := .type "tuple", data := .seq #[.ref s.heap.objs.size, .ref h1.objs.size] } = h3
  have s3 : h3.objs.size = s.heap.objs.size + 3 := by rw [← hh3, Heap.size_push, s2]
  generalize hh4 : h3.push { cls := .type "tuple", data := .seq #[.none, .none] } = h4
  have s4 : h4.objs.size = s.heap.objs.size + 4 := by rw [← hh4, Heap.size_push, s3]
  have g1 : h1.get? s.heap.objs.size = some (iterObj k1 l1) := by rw [← hh1]; exact Heap.get?_push_size _ (by rfl)
  have g2 : h2.get? h1.objs.size = some (iterObj k2 l2) := by rw [← hh2]; exact Heap.get?_push_size _ (by rfl)
  have g3 : IsPair h3 h2.objs.size (.ref s.heap.objs.size) (.ref h1.objs.size) := by rw [← hh3]; exact Heap.get?_push_size _ rfl
  have g4 : IsPair h4 h3.objs.size .none .none := by rw [← hh4]; exact Heap.get?_push_size _ rfl
  have g5 := Heap.get?_push_size h4 (o := { cls := .type "zip", data := .fields #[.none, .bool false, .bool false, .ref h2.objs.size, .ref h3.objs.size] }) rfl
  have u12 : ∀ c o, h1.get? c = some o → h2.get? c = some o := fun c o e => by rw [← hh2]; exact Heap.get?_push_of_some _ e
  have u23 : ∀ c o, h2.get? c = some o → h3.get? c = some o := fun c o e => by rw [← hh3]; exact Heap.get?_push_of_some _ e
  have u34 : ∀ c o, h3.get? c = some o → h4.get? c = some o := fun c o e => by rw [← hh4]; exact Heap.get?_push_of_some _ e
  have u01 : ∀ c o, s.heap.get? c = some o → h1.get? c = some o := fun c o e => by rw [← hh1]; exact Heap.get?_push_of_some _ e
  rw [s1] at g2 g3
  rw [s2] at g3 g5
  rw [s3] at g4 g5
  rw [s4] at g5
  rw [s2, s3, s4]
  refine ⟨⟨_, g5, rfl⟩, h _ ⟨g5, Heap.get?_push_of_some _ (u34 _ _ g3), ⟨_, _, Heap.get?_push_of_some _ g4⟩, itk.new (Heap.get?_push_of_some _ (u34 _ _ (u23 _ _ (u12 _ _ g1)))), itk.new (Heap.get?_push_of_some _ (u34 _ _ (u23 _ _ g2)))⟩ fun c o e => Heap.get?_push_of_some _ (u34 _ _ (u23 _ _ (u12 _ _ (u01 _ _ e))))⟩
section
variable {X : Cx}
def iZip (K : PySem.W.Frag) (k1 k2 : Bool) (ta : TA) : TI := fun σ H R => ta σ H fun vs H1 => ∃ p q xs ys, vs = [.ref p, .ref q] ∧ (if k1 then SqL K H1 p xs else SqT K H1 p xs) ∧ (if k2 then SqL K H1 q ys else SqT K H1 q ys) ∧ R (Itz K k1 k2 p q) H1
theorem pi_zip {a b : Expr} {ta : TA} {p pos pos' : Pos} {elts : List Expr} {x1 : Nat} (k1 k2 : Bool) (hg : Gl X "zip") (hm : X.mg "zip" = none) (hbt : bootBuiltins "zip" = some (.type "zip")) (ha : PA X [a, b] ta) (hs : starEach [a, b] X.env = [(false, eval a X.env), (false, eval b X.env)] := by rfl) (hs2 : starEach [b] X.env = [(false, eval b X.env)] := by rfl) :
    PI X (.Tuple elts x1 pos') (.Call (.Name "zip" p) [a, b] [] pos) (iZip X.K k1 k2 ta) := by
  intro pins s σ H R I h
  refine Call_ (ld_blt I hg hm hbt (PyProof.Rows.callWith_type1 (thn (ha pos pins s σ H _ I h) fun us s1 ⟨vs, H1, I1, r1, q1⟩ => ?_) (by rw [hs, hs2]) (by rw [hs2]; rfl)))
  obtain ⟨l1, l2, xs, ys, e, hx, hy, q⟩ := q1
  subst e
  cases r1 with
  | cons r rr =>
    cases rr with
    | cons r' rr =>
      cases rr
      cases r
      cases r'
      obtain ⟨its, v1, w1⟩ := I1.sqk hx
      obtain ⟨its2, v2, w2⟩ := I1.sqk hy
      have lt1 : l1 < s1.heap.objs.size := by
        cases k1 with
        | true => obtain ⟨o, e, _⟩ := w1; exact Heap.lt_size e
        | false => obtain ⟨o, e, _⟩ := w1; exact Heap.lt_size e
      have lt2 : l2 < s1.heap.objs.size := by
        cases k2 with
        | true => obtain ⟨o, e, _⟩ := w2; exact Heap.lt_size e
        | false => obtain ⟨o, e, _⟩ := w2; exact Heap.lt_size e
      refine call_zipk w1 w2 fun h' st kp => ?_
      refine wpAny_pyIter_zip st.1 ?_
      have I2 : Inv X pins σ H1 { s1 with heap := h' } := I1.kept (t' := s1.toks) kp
      generalize hn : s1.heap.objs.size = n at *
      have lt1' : @LT.lt Nat _ l1 n := lt1
      have lt2' : @LT.lt Nat _ l2 n := lt2
      have ap : ZipApart (n + 4) (n + 2) (n + 3) n (n + 1) l1 l2 := by constructor <;> (intro z; have z' : @Eq Nat _ _ := z; omega)
      refine ⟨n + 4, _, _, _, H1, rfl, I2, turn_zip k1 k2 (n + 4) (n + 2) (n + 3) n (n + 1) l1 l2 ap, st, fun b hb => ?_, q⟩
      have hb' : n ≤ b := by
        simp only [List.mem_cons, List.not_mem_nil, or_false] at hb
        rcases hb with rfl | rfl | rfl | rfl | rfl <;> first | exact Nat.le_refl _ | exact Nat.le_add_right _ _
      exact I1.fpOk (by rw [hn]; exact hb') (I1.hok.fresh (by rw [hn]; exact hb'))
variable {a b c e : Expr} {es : List Expr} {pos : Pos} {ga gb : GE}
/-- zip of two tuples -/
def gZip (ga gb : GE) : GF := fun δ Q => ga δ fun d => gb δ fun d2 => match d, d2 with
  | .tup xs, .tup ys => Q (List.zipWith (fun x y => D.tup [x, y]) xs ys)
  | _, _ => False
theorem walk_zip {K : PySem.W.Frag} {C1 : Hp} {p q : Addr} {xs ys : List V} {ds es : List D} (hx : SqT K C1 p xs) (hy : SqT K C1 q ys) (hd : Dens K C1 xs ds) (he : Dens K C1 ys es) : Walk K (Itz K false false p q) (List.zipWith (fun x y => D.tup [x, y]) ds es) C1 := by
  intro C2 H2 c1 c2 i
  have hx2 := c2.seqT (c1.seqT hx)
  have hy2 := c2.seqT (c1.seqT hy)
  refine ⟨fun d e => ?_, fun hl => ⟨xs, ys, hx2, hy2, ?_⟩⟩
  · rw [List.getElem?_zipWith] at e
    cases e1 : ds[i]? with
    | none => rw [e1] at e; cases e
    | some d1 =>
      cases e2 : es[i]? with
      | none => rw [e1, e2] at e; cases e
      | some d2 =>
        rw [e1, e2] at e
        cases e
        obtain ⟨v1, ev1, n1⟩ := hd.get e1
        obtain ⟨v2, ev2, n2⟩ := he.get e2
        refine ⟨⟨xs, ys, v1, v2, hx2, hy2, ev1, ev2⟩, fun x H3 y => ?_⟩
        obtain ⟨t, ht, rfl, k⟩ := y
        obtain ⟨u, v, eu, ev, rfl⟩ := k xs ys hx2 hy2
        rw [ev1] at eu
        cases eu
        rw [ev2] at ev
        cases ev
        refine ⟨upd C2 t (.tup [v1, v2]), Ext.new c2 ht, den_tup.mpr ⟨t, _, rfl, SqT.of upd_same, ?_⟩⟩
        have up := Same.upd (o := .tup [v1, v2]) (c2.free ht)
        exact .cons ((n1.mono c1).mono up) (.cons ((n2.mono c1).mono up) .nil)
  · rw [List.length_zipWith] at hl
    rw [hd.length, he.length]
    omega
theorem di_zip {p pos' : Pos} {elts : List Expr} {x1 : Nat} (hg : Gl X "zip") (hm : X.mg "zip" = none) (hbt : bootBuiltins "zip" = some (.type "zip")) (ha : DE X a ga) (hb : DE X b gb) (hs : starEach [a, b] X.env = [(false, eval a X.env), (false, eval b X.env)] := by rfl) (hs2 : starEach [b] X.env = [(false, eval b X.env)] := by rfl) :
    DI X (.Tuple elts x1 pos') (.Call (.Name "zip" p) [a, b] [] pos) (gZip ga gb) := by
  obtain ⟨t1, p1, h1⟩ := ha
  obtain ⟨t2, p2, h2⟩ := hb
  refine ⟨_, pi_zip false false hg hm hbt (pa_cons p1 (pa_cons p2 pa_nil hs2) (by rw [hs, hs2])) hs hs2, fun C0 H0 δ σ C H Q R rp g k => h1 C0 H0 δ σ C H _ _ rp g fun d v C1 H1 q e1 n1 => h2 C0 H0 δ σ C1 H1 _ _ (rp.grow e1) q fun d2 v2 C2 H2 q2 e2 n2 => ?_⟩
  have n1' := n1.mono e2.cc
  cases d with
  | tup ds =>
    cases d2 with
    | tup es =>
      obtain ⟨p, xs, rfl, hx, hd⟩ := den_tup.mp n1'
      obtain ⟨p', ys, rfl, hy, he⟩ := den_tup.mp n2
      exact ⟨p, p', xs, ys, rfl, e2.ch.seqT hx, e2.ch.seqT hy, k _ _ C2 H2 q2 (e1.trans e2) (walk_zip hx hy hd he)⟩
    | _ => exact q2.elim
  | _ => exact q2.elim
end
end L2
namespace L2
open PySem PySem.Spec PyProof.Rows
/-! ### a def by a relation over data -/
def gOptP (o : Option (D → Prop)) (Q : D → Prop) : Prop := match o with
  | some p => ∀ d, p d → Q d
  | none => False
def spR (K : PySem.W.Frag) (F : List D → Option (D → Prop)) : Sp := fun vs H Q _ => ∃ C ds p, Same C H ∧ Dens K C vs ds ∧ F ds = some p ∧ ∀ d v C' H', p d → Ext C H C' H' → Den K C' v d → Q v H'
def DFnR (P : Program) (w : World) (K : PySem.W.Frag) (mg : Str → Option Value) (base : Heap) (k : Nat) (x : Str) (F : List D → Option (D → Prop)) : Prop :=
  ∃ f fd ps, FnOk P w K mg base CX0 k f fd ps (spR K F) ∧ mg x = some (.ref f) ∧ PySem.W.keepIn K (.ref f) = true ∧ Binds K fd ps []
section
variable {X : Cx} {a b c e : Expr} {es : List Expr} {pos : Pos} {ga gb gc gd : GE} {gf : GF} {ta tb : GT}
def gCallR (F : List D → Option (D → Prop)) (gf : GF) : GE := fun δ Q => gf δ fun ds => gOptP (F ds) Q
theorem de_callR {F : List D → Option (D → Prop)} {k : Nat} {x : Str} {p : Pos} (h : DFnR X.prog X.w X.K X.mg X.base k x F) (hr : Room k X.A) (hg : Gl X x) (ha : DA X (e :: es) gf) (hdb : (x == ("__debug__" : Str)) = false := by decide)
    (he : starEach (e :: es) X.env = (false, eval e X.env) :: starEach es X.env := by rfl) (hpl : (backTo pos (starEach es X.env)).any (·.1) = false := by rfl) : DE X (.Call (.Name x p) (e :: es) [] pos) (gCallR F gf) := by
  obtain ⟨f, fd, ps, Fk, hm, hk, hb⟩ := h
  obtain ⟨t, pa, h⟩ := ha
  refine ⟨_, pe_call Fk hr hg hm hk hb .nil pass0 pa hdb he hpl, fun C0 H0 δ σ C H Q R rp g k => h C0 H0 δ σ C H _ _ rp g fun ds vs C1 H1 q e1 n1 => ?_⟩
  cases e2 : F ds with
  | none => rw [e2] at q; exact q.elim
  | some p =>
    rw [e2] at q
    exact ⟨C1, ds, p, e1.ch, by rw [List.append_nil]; exact n1, e2, fun d v C' H' hp ex nv => k d v C' H' (q d hp) (e1.trans ex) nv⟩
theorem de_callG {x : Str} {f : Value} {g : List D → (D → Prop) → Prop} {pos' : Pos} (hc : DCall X f g) (ha : DA X (e :: es) gf)
    (hp : ∀ {t : TA} {r : List V → Hp → VK → Prop}, CallR X f r → PA X (e :: es) t → PE X (.Call (.Name x pos') (e :: es) [] pos) (tCB r t)) : DE X (.Call (.Name x pos') (e :: es) [] pos) (gCallB g gf) := by
  obtain ⟨r, pr, hr⟩ := hc
  obtain ⟨t, p, h⟩ := ha
  refine ⟨_, hp pr p, fun C0 H0 δ σ C H Q R rp g k => h C0 H0 δ σ C H _ _ rp g fun ds vs C1 H1 q e1 n1 => ?_⟩
  exact hr vs ds C1 H1 Q R e1.ch n1 q fun d v C2 H2 q2 e2 n2 => k d v C2 H2 q2 (e1.trans e2) n2
theorem de_globE {x : Str} {i : Int} (hg : Gl X x) (h : ∃ t, X.mg x = some (.int i t)) (hd : (x == ("__debug__" : Str)) = false := by decide) : DE X (.Name x pos) (gC (.int i)) := by
  obtain ⟨t, h⟩ := h
  exact de_globI hg h hd
theorem compOk_of {scope sc : Scope} {N Nc : List Str} {fr : List (Option Nat)} (h1 : X.env.scope = sc) (h2 : X.N = N) (h : compOk sc scope N Nc fr = true) : compOk X.env.scope scope X.N Nc fr = true := by rw [h1, h2]; exact h
end
theorem fnR {P : Program} {w : World} {K : PySem.W.Frag} {mg : Str → Option Value} {base : Heap} {x qual : Str} {st : Stmt} {f : Addr} {fd : FuncData} {N ps : List Str} {k : Nat} {F : List D → Option (D → Prop)} {g : GS} (Fn : Fun K x qual st f fd) (S : FnScope N ps (defScope st))
    (hl : ∀ ds p, F ds = some p → ds.length = ps.length)
    (hb : ∀ (cdv : Value) (A : Around) (outer : List Env) (s : Shared) (H : Hp) (E : XK), Room k (A.deeper (envOfC qual (defScope st) s.heap.objs.size f cdv)) → DSs (cxOf CX0 P w K mg base N qual (defScope st) f cdv A outer s H E).nox (defBody st) g)
    (hv : ∀ ds p, F ds = some p → g { nx := fun _ => p .non, rt := p } (dstart N ds)) (hm : mg x = some (.ref f)) (bi : Binds K fd ps []) : DFnR P w K mg base (k + 1) x F := by
  refine ⟨f, fd, ps, Fn.ok S (fun vs H Q E h => ?_) (fun cdv A outer s H vs Q E hr h => ?_), hm, Fn.kp, bi⟩
  · obtain ⟨C, ds, p, _, n, e, _⟩ := h
    rw [n.length]
    exact hl ds p e
  · obtain ⟨C, ds, pd, ch, n, e, q⟩ := h
    obtain ⟨t, p, h⟩ := hb cdv A outer s H E hr
    refine ⟨t, p, h C H (dstart N ds) (start N vs) C H _ _ (rep_start ch n) (hv ds pd e) ⟨fun δ σ C' H' rp z => ?_, fun r v C' H' ex nv z => ?_, fun _ _ _ _ _ z => z.elim, fun _ _ _ _ _ z => z.elim⟩⟩
    · exact q .non _ C' H' z rp.ext (den_non.mpr rfl)
    · exact q r v C' H' z ex nv
theorem bt_len : bootBuiltins "len" = some (.builtin "len") := by decide +kernel
theorem bt_abs : bootBuiltins "abs" = some (.builtin "abs") := by decide +kernel
theorem bt_all : bootBuiltins "all" = some (.builtin "all") := by decide +kernel
theorem bt_any : bootBuiltins "any" = some (.builtin "any") := by decide +kernel
theorem bt_sorted : bootBuiltins "sorted" = some (.builtin "sorted") := by decide +kernel
theorem bt_isinstance : bootBuiltins "isinstance" = some (.builtin "isinstance") := by decide +kernel
theorem bt_tuple : bootBuiltins "tuple" = some (.type "tuple") := by decide +kernel
theorem bt_list : bootBuiltins "list" = some (.type "list") := by decide +kernel
theorem bt_int : bootBuiltins "int" = some (.type "int") := by decide +kernel
theorem bt_bool : bootBuiltins "bool" = some (.type "bool") := by decide +kernel
theorem bt_str : bootBuiltins "str" = some (.type "str") := by decide +kernel
theorem bt_zip : bootBuiltins "zip" = some (.type "zip") := by decide +kernel
theorem bt_range : bootBuiltins "range" = some (.type "range") := by decide +kernel
end L2
namespace L2
open PySem PySem.Spec PyProof.Rows
/-! ### a def as it stands behind the top, its name, its binding -/
def FunAt (K : PySem.W.Frag) (mg : Str → Option Value) (x : Str) (st : Stmt) (ps : List Str) : Prop := ∃ f fd, Fun K x x st f fd ∧ mg x = some (.ref f) ∧ Binds K fd ps []
theorem funAt_of {K : PySem.W.Frag} {h : Heap} {mg : Str → Option Value} {x : Str} {st : Stmt} {ps : List Str} {f : Addr} {od an : Option Addr} {sl : Array (Option Value)} {oc kV dc pm cd ct : Value} (X : K.In h) (G : h.Ns mainGlobals mg)
    (a : PySem.W.nsIn K mainGlobals x = some (some (.ref f))) (l : K.lookup f = some ⟨oc, od, .func (PySem.W.fnOf x x (defArgs st) (defBody st) (defScope st) .none kV dc pm an cd ct), sl⟩) (c : PySem.W.codeIn K cd x = true) (k : PySem.W.keepIn K (.ref f) = true)
    (hb : ∀ (kV doc pm : Value) (an : Option Addr) (cdv ct : Value) (us : List Value), us.length = ps.length → bindArgs (PySem.W.fnOf x x (defArgs st) (defBody st) (defScope st) .none kV doc pm an cdv ct) ⟨us, []⟩ = pure (ps.zip us)) : FunAt K mg x st ps :=
  ⟨f, _, fun_mk (st := st) l c k, PySem.W.mg_of X G a, (fun_mk (st := st) l c k).binds hb⟩
theorem fnR0 {P : Program} {w : World} {K : PySem.W.Frag} {mg : Str → Option Value} {base : Heap} {x qual : Str} {st : Stmt} {f : Addr} {fd : FuncData} {N ps : List Str} {k : Nat} {F : List D → Option (D → Prop)} {g : GS} (Fn : Fun K x qual st f fd) (S : FnScope N ps (defScope st))
    (hl : ∀ ds p, F ds = some p → ds.length = ps.length)
    (hb : ∀ (cdv : Value) (A : Around) (outer : List Env) (s : Shared) (H : Hp) (E : XK), Room k (A.deeper (envOfC qual (defScope st) s.heap.objs.size f cdv)) → DSs (cxOf CX0 P w K mg base N qual (defScope st) f cdv A outer s H E).nox (defBody st) g)
    (hv : ∀ ds p, F ds = some p → g { nx := fun _ => p .non, rt := p } (dstart N ds)) : FnOk P w K mg base CX0 (k + 1) f fd ps (spR K F) := by
  refine Fn.ok S (fun vs H Q E h => ?_) (fun cdv A outer s H vs Q E hr h => ?_)
  · obtain ⟨C, ds, p, _, n, e, _⟩ := h
    rw [n.length]
    exact hl ds p e
  · obtain ⟨C, ds, pd, ch, n, e, q⟩ := h
    obtain ⟨t, p, h⟩ := hb cdv A outer s H E hr
    refine ⟨t, p, h C H (dstart N ds) (start N vs) C H _ _ (rep_start ch n) (hv ds pd e) ⟨fun δ σ C' H' rp z => ?_, fun r v C' H' ex nv z => ?_, fun _ _ _ _ _ z => z.elim, fun _ _ _ _ _ z => z.elim⟩⟩
    · exact q .non _ C' H' z rp.ext (den_non.mpr rfl)
    · exact q r v C' H' z ex nv
end L2
namespace L2
open PySem PySem.Spec PyProof.Rows
/-! # What the defs of the text are worth, over data -/
def isWhole : D → Bool
  | .int _ => true
  | _ => false
def isBetween (d : D) (a b : Int) : Bool := match d with
  | .int i => decide (a ≤ i) && decide (i ≤ b)
  | _ => false
def isTupleOf (d : D) (a b : Int) : Bool := match d with
  | .tup ds => decide (a ≤ (ds.length : Int)) && decide ((ds.length : Int) ≤ b)
  | _ => false
def dInts (ns : List Int) : D := .tup (ns.map D.int)
def rowStep (rows : List (List Int)) (m : Int) : List (List Int) := rows.flatMap fun r => (List.range m.toNat).map fun (k : Nat) => r ++ [(k : Int)]
def rowsL (ns : List Int) : List (List Int) := ns.foldl rowStep [[]]
def okDeeds (ns : List Int) : Bool := decide (ns.length ≤ 3) && ns.all fun n => decide (1 ≤ n) && decide (n ≤ 3)
def isDeeds : D → Bool
  | .tup ds => decide (2 ≤ ds.length) && decide (ds.length ≤ 3) && ds.all fun d => isBetween d 1 3
  | _ => false
def isPayRow (d : D) (h : Nat) : Bool := match d with
  | .tup ds => decide (ds.length = h) && ds.all fun d => isBetween d (-9) 9
  | _ => false
def isPay (d : D) (ns : List Int) : Bool := match d with
  | .tup ds => decide (ds.length = (rowsL ns).length) && ds.all fun r => isPayRow r ns.length
  | _ => false
def isMeeting : D → Bool
  | .tup [a, b] => isDeeds a && match a with
    | .tup es => match intsD es with
      | some ns => isPay b ns
      | none => false
    | _ => false
  | _ => false
def isRow (d : D) (ns : List Int) : Bool := match d with
  | .tup ds => decide (ds.length = ns.length) && (List.zipWith (fun x n => isBetween x 0 (n - 1)) ds ns).all id
  | _ => false
def isNexts (d : D) (ns : List Int) (st : Int) : Bool := match d with
  | .tup ds => decide (ds.length = (rowsL ns).length) && ds.all fun x => isBetween x 0 (st - 1)
  | _ => false
def isState (d : D) (ns : List Int) (st : Int) : Bool := match d with
  | .tup [a, b] => isRow a ns && isNexts b ns st
  | _ => false
def isPlan (d : D) (ns : List Int) : Bool := match d with
  | .tup ds => decide (1 ≤ ds.length) && decide (ds.length ≤ 8) && ds.all fun s => isState s ns ds.length
  | _ => false
def isFraction : D → Bool
  | .tup [.int a, .int b] => decide (1 ≤ b) && decide (Int.gcd a b = 1)
  | _ => false
def isPatience : D → Bool
  | .tup [.int a, .int b] => isFraction (.tup [.int a, .int b]) && (decide (0 < a) && (decide (a < b) && decide (b ≤ 30)))
  | _ => false
def onDeeds (ds : List D) (f : List Int → D) : Option D := match intsD ds with
  | some ns => if okDeeds ns = true then some (f ns) else none
  | none => none
def F_is_whole : List D → Option D
  | [d] => some (.bl (isWhole d))
  | _ => none
def F_common_divisor : List D → Option D
  | [.int a, .int b] => some (.int (Int.gcd a b))
  | _ => none
def F_is_fraction : List D → Option D
  | [d] => some (.bl (isFraction d))
  | _ => none
def F_is_patience : List D → Option D
  | [d] => some (.bl (isPatience d))
  | _ => none
def F_is_tuple_of : List D → Option D
  | [d, .int a, .int b] => some (.bl (isTupleOf d a b))
  | _ => none
def F_is_between : List D → Option D
  | [d, .int a, .int b] => some (.bl (isBetween d a b))
  | _ => none
def F_are_between : List D → Option D
  | [.tup ds, .int a, .int b] => if ds.length ≤ 1000 then some (.bl (ds.all fun d => isBetween d a b)) else none
  | _ => none
def F_rows_of : List D → Option D
  | [.tup ds] => onDeeds ds fun ns => .tup ((rowsL ns).map dInts)
  | _ => none
def F_all_rows : List D → Option D
  | [.tup [.tup ds, _]] => onDeeds ds fun ns => .tup ((rowsL ns).map dInts)
  | _ => none
def F__law_rows : List D → Option D
  | [.tup ds] => onDeeds ds fun ns => .lst ((rowsL ns).map dInts)
  | _ => none
def F_is_deeds : List D → Option D
  | [d] => some (.bl (isDeeds d))
  | _ => none
def F_is_pay_of_row : List D → Option D
  | [d, .int h] => if 0 ≤ h ∧ h ≤ 1000 then some (.bl (isPayRow d h.toNat)) else none
  | _ => none
def F_is_pay : List D → Option D
  | [d, .tup es] => onDeeds es fun ns => .bl (isPay d ns)
  | _ => none
def F_is_meeting : List D → Option D
  | [d] => some (.bl (isMeeting d))
  | _ => none
def F_is_row : List D → Option D
  | [d, .tup es] => onDeeds es fun ns => .bl (isRow d ns)
  | _ => none
def F_is_nexts : List D → Option D
  | [d, .tup es, .int st] => onDeeds es fun ns => .bl (isNexts d ns st)
  | _ => none
def F_is_state : List D → Option D
  | [d, .tup es, .int st] => onDeeds es fun ns => .bl (isState d ns st)
  | _ => none
def F_is_plan : List D → Option D
  | [d, .tup [.tup es, _]] => onDeeds es fun ns => .bl (isPlan d ns)
  | _ => none
def F__law_cell : List D → Option D
  | [.lst ds, .int k] => match intsD ds with
    | some ns => if 0 ≤ k then some (.int (ns.getD k.toNat 0)) else none
    | none => none
  | _ => none
def F__law_cells : List D → Option D
  | [.lst ds, .int k] => match intsD ds with
    | some ns => if 0 ≤ k then some (.lst ((List.range 4).map fun (n : Nat) => .int (ns.getD (k.toNat + n) 0))) else none
    | none => none
  | _ => none
def mix (c p m : Int) : Int := c * 48271 % p % m
def F__law_mix : List D → Option D
  | [.int c, .int p, .int m] => if 0 < p ∧ 0 < m then some (.int (mix c p m)) else none
  | _ => none
/-- a meeting, by its numbers -/
structure MeetOk (ns : List Int) (pay : List (List Int)) : Prop where
  two : 2 ≤ ns.length
  ok : okDeeds ns = true
  many : pay.length = (rowsL ns).length
  rows : ∀ r ∈ pay, r.length = ns.length ∧ ∀ x ∈ r, -9 ≤ x ∧ x ≤ 9
def meetD (ns : List Int) (pay : List (List Int)) : D := .tup [dInts ns, .tup (pay.map dInts)]
def F__law_meeting : List D → Option (D → Prop)
  | [.int _] => some fun d => ∃ ns pay, d = meetD ns pay ∧ MeetOk ns pay
  | _ => none
def F__law_patience : List D → Option (D → Prop)
  | [.int _] => some fun d => ∃ u l : Int, d = .tup [.int u, .int l] ∧ 0 < u ∧ u < l ∧ l ≤ 30 ∧ Int.gcd u l = 1
  | _ => none
def F__law_row : List D → Option D
  | [.tup [.tup es, _], .int c] => onDeeds es fun ns => dInts ((rowsL ns).getD (mix c 9907 (rowsL ns).length).toNat [])
  | _ => none
/-- a plan, by its numbers: its states' rows and nexts -/
structure PlanOk (ns : List Int) (pl : List (List Int × List Int)) : Prop where
  few : 1 ≤ pl.length ∧ pl.length ≤ 8
  row : ∀ s ∈ pl, s.1 ∈ rowsL ns
  nexts : ∀ s ∈ pl, s.2.length = (rowsL ns).length ∧ ∀ x ∈ s.2, 0 ≤ x ∧ x < pl.length
def planD (pl : List (List Int × List Int)) : D := .tup (pl.map fun s => .tup [dInts s.1, dInts s.2])
def F__law_plan : List D → Option (D → Prop)
  | [.tup [.tup es, _], .lst cs, .int m] => match intsD es, intsD cs with
    | some ns, some xs => if okDeeds ns = true ∧ xs.length = 4 ∧ m = 8 then some fun d => ∃ pl, d = planD pl ∧ PlanOk ns pl else none
    | _, _ => none
  | _ => none
open Classical in
noncomputable def F__law_bad_meeting : List D → Option (D → Prop)
  | [m, .int _] => if ∃ ns pay, m = meetD ns pay ∧ MeetOk ns pay then some fun d => isMeeting d = false else none
  | _ => none
open Classical in
noncomputable def F__law_bad_plan : List D → Option (D → Prop)
  | [p, .int _] => if ∃ ns pl, p = planD pl ∧ okDeeds ns = true ∧ 2 ≤ ns.length ∧ PlanOk ns pl then some fun d => ∀ ns pl, p = planD pl → okDeeds ns = true → 2 ≤ ns.length → PlanOk ns pl → isPlan d ns = false else none
  | _ => none
def F_law : List D → Option (D → Prop)
  | [.lst ds] => match intsD ds with
    | some _ => some fun d => d = .bl true
    | none => none
  | _ => none
end L2
namespace L2
open PySem PySem.Spec PyProof.Rows
/-! ### rows -/
theorem rowStep_length (rows : List (List Int)) (m : Int) : (rowStep rows m).length = rows.length * m.toNat := by
  unfold rowStep
  induction rows with
  | nil => simp
  | cons r rows ih => rw [List.flatMap_cons, List.length_append, ih, List.length_map, List.length_range, List.length_cons, Nat.succ_mul, Nat.add_comm]
theorem rowStep_append (a b : List (List Int)) (m : Int) : rowStep (a ++ b) m = rowStep a m ++ rowStep b m := by
  unfold rowStep
  rw [List.flatMap_append]
theorem rowStep_one (r : List Int) (m : Int) : rowStep [r] m = (List.range m.toNat).map fun (k : Nat) => r ++ [(k : Int)] := by
  unfold rowStep
  simp
theorem rowsL_snoc (ns : List Int) (m : Int) : rowsL (ns ++ [m]) = rowStep (rowsL ns) m := by
  unfold rowsL
  rw [List.foldl_append]
  rfl
/-- what a row is -/
def RowOf (ns r : List Int) : Prop := r.length = ns.length ∧ ∀ (i : Nat) (x n : Int), r[i]? = some x → ns[i]? = some n → 0 ≤ x ∧ x < n
theorem rowOf_snoc {ns r : List Int} {m k : Int} (h : RowOf ns r) (h0 : 0 ≤ k) (h1 : k < m) : RowOf (ns ++ [m]) (r ++ [k]) := by
  refine ⟨by simp [h.1], fun i x n e1 e2 => ?_⟩
  by_cases hi : i < r.length
  · rw [List.getElem?_append_left hi] at e1
    rw [List.getElem?_append_left (by rw [← h.1]; exact hi)] at e2
    exact h.2 i x n e1 e2
  · rw [List.getElem?_append_right (by omega)] at e1
    rw [List.getElem?_append_right (by rw [← h.1]; omega)] at e2
    rw [h.1] at e1
    cases hj : i - ns.length with
    | zero =>
      rw [hj] at e1 e2
      cases e1
      cases e2
      exact ⟨h0, h1⟩
    | succ j =>
      rw [hj] at e1
      simp at e1
theorem rows_rev : ∀ (ms : List Int), ∀ r ∈ rowsL ms.reverse, RowOf ms.reverse r
  | [], r, h => by
    have : r = [] := by simpa [rowsL] using h
    subst this
    exact ⟨rfl, fun i x n e => by simp at e⟩
  | m :: ms, r, h => by
    rw [List.reverse_cons, rowsL_snoc] at h
    rw [List.reverse_cons]
    unfold rowStep at h
    obtain ⟨r0, h0, h1⟩ := List.mem_flatMap.mp h
    obtain ⟨k, hk, rfl⟩ := List.mem_map.mp h1
    have hk' := List.mem_range.mp hk
    exact rowOf_snoc (rows_rev ms r0 h0) (by omega) (by omega)
theorem rows_row {ns r : List Int} (h : r ∈ rowsL ns) : RowOf ns r := by
  have := rows_rev ns.reverse r (by rw [List.reverse_reverse]; exact h)
  rwa [List.reverse_reverse] at this
theorem okDeeds_take {ns : List Int} (h : okDeeds ns = true) (i : Nat) : okDeeds (ns.take i) = true := by
  unfold okDeeds at h ⊢
  rw [Bool.and_eq_true, decide_eq_true_eq, List.all_eq_true] at h ⊢
  exact ⟨by rw [List.length_take]; omega, fun x hx => h.2 x (List.mem_of_mem_take hx)⟩
theorem okDeeds_mem {ns : List Int} (h : okDeeds ns = true) : ns.length ≤ 3 ∧ ∀ n ∈ ns, 1 ≤ n ∧ n ≤ 3 := by
  unfold okDeeds at h
  rw [Bool.and_eq_true, decide_eq_true_eq, List.all_eq_true] at h
  refine ⟨h.1, fun n hn => ?_⟩
  have := h.2 n hn
  simpa using this
theorem rows_len_rev : ∀ (ms : List Int), (∀ n ∈ ms, 1 ≤ n ∧ n ≤ 3) → 1 ≤ (rowsL ms.reverse).length ∧ (rowsL ms.reverse).length ≤ 3 ^ ms.length
  | [], _ => by simp [rowsL]
  | m :: ms, h => by
    rw [List.reverse_cons, rowsL_snoc, rowStep_length, List.length_cons, Nat.pow_succ]
    obtain ⟨h1, h2⟩ := rows_len_rev ms fun n hn => h n (List.mem_cons_of_mem _ hn)
    obtain ⟨h3, h4⟩ := h m List.mem_cons_self
    have h5 : 1 ≤ m.toNat := by omega
    have h6 : m.toNat ≤ 3 := by omega
    exact ⟨Nat.mul_le_mul h1 h5, Nat.mul_le_mul h2 h6⟩
theorem rows_len {ns : List Int} (h : okDeeds ns = true) : 1 ≤ (rowsL ns).length ∧ (rowsL ns).length ≤ 27 := by
  obtain ⟨h1, h2⟩ := okDeeds_mem h
  have q := rows_len_rev ns.reverse fun n hn => h2 n (List.mem_reverse.mp hn)
  rw [List.reverse_reverse, List.length_reverse] at q
  refine ⟨q.1, Nat.le_trans q.2 ?_⟩
  exact Nat.le_trans (Nat.pow_le_pow_right (n := 3) (by decide) h1) (by decide)
theorem onDeeds_eq {ds : List D} {f : List Int → D} {d : D} (h : onDeeds ds f = some d) : ∃ ns, ds = ns.map D.int ∧ okDeeds ns = true ∧ d = f ns := by
  unfold onDeeds at h
  split at h
  · rename_i ns e
    split at h
    · rename_i ho
      cases h
      exact ⟨ns, ints_eq e, ho, rfl⟩
    · cases h
  · cases h
theorem onDeeds_of {ns : List Int} (f : List Int → D) (h : okDeeds ns = true) : onDeeds (ns.map D.int) f = some (f ns) := by
  unfold onDeeds
  rw [ints_map]
  simp [h]
theorem isDeeds_of {d : D} (h : isDeeds d = true) : ∃ ns : List Int, d = dInts ns ∧ okDeeds ns = true ∧ 2 ≤ ns.length := by
  unfold isDeeds at h
  split at h
  · rename_i ds
    rw [Bool.and_eq_true, Bool.and_eq_true, decide_eq_true_eq, decide_eq_true_eq, List.all_eq_true] at h
    obtain ⟨⟨h1, h2⟩, h3⟩ := h
    have key : ∀ es : List D, (∀ x ∈ es, isBetween x 1 3 = true) → ∃ ns : List Int, es = ns.map D.int ∧ ∀ n ∈ ns, 1 ≤ n ∧ n ≤ 3 := by
      intro es
      induction es with
      | nil => exact fun _ => ⟨[], rfl, fun n hn => by simp at hn⟩
      | cons e es ih =>
        intro hh
        obtain ⟨ns, e1, e2⟩ := ih fun x hx => hh x (List.mem_cons_of_mem _ hx)
        have q := hh e List.mem_cons_self
        unfold isBetween at q
        split at q
        · rename_i i
          refine ⟨i :: ns, by rw [List.map_cons, ← e1], fun n hn => ?_⟩
          rcases List.mem_cons.mp hn with rfl | hn
          · simpa using q
          · exact e2 n hn
        · cases q
    obtain ⟨ns, e1, e2⟩ := key ds h3
    have hl : ds.length = ns.length := by rw [e1, List.length_map]
    refine ⟨ns, by rw [e1]; rfl, ?_, by omega⟩
    unfold okDeeds
    rw [Bool.and_eq_true, decide_eq_true_eq, List.all_eq_true]
    exact ⟨by omega, fun n hn => by simpa using e2 n hn⟩
  · cases h
theorem isDeeds_mk {ns : List Int} (h : okDeeds ns = true) (h2 : 2 ≤ ns.length) : isDeeds (dInts ns) = true := by
  obtain ⟨h1, h3⟩ := okDeeds_mem h
  show (decide (2 ≤ (ns.map D.int).length) && decide ((ns.map D.int).length ≤ 3) && (ns.map D.int).all fun d => isBetween d 1 3) = true
  rw [Bool.and_eq_true, Bool.and_eq_true, decide_eq_true_eq, decide_eq_true_eq, List.length_map, List.all_eq_true]
  refine ⟨⟨h2, h1⟩, fun x hx => ?_⟩
  obtain ⟨n, hn, rfl⟩ := List.mem_map.mp hx
  simpa [isBetween] using h3 n hn
end L2
namespace L2
open PySem PySem.Spec PyProof.Rows
noncomputable def g_is_whole : GS := (gRet (gAndV (gInst "int" (gVar 0)) (gNotV (gInst "bool" (gVar 0)))))
noncomputable def g_common_divisor_2 : GS := (gSeq (gWhile (gTest (gOp oNe (gVar 3) (gC (.int 0)))) (gSeq (gAsg (gOp oMod (gVar 2) (gVar 3)) (gNm 4)) (gSeq (gAsg (gVar 3) (gNm 2)) (gAsg (gVar 4) (gNm 3))))) (gRet (gVar 2)))
noncomputable def g_common_divisor_1 : GS := (gSeq (gAsg (gCallB cAbs (gConsA (gVar 1) gNilA)) (gNm 3)) g_common_divisor_2)
noncomputable def g_common_divisor : GS := (gSeq (gAsg (gCallB cAbs (gConsA (gVar 0) gNilA)) (gNm 2)) g_common_divisor_1)
noncomputable def g_rows_of_1 : GS := (gSeq (gFor (gIt (gVar 0)) (gNm 2) (gSeq (gAsgO 3 (gLst gNilA)) (gSeq (gFor (gIl (gVar 1)) (gNm 4) (gFor (gRng1 (gVar 2)) (gNm 5) (gApp 3 (gOp oAdd (gVar 4) (gTupE (gConsA (gVar 5) gNilA)))))) (gFrz 3 (gAsg (gVar 3) (gNm 1)))))) (gRet (gCallB cTuple (gConsA (gVar 1) gNilA))))
noncomputable def g_rows_of : GS := (gSeq (gAsg (gF (gLst (gConsA (gTupE gNilA) gNilA))) (gNm 1)) g_rows_of_1)
noncomputable def g_is_tuple_of : GS := (gRet (gAndV (gInst "tuple" (gVar 0)) (gChain oLe oLe (gVar 1) (gCallB cLen (gConsA (gVar 0) gNilA)) (gVar 2))))
noncomputable def g__law_cell : GS := (gSeq (gIfS (gTest (gOp oLt (gVar 1) (gCallB cLen (gConsA (gVar 0) gNilA)))) (gRet (gOp gIx (gVar 0) (gVar 1))) gNext) (gRet (gC (.int 0))))
noncomputable def g__law_mix : GS := (gRet (gOp oMod (gOp oMod (gOp oMul (gVar 0) (gC (.int 48271))) (gVar 1)) (gVar 2)))
noncomputable def g__law_rows_1 : GS := (gSeq (gFor (gIt (gVar 0)) (gNm 2) (gSeq (gAsgO 3 (gLst gNilA)) (gSeq (gFor (gIl (gVar 1)) (gNm 4) (gExt 3 (gComp [none, some 4] (gRng1 (gVar 2)) (gNm 0) (gOp oAdd (gVar 1) (gTupE (gConsA (gVar 0) gNilA)))))) (gFrz 3 (gAsg (gVar 3) (gNm 1)))))) (gRet (gVar 1)))
noncomputable def g__law_rows : GS := (gSeq (gAsg (gF (gLst (gConsA (gTupE gNilA) gNilA))) (gNm 1)) g__law_rows_1)
noncomputable def g__law_bad_meeting_7 : GS := (gFrz 4 (gRet (gOp gIx (gVar 4) (gOp oMod (gVar 1) (gCallB cLen (gConsA (gVar 4) gNilA))))))
noncomputable def g__law_bad_meeting_6 : GS := (gFrz 4 (gSeq (gAsgO 4 (gCatL (gVar 4) (gF (gLst (gConsA (gTupE (gConsA (gF (gCallF cList (gConsA (gVar 2) gNilA))) (gConsA (gVar 3) gNilA))) (gConsA (gC (.str (PySem.Str.ofString "meet"))) (gConsA (gTupE (gConsA (gVar 2) gNilA)) (gConsA (gC .non) (gConsA (gC (.int 7)) gNilA))))))))) g__law_bad_meeting_7))
noncomputable def g__law_bad_meeting_5 : GS := (gFrz 4 (gSeq (gAsgO 4 (gCatL (gVar 4) (gF (gLst (gConsA (gTupE (gConsA (gOp oAdd (gTupE (gConsA (gC (.int 0)) gNilA)) (gSlT (gVar 2) (gPart (gC (.int 1))) gNoP)) (gConsA (gTupE gNilA) gNilA))) (gConsA (gTupE (gConsA (gOp oAdd (gTupE (gConsA (gC (.int 4)) gNilA)) (gSlT (gVar 2) (gPart (gC (.int 1))) gNoP)) (gConsA (gVar 3) gNilA))) (gConsA (gTupE (gConsA (gOp oAdd (gTupE (gConsA (gC (.bl true)) gNilA)) (gSlT (gVar 2) (gPart (gC (.int 1))) gNoP)) (gConsA (gVar 3) gNilA))) gNilA))))))) g__law_bad_meeting_6))
noncomputable def g__law_bad_meeting_4 : GS := (gFrz 4 (gSeq (gAsgO 4 (gCatL (gVar 4) (gF (gLst (gConsA (gTupE (gConsA (gVar 2) (gConsA (gOp oAdd (gTupE (gConsA (gSlT (gOp gIx (gVar 3) (gC (.int 0))) gNoP (gPart (gNeg (gC (.int 1))))) gNilA)) (gSlT (gVar 3) (gPart (gC (.int 1))) gNoP)) gNilA))) (gConsA (gTupE (gConsA (gVar 2) (gConsA (gOp oAdd (gTupE (gConsA (gF (gCallF cList (gConsA (gOp gIx (gVar 3) (gC (.int 0))) gNilA))) gNilA)) (gSlT (gVar 3) (gPart (gC (.int 1))) gNoP)) gNilA))) (gConsA (gF (gLst (gConsA (gVar 2) (gConsA (gVar 3) gNilA)))) gNilA))))))) g__law_bad_meeting_5))
noncomputable def g__law_bad_meeting_3 : GS := (gSeq (gFor (gIl (gF (gLst (gConsA (gC (.int 10)) (gConsA (gNeg (gC (.int 10))) (gConsA (gC (.bl true)) (gConsA (gC .non) (gConsA (gC (.str (PySem.Str.ofString "1"))) (gConsA (gTupE (gConsA (gC (.int 1)) gNilA)) gNilA))))))))) (gNm 5) (gApp 4 (gTupE (gConsA (gVar 2) (gConsA (gOp oAdd (gTupE (gConsA (gOp oAdd (gTupE (gConsA (gVar 5) gNilA)) (gSlT (gOp gIx (gVar 3) (gC (.int 0))) (gPart (gC (.int 1))) gNoP)) gNilA)) (gSlT (gVar 3) (gPart (gC (.int 1))) gNoP)) gNilA))))) g__law_bad_meeting_4)
noncomputable def g__law_bad_meeting_2 : GS := (gSeq (gApp 4 (gTupE (gConsA (gVar 2) (gConsA (gF (gCallF cList (gConsA (gVar 3) gNilA))) gNilA)))) g__law_bad_meeting_3)
noncomputable def g__law_bad_meeting_1 : GS := (gSeq (gAsgO 4 (gLst (gConsA (gTupE (gConsA (gVar 2) (gConsA (gSlT (gVar 3) gNoP (gPart (gNeg (gC (.int 1))))) gNilA))) (gConsA (gTupE (gConsA (gVar 2) (gConsA (gOp oAdd (gVar 3) (gSlT (gVar 3) gNoP (gPart (gC (.int 1))))) gNilA))) (gConsA (gTupE (gConsA (gSlT (gVar 2) gNoP (gPart (gC (.int 1)))) (gConsA (gVar 3) gNilA))) (gConsA (gTupE (gConsA (gOp oAdd (gVar 2) (gTupE (gConsA (gC (.int 1)) (gConsA (gC (.int 1)) gNilA)))) (gConsA (gVar 3) gNilA))) (gConsA (gVar 2) gNilA))))))) g__law_bad_meeting_2)
noncomputable def g__law_bad_meeting : GS := (gSeq (gAsg (gVar 0) (gNm2 2 3)) g__law_bad_meeting_1)
noncomputable def g__law_bad_plan_7 : GS := (gFrz 5 (gRet (gOp gIx (gVar 5) (gOp oMod (gVar 1) (gCallB cLen (gConsA (gVar 5) gNilA))))))
noncomputable def g__law_bad_plan_6 : GS := (gSeq (gFor (gIl (gF (gLst (gConsA (gSlT (gVar 3) gNoP (gPart (gNeg (gC (.int 1))))) (gConsA (gOp oAdd (gVar 3) (gTupE (gConsA (gC (.int 0)) gNilA))) (gConsA (gOp oAdd (gTupE (gConsA (gNeg (gC (.int 1))) gNilA)) (gVar 7)) (gConsA (gOp oAdd (gTupE (gConsA (gCallB cLen (gConsA (gVar 0) gNilA)) gNilA)) (gVar 7)) (gConsA (gOp oAdd (gTupE (gConsA (gC (.bl true)) gNilA)) (gVar 7)) (gConsA (gF (gCallF cList (gConsA (gVar 3) gNilA))) (gConsA (gC (.int 0)) gNilA)))))))))) (gNm 6) (gApp 5 (gOp oAdd (gTupE (gConsA (gTupE (gConsA (gVar 2) (gConsA (gVar 6) gNilA))) gNilA)) (gVar 4)))) g__law_bad_plan_7)
noncomputable def g__law_bad_plan_5 : GS := (gSeq (gAsg (gSlT (gVar 3) (gPart (gC (.int 1))) gNoP) (gNm 7)) g__law_bad_plan_6)
noncomputable def g__law_bad_plan_4 : GS := (gSeq (gFor (gIl (gF (gLst (gConsA (gSlT (gVar 2) gNoP (gPart (gNeg (gC (.int 1))))) (gConsA (gOp oAdd (gVar 2) (gTupE (gConsA (gC (.int 0)) gNilA))) (gConsA (gOp oAdd (gTupE (gConsA (gNeg (gC (.int 1))) gNilA)) (gSlT (gVar 2) (gPart (gC (.int 1))) gNoP)) (gConsA (gOp oAdd (gTupE (gConsA (gC (.int 3)) gNilA)) (gSlT (gVar 2) (gPart (gC (.int 1))) gNoP)) (gConsA (gOp oAdd (gTupE (gConsA (gC (.bl true)) gNilA)) (gSlT (gVar 2) (gPart (gC (.int 1))) gNoP)) (gConsA (gF (gCallF cList (gConsA (gVar 2) gNilA))) (gConsA (gC .non) gNilA)))))))))) (gNm 6) (gApp 5 (gOp oAdd (gTupE (gConsA (gTupE (gConsA (gVar 6) (gConsA (gVar 3) gNilA))) gNilA)) (gVar 4)))) g__law_bad_plan_5)
noncomputable def g__law_bad_plan_3 : GS := (gSeq (gApp 5 (gOp oAdd (gTupE (gConsA (gF (gLst (gConsA (gVar 2) (gConsA (gVar 3) gNilA)))) gNilA)) (gVar 4))) g__law_bad_plan_4)
noncomputable def g__law_bad_plan_2 : GS := (gSeq (gAsgO 5 (gLst (gConsA (gTupE gNilA) (gConsA (gOp oMul (gVar 0) (gC (.int 9))) (gConsA (gF (gCallF cList (gConsA (gVar 0) gNilA))) (gConsA (gC .non) (gConsA (gOp oAdd (gTupE (gConsA (gTupE (gConsA (gVar 2) (gConsA (gVar 3) (gConsA (gC (.int 0)) gNilA)))) gNilA)) (gVar 4)) (gConsA (gOp oAdd (gTupE (gConsA (gTupE (gConsA (gVar 2) gNilA)) gNilA)) (gVar 4)) (gConsA (gC (.int 7)) (gConsA (gC (.str (PySem.Str.ofString "plan"))) gNilA)))))))))) g__law_bad_plan_3)
noncomputable def g__law_bad_plan_1 : GS := (gSeq (gAsg (gSlT (gVar 0) (gPart (gC (.int 1))) gNoP) (gNm 4)) g__law_bad_plan_2)
noncomputable def g__law_bad_plan : GS := (gSeq (gAsg (gOp gIx (gVar 0) (gC (.int 0))) (gNm2 2 3)) g__law_bad_plan_1)
noncomputable def g_is_fraction_3 : GS := (gRet (gAndV (gCallD F_is_whole (gConsA (gVar 1) gNilA)) (gAndV (gCallD F_is_whole (gConsA (gVar 2) gNilA)) (gAndV (gOp oGe (gVar 2) (gC (.int 1))) (gOp oEq (gCallD F_common_divisor (gConsA (gVar 1) (gConsA (gVar 2) gNilA))) (gC (.int 1)))))))
noncomputable def g_is_fraction_2 : GS := (gSeq (gAsg (gOp gIx (gVar 0) (gC (.int 1))) (gNm 2)) g_is_fraction_3)
noncomputable def g_is_fraction_1 : GS := (gSeq (gAsg (gOp gIx (gVar 0) (gC (.int 0))) (gNm 1)) g_is_fraction_2)
noncomputable def g_is_fraction : GS := (gSeq (gIfS (gOr (gNot (gTru (gInst "tuple" (gVar 0)))) (gTest (gOp oNe (gCallB cLen (gConsA (gVar 0) gNilA)) (gC (.int 2))))) (gRet (gC (.bl false))) gNext) g_is_fraction_1)
noncomputable def g_all_rows : GS := (gRet (gCallD F_rows_of (gConsA (gOp gIx (gVar 0) (gC (.int 0))) gNilA)))
noncomputable def g_is_between : GS := (gRet (gAndV (gCallD F_is_whole (gConsA (gVar 0) gNilA)) (gChain oLe oLe (gVar 1) (gVar 0) (gVar 2))))
noncomputable def g__law_meeting_6 : GS := (gFrz 3 (gRet (gTupE (gConsA (gVar 1) (gConsA (gCallB cTuple (gConsA (gVar 3) gNilA)) gNilA)))))
noncomputable def g__law_meeting_5 : GS := (gSeq (gIfS (gTest (gOp oEq (gOp oMod (gVar 0) (gC (.int 9))) (gC (.int 0)))) (gSeq (gAsg (gF (gCallF cSorted (gConsA (gF (gComp [none, some 0] (gRng1 (gC (.int 4))) (gNm 0) (gOp oSub (gCallD F__law_mix (gConsA (gOp oAdd (gVar 1) (gVar 0)) (gConsA (gC (.int 9931)) (gConsA (gC (.int 19)) gNilA)))) (gC (.int 9))))) gNilA))) (gNm 7)) (gAsgO 3 (gLst (gConsA (gTupE (gConsA (gOp gIx (gVar 7) (gC (.int 2))) (gConsA (gOp gIx (gVar 7) (gC (.int 2))) gNilA))) (gConsA (gTupE (gConsA (gOp gIx (gVar 7) (gC (.int 0))) (gConsA (gOp gIx (gVar 7) (gC (.int 3))) gNilA))) (gConsA (gTupE (gConsA (gOp gIx (gVar 7) (gC (.int 3))) (gConsA (gOp gIx (gVar 7) (gC (.int 0))) gNilA))) (gConsA (gTupE (gConsA (gOp gIx (gVar 7) (gC (.int 1))) (gConsA (gOp gIx (gVar 7) (gC (.int 1))) gNilA))) gNilA))))))) gNext) g__law_meeting_6)
noncomputable def g__law_meeting_4 : GS := (gSeq (gFor (gRng1 (gCallB cLen (gConsA (gCallD F__law_rows (gConsA (gVar 1) gNilA)) gNilA))) (gNm 4) (gSeq (gAsg (gOp oAdd (gVar 0) (gOp oMul (gC (.int 13)) (gVar 4))) (gNm 5)) (gSeq (gAsgO 6 (gComp [none, some 2, some 5] (gRng1 (gCallB cLen (gConsA (gVar 1) gNilA))) (gNm 0) (gOp oSub (gOp oAdd (gCallD F__law_mix (gConsA (gOp oAdd (gVar 2) (gOp oMul (gC (.int 5)) (gVar 0))) (gConsA (gC (.int 9941)) (gConsA (gOp oSub (gOp oMul (gC (.int 2)) (gVar 1)) (gC (.int 1))) gNilA)))) (gC (.int 1))) (gVar 1)))) (gFrz 6 (gApp 3 (gCallB cTuple (gConsA (gVar 6) gNilA))))))) g__law_meeting_5)
noncomputable def g__law_meeting_2 : GS := (gSeq (gAsg (gOp gIx (gF (gLst (gConsA (gC (.int 2)) (gConsA (gC (.int 5)) (gConsA (gC (.int 10)) gNilA))))) (gCallD F__law_mix (gConsA (gVar 0) (gConsA (gC (.int 9949)) (gConsA (gC (.int 3)) gNilA))))) (gNm 2)) (gSeq (gAsgO 3 (gLst gNilA)) g__law_meeting_4))
noncomputable def g__law_meeting_1 : GS := (gSeq (gIfS (gTest (gOp oEq (gOp oMod (gVar 0) (gC (.int 3))) (gC (.int 0)))) (gAsg (gTupE (gConsA (gC (.int 2)) (gConsA (gC (.int 2)) gNilA))) (gNm 1)) gNext) g__law_meeting_2)
noncomputable def g__law_meeting : GS := (gSeq (gAsg (gCallB cTuple (gConsA (gF (gComp [none, some 0] (gRng1 (gOp oAdd (gC (.int 2)) (gOp oDiv (gCallD F__law_mix (gConsA (gVar 0) (gConsA (gC (.int 9967)) (gConsA (gC (.int 4)) gNilA)))) (gC (.int 3))))) (gNm 0) (gOp oAdd (gC (.int 1)) (gCallD F__law_mix (gConsA (gOp oAdd (gVar 1) (gOp oMul (gC (.int 7)) (gVar 0))) (gConsA (gC (.int 9973)) (gConsA (gC (.int 3)) gNilA))))))) gNilA)) (gNm 1)) g__law_meeting_1)
noncomputable def g__law_patience_3 : GS := (gSeq (gFor (gRng2 (gC (.int 2)) (gC (.int 30))) (gNm 3) (gWhile (gAnd (gTest (gOp oEq (gOp oMod (gVar 2) (gVar 3)) (gC (.int 0)))) (gTest (gOp oEq (gOp oMod (gVar 1) (gVar 3)) (gC (.int 0))))) (gSeq (gAsg (gOp oDiv (gVar 2) (gVar 3)) (gNm 2)) (gAsg (gOp oDiv (gVar 1) (gVar 3)) (gNm 1))))) (gRet (gTupE (gConsA (gVar 2) (gConsA (gVar 1) gNilA)))))
noncomputable def g__law_patience_2 : GS := (gSeq (gIfS (gTest (gOp oEq (gOp oMod (gVar 0) (gC (.int 4))) (gC (.int 0)))) (gAsg (gOp oSub (gVar 1) (gC (.int 1))) (gNm 2)) gNext) g__law_patience_3)
noncomputable def g__law_patience_1 : GS := (gSeq (gAsg (gOp oAdd (gC (.int 1)) (gCallD F__law_mix (gConsA (gVar 0) (gConsA (gC (.int 9923)) (gConsA (gOp oSub (gVar 1) (gC (.int 1))) gNilA))))) (gNm 2)) g__law_patience_2)
noncomputable def g__law_patience : GS := (gSeq (gAsg (gOp oAdd (gC (.int 2)) (gCallD F__law_mix (gConsA (gVar 0) (gConsA (gC (.int 9929)) (gConsA (gC (.int 29)) gNilA))))) (gNm 1)) g__law_patience_1)
noncomputable def g__law_row_1 : GS := (gRet (gOp gIx (gVar 2) (gCallD F__law_mix (gConsA (gVar 1) (gConsA (gC (.int 9907)) (gConsA (gCallB cLen (gConsA (gVar 2) gNilA)) gNilA))))))
noncomputable def g__law_row : GS := (gSeq (gAsg (gCallD F__law_rows (gConsA (gOp gIx (gVar 0) (gC (.int 0))) gNilA)) (gNm 2)) g__law_row_1)
noncomputable def g__law_cells : GS := (gRet (gF (gComp [none, some 0, some 1] (gRng1 (gC (.int 4))) (gNm 0) (gCallD F__law_cell (gConsA (gVar 1) (gConsA (gOp oAdd (gVar 2) (gVar 0)) gNilA))))))
noncomputable def g_is_patience : GS := (gRet (gAndV (gCallD F_is_fraction (gConsA (gVar 0) gNilA)) (gChain3 oLt oLt oLe (gC (.int 0)) (gOp gIx (gVar 0) (gC (.int 0))) (gOp gIx (gVar 0) (gC (.int 1))) (gC (.int (30))))))
noncomputable def g_is_row_1 : GS := (gRet (gCallB cAll (gConsA (gF (gComp [none, none] (gZip (gVar 0) (gVar 1)) (gNm2 0 1) (gCallD F_is_between (gConsA (gVar 0) (gConsA (gC (.int 0)) (gConsA (gOp oSub (gVar 1) (gC (.int 1))) gNilA)))))) gNilA)))
noncomputable def g_is_row : GS := (gSeq (gIfS (gNot (gTru (gCallD F_is_tuple_of (gConsA (gVar 0) (gConsA (gCallB cLen (gConsA (gVar 1) gNilA)) (gConsA (gCallB cLen (gConsA (gVar 1) gNilA)) gNilA)))))) (gRet (gC (.bl false))) gNext) g_is_row_1)
noncomputable def g_are_between : GS := (gRet (gCallB cAll (gConsA (gF (gComp [none, some 1, some 2] (gIt (gVar 0)) (gNm 0) (gCallD F_is_between (gConsA (gVar 0) (gConsA (gVar 1) (gConsA (gVar 2) gNilA)))))) gNilA)))
noncomputable def g__law_plan_2 : GS := (gSeq (gFor (gRng1 (gVar 3)) (gNm 5) (gSeq (gAsg (gOp oAdd (gOp gIx (gVar 1) (gOp oAdd (gC (.int 1)) (gOp oMod (gVar 5) (gC (.int 3))))) (gOp oMul (gC (.int 11)) (gVar 5))) (gNm 6)) (gSeq (gAsgO 7 (gComp [none, some 3, some 6] (gRng1 (gCallB cLen (gConsA (gCallD F__law_rows (gConsA (gOp gIx (gVar 0) (gC (.int 0))) gNilA)) gNilA))) (gNm 0) (gCallD F__law_mix (gConsA (gOp oAdd (gVar 2) (gOp oMul (gC (.int 3)) (gVar 0))) (gConsA (gC (.int 9887)) (gConsA (gVar 1) gNilA)))))) (gFrz 7 (gApp 4 (gTupE (gConsA (gCallD F__law_row (gConsA (gVar 0) (gConsA (gVar 6) gNilA))) (gConsA (gCallB cTuple (gConsA (gVar 7) gNilA)) gNilA)))))))) (gFrz 4 (gRet (gCallB cTuple (gConsA (gVar 4) gNilA)))))
noncomputable def g__law_plan : GS := (gSeq (gAsg (gOp oAdd (gC (.int 1)) (gCallD F__law_mix (gConsA (gOp gIx (gVar 1) (gC (.int 0))) (gConsA (gC (.int 9901)) (gConsA (gVar 2) gNilA))))) (gNm 3)) (gSeq (gAsgO 4 (gLst gNilA)) g__law_plan_2))
noncomputable def g_is_deeds : GS := (gRet (gAndV (gCallD F_is_tuple_of (gConsA (gVar 0) (gConsA (gC (.int (2))) (gConsA (gC (.int (3))) gNilA)))) (gCallD F_are_between (gConsA (gVar 0) (gConsA (gC (.int 1)) (gConsA (gC (.int (3))) gNilA))))))
noncomputable def g_is_pay_of_row : GS := (gRet (gAndV (gCallD F_is_tuple_of (gConsA (gVar 0) (gConsA (gVar 1) (gConsA (gVar 1) gNilA)))) (gCallD F_are_between (gConsA (gVar 0) (gConsA (gC (.int (-9))) (gConsA (gC (.int (9))) gNilA))))))
noncomputable def g_is_nexts_1 : GS := (gRet (gAndV (gCallD F_is_tuple_of (gConsA (gVar 0) (gConsA (gVar 3) (gConsA (gVar 3) gNilA)))) (gCallD F_are_between (gConsA (gVar 0) (gConsA (gC (.int 0)) (gConsA (gOp oSub (gVar 2) (gC (.int 1))) gNilA))))))
noncomputable def g_is_nexts : GS := (gSeq (gAsg (gCallB cLen (gConsA (gCallD F_rows_of (gConsA (gVar 1) gNilA)) gNilA)) (gNm 3)) g_is_nexts_1)
noncomputable def g_is_pay_1 : GS := (gRet (gAndV (gCallD F_is_tuple_of (gConsA (gVar 0) (gConsA (gVar 2) (gConsA (gVar 2) gNilA)))) (gCallB cAll (gConsA (gF (gComp [none, some 1] (gIt (gVar 0)) (gNm 0) (gCallD F_is_pay_of_row (gConsA (gVar 0) (gConsA (gCallB cLen (gConsA (gVar 1) gNilA)) gNilA))))) gNilA))))
noncomputable def g_is_pay : GS := (gSeq (gAsg (gCallB cLen (gConsA (gCallD F_rows_of (gConsA (gVar 1) gNilA)) gNilA)) (gNm 2)) g_is_pay_1)
noncomputable def g_is_state : GS := (gRet (gAndV (gCallD F_is_tuple_of (gConsA (gVar 0) (gConsA (gC (.int 2)) (gConsA (gC (.int 2)) gNilA)))) (gAndV (gCallD F_is_row (gConsA (gOp gIx (gVar 0) (gC (.int 0))) (gConsA (gVar 1) gNilA))) (gCallD F_is_nexts (gConsA (gOp gIx (gVar 0) (gC (.int 1))) (gConsA (gVar 1) (gConsA (gVar 2) gNilA)))))))
noncomputable def g_is_meeting : GS := (gRet (gAndV (gCallD F_is_tuple_of (gConsA (gVar 0) (gConsA (gC (.int 2)) (gConsA (gC (.int 2)) gNilA)))) (gAndV (gCallD F_is_deeds (gConsA (gOp gIx (gVar 0) (gC (.int 0))) gNilA)) (gCallD F_is_pay (gConsA (gOp gIx (gVar 0) (gC (.int 1))) (gConsA (gOp gIx (gVar 0) (gC (.int 0))) gNilA))))))
noncomputable def g_is_plan_1 : GS := (gRet (gCallB cAll (gConsA (gF (gComp [none, some 1, some 0] (gIt (gVar 0)) (gNm 0) (gCallD F_is_state (gConsA (gVar 0) (gConsA (gOp gIx (gVar 1) (gC (.int 0))) (gConsA (gCallB cLen (gConsA (gVar 2) gNilA)) gNilA)))))) gNilA)))
noncomputable def g_is_plan : GS := (gSeq (gIfS (gNot (gTru (gCallD F_is_tuple_of (gConsA (gVar 0) (gConsA (gC (.int 1)) (gConsA (gC (.int (8))) gNilA)))))) (gRet (gC (.bl false))) gNext) g_is_plan_1)
noncomputable def g_law_3 : GS := (gRet (gAndV (gOp oIs (gCallD F_is_patience (gConsA (gTupE (gConsA (gC (.int 29)) (gConsA (gC (.int 30)) gNilA))) gNilA)) (gC (.bl true))) (gOp oIs (gCallD F_is_patience (gConsA (gTupE (gConsA (gC (.int 6)) (gConsA (gC (.int 9)) gNilA))) gNilA)) (gC (.bl false)))))
noncomputable def g_law_2 : GS := (gSeq (gFor (gIl (gF (gCatL (gVar 6) (gF (gLst (gConsA (gC .non) (gConsA (gC (.str (PySem.Str.ofString "1/2"))) (gConsA (gC (.int 0)) gNilA)))))))) (gNm 5) (gIfS (gTest (gOp oIsnot (gCallD F_is_patience (gConsA (gVar 5) gNilA)) (gC (.bl false)))) (gRet (gC (.bl false))) gNext)) g_law_3)
noncomputable def g_law_1 : GS := (gSeq (gAsg (gF (gLst (gConsA (gTupE (gConsA (gC (.int 0)) (gConsA (gC (.int 1)) gNilA))) (gConsA (gTupE (gConsA (gC (.int 1)) (gConsA (gC (.int 1)) gNilA))) (gConsA (gTupE (gConsA (gC (.int 2)) (gConsA (gC (.int 4)) gNilA))) (gConsA (gTupE (gConsA (gC (.int 1)) (gConsA (gC (.int 31)) gNilA))) (gConsA (gTupE (gConsA (gNeg (gC (.int 1))) (gConsA (gC (.int 2)) gNilA))) (gConsA (gTupE (gConsA (gC (.int 3)) (gConsA (gC (.int 2)) gNilA))) (gConsA (gTupE (gConsA (gC (.int 1)) (gConsA (gC (.int 0)) gNilA))) (gConsA (gTupE (gConsA (gC (.bl true)) (gConsA (gC (.int 2)) gNilA))) (gConsA (gF (gLst (gConsA (gC (.int 1)) (gConsA (gC (.int 2)) gNilA)))) (gConsA (gTupE (gConsA (gC (.int 1)) gNilA)) (gConsA (gTupE (gConsA (gC (.int 1)) (gConsA (gC (.int 2)) (gConsA (gC (.int 3)) gNilA)))) gNilA))))))))))))) (gNm 6)) g_law_2)
noncomputable def g_law : GS := (gSeq (gFor (gRng1 (gC (.int 4))) (gNm 1) (gSeq (gAsg (gCallD F__law_cell (gConsA (gVar 0) (gConsA (gOp oMul (gC (.int 5)) (gVar 1)) gNilA))) (gNm 2)) (gSeq (gAsg (gCallR F__law_meeting (gConsA (gVar 2) gNilA)) (gNm 3)) (gSeq (gIfS (gOr (gTest (gOp oIsnot (gCallD F_is_meeting (gConsA (gVar 3) gNilA)) (gC (.bl true)))) (gTest (gOp oNe (gCallD F_all_rows (gConsA (gVar 3) gNilA)) (gCallB cTuple (gConsA (gCallD F__law_rows (gConsA (gOp gIx (gVar 3) (gC (.int 0))) gNilA)) gNilA))))) (gRet (gC (.bl false))) gNext) (gSeq (gAsg (gCallR F__law_plan (gConsA (gVar 3) (gConsA (gCallD F__law_cells (gConsA (gVar 0) (gConsA (gOp oAdd (gOp oMul (gC (.int 5)) (gVar 1)) (gC (.int 1))) gNilA))) (gConsA (gC (.int 8)) gNilA)))) (gNm 4)) (gSeq (gIfS (gOr (gTest (gOp oIsnot (gCallD F_is_plan (gConsA (gVar 4) (gConsA (gVar 3) gNilA))) (gC (.bl true)))) (gTest (gOp oIsnot (gCallD F_is_patience (gConsA (gCallR F__law_patience (gConsA (gVar 2) gNilA)) gNilA)) (gC (.bl true))))) (gRet (gC (.bl false))) gNext) (gFor (gIl (gF (gLst (gConsA (gOp oDiv (gVar 2) (gC (.int 3))) (gConsA (gOp oDiv (gVar 2) (gC (.int 7))) gNilA))))) (gNm 5) (gSeq (gIfS (gTest (gOp oIsnot (gCallD F_is_meeting (gConsA (gCallR F__law_bad_meeting (gConsA (gVar 3) (gConsA (gVar 5) gNilA))) gNilA)) (gC (.bl false)))) (gRet (gC (.bl false))) gNext) (gIfS (gTest (gOp oIsnot (gCallD F_is_plan (gConsA (gCallR F__law_bad_plan (gConsA (gVar 4) (gConsA (gVar 5) gNilA))) (gConsA (gVar 3) gNilA))) (gC (.bl false)))) (gRet (gC (.bl false))) gNext))))))))) g_law_1)
end L2
namespace L2
open PySem PySem.Spec PyProof.Rows
def top (i : Nat) : Stmt := PySem.Challenge.pw_pactkeep_k01_things.main.body.getD i (.Pass ⟨0, 0, 0, 0⟩)
abbrev s_is_whole : Stmt := top 1
abbrev s_common_divisor : Stmt := top 2
abbrev s_is_fraction : Stmt := top 3
abbrev s_is_meeting : Stmt := top 12
abbrev s_is_plan : Stmt := top 13
abbrev s_is_patience : Stmt := top 14
abbrev s_all_rows : Stmt := top 15
abbrev s_rows_of : Stmt := top 16
abbrev s_is_deeds : Stmt := top 17
abbrev s_is_pay : Stmt := top 18
abbrev s_is_pay_of_row : Stmt := top 19
abbrev s_is_state : Stmt := top 20
abbrev s_is_row : Stmt := top 21
abbrev s_is_nexts : Stmt := top 22
abbrev s_is_tuple_of : Stmt := top 23
abbrev s_are_between : Stmt := top 24
abbrev s_is_between : Stmt := top 25
abbrev s__law_cell : Stmt := top 27
abbrev s__law_mix : Stmt := top 28
abbrev s__law_rows : Stmt := top 29
abbrev s__law_meeting : Stmt := top 30
abbrev s__law_patience : Stmt := top 31
abbrev s__law_row : Stmt := top 32
abbrev s__law_plan : Stmt := top 33
abbrev s__law_cells : Stmt := top 34
abbrev s__law_bad_meeting : Stmt := top 35
abbrev s__law_bad_plan : Stmt := top 36
abbrev s_law : Stmt := top 37
structure Txt (K : PySem.W.Frag) (mg : Str → Option Value) : Prop where
  n_abs : mg "abs" = none
  n_all : mg "all" = none
  n_bool : mg "bool" = none
  n_int : mg "int" = none
  n_isinstance : mg "isinstance" = none
  n_len : mg "len" = none
  n_list : mg "list" = none
  n_range : mg "range" = none
  n_sorted : mg "sorted" = none
  n_tuple : mg "tuple" = none
  n_zip : mg "zip" = none
  c_FEWEST_HANDS : ∃ t, mg "FEWEST_HANDS" = some (.int (2) t)
  c_HIGHEST_PAY : ∃ t, mg "HIGHEST_PAY" = some (.int (9) t)
  c_LOWEST_PAY : ∃ t, mg "LOWEST_PAY" = some (.int (-9) t)
  c_MOST_DEEDS : ∃ t, mg "MOST_DEEDS" = some (.int (3) t)
  c_MOST_HANDS : ∃ t, mg "MOST_HANDS" = some (.int (3) t)
  c_MOST_LOWER : ∃ t, mg "MOST_LOWER" = some (.int (30) t)
  c_MOST_STATES : ∃ t, mg "MOST_STATES" = some (.int (8) t)
section
variable {P : Program} {w : World} {K : PySem.W.Frag} {mg : Str → Option Value} {base : Heap}
theorem sc_is_whole : FnScope ["thing"] ["thing"] (defScope s_is_whole) := ⟨rfl, rfl, rfl, by decide +kernel, rfl, by decide +kernel, by decide +kernel⟩
set_option maxHeartbeats 8000000 in
theorem body_is_whole (T : Txt K mg)  {f : Addr} {cdv : Value} {A : Around} {outer : List Env} {s : Shared} {H : Hp} {E : XK} (hr : Room 0 (A.deeper (envOfC "is_whole" (defScope s_is_whole) s.heap.objs.size f cdv))) :
    DSs (cxOf CX0 P w K mg base ["thing"] "is_whole" (defScope s_is_whole) f cdv A outer s H E).nox (defBody s_is_whole) g_is_whole := by
  have hu := hr.units
  exact (dss_one (ds_ret (de_and (de_inst (T := "int") (by decide) (de_var (pv 0)) (pe_bltn rfl T.n_int bt_int rfl) (fun h1 h2 => pe_callB h1 rfl T.n_isinstance bt_isinstance h2)) (de_one (de_not (de_inst (T := "bool") (by decide) (de_var (pv 0)) (pe_bltn rfl T.n_bool bt_bool rfl) (fun h1 h2 => pe_callB h1 rfl T.n_isinstance bt_isinstance h2)))))))
theorem sc_common_divisor : FnScope ["one", "other", "greater", "smaller", "rest"] ["one", "other"] (defScope s_common_divisor) := ⟨rfl, rfl, rfl, by decide +kernel, rfl, by decide +kernel, by decide +kernel⟩
set_option maxHeartbeats 8000000 in
theorem body_common_divisor (T : Txt K mg)  {f : Addr} {cdv : Value} {A : Around} {outer : List Env} {s : Shared} {H : Hp} {E : XK} (hr : Room 0 (A.deeper (envOfC "common_divisor" (defScope s_common_divisor) s.heap.objs.size f cdv))) :
    DSs (cxOf CX0 P w K mg base ["one", "other", "greater", "smaller", "rest"] "common_divisor" (defScope s_common_divisor) f cdv A outer s H E).nox (defBody s_common_divisor) g_common_divisor := by
  have hu := hr.units
  exact (dss_cons (ds_asg (de_callG dc_abs (da_cons (de_var (pv 0)) da_nil) (fun h1 h2 => pe_callB h1 rfl T.n_abs bt_abs h2)) (dg_name (pg_name (i := 2) sc_common_divisor.nd rfl (Or.inl rfl))) (fun h1 h2 => ps_asg h1 h2)) (dss_cons (ds_asg (de_callG dc_abs (da_cons (de_var (pv 1)) da_nil) (fun h1 h2 => pe_callB h1 rfl T.n_abs bt_abs h2)) (dg_name (pg_name (i := 3) sc_common_divisor.nd rfl (Or.inl rfl))) (fun h1 h2 => ps_asg h1 h2)) (dss_cons (ds_while PassesOwn.never (dt_cmp (do_ne hu) (de_var (pv 3)) de_int) (dss_cons (ds_asg (de_op do_mod (de_var (pv 2)) (de_var (pv 3))) (dg_name (pg_name (i := 4) sc_common_divisor.nd rfl (Or.inl rfl))) (fun h1 h2 => ps_asg h1 h2)) (dss_cons (ds_asg (de_var (pv 3)) (dg_name (pg_name (i := 2) sc_common_divisor.nd rfl (Or.inl rfl))) (fun h1 h2 => ps_asg h1 h2)) (dss_one (ds_asg (de_var (pv 4)) (dg_name (pg_name (i := 3) sc_common_divisor.nd rfl (Or.inl rfl))) (fun h1 h2 => ps_asg h1 h2)))))) (dss_one (ds_ret (de_var (pv 2)))))))
theorem sc_rows_of : FnScope ["deeds", "rows", "many", "longer", "row", "deed"] ["deeds"] (defScope s_rows_of) := ⟨rfl, rfl, rfl, by decide +kernel, rfl, by decide +kernel, by decide +kernel⟩
set_option maxHeartbeats 8000000 in
theorem body_rows_of (T : Txt K mg)  {f : Addr} {cdv : Value} {A : Around} {outer : List Env} {s : Shared} {H : Hp} {E : XK} (hr : Room 0 (A.deeper (envOfC "rows_of" (defScope s_rows_of) s.heap.objs.size f cdv))) :
    DSs (cxOf CX0 P w K mg base ["deeds", "rows", "many", "longer", "row", "deed"] "rows_of" (defScope s_rows_of) f cdv A outer s H E).nox (defBody s_rows_of) g_rows_of := by
  have hu := hr.units
  exact (dss_cons (ds_asg (DF.toE (df_lst (da_cons (de_tup da_nil) da_nil))) (dg_name (pg_name (i := 1) sc_rows_of.nd rfl (Or.inl rfl))) (fun h1 h2 => ps_asg h1 h2)) (dss_cons (ds_for rfl PassesOwn.never (di_tup (de_var (pv 0))) (dg_name (pg_name (i := 2) sc_rows_of.nd rfl (Or.inl rfl))) (dss_cons (ds_asgO (i := 3) (df_lst da_nil) (fun h => ps_set (i := 3) sc_rows_of.nd rfl (Or.inl rfl) h)) (dss_cons (ds_for rfl PassesOwn.never (di_lst (de_var (pv 1))) (dg_name (pg_name (i := 4) sc_rows_of.nd rfl (Or.inl rfl))) (dss_one (ds_for rfl PassesOwn.never (di_rng1 rfl T.n_range (de_var (pv 2))) (dg_name (pg_name (i := 5) sc_rows_of.nd rfl (Or.inl rfl))) (dss_one (ds_app (i := 3) (de_op do_add (de_var (pv 4)) (de_tup (da_cons (de_var (pv 5)) da_nil))) (fun h => ps_expr (pe_bm PySem.F.plainAttrs_list PySem.F.slot_list_append PySem.F.type_list_append mt_append (pv 3) (pa_cons h pa_nil)))))))) (dss_frz 3 (dss_one (ds_asg (de_var (pv 3)) (dg_name (pg_name (i := 1) sc_rows_of.nd rfl (Or.inl rfl))) (fun h1 h2 => ps_asg h1 h2))))))) (dss_one (ds_ret (de_callG dc_tuple (da_cons (de_var (pv 1)) da_nil) (fun h1 h2 => pe_callTy h1 rfl T.n_tuple bt_tuple h2))))))
theorem sc_is_tuple_of : FnScope ["thing", "fewest", "most"] ["thing", "fewest", "most"] (defScope s_is_tuple_of) := ⟨rfl, rfl, rfl, by decide +kernel, rfl, by decide +kernel, by decide +kernel⟩
set_option maxHeartbeats 8000000 in
theorem body_is_tuple_of (T : Txt K mg)  {f : Addr} {cdv : Value} {A : Around} {outer : List Env} {s : Shared} {H : Hp} {E : XK} (hr : Room 0 (A.deeper (envOfC "is_tuple_of" (defScope s_is_tuple_of) s.heap.objs.size f cdv))) :
    DSs (cxOf CX0 P w K mg base ["thing", "fewest", "most"] "is_tuple_of" (defScope s_is_tuple_of) f cdv A outer s H E).nox (defBody s_is_tuple_of) g_is_tuple_of := by
  have hu := hr.units
  exact (dss_one (ds_ret (de_and (de_inst (T := "tuple") (by decide) (de_var (pv 0)) (pe_bltn rfl T.n_tuple bt_tuple rfl) (fun h1 h2 => pe_callB h1 rfl T.n_isinstance bt_isinstance h2)) (de_one (de_chain do_le do_le (de_var (pv 1)) (de_callG dc_len (da_cons (de_var (pv 0)) da_nil) (fun h1 h2 => pe_callB h1 rfl T.n_len bt_len h2)) (de_var (pv 2)))))))
theorem sc__law_cell : FnScope ["_law_script", "_law_k"] ["_law_script", "_law_k"] (defScope s__law_cell) := ⟨rfl, rfl, rfl, by decide +kernel, rfl, by decide +kernel, by decide +kernel⟩
set_option maxHeartbeats 8000000 in
theorem body__law_cell (T : Txt K mg)  {f : Addr} {cdv : Value} {A : Around} {outer : List Env} {s : Shared} {H : Hp} {E : XK} (hr : Room 0 (A.deeper (envOfC "_law_cell" (defScope s__law_cell) s.heap.objs.size f cdv))) :
    DSs (cxOf CX0 P w K mg base ["_law_script", "_law_k"] "_law_cell" (defScope s__law_cell) f cdv A outer s H E).nox (defBody s__law_cell) g__law_cell := by
  have hu := hr.units
  exact (dss_cons (ds_if (dt_cmp do_lt (de_var (pv 1)) (de_callG dc_len (da_cons (de_var (pv 0)) da_nil) (fun h1 h2 => pe_callB h1 rfl T.n_len bt_len h2))) (dss_one (ds_ret (de_ix (de_var (pv 0)) (de_var (pv 1)) (fun _ _ => rfl)))) dss_nil) (dss_one (ds_ret de_int)))
theorem sc__law_mix : FnScope ["_law_cell_here", "_law_prime", "_law_many"] ["_law_cell_here", "_law_prime", "_law_many"] (defScope s__law_mix) := ⟨rfl, rfl, rfl, by decide +kernel, rfl, by decide +kernel, by decide +kernel⟩
set_option maxHeartbeats 8000000 in
theorem body__law_mix (T : Txt K mg)  {f : Addr} {cdv : Value} {A : Around} {outer : List Env} {s : Shared} {H : Hp} {E : XK} (hr : Room 0 (A.deeper (envOfC "_law_mix" (defScope s__law_mix) s.heap.objs.size f cdv))) :
    DSs (cxOf CX0 P w K mg base ["_law_cell_here", "_law_prime", "_law_many"] "_law_mix" (defScope s__law_mix) f cdv A outer s H E).nox (defBody s__law_mix) g__law_mix := by
  have hu := hr.units
  exact (dss_one (ds_ret (de_op do_mod (de_op do_mod (de_op do_mul (de_var (pv 0)) de_int) (de_var (pv 1))) (de_var (pv 2)))))
theorem sc__law_rows : FnScope ["_law_deeds", "_law_found", "_law_many", "_law_more", "_law_row_here"] ["_law_deeds"] (defScope s__law_rows) := ⟨rfl, rfl, rfl, by decide +kernel, rfl, by decide +kernel, by decide +kernel⟩
set_option maxHeartbeats 8000000 in
theorem body__law_rows (T : Txt K mg)  {f : Addr} {cdv : Value} {A : Around} {outer : List Env} {s : Shared} {H : Hp} {E : XK} (hr : Room 0 (A.deeper (envOfC "_law_rows" (defScope s__law_rows) s.heap.objs.size f cdv))) :
    DSs (cxOf CX0 P w K mg base ["_law_deeds", "_law_found", "_law_many", "_law_more", "_law_row_here"] "_law_rows" (defScope s__law_rows) f cdv A outer s H E).nox (defBody s__law_rows) g__law_rows := by
  have hu := hr.units
  exact (dss_cons (ds_asg (DF.toE (df_lst (da_cons (de_tup da_nil) da_nil))) (dg_name (pg_name (i := 1) sc__law_rows.nd rfl (Or.inl rfl))) (fun h1 h2 => ps_asg h1 h2)) (dss_cons (ds_for rfl PassesOwn.never (di_tup (de_var (pv 0))) (dg_name (pg_name (i := 2) sc__law_rows.nd rfl (Or.inl rfl))) (dss_cons (ds_asgO (i := 3) (df_lst da_nil) (fun h => ps_set (i := 3) sc__law_rows.nd rfl (Or.inl rfl) h)) (dss_cons (ds_for rfl PassesOwn.never (di_lst (de_var (pv 1))) (dg_name (pg_name (i := 4) sc__law_rows.nd rfl (Or.inr rfl))) (dss_one (ds_ext (i := 3) (df_comp (Nc := ["_law_deed", "_law_row_here"]) (fr := [none, some 4]) (ss := [0]) (compOk_of (sc := (defScope s__law_rows)) (N := ["_law_deeds", "_law_found", "_law_many", "_law_more", "_law_row_here"]) rfl rfl (by decide +kernel)) (by decide) rfl (di_rng1 rfl T.n_range (de_var (pv 2))) (fun Cc pins fp s3 H3 => dg_name (pg_name (i := 0) (show (["_law_deed", "_law_row_here"] : List Str).Nodup by decide +kernel) rfl (Or.inl rfl))) (fun Cc pins fp s3 H3 => (de_op do_add (de_var (pv 1)) (de_tup (da_cons (de_var (pv 0)) da_nil)))) mono_nm) (fun h => ps_expr (pe_bm PySem.F.plainAttrs_list PySem.F.slot_list_extend PySem.F.type_list_extend mt_extend (pv 3) (pa_cons h pa_nil)))))) (dss_frz 3 (dss_one (ds_asg (de_var (pv 3)) (dg_name (pg_name (i := 1) sc__law_rows.nd rfl (Or.inl rfl))) (fun h1 h2 => ps_asg h1 h2))))))) (dss_one (ds_ret (de_var (pv 1))))))
theorem sc__law_bad_meeting : FnScope ["_law_meeting_here", "_law_cell_here", "_law_deeds", "_law_pay", "_law_some", "_law_bad"] ["_law_meeting_here", "_law_cell_here"] (defScope s__law_bad_meeting) := ⟨rfl, rfl, rfl, by decide +kernel, rfl, by decide +kernel, by decide +kernel⟩
set_option maxHeartbeats 8000000 in
theorem body__law_bad_meeting (T : Txt K mg)  {f : Addr} {cdv : Value} {A : Around} {outer : List Env} {s : Shared} {H : Hp} {E : XK} (hr : Room 0 (A.deeper (envOfC "_law_bad_meeting" (defScope s__law_bad_meeting) s.heap.objs.size f cdv))) :
    DSs (cxOf CX0 P w K mg base ["_law_meeting_here", "_law_cell_here", "_law_deeds", "_law_pay", "_law_some", "_law_bad"] "_law_bad_meeting" (defScope s__law_bad_meeting) f cdv A outer s H E).nox (defBody s__law_bad_meeting) g__law_bad_meeting := by
  have hu := hr.units
  exact (dss_cons (ds_asg (de_var (pv 0)) (dg_two (pg_name (i := 2) sc__law_bad_meeting.nd rfl (Or.inl rfl)) (pg_name (i := 3) sc__law_bad_meeting.nd rfl (Or.inl rfl)) (fun h1 h2 => pg_tup rfl (pgs_cons h1 (pgs_cons h2 pgs_nil)))) (fun h1 h2 => ps_asg h1 h2)) (dss_cons (ds_asgO (i := 4) (df_lst (da_cons (de_tup (da_cons (de_var (pv 2)) (da_cons (de_slT (de_var (pv 3)) do_none (do_some (de_neg de_int))) da_nil))) (da_cons (de_tup (da_cons (de_var (pv 2)) (da_cons (de_op do_add (de_var (pv 3)) (de_slT (de_var (pv 3)) do_none (do_some de_int))) da_nil))) (da_cons (de_tup (da_cons (de_slT (de_var (pv 2)) do_none (do_some de_int)) (da_cons (de_var (pv 3)) da_nil))) (da_cons (de_tup (da_cons (de_op do_add (de_var (pv 2)) (de_tup (da_cons de_int (da_cons de_int da_nil)))) (da_cons (de_var (pv 3)) da_nil))) (da_cons (de_var (pv 2)) da_nil)))))) (fun h => ps_set (i := 4) sc__law_bad_meeting.nd rfl (Or.inl rfl) h)) (dss_cons (ds_app (i := 4) (de_tup (da_cons (de_var (pv 2)) (da_cons (DF.toE (df_call dc_list (da_cons (de_var (pv 3)) da_nil) (fun h1 h2 => pe_callTy h1 rfl T.n_list bt_list h2))) da_nil))) (fun h => ps_expr (pe_bm PySem.F.plainAttrs_list PySem.F.slot_list_append PySem.F.type_list_append mt_append (pv 4) (pa_cons h pa_nil)))) (dss_cons (ds_for rfl PassesOwn.never (di_lst (DF.toE (df_lst (da_cons de_int (da_cons (de_neg de_int) (da_cons de_bl (da_cons de_non (da_cons de_str (da_cons (de_tup (da_cons de_int da_nil)) da_nil))))))))) (dg_name (pg_name (i := 5) sc__law_bad_meeting.nd rfl (Or.inl rfl))) (dss_one (ds_app (i := 4) (de_tup (da_cons (de_var (pv 2)) (da_cons (de_op do_add (de_tup (da_cons (de_op do_add (de_tup (da_cons (de_var (pv 5)) da_nil)) (de_slT (de_ix (de_var (pv 3)) de_int (fun _ _ => rfl)) (do_some de_int) do_none)) da_nil)) (de_slT (de_var (pv 3)) (do_some de_int) do_none)) da_nil))) (fun h => ps_expr (pe_bm PySem.F.plainAttrs_list PySem.F.slot_list_append PySem.F.type_list_append mt_append (pv 4) (pa_cons h pa_nil)))))) (dss_frz 4 (dss_cons (ds_asgO (i := 4) (df_cat (de_var (pv 4)) (DF.toE (df_lst (da_cons (de_tup (da_cons (de_var (pv 2)) (da_cons (de_op do_add (de_tup (da_cons (de_slT (de_ix (de_var (pv 3)) de_int (fun _ _ => rfl)) do_none (do_some (de_neg de_int))) da_nil)) (de_slT (de_var (pv 3)) (do_some de_int) do_none)) da_nil))) (da_cons (de_tup (da_cons (de_var (pv 2)) (da_cons (de_op do_add (de_tup (da_cons (DF.toE (df_call dc_list (da_cons (de_ix (de_var (pv 3)) de_int (fun _ _ => rfl)) da_nil) (fun h1 h2 => pe_callTy h1 rfl T.n_list bt_list h2))) da_nil)) (de_slT (de_var (pv 3)) (do_some de_int) do_none)) da_nil))) (da_cons (DF.toE (df_lst (da_cons (de_var (pv 2)) (da_cons (de_var (pv 3)) da_nil)))) da_nil)))))) (fun h => ps_set (i := 4) sc__law_bad_meeting.nd rfl (Or.inl rfl) h)) (dss_frz 4 (dss_cons (ds_asgO (i := 4) (df_cat (de_var (pv 4)) (DF.toE (df_lst (da_cons (de_tup (da_cons (de_op do_add (de_tup (da_cons de_int da_nil)) (de_slT (de_var (pv 2)) (do_some de_int) do_none)) (da_cons (de_tup da_nil) da_nil))) (da_cons (de_tup (da_cons (de_op do_add (de_tup (da_cons de_int da_nil)) (de_slT (de_var (pv 2)) (do_some de_int) do_none)) (da_cons (de_var (pv 3)) da_nil))) (da_cons (de_tup (da_cons (de_op do_add (de_tup (da_cons de_bl da_nil)) (de_slT (de_var (pv 2)) (do_some de_int) do_none)) (da_cons (de_var (pv 3)) da_nil))) da_nil)))))) (fun h => ps_set (i := 4) sc__law_bad_meeting.nd rfl (Or.inl rfl) h)) (dss_frz 4 (dss_cons (ds_asgO (i := 4) (df_cat (de_var (pv 4)) (DF.toE (df_lst (da_cons (de_tup (da_cons (DF.toE (df_call dc_list (da_cons (de_var (pv 2)) da_nil) (fun h1 h2 => pe_callTy h1 rfl T.n_list bt_list h2))) (da_cons (de_var (pv 3)) da_nil))) (da_cons de_str (da_cons (de_tup (da_cons (de_var (pv 2)) da_nil)) (da_cons de_non (da_cons de_int da_nil)))))))) (fun h => ps_set (i := 4) sc__law_bad_meeting.nd rfl (Or.inl rfl) h)) (dss_frz 4 (dss_one (ds_ret (de_ix (de_var (pv 4)) (de_op do_mod (de_var (pv 1)) (de_callG dc_len (da_cons (de_var (pv 4)) da_nil) (fun h1 h2 => pe_callB h1 rfl T.n_len bt_len h2))) (fun _ _ => rfl)))))))))))))))
theorem sc__law_bad_plan : FnScope ["_law_plan_here", "_law_cell_here", "_law_row_here", "_law_nexts", "_law_rest", "_law_some", "_law_bad", "_law_less"] ["_law_plan_here", "_law_cell_here"] (defScope s__law_bad_plan) := ⟨rfl, rfl, rfl, by decide +kernel, rfl, by decide +kernel, by decide +kernel⟩
set_option maxHeartbeats 8000000 in
theorem body__law_bad_plan (T : Txt K mg)  {f : Addr} {cdv : Value} {A : Around} {outer : List Env} {s : Shared} {H : Hp} {E : XK} (hr : Room 0 (A.deeper (envOfC "_law_bad_plan" (defScope s__law_bad_plan) s.heap.objs.size f cdv))) :
    DSs (cxOf CX0 P w K mg base ["_law_plan_here", "_law_cell_here", "_law_row_here", "_law_nexts", "_law_rest", "_law_some", "_law_bad", "_law_less"] "_law_bad_plan" (defScope s__law_bad_plan) f cdv A outer s H E).nox (defBody s__law_bad_plan) g__law_bad_plan := by
  have hu := hr.units
  exact (dss_cons (ds_asg (de_ix (de_var (pv 0)) de_int (fun _ _ => rfl)) (dg_two (pg_name (i := 2) sc__law_bad_plan.nd rfl (Or.inl rfl)) (pg_name (i := 3) sc__law_bad_plan.nd rfl (Or.inl rfl)) (fun h1 h2 => pg_tup rfl (pgs_cons h1 (pgs_cons h2 pgs_nil)))) (fun h1 h2 => ps_asg h1 h2)) (dss_cons (ds_asg (de_slT (de_var (pv 0)) (do_some de_int) do_none) (dg_name (pg_name (i := 4) sc__law_bad_plan.nd rfl (Or.inl rfl))) (fun h1 h2 => ps_asg h1 h2)) (dss_cons (ds_asgO (i := 5) (df_lst (da_cons (de_tup da_nil) (da_cons (de_op do_mul (de_var (pv 0)) de_int) (da_cons (DF.toE (df_call dc_list (da_cons (de_var (pv 0)) da_nil) (fun h1 h2 => pe_callTy h1 rfl T.n_list bt_list h2))) (da_cons de_non (da_cons (de_op do_add (de_tup (da_cons (de_tup (da_cons (de_var (pv 2)) (da_cons (de_var (pv 3)) (da_cons de_int da_nil)))) da_nil)) (de_var (pv 4))) (da_cons (de_op do_add (de_tup (da_cons (de_tup (da_cons (de_var (pv 2)) da_nil)) da_nil)) (de_var (pv 4))) (da_cons de_int (da_cons de_str da_nil))))))))) (fun h => ps_set (i := 5) sc__law_bad_plan.nd rfl (Or.inl rfl) h)) (dss_cons (ds_app (i := 5) (de_op do_add (de_tup (da_cons (DF.toE (df_lst (da_cons (de_var (pv 2)) (da_cons (de_var (pv 3)) da_nil)))) da_nil)) (de_var (pv 4))) (fun h => ps_expr (pe_bm PySem.F.plainAttrs_list PySem.F.slot_list_append PySem.F.type_list_append mt_append (pv 5) (pa_cons h pa_nil)))) (dss_cons (ds_for rfl PassesOwn.never (di_lst (DF.toE (df_lst (da_cons (de_slT (de_var (pv 2)) do_none (do_some (de_neg de_int))) (da_cons (de_op do_add (de_var (pv 2)) (de_tup (da_cons de_int da_nil))) (da_cons (de_op do_add (de_tup (da_cons (de_neg de_int) da_nil)) (de_slT (de_var (pv 2)) (do_some de_int) do_none)) (da_cons (de_op do_add (de_tup (da_cons de_int da_nil)) (de_slT (de_var (pv 2)) (do_some de_int) do_none)) (da_cons (de_op do_add (de_tup (da_cons de_bl da_nil)) (de_slT (de_var (pv 2)) (do_some de_int) do_none)) (da_cons (DF.toE (df_call dc_list (da_cons (de_var (pv 2)) da_nil) (fun h1 h2 => pe_callTy h1 rfl T.n_list bt_list h2))) (da_cons de_non da_nil)))))))))) (dg_name (pg_name (i := 6) sc__law_bad_plan.nd rfl (Or.inl rfl))) (dss_one (ds_app (i := 5) (de_op do_add (de_tup (da_cons (de_tup (da_cons (de_var (pv 6)) (da_cons (de_var (pv 3)) da_nil))) da_nil)) (de_var (pv 4))) (fun h => ps_expr (pe_bm PySem.F.plainAttrs_list PySem.F.slot_list_append PySem.F.type_list_append mt_append (pv 5) (pa_cons h pa_nil)))))) (dss_cons (ds_asg (de_slT (de_var (pv 3)) (do_some de_int) do_none) (dg_name (pg_name (i := 7) sc__law_bad_plan.nd rfl (Or.inl rfl))) (fun h1 h2 => ps_asg h1 h2)) (dss_cons (ds_for rfl PassesOwn.never (di_lst (DF.toE (df_lst (da_cons (de_slT (de_var (pv 3)) do_none (do_some (de_neg de_int))) (da_cons (de_op do_add (de_var (pv 3)) (de_tup (da_cons de_int da_nil))) (da_cons (de_op do_add (de_tup (da_cons (de_neg de_int) da_nil)) (de_var (pv 7))) (da_cons (de_op do_add (de_tup (da_cons (de_callG dc_len (da_cons (de_var (pv 0)) da_nil) (fun h1 h2 => pe_callB h1 rfl T.n_len bt_len h2)) da_nil)) (de_var (pv 7))) (da_cons (de_op do_add (de_tup (da_cons de_bl da_nil)) (de_var (pv 7))) (da_cons (DF.toE (df_call dc_list (da_cons (de_var (pv 3)) da_nil) (fun h1 h2 => pe_callTy h1 rfl T.n_list bt_list h2))) (da_cons de_int da_nil)))))))))) (dg_name (pg_name (i := 6) sc__law_bad_plan.nd rfl (Or.inl rfl))) (dss_one (ds_app (i := 5) (de_op do_add (de_tup (da_cons (de_tup (da_cons (de_var (pv 2)) (da_cons (de_var (pv 6)) da_nil))) da_nil)) (de_var (pv 4))) (fun h => ps_expr (pe_bm PySem.F.plainAttrs_list PySem.F.slot_list_append PySem.F.type_list_append mt_append (pv 5) (pa_cons h pa_nil)))))) (dss_frz 5 (dss_one (ds_ret (de_ix (de_var (pv 5)) (de_op do_mod (de_var (pv 1)) (de_callG dc_len (da_cons (de_var (pv 5)) da_nil) (fun h1 h2 => pe_callB h1 rfl T.n_len bt_len h2))) (fun _ _ => rfl))))))))))))
theorem sc_is_fraction : FnScope ["thing", "upper", "lower"] ["thing"] (defScope s_is_fraction) := ⟨rfl, rfl, rfl, by decide +kernel, rfl, by decide +kernel, by decide +kernel⟩
set_option maxHeartbeats 8000000 in
theorem body_is_fraction (T : Txt K mg) (h_is_whole : DFn P w K mg base 1 "is_whole" F_is_whole) (h_common_divisor : DFn P w K mg base 1 "common_divisor" F_common_divisor) {f : Addr} {cdv : Value} {A : Around} {outer : List Env} {s : Shared} {H : Hp} {E : XK} (hr : Room 1 (A.deeper (envOfC "is_fraction" (defScope s_is_fraction) s.heap.objs.size f cdv))) :
    DSs (cxOf CX0 P w K mg base ["thing", "upper", "lower"] "is_fraction" (defScope s_is_fraction) f cdv A outer s H E).nox (defBody s_is_fraction) g_is_fraction := by
  have hu := hr.units
  exact (dss_cons (ds_if (DW.t (dw_or (dt_not (dt_tru (de_inst (T := "tuple") (by decide) (de_var (pv 0)) (pe_bltn rfl T.n_tuple bt_tuple rfl) (fun h1 h2 => pe_callB h1 rfl T.n_isinstance bt_isinstance h2)) (fun _ => rfl))) (dw_or1 (dt_cmp (do_ne hu) (de_callG dc_len (da_cons (de_var (pv 0)) da_nil) (fun h1 h2 => pe_callB h1 rfl T.n_len bt_len h2)) de_int)))) (dss_one (ds_ret de_bl)) dss_nil) (dss_cons (ds_asg (de_ix (de_var (pv 0)) de_int (fun _ _ => rfl)) (dg_name (pg_name (i := 1) sc_is_fraction.nd rfl (Or.inl rfl))) (fun h1 h2 => ps_asg h1 h2)) (dss_cons (ds_asg (de_ix (de_var (pv 0)) de_int (fun _ _ => rfl)) (dg_name (pg_name (i := 2) sc_is_fraction.nd rfl (Or.inl rfl))) (fun h1 h2 => ps_asg h1 h2)) (dss_one (ds_ret (de_and (de_call h_is_whole (hr.mono (by decide)) rfl (da_cons (de_var (pv 1)) da_nil)) (de_and (de_call h_is_whole (hr.mono (by decide)) rfl (da_cons (de_var (pv 2)) da_nil)) (de_and (de_cmp do_ge (de_var (pv 2)) de_int) (de_one (de_cmp (do_eq hu) (de_call h_common_divisor (hr.mono (by decide)) rfl (da_cons (de_var (pv 1)) (da_cons (de_var (pv 2)) da_nil))) de_int))))))))))
theorem sc_all_rows : FnScope ["meeting"] ["meeting"] (defScope s_all_rows) := ⟨rfl, rfl, rfl, by decide +kernel, rfl, by decide +kernel, by decide +kernel⟩
set_option maxHeartbeats 8000000 in
theorem body_all_rows (T : Txt K mg) (h_rows_of : DFn P w K mg base 1 "rows_of" F_rows_of) {f : Addr} {cdv : Value} {A : Around} {outer : List Env} {s : Shared} {H : Hp} {E : XK} (hr : Room 1 (A.deeper (envOfC "all_rows" (defScope s_all_rows) s.heap.objs.size f cdv))) :
    DSs (cxOf CX0 P w K mg base ["meeting"] "all_rows" (defScope s_all_rows) f cdv A outer s H E).nox (defBody s_all_rows) g_all_rows := by
  have hu := hr.units
  exact (dss_one (ds_ret (de_call h_rows_of (hr.mono (by decide)) rfl (da_cons (de_ix (de_var (pv 0)) de_int (fun _ _ => rfl)) da_nil))))
theorem sc_is_between : FnScope ["thing", "least", "most"] ["thing", "least", "most"] (defScope s_is_between) := ⟨rfl, rfl, rfl, by decide +kernel, rfl, by decide +kernel, by decide +kernel⟩
set_option maxHeartbeats 8000000 in
theorem body_is_between (T : Txt K mg) (h_is_whole : DFn P w K mg base 1 "is_whole" F_is_whole) {f : Addr} {cdv : Value} {A : Around} {outer : List Env} {s : Shared} {H : Hp} {E : XK} (hr : Room 1 (A.deeper (envOfC "is_between" (defScope s_is_between) s.heap.objs.size f cdv))) :
    DSs (cxOf CX0 P w K mg base ["thing", "least", "most"] "is_between" (defScope s_is_between) f cdv A outer s H E).nox (defBody s_is_between) g_is_between := by
  have hu := hr.units
  exact (dss_one (ds_ret (de_and (de_call h_is_whole (hr.mono (by decide)) rfl (da_cons (de_var (pv 0)) da_nil)) (de_one (de_chain do_le do_le (de_var (pv 1)) (de_var (pv 0)) (de_var (pv 2)))))))
theorem sc__law_meeting : FnScope ["_law_cell_here", "_law_deeds", "_law_wide", "_law_pay", "_law_k", "_law_seed", "_law_one", "_law_few"] ["_law_cell_here"] (defScope s__law_meeting) := ⟨rfl, rfl, rfl, by decide +kernel, rfl, by decide +kernel, by decide +kernel⟩
set_option maxHeartbeats 8000000 in
theorem body__law_meeting (T : Txt K mg) (h__law_mix : DFn P w K mg base 1 "_law_mix" F__law_mix) (h__law_rows : DFn P w K mg base 1 "_law_rows" F__law_rows) {f : Addr} {cdv : Value} {A : Around} {outer : List Env} {s : Shared} {H : Hp} {E : XK} (hr : Room 1 (A.deeper (envOfC "_law_meeting" (defScope s__law_meeting) s.heap.objs.size f cdv))) :
    DSs (cxOf CX0 P w K mg base ["_law_cell_here", "_law_deeds", "_law_wide", "_law_pay", "_law_k", "_law_seed", "_law_one", "_law_few"] "_law_meeting" (defScope s__law_meeting) f cdv A outer s H E).nox (defBody s__law_meeting) g__law_meeting := by
  have hu := hr.units
  exact (dss_cons (ds_asg (de_callG dc_tuple (da_cons (DF.toE (df_comp (Nc := ["_law_k", "_law_cell_here"]) (fr := [none, some 0]) (ss := [0]) (compOk_of (sc := (defScope s__law_meeting)) (N := ["_law_cell_here", "_law_deeds", "_law_wide", "_law_pay", "_law_k", "_law_seed", "_law_one", "_law_few"]) rfl rfl (by decide +kernel)) (by decide) rfl (di_rng1 rfl T.n_range (de_op do_add de_int (de_op do_div (de_call h__law_mix (hr.mono (by decide)) rfl (da_cons (de_var (pv 0)) (da_cons de_int (da_cons de_int da_nil)))) de_int))) (fun Cc pins fp s3 H3 => dg_name (pg_name (i := 0) (show (["_law_k", "_law_cell_here"] : List Str).Nodup by decide +kernel) rfl (Or.inl rfl))) (fun Cc pins fp s3 H3 => (de_op do_add de_int (de_call h__law_mix (hr.mono (by decide)) rfl (da_cons (de_op do_add (de_var (pv 1)) (de_op do_mul de_int (de_var (pv 0)))) (da_cons de_int (da_cons de_int da_nil)))))) mono_nm)) da_nil) (fun h1 h2 => pe_callTy h1 rfl T.n_tuple bt_tuple h2)) (dg_name (pg_name (i := 1) sc__law_meeting.nd rfl (Or.inl rfl))) (fun h1 h2 => ps_asg h1 h2)) (dss_cons (ds_if (dt_cmp (do_eq hu) (de_op do_mod (de_var (pv 0)) de_int) de_int) (dss_one (ds_asg (de_tup (da_cons de_int (da_cons de_int da_nil))) (dg_name (pg_name (i := 1) sc__law_meeting.nd rfl (Or.inl rfl))) (fun h1 h2 => ps_asg h1 h2))) dss_nil) (dss_cons (ds_asg (de_ix (DF.toE (df_lst (da_cons de_int (da_cons de_int (da_cons de_int da_nil))))) (de_call h__law_mix (hr.mono (by decide)) rfl (da_cons (de_var (pv 0)) (da_cons de_int (da_cons de_int da_nil)))) (fun _ _ => rfl)) (dg_name (pg_name (i := 2) sc__law_meeting.nd rfl (Or.inr rfl))) (fun h1 h2 => ps_asg h1 h2)) (dss_cons (ds_asgO (i := 3) (df_lst da_nil) (fun h => ps_set (i := 3) sc__law_meeting.nd rfl (Or.inl rfl) h)) (dss_cons (ds_for rfl PassesOwn.never (di_rng1 rfl T.n_range (de_callG dc_len (da_cons (de_call h__law_rows (hr.mono (by decide)) rfl (da_cons (de_var (pv 1)) da_nil)) da_nil) (fun h1 h2 => pe_callB h1 rfl T.n_len bt_len h2))) (dg_name (pg_name (i := 4) sc__law_meeting.nd rfl (Or.inl rfl))) (dss_cons (ds_asg (de_op do_add (de_var (pv 0)) (de_op do_mul de_int (de_var (pv 4)))) (dg_name (pg_name (i := 5) sc__law_meeting.nd rfl (Or.inr rfl))) (fun h1 h2 => ps_asg h1 h2)) (dss_cons (ds_compO0 (i := 6) (Nc := ["_law_hand", "_law_wide", "_law_seed"]) (fr := [none, some 2, some 5]) (ss := [0]) (compOk_of (sc := (defScope s__law_meeting)) (N := ["_law_cell_here", "_law_deeds", "_law_wide", "_law_pay", "_law_k", "_law_seed", "_law_one", "_law_few"]) rfl rfl (by decide +kernel)) (by decide) rfl sc__law_meeting.nd rfl (Or.inl rfl) (di_rng1 rfl T.n_range (de_callG dc_len (da_cons (de_var (pv 1)) da_nil) (fun h1 h2 => pe_callB h1 rfl T.n_len bt_len h2))) (fun Cc pins fp s3 H3 => dg_name (pg_name (i := 0) (show (["_law_hand", "_law_wide", "_law_seed"] : List Str).Nodup by decide +kernel) rfl (Or.inl rfl))) (fun Cc pins fp s3 H3 => (de_op do_sub (de_op do_add (de_call h__law_mix (hr.mono (by decide)) rfl (da_cons (de_op do_add (de_var (pv 2)) (de_op do_mul de_int (de_var (pv 0)))) (da_cons de_int (da_cons (de_op do_sub (de_op do_mul de_int (de_var (pv 1))) de_int) da_nil)))) de_int) (de_var (pv 1)))) mono_nm rfl) (dss_frz 6 (dss_one (ds_app (i := 3) (de_callG dc_tuple (da_cons (de_var (pv 6)) da_nil) (fun h1 h2 => pe_callTy h1 rfl T.n_tuple bt_tuple h2)) (fun h => ps_expr (pe_bm PySem.F.plainAttrs_list PySem.F.slot_list_append PySem.F.type_list_append mt_append (pv 3) (pa_cons h pa_nil))))))))) (dss_cons (ds_if (dt_cmp (do_eq hu) (de_op do_mod (de_var (pv 0)) de_int) de_int) (dss_cons (ds_asg (DF.toE (df_call dc_sorted (da_cons (DF.toE (df_comp (Nc := ["_law_k", "_law_cell_here"]) (fr := [none, some 0]) (ss := [0]) (compOk_of (sc := (defScope s__law_meeting)) (N := ["_law_cell_here", "_law_deeds", "_law_wide", "_law_pay", "_law_k", "_law_seed", "_law_one", "_law_few"]) rfl rfl (by decide +kernel)) (by decide) rfl (di_rng1 rfl T.n_range de_int) (fun Cc pins fp s3 H3 => dg_name (pg_name (i := 0) (show (["_law_k", "_law_cell_here"] : List Str).Nodup by decide +kernel) rfl (Or.inl rfl))) (fun Cc pins fp s3 H3 => (de_op do_sub (de_call h__law_mix (hr.mono (by decide)) rfl (da_cons (de_op do_add (de_var (pv 1)) (de_var (pv 0))) (da_cons de_int (da_cons de_int da_nil)))) de_int)) mono_nm)) da_nil) (fun h1 h2 => pe_callB h1 rfl T.n_sorted bt_sorted h2))) (dg_name (pg_name (i := 7) sc__law_meeting.nd rfl (Or.inl rfl))) (fun h1 h2 => ps_asg h1 h2)) (dss_one (ds_asgO (i := 3) (df_lst (da_cons (de_tup (da_cons (de_ix (de_var (pv 7)) de_int (fun _ _ => rfl)) (da_cons (de_ix (de_var (pv 7)) de_int (fun _ _ => rfl)) da_nil))) (da_cons (de_tup (da_cons (de_ix (de_var (pv 7)) de_int (fun _ _ => rfl)) (da_cons (de_ix (de_var (pv 7)) de_int (fun _ _ => rfl)) da_nil))) (da_cons (de_tup (da_cons (de_ix (de_var (pv 7)) de_int (fun _ _ => rfl)) (da_cons (de_ix (de_var (pv 7)) de_int (fun _ _ => rfl)) da_nil))) (da_cons (de_tup (da_cons (de_ix (de_var (pv 7)) de_int (fun _ _ => rfl)) (da_cons (de_ix (de_var (pv 7)) de_int (fun _ _ => rfl)) da_nil))) da_nil))))) (fun h => ps_set (i := 3) sc__law_meeting.nd rfl (Or.inl rfl) h)))) dss_nil) (dss_frz 3 (dss_one (ds_ret (de_tup (da_cons (de_var (pv 1)) (da_cons (de_callG dc_tuple (da_cons (de_var (pv 3)) da_nil) (fun h1 h2 => pe_callTy h1 rfl T.n_tuple bt_tuple h2)) da_nil))))))))))))
theorem sc__law_patience : FnScope ["_law_cell_here", "_law_lower", "_law_upper", "_law_by"] ["_law_cell_here"] (defScope s__law_patience) := ⟨rfl, rfl, rfl, by decide +kernel, rfl, by decide +kernel, by decide +kernel⟩
set_option maxHeartbeats 8000000 in
theorem body__law_patience (T : Txt K mg) (h__law_mix : DFn P w K mg base 1 "_law_mix" F__law_mix) {f : Addr} {cdv : Value} {A : Around} {outer : List Env} {s : Shared} {H : Hp} {E : XK} (hr : Room 1 (A.deeper (envOfC "_law_patience" (defScope s__law_patience) s.heap.objs.size f cdv))) :
    DSs (cxOf CX0 P w K mg base ["_law_cell_here", "_law_lower", "_law_upper", "_law_by"] "_law_patience" (defScope s__law_patience) f cdv A outer s H E).nox (defBody s__law_patience) g__law_patience := by
  have hu := hr.units
  exact (dss_cons (ds_asg (de_op do_add de_int (de_call h__law_mix (hr.mono (by decide)) rfl (da_cons (de_var (pv 0)) (da_cons de_int (da_cons de_int da_nil))))) (dg_name (pg_name (i := 1) sc__law_patience.nd rfl (Or.inl rfl))) (fun h1 h2 => ps_asg h1 h2)) (dss_cons (ds_asg (de_op do_add de_int (de_call h__law_mix (hr.mono (by decide)) rfl (da_cons (de_var (pv 0)) (da_cons de_int (da_cons (de_op do_sub (de_var (pv 1)) de_int) da_nil))))) (dg_name (pg_name (i := 2) sc__law_patience.nd rfl (Or.inl rfl))) (fun h1 h2 => ps_asg h1 h2)) (dss_cons (ds_if (dt_cmp (do_eq hu) (de_op do_mod (de_var (pv 0)) de_int) de_int) (dss_one (ds_asg (de_op do_sub (de_var (pv 1)) de_int) (dg_name (pg_name (i := 2) sc__law_patience.nd rfl (Or.inl rfl))) (fun h1 h2 => ps_asg h1 h2))) dss_nil) (dss_cons (ds_for rfl PassesOwn.never (di_rng2 rfl T.n_range de_int de_int (hp := fun h => pi_range2 rfl T.n_range h)) (dg_name (pg_name (i := 3) sc__law_patience.nd rfl (Or.inl rfl))) (dss_one (ds_while PassesOwn.never (DW.t (dw_and (dt_cmp (do_eq hu) (de_op do_mod (de_var (pv 2)) (de_var (pv 3))) de_int) (dw_and1 (dt_cmp (do_eq hu) (de_op do_mod (de_var (pv 1)) (de_var (pv 3))) de_int)))) (dss_cons (ds_asg (de_op do_div (de_var (pv 2)) (de_var (pv 3))) (dg_name (pg_name (i := 2) sc__law_patience.nd rfl (Or.inl rfl))) (fun h1 h2 => ps_asg h1 h2)) (dss_one (ds_asg (de_op do_div (de_var (pv 1)) (de_var (pv 3))) (dg_name (pg_name (i := 1) sc__law_patience.nd rfl (Or.inl rfl))) (fun h1 h2 => ps_asg h1 h2))))))) (dss_one (ds_ret (de_tup (da_cons (de_var (pv 2)) (da_cons (de_var (pv 1)) da_nil)))))))))
theorem sc__law_row : FnScope ["_law_meeting_here", "_law_cell_here", "_law_some"] ["_law_meeting_here", "_law_cell_here"] (defScope s__law_row) := ⟨rfl, rfl, rfl, by decide +kernel, rfl, by decide +kernel, by decide +kernel⟩
set_option maxHeartbeats 8000000 in
theorem body__law_row (T : Txt K mg) (h__law_rows : DFn P w K mg base 1 "_law_rows" F__law_rows) (h__law_mix : DFn P w K mg base 1 "_law_mix" F__law_mix) {f : Addr} {cdv : Value} {A : Around} {outer : List Env} {s : Shared} {H : Hp} {E : XK} (hr : Room 1 (A.deeper (envOfC "_law_row" (defScope s__law_row) s.heap.objs.size f cdv))) :
    DSs (cxOf CX0 P w K mg base ["_law_meeting_here", "_law_cell_here", "_law_some"] "_law_row" (defScope s__law_row) f cdv A outer s H E).nox (defBody s__law_row) g__law_row := by
  have hu := hr.units
  exact (dss_cons (ds_asg (de_call h__law_rows (hr.mono (by decide)) rfl (da_cons (de_ix (de_var (pv 0)) de_int (fun _ _ => rfl)) da_nil)) (dg_name (pg_name (i := 2) sc__law_row.nd rfl (Or.inl rfl))) (fun h1 h2 => ps_asg h1 h2)) (dss_one (ds_ret (de_ix (de_var (pv 2)) (de_call h__law_mix (hr.mono (by decide)) rfl (da_cons (de_var (pv 1)) (da_cons de_int (da_cons (de_callG dc_len (da_cons (de_var (pv 2)) da_nil) (fun h1 h2 => pe_callB h1 rfl T.n_len bt_len h2)) da_nil)))) (fun _ _ => rfl)))))
theorem sc__law_cells : FnScope ["_law_script", "_law_k"] ["_law_script", "_law_k"] (defScope s__law_cells) := ⟨rfl, rfl, rfl, by decide +kernel, rfl, by decide +kernel, by decide +kernel⟩
set_option maxHeartbeats 8000000 in
theorem body__law_cells (T : Txt K mg) (h__law_cell : DFn P w K mg base 1 "_law_cell" F__law_cell) {f : Addr} {cdv : Value} {A : Around} {outer : List Env} {s : Shared} {H : Hp} {E : XK} (hr : Room 1 (A.deeper (envOfC "_law_cells" (defScope s__law_cells) s.heap.objs.size f cdv))) :
    DSs (cxOf CX0 P w K mg base ["_law_script", "_law_k"] "_law_cells" (defScope s__law_cells) f cdv A outer s H E).nox (defBody s__law_cells) g__law_cells := by
  have hu := hr.units
  exact (dss_one (ds_ret (DF.toE (df_comp (Nc := ["_law_n", "_law_script", "_law_k"]) (fr := [none, some 0, some 1]) (ss := [0]) (compOk_of (sc := (defScope s__law_cells)) (N := ["_law_script", "_law_k"]) rfl rfl (by decide +kernel)) (by decide) rfl (di_rng1 rfl T.n_range de_int) (fun Cc pins fp s3 H3 => dg_name (pg_name (i := 0) (show (["_law_n", "_law_script", "_law_k"] : List Str).Nodup by decide +kernel) rfl (Or.inl rfl))) (fun Cc pins fp s3 H3 => (de_call h__law_cell (hr.mono (by decide)) rfl (da_cons (de_var (pv 1)) (da_cons (de_op do_add (de_var (pv 2)) (de_var (pv 0))) da_nil)))) mono_nm))))
theorem sc_is_patience : FnScope ["thing"] ["thing"] (defScope s_is_patience) := ⟨rfl, rfl, rfl, by decide +kernel, rfl, by decide +kernel, by decide +kernel⟩
set_option maxHeartbeats 8000000 in
theorem body_is_patience (T : Txt K mg) (h_is_fraction : DFn P w K mg base 2 "is_fraction" F_is_fraction) {f : Addr} {cdv : Value} {A : Around} {outer : List Env} {s : Shared} {H : Hp} {E : XK} (hr : Room 2 (A.deeper (envOfC "is_patience" (defScope s_is_patience) s.heap.objs.size f cdv))) :
    DSs (cxOf CX0 P w K mg base ["thing"] "is_patience" (defScope s_is_patience) f cdv A outer s H E).nox (defBody s_is_patience) g_is_patience := by
  have hu := hr.units
  exact (dss_one (ds_ret (de_and (de_call h_is_fraction (hr.mono (by decide)) rfl (da_cons (de_var (pv 0)) da_nil)) (de_one (de_chain3 do_lt do_lt do_le de_int (de_ix (de_var (pv 0)) de_int (fun _ _ => rfl)) (de_ix (de_var (pv 0)) de_int (fun _ _ => rfl)) (de_globE rfl T.c_MOST_LOWER))))))
theorem sc_is_row : FnScope ["thing", "deeds"] ["thing", "deeds"] (defScope s_is_row) := ⟨rfl, rfl, rfl, by decide +kernel, rfl, by decide +kernel, by decide +kernel⟩
set_option maxHeartbeats 8000000 in
theorem body_is_row (T : Txt K mg) (h_is_tuple_of : DFn P w K mg base 1 "is_tuple_of" F_is_tuple_of) (h_is_between : DFn P w K mg base 2 "is_between" F_is_between) {f : Addr} {cdv : Value} {A : Around} {outer : List Env} {s : Shared} {H : Hp} {E : XK} (hr : Room 2 (A.deeper (envOfC "is_row" (defScope s_is_row) s.heap.objs.size f cdv))) :
    DSs (cxOf CX0 P w K mg base ["thing", "deeds"] "is_row" (defScope s_is_row) f cdv A outer s H E).nox (defBody s_is_row) g_is_row := by
  have hu := hr.units
  exact (dss_cons (ds_if (dt_not (dt_tru (de_call h_is_tuple_of (hr.mono (by decide)) rfl (da_cons (de_var (pv 0)) (da_cons (de_callG dc_len (da_cons (de_var (pv 1)) da_nil) (fun h1 h2 => pe_callB h1 rfl T.n_len bt_len h2)) (da_cons (de_callG dc_len (da_cons (de_var (pv 1)) da_nil) (fun h1 h2 => pe_callB h1 rfl T.n_len bt_len h2)) da_nil)))) (fun _ => rfl))) (dss_one (ds_ret de_bl)) dss_nil) (dss_one (ds_ret (de_callG (dc_all rfl) (da_cons (DF.toE (df_comp (Nc := ["deed", "many"]) (fr := [none, none]) (ss := [0, 1]) (compOk_of (sc := (defScope s_is_row)) (N := ["thing", "deeds"]) rfl rfl (by decide +kernel)) (by decide) rfl (di_zip rfl T.n_zip bt_zip (de_var (pv 0)) (de_var (pv 1))) (fun Cc pins fp s3 H3 => dg_two (pg_name (i := 0) (show (["deed", "many"] : List Str).Nodup by decide +kernel) rfl (Or.inl rfl)) (pg_name (i := 1) (show (["deed", "many"] : List Str).Nodup by decide +kernel) rfl (Or.inl rfl)) (fun h1 h2 => pg_tup rfl (pgs_cons h1 (pgs_cons h2 pgs_nil)))) (fun Cc pins fp s3 H3 => (de_call h_is_between (hr.mono (by decide)) rfl (da_cons (de_var (pv 0)) (da_cons de_int (da_cons (de_op do_sub (de_var (pv 1)) de_int) da_nil))))) mono_nm2)) da_nil) (fun h1 h2 => pe_callB h1 rfl T.n_all bt_all h2)))))
theorem sc_are_between : FnScope ["parts", "least", "most"] ["parts", "least", "most"] (defScope s_are_between) := ⟨rfl, rfl, rfl, by decide +kernel, rfl, by decide +kernel, by decide +kernel⟩
set_option maxHeartbeats 8000000 in
theorem body_are_between (T : Txt K mg) (h_is_between : DFn P w K mg base 2 "is_between" F_is_between) {f : Addr} {cdv : Value} {A : Around} {outer : List Env} {s : Shared} {H : Hp} {E : XK} (hr : Room 2 (A.deeper (envOfC "are_between" (defScope s_are_between) s.heap.objs.size f cdv))) :
    DSs (cxOf CX0 P w K mg base ["parts", "least", "most"] "are_between" (defScope s_are_between) f cdv A outer s H E).nox (defBody s_are_between) g_are_between := by
  have hu := hr.units
  exact (dss_one (ds_ret (de_callG (dc_all rfl) (da_cons (DF.toE (df_comp (Nc := ["part", "least", "most"]) (fr := [none, some 1, some 2]) (ss := [0]) (compOk_of (sc := (defScope s_are_between)) (N := ["parts", "least", "most"]) rfl rfl (by decide +kernel)) (by decide) rfl (di_tup (de_var (pv 0))) (fun Cc pins fp s3 H3 => dg_name (pg_name (i := 0) (show (["part", "least", "most"] : List Str).Nodup by decide +kernel) rfl (Or.inl rfl))) (fun Cc pins fp s3 H3 => (de_call h_is_between (hr.mono (by decide)) rfl (da_cons (de_var (pv 0)) (da_cons (de_var (pv 1)) (da_cons (de_var (pv 2)) da_nil))))) mono_nm)) da_nil) (fun h1 h2 => pe_callB h1 rfl T.n_all bt_all h2))))
theorem sc__law_plan : FnScope ["_law_meeting_here", "_law_cells_here", "_law_most", "_law_many", "_law_found", "_law_k", "_law_cell_here", "_law_nexts"] ["_law_meeting_here", "_law_cells_here", "_law_most"] (defScope s__law_plan) := ⟨rfl, rfl, rfl, by decide +kernel, rfl, by decide +kernel, by decide +kernel⟩
set_option maxHeartbeats 8000000 in
theorem body__law_plan (T : Txt K mg) (h__law_mix : DFn P w K mg base 1 "_law_mix" F__law_mix) (h__law_rows : DFn P w K mg base 1 "_law_rows" F__law_rows) (h__law_row : DFn P w K mg base 2 "_law_row" F__law_row) {f : Addr} {cdv : Value} {A : Around} {outer : List Env} {s : Shared} {H : Hp} {E : XK} (hr : Room 2 (A.deeper (envOfC "_law_plan" (defScope s__law_plan) s.heap.objs.size f cdv))) :
    DSs (cxOf CX0 P w K mg base ["_law_meeting_here", "_law_cells_here", "_law_most", "_law_many", "_law_found", "_law_k", "_law_cell_here", "_law_nexts"] "_law_plan" (defScope s__law_plan) f cdv A outer s H E).nox (defBody s__law_plan) g__law_plan := by
  have hu := hr.units
  exact (dss_cons (ds_asg (de_op do_add de_int (de_call h__law_mix (hr.mono (by decide)) rfl (da_cons (de_ix (de_var (pv 1)) de_int (fun _ _ => rfl)) (da_cons de_int (da_cons (de_var (pv 2)) da_nil))))) (dg_name (pg_name (i := 3) sc__law_plan.nd rfl (Or.inr rfl))) (fun h1 h2 => ps_asg h1 h2)) (dss_cons (ds_asgO (i := 4) (df_lst da_nil) (fun h => ps_set (i := 4) sc__law_plan.nd rfl (Or.inl rfl) h)) (dss_cons (ds_for rfl PassesOwn.never (di_rng1 rfl T.n_range (de_var (pv 3))) (dg_name (pg_name (i := 5) sc__law_plan.nd rfl (Or.inl rfl))) (dss_cons (ds_asg (de_op do_add (de_ix (de_var (pv 1)) (de_op do_add de_int (de_op do_mod (de_var (pv 5)) de_int)) (fun _ _ => rfl)) (de_op do_mul de_int (de_var (pv 5)))) (dg_name (pg_name (i := 6) sc__law_plan.nd rfl (Or.inr rfl))) (fun h1 h2 => ps_asg h1 h2)) (dss_cons (ds_compO0 (i := 7) (Nc := ["_law_n", "_law_many", "_law_cell_here"]) (fr := [none, some 3, some 6]) (ss := [0]) (compOk_of (sc := (defScope s__law_plan)) (N := ["_law_meeting_here", "_law_cells_here", "_law_most", "_law_many", "_law_found", "_law_k", "_law_cell_here", "_law_nexts"]) rfl rfl (by decide +kernel)) (by decide) rfl sc__law_plan.nd rfl (Or.inl rfl) (di_rng1 rfl T.n_range (de_callG dc_len (da_cons (de_call h__law_rows (hr.mono (by decide)) rfl (da_cons (de_ix (de_var (pv 0)) de_int (fun _ _ => rfl)) da_nil)) da_nil) (fun h1 h2 => pe_callB h1 rfl T.n_len bt_len h2))) (fun Cc pins fp s3 H3 => dg_name (pg_name (i := 0) (show (["_law_n", "_law_many", "_law_cell_here"] : List Str).Nodup by decide +kernel) rfl (Or.inl rfl))) (fun Cc pins fp s3 H3 => (de_call h__law_mix (hr.mono (by decide)) rfl (da_cons (de_op do_add (de_var (pv 2)) (de_op do_mul de_int (de_var (pv 0)))) (da_cons de_int (da_cons (de_var (pv 1)) da_nil))))) mono_nm rfl) (dss_frz 7 (dss_one (ds_app (i := 4) (de_tup (da_cons (de_call h__law_row (hr.mono (by decide)) rfl (da_cons (de_var (pv 0)) (da_cons (de_var (pv 6)) da_nil))) (da_cons (de_callG dc_tuple (da_cons (de_var (pv 7)) da_nil) (fun h1 h2 => pe_callTy h1 rfl T.n_tuple bt_tuple h2)) da_nil))) (fun h => ps_expr (pe_bm PySem.F.plainAttrs_list PySem.F.slot_list_append PySem.F.type_list_append mt_append (pv 4) (pa_cons h pa_nil))))))))) (dss_frz 4 (dss_one (ds_ret (de_callG dc_tuple (da_cons (de_var (pv 4)) da_nil) (fun h1 h2 => pe_callTy h1 rfl T.n_tuple bt_tuple h2))))))))
theorem sc_is_deeds : FnScope ["thing"] ["thing"] (defScope s_is_deeds) := ⟨rfl, rfl, rfl, by decide +kernel, rfl, by decide +kernel, by decide +kernel⟩
set_option maxHeartbeats 8000000 in
theorem body_is_deeds (T : Txt K mg) (h_is_tuple_of : DFn P w K mg base 1 "is_tuple_of" F_is_tuple_of) (h_are_between : DFn P w K mg base 3 "are_between" F_are_between) {f : Addr} {cdv : Value} {A : Around} {outer : List Env} {s : Shared} {H : Hp} {E : XK} (hr : Room 3 (A.deeper (envOfC "is_deeds" (defScope s_is_deeds) s.heap.objs.size f cdv))) :
    DSs (cxOf CX0 P w K mg base ["thing"] "is_deeds" (defScope s_is_deeds) f cdv A outer s H E).nox (defBody s_is_deeds) g_is_deeds := by
  have hu := hr.units
  exact (dss_one (ds_ret (de_and (de_call h_is_tuple_of (hr.mono (by decide)) rfl (da_cons (de_var (pv 0)) (da_cons (de_globE rfl T.c_FEWEST_HANDS) (da_cons (de_globE rfl T.c_MOST_HANDS) da_nil)))) (de_one (de_call h_are_between (hr.mono (by decide)) rfl (da_cons (de_var (pv 0)) (da_cons de_int (da_cons (de_globE rfl T.c_MOST_DEEDS) da_nil))))))))
theorem sc_is_pay_of_row : FnScope ["thing", "hands"] ["thing", "hands"] (defScope s_is_pay_of_row) := ⟨rfl, rfl, rfl, by decide +kernel, rfl, by decide +kernel, by decide +kernel⟩
set_option maxHeartbeats 8000000 in
theorem body_is_pay_of_row (T : Txt K mg) (h_is_tuple_of : DFn P w K mg base 1 "is_tuple_of" F_is_tuple_of) (h_are_between : DFn P w K mg base 3 "are_between" F_are_between) {f : Addr} {cdv : Value} {A : Around} {outer : List Env} {s : Shared} {H : Hp} {E : XK} (hr : Room 3 (A.deeper (envOfC "is_pay_of_row" (defScope s_is_pay_of_row) s.heap.objs.size f cdv))) :
    DSs (cxOf CX0 P w K mg base ["thing", "hands"] "is_pay_of_row" (defScope s_is_pay_of_row) f cdv A outer s H E).nox (defBody s_is_pay_of_row) g_is_pay_of_row := by
  have hu := hr.units
  exact (dss_one (ds_ret (de_and (de_call h_is_tuple_of (hr.mono (by decide)) rfl (da_cons (de_var (pv 0)) (da_cons (de_var (pv 1)) (da_cons (de_var (pv 1)) da_nil)))) (de_one (de_call h_are_between (hr.mono (by decide)) rfl (da_cons (de_var (pv 0)) (da_cons (de_globE rfl T.c_LOWEST_PAY) (da_cons (de_globE rfl T.c_HIGHEST_PAY) da_nil))))))))
theorem sc_is_nexts : FnScope ["thing", "deeds", "states", "many"] ["thing", "deeds", "states"] (defScope s_is_nexts) := ⟨rfl, rfl, rfl, by decide +kernel, rfl, by decide +kernel, by decide +kernel⟩
set_option maxHeartbeats 8000000 in
theorem body_is_nexts (T : Txt K mg) (h_rows_of : DFn P w K mg base 1 "rows_of" F_rows_of) (h_is_tuple_of : DFn P w K mg base 1 "is_tuple_of" F_is_tuple_of) (h_are_between : DFn P w K mg base 3 "are_between" F_are_between) {f : Addr} {cdv : Value} {A : Around} {outer : List Env} {s : Shared} {H : Hp} {E : XK} (hr : Room 3 (A.deeper (envOfC "is_nexts" (defScope s_is_nexts) s.heap.objs.size f cdv))) :
    DSs (cxOf CX0 P w K mg base ["thing", "deeds", "states", "many"] "is_nexts" (defScope s_is_nexts) f cdv A outer s H E).nox (defBody s_is_nexts) g_is_nexts := by
  have hu := hr.units
  exact (dss_cons (ds_asg (de_callG dc_len (da_cons (de_call h_rows_of (hr.mono (by decide)) rfl (da_cons (de_var (pv 1)) da_nil)) da_nil) (fun h1 h2 => pe_callB h1 rfl T.n_len bt_len h2)) (dg_name (pg_name (i := 3) sc_is_nexts.nd rfl (Or.inl rfl))) (fun h1 h2 => ps_asg h1 h2)) (dss_one (ds_ret (de_and (de_call h_is_tuple_of (hr.mono (by decide)) rfl (da_cons (de_var (pv 0)) (da_cons (de_var (pv 3)) (da_cons (de_var (pv 3)) da_nil)))) (de_one (de_call h_are_between (hr.mono (by decide)) rfl (da_cons (de_var (pv 0)) (da_cons de_int (da_cons (de_op do_sub (de_var (pv 2)) de_int) da_nil)))))))))
theorem sc_is_pay : FnScope ["thing", "deeds", "many"] ["thing", "deeds"] (defScope s_is_pay) := ⟨rfl, rfl, rfl, by decide +kernel, rfl, by decide +kernel, by decide +kernel⟩
set_option maxHeartbeats 8000000 in
theorem body_is_pay (T : Txt K mg) (h_rows_of : DFn P w K mg base 1 "rows_of" F_rows_of) (h_is_tuple_of : DFn P w K mg base 1 "is_tuple_of" F_is_tuple_of) (h_is_pay_of_row : DFn P w K mg base 4 "is_pay_of_row" F_is_pay_of_row) {f : Addr} {cdv : Value} {A : Around} {outer : List Env} {s : Shared} {H : Hp} {E : XK} (hr : Room 4 (A.deeper (envOfC "is_pay" (defScope s_is_pay) s.heap.objs.size f cdv))) :
    DSs (cxOf CX0 P w K mg base ["thing", "deeds", "many"] "is_pay" (defScope s_is_pay) f cdv A outer s H E).nox (defBody s_is_pay) g_is_pay := by
  have hu := hr.units
  exact (dss_cons (ds_asg (de_callG dc_len (da_cons (de_call h_rows_of (hr.mono (by decide)) rfl (da_cons (de_var (pv 1)) da_nil)) da_nil) (fun h1 h2 => pe_callB h1 rfl T.n_len bt_len h2)) (dg_name (pg_name (i := 2) sc_is_pay.nd rfl (Or.inl rfl))) (fun h1 h2 => ps_asg h1 h2)) (dss_one (ds_ret (de_and (de_call h_is_tuple_of (hr.mono (by decide)) rfl (da_cons (de_var (pv 0)) (da_cons (de_var (pv 2)) (da_cons (de_var (pv 2)) da_nil)))) (de_one (de_callG (dc_all rfl) (da_cons (DF.toE (df_comp (Nc := ["part", "deeds"]) (fr := [none, some 1]) (ss := [0]) (compOk_of (sc := (defScope s_is_pay)) (N := ["thing", "deeds", "many"]) rfl rfl (by decide +kernel)) (by decide) rfl (di_tup (de_var (pv 0))) (fun Cc pins fp s3 H3 => dg_name (pg_name (i := 0) (show (["part", "deeds"] : List Str).Nodup by decide +kernel) rfl (Or.inl rfl))) (fun Cc pins fp s3 H3 => (de_call h_is_pay_of_row (hr.mono (by decide)) rfl (da_cons (de_var (pv 0)) (da_cons (de_callG dc_len (da_cons (de_var (pv 1)) da_nil) (fun h1 h2 => pe_callB h1 rfl T.n_len bt_len h2)) da_nil)))) mono_nm)) da_nil) (fun h1 h2 => pe_callB h1 rfl T.n_all bt_all h2)))))))
theorem sc_is_state : FnScope ["thing", "deeds", "states"] ["thing", "deeds", "states"] (defScope s_is_state) := ⟨rfl, rfl, rfl, by decide +kernel, rfl, by decide +kernel, by decide +kernel⟩
set_option maxHeartbeats 8000000 in
theorem body_is_state (T : Txt K mg) (h_is_tuple_of : DFn P w K mg base 1 "is_tuple_of" F_is_tuple_of) (h_is_row : DFn P w K mg base 3 "is_row" F_is_row) (h_is_nexts : DFn P w K mg base 4 "is_nexts" F_is_nexts) {f : Addr} {cdv : Value} {A : Around} {outer : List Env} {s : Shared} {H : Hp} {E : XK} (hr : Room 4 (A.deeper (envOfC "is_state" (defScope s_is_state) s.heap.objs.size f cdv))) :
    DSs (cxOf CX0 P w K mg base ["thing", "deeds", "states"] "is_state" (defScope s_is_state) f cdv A outer s H E).nox (defBody s_is_state) g_is_state := by
  have hu := hr.units
  exact (dss_one (ds_ret (de_and (de_call h_is_tuple_of (hr.mono (by decide)) rfl (da_cons (de_var (pv 0)) (da_cons de_int (da_cons de_int da_nil)))) (de_and (de_call h_is_row (hr.mono (by decide)) rfl (da_cons (de_ix (de_var (pv 0)) de_int (fun _ _ => rfl)) (da_cons (de_var (pv 1)) da_nil))) (de_one (de_call h_is_nexts (hr.mono (by decide)) rfl (da_cons (de_ix (de_var (pv 0)) de_int (fun _ _ => rfl)) (da_cons (de_var (pv 1)) (da_cons (de_var (pv 2)) da_nil)))))))))
theorem sc_is_meeting : FnScope ["thing"] ["thing"] (defScope s_is_meeting) := ⟨rfl, rfl, rfl, by decide +kernel, rfl, by decide +kernel, by decide +kernel⟩
set_option maxHeartbeats 8000000 in
theorem body_is_meeting (T : Txt K mg) (h_is_tuple_of : DFn P w K mg base 1 "is_tuple_of" F_is_tuple_of) (h_is_deeds : DFn P w K mg base 4 "is_deeds" F_is_deeds) (h_is_pay : DFn P w K mg base 5 "is_pay" F_is_pay) {f : Addr} {cdv : Value} {A : Around} {outer : List Env} {s : Shared} {H : Hp} {E : XK} (hr : Room 5 (A.deeper (envOfC "is_meeting" (defScope s_is_meeting) s.heap.objs.size f cdv))) :
    DSs (cxOf CX0 P w K mg base ["thing"] "is_meeting" (defScope s_is_meeting) f cdv A outer s H E).nox (defBody s_is_meeting) g_is_meeting := by
  have hu := hr.units
  exact (dss_one (ds_ret (de_and (de_call h_is_tuple_of (hr.mono (by decide)) rfl (da_cons (de_var (pv 0)) (da_cons de_int (da_cons de_int da_nil)))) (de_and (de_call h_is_deeds (hr.mono (by decide)) rfl (da_cons (de_ix (de_var (pv 0)) de_int (fun _ _ => rfl)) da_nil)) (de_one (de_call h_is_pay (hr.mono (by decide)) rfl (da_cons (de_ix (de_var (pv 0)) de_int (fun _ _ => rfl)) (da_cons (de_ix (de_var (pv 0)) de_int (fun _ _ => rfl)) da_nil))))))))
theorem sc_is_plan : FnScope ["thing", "meeting"] ["thing", "meeting"] (defScope s_is_plan) := ⟨rfl, rfl, rfl, by decide +kernel, rfl, by decide +kernel, by decide +kernel⟩
set_option maxHeartbeats 8000000 in
theorem body_is_plan (T : Txt K mg) (h_is_tuple_of : DFn P w K mg base 1 "is_tuple_of" F_is_tuple_of) (h_is_state : DFn P w K mg base 5 "is_state" F_is_state) {f : Addr} {cdv : Value} {A : Around} {outer : List Env} {s : Shared} {H : Hp} {E : XK} (hr : Room 5 (A.deeper (envOfC "is_plan" (defScope s_is_plan) s.heap.objs.size f cdv))) :
    DSs (cxOf CX0 P w K mg base ["thing", "meeting"] "is_plan" (defScope s_is_plan) f cdv A outer s H E).nox (defBody s_is_plan) g_is_plan := by
  have hu := hr.units
  exact (dss_cons (ds_if (dt_not (dt_tru (de_call h_is_tuple_of (hr.mono (by decide)) rfl (da_cons (de_var (pv 0)) (da_cons de_int (da_cons (de_globE rfl T.c_MOST_STATES) da_nil)))) (fun _ => rfl))) (dss_one (ds_ret de_bl)) dss_nil) (dss_one (ds_ret (de_callG (dc_all rfl) (da_cons (DF.toE (df_comp (Nc := ["part", "meeting", "thing"]) (fr := [none, some 1, some 0]) (ss := [0]) (compOk_of (sc := (defScope s_is_plan)) (N := ["thing", "meeting"]) rfl rfl (by decide +kernel)) (by decide) rfl (di_tup (de_var (pv 0))) (fun Cc pins fp s3 H3 => dg_name (pg_name (i := 0) (show (["part", "meeting", "thing"] : List Str).Nodup by decide +kernel) rfl (Or.inl rfl))) (fun Cc pins fp s3 H3 => (de_call h_is_state (hr.mono (by decide)) rfl (da_cons (de_var (pv 0)) (da_cons (de_ix (de_var (pv 1)) de_int (fun _ _ => rfl)) (da_cons (de_callG dc_len (da_cons (de_var (pv 2)) da_nil) (fun h1 h2 => pe_callB h1 rfl T.n_len bt_len h2)) da_nil))))) mono_nm)) da_nil) (fun h1 h2 => pe_callB h1 rfl T.n_all bt_all h2)))))
theorem sc_law : FnScope ["_law_script", "_law_k", "_law_cell_here", "_law_meeting_here", "_law_plan_here", "_law_bad", "_law_some"] ["_law_script"] (defScope s_law) := ⟨rfl, rfl, rfl, by decide +kernel, rfl, by decide +kernel, by decide +kernel⟩
set_option maxHeartbeats 8000000 in
theorem body_law (T : Txt K mg) (h__law_cell : DFn P w K mg base 1 "_law_cell" F__law_cell) (h__law_meeting : DFnR P w K mg base 2 "_law_meeting" F__law_meeting) (h_is_meeting : DFn P w K mg base 6 "is_meeting" F_is_meeting) (h_all_rows : DFn P w K mg base 2 "all_rows" F_all_rows) (h__law_rows : DFn P w K mg base 1 "_law_rows" F__law_rows) (h__law_cells : DFn P w K mg base 2 "_law_cells" F__law_cells) (h__law_plan : DFnR P w K mg base 3 "_law_plan" F__law_plan) (h_is_plan : DFn P w K mg base 6 "is_plan" F_is_plan) (h__law_patience : DFnR P w K mg base 2 "_law_patience" F__law_patience) (h_is_patience : DFn P w K mg base 3 "is_patience" F_is_patience) (h__law_bad_meeting : DFnR P w K mg base 1 "_law_bad_meeting" F__law_bad_meeting) (h__law_bad_plan : DFnR P w K mg base 1 "_law_bad_plan" F__law_bad_plan) {f : Addr} {cdv : Value} {A : Around} {outer : List Env} {s : Shared} {H : Hp} {E : XK} (hr : Room 6 (A.deeper (envOfC "law" (defScope s_law) s.heap.objs.size f cdv))) :
    DSs (cxOf CX0 P w K mg base ["_law_script", "_law_k", "_law_cell_here", "_law_meeting_here", "_law_plan_here", "_law_bad", "_law_some"] "law" (defScope s_law) f cdv A outer s H E).nox (defBody s_law) g_law := by
  have hu := hr.units
  exact (dss_cons (ds_for rfl PassesOwn.never (di_rng1 rfl T.n_range de_int) (dg_name (pg_name (i := 1) sc_law.nd rfl (Or.inl rfl))) (dss_cons (ds_asg (de_call h__law_cell (hr.mono (by decide)) rfl (da_cons (de_var (pv 0)) (da_cons (de_op do_mul de_int (de_var (pv 1))) da_nil))) (dg_name (pg_name (i := 2) sc_law.nd rfl (Or.inl rfl))) (fun h1 h2 => ps_asg h1 h2)) (dss_cons (ds_asg (de_callR h__law_meeting (hr.mono (by decide)) rfl (da_cons (de_var (pv 2)) da_nil)) (dg_name (pg_name (i := 3) sc_law.nd rfl (Or.inl rfl))) (fun h1 h2 => ps_asg h1 h2)) (dss_cons (ds_if (DW.t (dw_or (dt_cmp do_isnot (de_call h_is_meeting (hr.mono (by decide)) rfl (da_cons (de_var (pv 3)) da_nil)) de_bl) (dw_or1 (dt_cmp (do_ne hu) (de_call h_all_rows (hr.mono (by decide)) rfl (da_cons (de_var (pv 3)) da_nil)) (de_callG dc_tuple (da_cons (de_call h__law_rows (hr.mono (by decide)) rfl (da_cons (de_ix (de_var (pv 3)) de_int (fun _ _ => rfl)) da_nil)) da_nil) (fun h1 h2 => pe_callTy h1 rfl T.n_tuple bt_tuple h2)))))) (dss_one (ds_ret de_bl)) dss_nil) (dss_cons (ds_asg (de_callR h__law_plan (hr.mono (by decide)) rfl (da_cons (de_var (pv 3)) (da_cons (de_call h__law_cells (hr.mono (by decide)) rfl (da_cons (de_var (pv 0)) (da_cons (de_op do_add (de_op do_mul de_int (de_var (pv 1))) de_int) da_nil))) (da_cons de_int da_nil)))) (dg_name (pg_name (i := 4) sc_law.nd rfl (Or.inl rfl))) (fun h1 h2 => ps_asg h1 h2)) (dss_cons (ds_if (DW.t (dw_or (dt_cmp do_isnot (de_call h_is_plan (hr.mono (by decide)) rfl (da_cons (de_var (pv 4)) (da_cons (de_var (pv 3)) da_nil))) de_bl) (dw_or1 (dt_cmp do_isnot (de_call h_is_patience (hr.mono (by decide)) rfl (da_cons (de_callR h__law_patience (hr.mono (by decide)) rfl (da_cons (de_var (pv 2)) da_nil)) da_nil)) de_bl)))) (dss_one (ds_ret de_bl)) dss_nil) (dss_one (ds_for rfl PassesOwn.never (di_lst (DF.toE (df_lst (da_cons (de_op do_div (de_var (pv 2)) de_int) (da_cons (de_op do_div (de_var (pv 2)) de_int) da_nil))))) (dg_name (pg_name (i := 5) sc_law.nd rfl (Or.inl rfl))) (dss_cons (ds_if (dt_cmp do_isnot (de_call h_is_meeting (hr.mono (by decide)) rfl (da_cons (de_callR h__law_bad_meeting (hr.mono (by decide)) rfl (da_cons (de_var (pv 3)) (da_cons (de_var (pv 5)) da_nil))) da_nil)) de_bl) (dss_one (ds_ret de_bl)) dss_nil) (dss_one (ds_if (dt_cmp do_isnot (de_call h_is_plan (hr.mono (by decide)) rfl (da_cons (de_callR h__law_bad_plan (hr.mono (by decide)) rfl (da_cons (de_var (pv 4)) (da_cons (de_var (pv 5)) da_nil))) (da_cons (de_var (pv 3)) da_nil))) de_bl) (dss_one (ds_ret de_bl)) dss_nil))))))))))) (dss_cons (ds_asg (DF.toE (df_lst (da_cons (de_tup (da_cons de_int (da_cons de_int da_nil))) (da_cons (de_tup (da_cons de_int (da_cons de_int da_nil))) (da_cons (de_tup (da_cons de_int (da_cons de_int da_nil))) (da_cons (de_tup (da_cons de_int (da_cons de_int da_nil))) (da_cons (de_tup (da_cons (de_neg de_int) (da_cons de_int da_nil))) (da_cons (de_tup (da_cons de_int (da_cons de_int da_nil))) (da_cons (de_tup (da_cons de_int (da_cons de_int da_nil))) (da_cons (de_tup (da_cons de_bl (da_cons de_int da_nil))) (da_cons (DF.toE (df_lst (da_cons de_int (da_cons de_int da_nil)))) (da_cons (de_tup (da_cons de_int da_nil)) (da_cons (de_tup (da_cons de_int (da_cons de_int (da_cons de_int da_nil)))) da_nil))))))))))))) (dg_name (pg_name (i := 6) sc_law.nd rfl (Or.inl rfl))) (fun h1 h2 => ps_asg h1 h2)) (dss_cons (ds_for rfl PassesOwn.never (di_lst (DF.toE (df_cat (de_var (pv 6)) (DF.toE (df_lst (da_cons de_non (da_cons de_str (da_cons de_int da_nil)))))))) (dg_name (pg_name (i := 5) sc_law.nd rfl (Or.inl rfl))) (dss_one (ds_if (dt_cmp do_isnot (de_call h_is_patience (hr.mono (by decide)) rfl (da_cons (de_var (pv 5)) da_nil)) de_bl) (dss_one (ds_ret de_bl)) dss_nil))) (dss_one (ds_ret (de_and (de_cmp do_is (de_call h_is_patience (hr.mono (by decide)) rfl (da_cons (de_tup (da_cons de_int (da_cons de_int da_nil))) da_nil)) de_bl) (de_one (de_cmp do_is (de_call h_is_patience (hr.mono (by decide)) rfl (da_cons (de_tup (da_cons de_int (da_cons de_int da_nil))) da_nil)) de_bl))))))))
end
end L2
namespace L2
open PySem PySem.Spec PyProof.Rows
theorem ends_le {n : Nat} (h : n ≤ 1000) : n ≤ sizeLine := Nat.le_of_lt (small1000 h)
theorem isSub_int (d : D) : isSub (tyD d) "int" = (match d with
  | .int _ => true
  | .bl _ => true
  | _ => false) := by cases d <;> rfl
theorem isSub_bool (d : D) : isSub (tyD d) "bool" = (match d with
  | .bl _ => true
  | _ => false) := by cases d <;> rfl
theorem isSub_tuple (d : D) : isSub (tyD d) "tuple" = (match d with
  | .tup _ => true
  | _ => false) := by cases d <;> rfl
theorem oMulI {i j : Int} {Q : D → Prop} : oMul (.int i) (.int j) Q = (CMul i j ∧ Q (.int (i * j))) := rfl
abbrev retD (d : D) : DEnds := { nx := fun _ => d = .non, rt := fun r => r = d }
theorem vc_is_whole : ∀ ds d, F_is_whole ds = some d → g_is_whole (retD d) (dstart ["thing"] ds)
  | [x], d, h => by
    cases h
    show g_is_whole _ [.im x]
    cases x <;> simp [g_is_whole, gRet, gAndV, gOrV, gNotV, gInst, isSub_int, isSub_bool, isSub_tuple, gVar, gSeq, gAsg, gNm, gC, gF, gLst, gConsA, gNilA, gTupE, gCallB, gCallF, gCallD, gCallR, gOpt, gOptP, cLen, cAbs, cAll, cTuple, cList, gOp, oInt, oIntC, oAdd, oMul, oNe, oEq, oIs, oIsnot, eqD, dep, gIx, gChain, gChain3, gTest, isBl, gIfS, gIt, gIl, gRng1, gRng2, gApp, gExt, gFrz, gAsgO, gNext, gTru, gNot, gAnd, gOr, gPart, gNoP, gSlT, gCatL, gNeg, gNm2, gZip, eq_self, if_true, ↓reduceIte, Bool.false_eq_true, if_false, List.getElem?_cons_zero, List.getElem?_cons_succ, List.set_cons_zero, List.set_cons_succ, isWhole]
  | [], d, h => by cases h
  | _ :: _ :: _, d, h => by cases h
theorem vc_is_tuple_of : ∀ ds d, F_is_tuple_of ds = some d → g_is_tuple_of (retD d) (dstart ["thing", "fewest", "most"] ds)
  | [x, .int a, .int b], d, h => by
    cases h
    show g_is_tuple_of _ [.im x, .im (.int a), .im (.int b)]
    cases x with
    | tup xs =>
      simp [g_is_tuple_of, gRet, gAndV, gOrV, gNotV, gInst, isSub_int, isSub_bool, isSub_tuple, gVar, gSeq, gAsg, gNm, gC, gF, gLst, gConsA, gNilA, gTupE, gCallB, gCallF, gCallD, gCallR, gOpt, gOptP, cLen, cAbs, cAll, cTuple, cList, gOp, oInt, oIntC, oAdd, oMul, oNe, oEq, oIs, oIsnot, eqD, dep, gIx, gChain, gChain3, gTest, isBl, gIfS, gIt, gIl, gRng1, gRng2, gApp, gExt, gFrz, gAsgO, gNext, gTru, gNot, gAnd, gOr, gPart, gNoP, gSlT, gCatL, gNeg, gNm2, gZip, eq_self, if_true, ↓reduceIte, Bool.false_eq_true, if_false, List.getElem?_cons_zero, List.getElem?_cons_succ, List.set_cons_zero, List.set_cons_succ, isTupleOf]
      split <;> simp_all <;> omega
    | _ => simp [g_is_tuple_of, gRet, gAndV, gOrV, gNotV, gInst, isSub_int, isSub_bool, isSub_tuple, gVar, gSeq, gAsg, gNm, gC, gF, gLst, gConsA, gNilA, gTupE, gCallB, gCallF, gCallD, gCallR, gOpt, gOptP, cLen, cAbs, cAll, cTuple, cList, gOp, oInt, oIntC, oAdd, oMul, oNe, oEq, oIs, oIsnot, eqD, dep, gIx, gChain, gChain3, gTest, isBl, gIfS, gIt, gIl, gRng1, gRng2, gApp, gExt, gFrz, gAsgO, gNext, gTru, gNot, gAnd, gOr, gPart, gNoP, gSlT, gCatL, gNeg, gNm2, gZip, eq_self, if_true, ↓reduceIte, Bool.false_eq_true, if_false, List.getElem?_cons_zero, List.getElem?_cons_succ, List.set_cons_zero, List.set_cons_succ, isTupleOf]
theorem vc_is_between : ∀ ds d, F_is_between ds = some d → g_is_between (retD d) (dstart ["thing", "least", "most"] ds)
  | [x, .int a, .int b], d, h => by
    cases h
    show g_is_between _ [.im x, .im (.int a), .im (.int b)]
    cases x with
    | int i =>
      simp [g_is_between, gRet, gAndV, gOrV, gNotV, gInst, isSub_int, isSub_bool, isSub_tuple, gVar, gSeq, gAsg, gNm, gC, gF, gLst, gConsA, gNilA, gTupE, gCallB, gCallF, gCallD, gCallR, gOpt, gOptP, cLen, cAbs, cAll, cTuple, cList, gOp, oInt, oIntC, oAdd, oMul, oNe, oEq, oIs, oIsnot, eqD, dep, gIx, gChain, gChain3, gTest, isBl, gIfS, gIt, gIl, gRng1, gRng2, gApp, gExt, gFrz, gAsgO, gNext, gTru, gNot, gAnd, gOr, gPart, gNoP, gSlT, gCatL, gNeg, gNm2, gZip, eq_self, if_true, ↓reduceIte, Bool.false_eq_true, if_false, List.getElem?_cons_zero, List.getElem?_cons_succ, List.set_cons_zero, List.set_cons_succ, F_is_whole, isWhole, isBetween]
      split <;> simp_all <;> omega
    | _ => simp [g_is_between, gRet, gAndV, gOrV, gNotV, gInst, isSub_int, isSub_bool, isSub_tuple, gVar, gSeq, gAsg, gNm, gC, gF, gLst, gConsA, gNilA, gTupE, gCallB, gCallF, gCallD, gCallR, gOpt, gOptP, cLen, cAbs, cAll, cTuple, cList, gOp, oInt, oIntC, oAdd, oMul, oNe, oEq, oIs, oIsnot, eqD, dep, gIx, gChain, gChain3, gTest, isBl, gIfS, gIt, gIl, gRng1, gRng2, gApp, gExt, gFrz, gAsgO, gNext, gTru, gNot, gAnd, gOr, gPart, gNoP, gSlT, gCatL, gNeg, gNm2, gZip, eq_self, if_true, ↓reduceIte, Bool.false_eq_true, if_false, List.getElem?_cons_zero, List.getElem?_cons_succ, List.set_cons_zero, List.set_cons_succ, F_is_whole, isWhole, isBetween]
theorem vc_are_between : ∀ ds d, F_are_between ds = some d → g_are_between (retD d) (dstart ["parts", "least", "most"] ds)
  | [.tup xs, .int a, .int b], d, h => by
    have h : (if xs.length ≤ 1000 then some (D.bl (xs.all fun d => isBetween d a b)) else none) = some d := h
    split at h
    · rename_i hl
      cases h
      show g_are_between _ [.im (.tup xs), .im (.int a), .im (.int b)]
      simp only [g_are_between, gRet, gAndV, gOrV, gNotV, gInst, isSub_int, isSub_bool, isSub_tuple, gVar, gSeq, gAsg, gNm, gC, gF, gLst, gConsA, gNilA, gTupE, gCallB, gCallF, gCallD, gCallR, gOpt, gOptP, cLen, cAbs, cAll, cTuple, cList, gOp, oInt, oIntC, oAdd, oMul, oNe, oEq, oIs, oIsnot, eqD, dep, gIx, gChain, gChain3, gTest, isBl, gIfS, gIt, gIl, gRng1, gRng2, gApp, gExt, gFrz, gAsgO, gNext, gTru, gNot, gAnd, gOr, gPart, gNoP, gSlT, gCatL, gNeg, gNm2, gZip, eq_self, if_true, ↓reduceIte, Bool.false_eq_true, if_false, List.getElem?_cons_zero, List.getElem?_cons_succ, List.set_cons_zero, List.set_cons_succ, gComp, List.getElem?_cons_zero, List.getElem?_cons_succ]
      refine ⟨ends_le hl, fun x => .bl (isBetween x a b), fun x hx => ?_, ?_⟩
      · simp [δc, F_is_between]
      · rw [bools_mapf]
        simp [Function.comp_def, List.all_map]
    · cases h
theorem vc_is_deeds : ∀ ds d, F_is_deeds ds = some d → g_is_deeds (retD d) (dstart ["thing"] ds)
  | [x], d, h => by
    cases h
    show g_is_deeds _ [.im x]
    cases x with
    | tup xs =>
      by_cases h1 : 2 ≤ xs.length ∧ xs.length ≤ 3
      · have h2 : xs.length ≤ 1000 := by omega
        simp [g_is_deeds, gRet, gAndV, gOrV, gNotV, gInst, isSub_int, isSub_bool, isSub_tuple, gVar, gSeq, gAsg, gNm, gC, gF, gLst, gConsA, gNilA, gTupE, gCallB, gCallF, gCallD, gCallR, gOpt, gOptP, cLen, cAbs, cAll, cTuple, cList, gOp, oInt, oIntC, oAdd, oMul, oNe, oEq, oIs, oIsnot, eqD, dep, gIx, gChain, gChain3, gTest, isBl, gIfS, gIt, gIl, gRng1, gRng2, gApp, gExt, gFrz, gAsgO, gNext, gTru, gNot, gAnd, gOr, gPart, gNoP, gSlT, gCatL, gNeg, gNm2, gZip, eq_self, if_true, ↓reduceIte, Bool.false_eq_true, if_false, List.getElem?_cons_zero, List.getElem?_cons_succ, List.set_cons_zero, List.set_cons_succ, F_is_tuple_of, isTupleOf, F_are_between, isDeeds, h1, h2]
        intro h3
        omega
      · simp [g_is_deeds, gRet, gAndV, gOrV, gNotV, gInst, isSub_int, isSub_bool, isSub_tuple, gVar, gSeq, gAsg, gNm, gC, gF, gLst, gConsA, gNilA, gTupE, gCallB, gCallF, gCallD, gCallR, gOpt, gOptP, cLen, cAbs, cAll, cTuple, cList, gOp, oInt, oIntC, oAdd, oMul, oNe, oEq, oIs, oIsnot, eqD, dep, gIx, gChain, gChain3, gTest, isBl, gIfS, gIt, gIl, gRng1, gRng2, gApp, gExt, gFrz, gAsgO, gNext, gTru, gNot, gAnd, gOr, gPart, gNoP, gSlT, gCatL, gNeg, gNm2, gZip, eq_self, if_true, ↓reduceIte, Bool.false_eq_true, if_false, List.getElem?_cons_zero, List.getElem?_cons_succ, List.set_cons_zero, List.set_cons_succ, F_is_tuple_of, isTupleOf, F_are_between, isDeeds]
        split
        · omega
        · intro a b
          exact absurd ⟨a, b⟩ h1
    | _ => simp [g_is_deeds, gRet, gAndV, gOrV, gNotV, gInst, isSub_int, isSub_bool, isSub_tuple, gVar, gSeq, gAsg, gNm, gC, gF, gLst, gConsA, gNilA, gTupE, gCallB, gCallF, gCallD, gCallR, gOpt, gOptP, cLen, cAbs, cAll, cTuple, cList, gOp, oInt, oIntC, oAdd, oMul, oNe, oEq, oIs, oIsnot, eqD, dep, gIx, gChain, gChain3, gTest, isBl, gIfS, gIt, gIl, gRng1, gRng2, gApp, gExt, gFrz, gAsgO, gNext, gTru, gNot, gAnd, gOr, gPart, gNoP, gSlT, gCatL, gNeg, gNm2, gZip, eq_self, if_true, ↓reduceIte, Bool.false_eq_true, if_false, List.getElem?_cons_zero, List.getElem?_cons_succ, List.set_cons_zero, List.set_cons_succ, F_is_tuple_of, isTupleOf, isDeeds]
  | [], d, h => by cases h
  | _ :: _ :: _, d, h => by cases h
theorem vc_is_pay_of_row : ∀ ds d, F_is_pay_of_row ds = some d → g_is_pay_of_row (retD d) (dstart ["thing", "hands"] ds)
  | [x, .int n], d, h => by
    have h : (if 0 ≤ n ∧ n ≤ 1000 then some (D.bl (isPayRow x n.toNat)) else none) = some d := h
    split at h
    · rename_i hn
      cases h
      show g_is_pay_of_row _ [.im x, .im (.int n)]
      cases x with
      | tup xs =>
        by_cases h1 : (xs.length : Int) = n
        · have h2 : xs.length ≤ 1000 := by omega
          have h3 : xs.length = n.toNat := by omega
          have e1 : isTupleOf (.tup xs) n n = true := by
            simp [isTupleOf]
            omega
          simp only [g_is_pay_of_row, gRet, gAndV, gOrV, gNotV, gInst, isSub_int, isSub_bool, isSub_tuple, gVar, gSeq, gAsg, gNm, gC, gF, gLst, gConsA, gNilA, gTupE, gCallB, gCallF, gCallD, gCallR, gOpt, gOptP, cLen, cAbs, cAll, cTuple, cList, gOp, oInt, oIntC, oAdd, oMul, oNe, oEq, oIs, oIsnot, eqD, dep, gIx, gChain, gChain3, gTest, isBl, gIfS, gIt, gIl, gRng1, gRng2, gApp, gExt, gFrz, gAsgO, gNext, gTru, gNot, gAnd, gOr, gPart, gNoP, gSlT, gCatL, gNeg, gNm2, gZip, eq_self, if_true, ↓reduceIte, Bool.false_eq_true, if_false, List.getElem?_cons_zero, List.getElem?_cons_succ, List.set_cons_zero, List.set_cons_succ, F_is_tuple_of, e1, F_are_between, isPayRow, if_pos h2, decide_eq_true h3, Bool.true_and]
        · have h3 : ¬ xs.length = n.toNat := by omega
          have h4 : (decide (n ≤ (xs.length : Int)) && decide ((xs.length : Int) ≤ n)) = false := by simp; omega
          simp only [g_is_pay_of_row, gRet, gAndV, gOrV, gNotV, gInst, isSub_int, isSub_bool, isSub_tuple, gVar, gSeq, gAsg, gNm, gC, gF, gLst, gConsA, gNilA, gTupE, gCallB, gCallF, gCallD, gCallR, gOpt, gOptP, cLen, cAbs, cAll, cTuple, cList, gOp, oInt, oIntC, oAdd, oMul, oNe, oEq, oIs, oIsnot, eqD, dep, gIx, gChain, gChain3, gTest, isBl, gIfS, gIt, gIl, gRng1, gRng2, gApp, gExt, gFrz, gAsgO, gNext, gTru, gNot, gAnd, gOr, gPart, gNoP, gSlT, gCatL, gNeg, gNm2, gZip, eq_self, if_true, ↓reduceIte, Bool.false_eq_true, if_false, List.getElem?_cons_zero, List.getElem?_cons_succ, List.set_cons_zero, List.set_cons_succ, F_is_tuple_of, isTupleOf, h4, isPayRow, decide_eq_false h3, Bool.false_and]
      | _ => simp [g_is_pay_of_row, gRet, gAndV, gOrV, gNotV, gInst, isSub_int, isSub_bool, isSub_tuple, gVar, gSeq, gAsg, gNm, gC, gF, gLst, gConsA, gNilA, gTupE, gCallB, gCallF, gCallD, gCallR, gOpt, gOptP, cLen, cAbs, cAll, cTuple, cList, gOp, oInt, oIntC, oAdd, oMul, oNe, oEq, oIs, oIsnot, eqD, dep, gIx, gChain, gChain3, gTest, isBl, gIfS, gIt, gIl, gRng1, gRng2, gApp, gExt, gFrz, gAsgO, gNext, gTru, gNot, gAnd, gOr, gPart, gNoP, gSlT, gCatL, gNeg, gNm2, gZip, eq_self, if_true, ↓reduceIte, Bool.false_eq_true, if_false, List.getElem?_cons_zero, List.getElem?_cons_succ, List.set_cons_zero, List.set_cons_succ, F_is_tuple_of, isTupleOf, isPayRow]
    · cases h
theorem vc_is_pay : ∀ ds d, F_is_pay ds = some d → g_is_pay (retD d) (dstart ["thing", "deeds", "many"] ds)
  | [x, .tup es], d, h => by
    obtain ⟨ns, rfl, ho, rfl⟩ := onDeeds_eq (show onDeeds es (fun ns => D.bl (isPay x ns)) = some d from h)
    show g_is_pay _ [.im x, .im (.tup (ns.map D.int)), .un]
    obtain ⟨l1, l2⟩ := rows_len ho
    obtain ⟨m1, m2⟩ := okDeeds_mem ho
    cases x with
    | tup xs =>
      simp only [g_is_pay, g_is_pay_1, gRet, gAndV, gOrV, gNotV, gInst, isSub_int, isSub_bool, isSub_tuple, gVar, gSeq, gAsg, gNm, gC, gF, gLst, gConsA, gNilA, gTupE, gCallB, gCallF, gCallD, gCallR, gOpt, gOptP, cLen, cAbs, cAll, cTuple, cList, gOp, oInt, oIntC, oAdd, oMul, oNe, oEq, oIs, oIsnot, eqD, dep, gIx, gChain, gChain3, gTest, isBl, gIfS, gIt, gIl, gRng1, gRng2, gApp, gExt, gFrz, gAsgO, gNext, gTru, gNot, gAnd, gOr, gPart, gNoP, gSlT, gCatL, gNeg, gNm2, gZip, eq_self, if_true, ↓reduceIte, Bool.false_eq_true, if_false, List.getElem?_cons_zero, List.getElem?_cons_succ, List.set_cons_zero, List.set_cons_succ, F_rows_of, onDeeds_of _ ho, List.getElem?_cons_zero, List.getElem?_cons_succ, List.set_cons_succ, List.set_cons_zero, List.length_map]
      by_cases h1 : xs.length = (rowsL ns).length
      · have h2 : xs.length ≤ 1000 := by omega
        have e1 : isTupleOf (.tup xs) (rowsL ns).length (rowsL ns).length = true := by
          simp [isTupleOf]
          omega
        simp only [F_is_tuple_of, e1, gComp, gRet, gAndV, gOrV, gNotV, gInst, isSub_int, isSub_bool, isSub_tuple, gVar, gSeq, gAsg, gNm, gC, gF, gLst, gConsA, gNilA, gTupE, gCallB, gCallF, gCallD, gCallR, gOpt, gOptP, cLen, cAbs, cAll, cTuple, cList, gOp, oInt, oIntC, oAdd, oMul, oNe, oEq, oIs, oIsnot, eqD, dep, gIx, gChain, gChain3, gTest, isBl, gIfS, gIt, gIl, gRng1, gRng2, gApp, gExt, gFrz, gAsgO, gNext, gTru, gNot, gAnd, gOr, gPart, gNoP, gSlT, gCatL, gNeg, gNm2, gZip, eq_self, if_true, ↓reduceIte, Bool.false_eq_true, if_false, List.getElem?_cons_zero, List.getElem?_cons_succ, List.set_cons_zero, List.set_cons_succ]
        refine ⟨ends_le h2, fun r => .bl (isPayRow r ns.length), fun r hr => ?_, ?_⟩
        · have h0 : (0 : Int) ≤ (ns.length : Int) ∧ (ns.length : Int) ≤ 1000 := by omega
          simp only [δc, List.map_cons, List.map_nil, gRet, gAndV, gOrV, gNotV, gInst, isSub_int, isSub_bool, isSub_tuple, gVar, gSeq, gAsg, gNm, gC, gF, gLst, gConsA, gNilA, gTupE, gCallB, gCallF, gCallD, gCallR, gOpt, gOptP, cLen, cAbs, cAll, cTuple, cList, gOp, oInt, oIntC, oAdd, oMul, oNe, oEq, oIs, oIsnot, eqD, dep, gIx, gChain, gChain3, gTest, isBl, gIfS, gIt, gIl, gRng1, gRng2, gApp, gExt, gFrz, gAsgO, gNext, gTru, gNot, gAnd, gOr, gPart, gNoP, gSlT, gCatL, gNeg, gNm2, gZip, eq_self, if_true, ↓reduceIte, Bool.false_eq_true, if_false, List.getElem?_cons_zero, List.getElem?_cons_succ, List.set_cons_zero, List.set_cons_succ, F_is_pay_of_row, List.length_map, if_pos h0, Int.toNat_natCast]
        · rw [bools_mapf]
          simp [Function.comp_def, List.all_map, isPay, h1]
      · have h4 : (decide (((rowsL ns).length : Int) ≤ (xs.length : Int)) && decide ((xs.length : Int) ≤ ((rowsL ns).length : Int))) = false := by simp; omega
        simp only [F_is_tuple_of, isTupleOf, h4, gRet, gAndV, gOrV, gNotV, gInst, isSub_int, isSub_bool, isSub_tuple, gVar, gSeq, gAsg, gNm, gC, gF, gLst, gConsA, gNilA, gTupE, gCallB, gCallF, gCallD, gCallR, gOpt, gOptP, cLen, cAbs, cAll, cTuple, cList, gOp, oInt, oIntC, oAdd, oMul, oNe, oEq, oIs, oIsnot, eqD, dep, gIx, gChain, gChain3, gTest, isBl, gIfS, gIt, gIl, gRng1, gRng2, gApp, gExt, gFrz, gAsgO, gNext, gTru, gNot, gAnd, gOr, gPart, gNoP, gSlT, gCatL, gNeg, gNm2, gZip, eq_self, if_true, ↓reduceIte, Bool.false_eq_true, if_false, List.getElem?_cons_zero, List.getElem?_cons_succ, List.set_cons_zero, List.set_cons_succ, isPay, decide_eq_false h1, Bool.false_and]
    | _ => simp [g_is_pay, g_is_pay_1, gRet, gAndV, gOrV, gNotV, gInst, isSub_int, isSub_bool, isSub_tuple, gVar, gSeq, gAsg, gNm, gC, gF, gLst, gConsA, gNilA, gTupE, gCallB, gCallF, gCallD, gCallR, gOpt, gOptP, cLen, cAbs, cAll, cTuple, cList, gOp, oInt, oIntC, oAdd, oMul, oNe, oEq, oIs, oIsnot, eqD, dep, gIx, gChain, gChain3, gTest, isBl, gIfS, gIt, gIl, gRng1, gRng2, gApp, gExt, gFrz, gAsgO, gNext, gTru, gNot, gAnd, gOr, gPart, gNoP, gSlT, gCatL, gNeg, gNm2, gZip, eq_self, if_true, ↓reduceIte, Bool.false_eq_true, if_false, List.getElem?_cons_zero, List.getElem?_cons_succ, List.set_cons_zero, List.set_cons_succ, F_rows_of, onDeeds_of _ ho, F_is_tuple_of, isTupleOf, isPay]
theorem vc_is_meeting : ∀ ds d, F_is_meeting ds = some d → g_is_meeting (retD d) (dstart ["thing"] ds)
  | [x], d, h => by
    cases h
    show g_is_meeting _ [.im x]
    cases x with
    | tup xs =>
      match xs with
      | [a, b] =>
        simp only [g_is_meeting, gRet, gAndV, gOrV, gNotV, gInst, isSub_int, isSub_bool, isSub_tuple, gVar, gSeq, gAsg, gNm, gC, gF, gLst, gConsA, gNilA, gTupE, gCallB, gCallF, gCallD, gCallR, gOpt, gOptP, cLen, cAbs, cAll, cTuple, cList, gOp, oInt, oIntC, oAdd, oMul, oNe, oEq, oIs, oIsnot, eqD, dep, gIx, gChain, gChain3, gTest, isBl, gIfS, gIt, gIl, gRng1, gRng2, gApp, gExt, gFrz, gAsgO, gNext, gTru, gNot, gAnd, gOr, gPart, gNoP, gSlT, gCatL, gNeg, gNm2, gZip, eq_self, if_true, ↓reduceIte, Bool.false_eq_true, if_false, List.getElem?_cons_zero, List.getElem?_cons_succ, List.set_cons_zero, List.set_cons_succ, F_is_tuple_of, isTupleOf, F_is_deeds, List.getElem?_cons_zero, List.getElem?_cons_succ]
        simp [atI, ixN]
        cases hd : isDeeds a with
        | false => simp [isMeeting, hd]
        | true =>
          obtain ⟨ns, rfl, ho, h2⟩ := isDeeds_of hd
          have hd' : isDeeds (.tup (ns.map D.int)) = true := hd
          simp [F_is_pay, dInts, onDeeds_of _ ho, isMeeting, ints_map, hd']
      | [] => simp [g_is_meeting, gRet, gAndV, gOrV, gNotV, gInst, isSub_int, isSub_bool, isSub_tuple, gVar, gSeq, gAsg, gNm, gC, gF, gLst, gConsA, gNilA, gTupE, gCallB, gCallF, gCallD, gCallR, gOpt, gOptP, cLen, cAbs, cAll, cTuple, cList, gOp, oInt, oIntC, oAdd, oMul, oNe, oEq, oIs, oIsnot, eqD, dep, gIx, gChain, gChain3, gTest, isBl, gIfS, gIt, gIl, gRng1, gRng2, gApp, gExt, gFrz, gAsgO, gNext, gTru, gNot, gAnd, gOr, gPart, gNoP, gSlT, gCatL, gNeg, gNm2, gZip, eq_self, if_true, ↓reduceIte, Bool.false_eq_true, if_false, List.getElem?_cons_zero, List.getElem?_cons_succ, List.set_cons_zero, List.set_cons_succ, F_is_tuple_of, isTupleOf, isMeeting]
      | [a] => simp [g_is_meeting, gRet, gAndV, gOrV, gNotV, gInst, isSub_int, isSub_bool, isSub_tuple, gVar, gSeq, gAsg, gNm, gC, gF, gLst, gConsA, gNilA, gTupE, gCallB, gCallF, gCallD, gCallR, gOpt, gOptP, cLen, cAbs, cAll, cTuple, cList, gOp, oInt, oIntC, oAdd, oMul, oNe, oEq, oIs, oIsnot, eqD, dep, gIx, gChain, gChain3, gTest, isBl, gIfS, gIt, gIl, gRng1, gRng2, gApp, gExt, gFrz, gAsgO, gNext, gTru, gNot, gAnd, gOr, gPart, gNoP, gSlT, gCatL, gNeg, gNm2, gZip, eq_self, if_true, ↓reduceIte, Bool.false_eq_true, if_false, List.getElem?_cons_zero, List.getElem?_cons_succ, List.set_cons_zero, List.set_cons_succ, F_is_tuple_of, isTupleOf, isMeeting]
      | a :: b :: c :: r =>
        have h4 : ((decide (2 ≤ (((a :: b :: c :: r).length : Nat) : Int))) && decide ((((a :: b :: c :: r).length : Nat) : Int) ≤ 2)) = false := by simp; omega
        simp only [g_is_meeting, gRet, gAndV, gOrV, gNotV, gInst, isSub_int, isSub_bool, isSub_tuple, gVar, gSeq, gAsg, gNm, gC, gF, gLst, gConsA, gNilA, gTupE, gCallB, gCallF, gCallD, gCallR, gOpt, gOptP, cLen, cAbs, cAll, cTuple, cList, gOp, oInt, oIntC, oAdd, oMul, oNe, oEq, oIs, oIsnot, eqD, dep, gIx, gChain, gChain3, gTest, isBl, gIfS, gIt, gIl, gRng1, gRng2, gApp, gExt, gFrz, gAsgO, gNext, gTru, gNot, gAnd, gOr, gPart, gNoP, gSlT, gCatL, gNeg, gNm2, gZip, eq_self, if_true, ↓reduceIte, Bool.false_eq_true, if_false, List.getElem?_cons_zero, List.getElem?_cons_succ, List.set_cons_zero, List.set_cons_succ, F_is_tuple_of, isTupleOf, h4, isMeeting]
    | _ => simp [g_is_meeting, gRet, gAndV, gOrV, gNotV, gInst, isSub_int, isSub_bool, isSub_tuple, gVar, gSeq, gAsg, gNm, gC, gF, gLst, gConsA, gNilA, gTupE, gCallB, gCallF, gCallD, gCallR, gOpt, gOptP, cLen, cAbs, cAll, cTuple, cList, gOp, oInt, oIntC, oAdd, oMul, oNe, oEq, oIs, oIsnot, eqD, dep, gIx, gChain, gChain3, gTest, isBl, gIfS, gIt, gIl, gRng1, gRng2, gApp, gExt, gFrz, gAsgO, gNext, gTru, gNot, gAnd, gOr, gPart, gNoP, gSlT, gCatL, gNeg, gNm2, gZip, eq_self, if_true, ↓reduceIte, Bool.false_eq_true, if_false, List.getElem?_cons_zero, List.getElem?_cons_succ, List.set_cons_zero, List.set_cons_succ, F_is_tuple_of, isTupleOf, isMeeting]
  | [], d, h => by cases h
  | _ :: _ :: _, d, h => by cases h
theorem vc_all_rows : ∀ ds d, F_all_rows ds = some d → g_all_rows (retD d) (dstart ["meeting"] ds)
  | [.tup [.tup es, p]], d, h => by
    obtain ⟨ns, rfl, ho, rfl⟩ := onDeeds_eq (show onDeeds es (fun ns => D.tup ((rowsL ns).map dInts)) = some d from h)
    show g_all_rows _ [.im (.tup [.tup (ns.map D.int), p])]
    simp [g_all_rows, gRet, gAndV, gOrV, gNotV, gInst, isSub_int, isSub_bool, isSub_tuple, gVar, gSeq, gAsg, gNm, gC, gF, gLst, gConsA, gNilA, gTupE, gCallB, gCallF, gCallD, gCallR, gOpt, gOptP, cLen, cAbs, cAll, cTuple, cList, gOp, oInt, oIntC, oAdd, oMul, oNe, oEq, oIs, oIsnot, eqD, dep, gIx, gChain, gChain3, gTest, isBl, gIfS, gIt, gIl, gRng1, gRng2, gApp, gExt, gFrz, gAsgO, gNext, gTru, gNot, gAnd, gOr, gPart, gNoP, gSlT, gCatL, gNeg, gNm2, gZip, eq_self, if_true, ↓reduceIte, Bool.false_eq_true, if_false, List.getElem?_cons_zero, List.getElem?_cons_succ, List.set_cons_zero, List.set_cons_succ, atI, ixN, F_rows_of, onDeeds_of _ ho]
theorem vc__law_cell : ∀ ds d, F__law_cell ds = some d → g__law_cell (retD d) (dstart ["_law_script", "_law_k"] ds)
  | [.lst xs, .int k], d, h => by
    have h : (match intsD xs with
      | some ns => if 0 ≤ k then some (D.int (ns.getD k.toNat 0)) else none
      | none => none) = some d := h
    split at h
    · rename_i ns e
      split at h
      · rename_i hk
        cases h
        rw [ints_eq e]
        show g__law_cell _ [.im (.lst (ns.map D.int)), .im (.int k)]
        simp only [g__law_cell, gRet, gAndV, gOrV, gNotV, gInst, isSub_int, isSub_bool, isSub_tuple, gVar, gSeq, gAsg, gNm, gC, gF, gLst, gConsA, gNilA, gTupE, gCallB, gCallF, gCallD, gCallR, gOpt, gOptP, cLen, cAbs, cAll, cTuple, cList, gOp, oInt, oIntC, oAdd, oMul, oNe, oEq, oIs, oIsnot, eqD, dep, gIx, gChain, gChain3, gTest, isBl, gIfS, gIt, gIl, gRng1, gRng2, gApp, gExt, gFrz, gAsgO, gNext, gTru, gNot, gAnd, gOr, gPart, gNoP, gSlT, gCatL, gNeg, gNm2, gZip, eq_self, if_true, ↓reduceIte, Bool.false_eq_true, if_false, List.getElem?_cons_zero, List.getElem?_cons_succ, List.set_cons_zero, List.set_cons_succ, List.getElem?_cons_zero, List.getElem?_cons_succ, List.length_map]
        by_cases hl : k < (ns.length : Int)
        · have hl' : k.toNat < ns.length := by omega
          simp [hl, atI, ixN, hk, hl']
        · have hl' : ns.length ≤ k.toNat := by omega
          simp [hl, hl']
      · cases h
    · cases h
theorem vc__law_mix : ∀ ds d, F__law_mix ds = some d → g__law_mix (retD d) (dstart ["_law_cell_here", "_law_prime", "_law_many"] ds)
  | [.int c, .int p, .int m], d, h => by
    have h : (if 0 < p ∧ 0 < m then some (D.int (mix c p m)) else none) = some d := h
    split at h
    · rename_i hp
      cases h
      show g__law_mix _ [.im (.int c), .im (.int p), .im (.int m)]
      simp only [g__law_mix, gRet, gAndV, gOrV, gNotV, gInst, isSub_int, isSub_bool, isSub_tuple, gVar, gSeq, gAsg, gNm, gC, gF, gLst, gConsA, gNilA, gTupE, gCallB, gCallF, gCallD, gCallR, gOpt, gOptP, cLen, cAbs, cAll, cTuple, cList, gOp, oInt, oIntC, oAdd, oMul, oNe, oEq, oIs, oIsnot, eqD, dep, gIx, gChain, gChain3, gTest, isBl, gIfS, gIt, gIl, gRng1, gRng2, gApp, gExt, gFrz, gAsgO, gNext, gTru, gNot, gAnd, gOr, gPart, gNoP, gSlT, gCatL, gNeg, gNm2, gZip, eq_self, if_true, ↓reduceIte, Bool.false_eq_true, if_false, List.getElem?_cons_zero, List.getElem?_cons_succ, List.set_cons_zero, List.set_cons_succ, List.getElem?_cons_zero, List.getElem?_cons_succ, mix]
      exact ⟨Or.inr ⟨by decide, by decide⟩, hp.1, hp.2, trivial⟩
    · cases h
theorem vc__law_row : ∀ ds d, F__law_row ds = some d → g__law_row (retD d) (dstart ["_law_meeting_here", "_law_cell_here", "_law_some"] ds)
  | [.tup [.tup es, p], .int c], d, h => by
    obtain ⟨ns, rfl, ho, rfl⟩ := onDeeds_eq (show onDeeds es (fun ns => dInts ((rowsL ns).getD (mix c 9907 (rowsL ns).length).toNat [])) = some d from h)
    show g__law_row _ [.im (.tup [.tup (ns.map D.int), p]), .im (.int c), .un]
    obtain ⟨l1, l2⟩ := rows_len ho
    have hm : (0 : Int) < ((rowsL ns).length : Int) := by omega
    have b1 : 0 ≤ mix c 9907 (rowsL ns).length := Int.emod_nonneg _ (by omega)
    have b2 : mix c 9907 (rowsL ns).length < (rowsL ns).length := Int.emod_lt_of_pos _ hm
    have b3 : (mix c 9907 (rowsL ns).length).toNat < (rowsL ns).length := by omega
    have e1 : atI [D.tup (ns.map D.int), p] 0 = some (D.tup (ns.map D.int)) := rfl
    have e2 : F__law_mix [.int c, .int 9907, .int ((((rowsL ns).map dInts).length : Nat) : Int)] = some (.int (mix c 9907 (rowsL ns).length)) := by
      rw [List.length_map]
      exact if_pos ⟨by decide, hm⟩
    have e3 : atI ((rowsL ns).map dInts) (mix c 9907 (rowsL ns).length) = some (dInts ((rowsL ns).getD (mix c 9907 (rowsL ns).length).toNat [])) := by
      simp [atI, ixN, b1, b2, b3]
    simp only [g__law_row, g__law_row_1, gRet, gAndV, gOrV, gNotV, gInst, isSub_int, isSub_bool, isSub_tuple, gVar, gSeq, gAsg, gNm, gC, gF, gLst, gConsA, gNilA, gTupE, gCallB, gCallF, gCallD, gCallR, gOpt, gOptP, cLen, cAbs, cAll, cTuple, cList, gOp, oInt, oIntC, oAdd, oMul, oNe, oEq, oIs, oIsnot, eqD, dep, gIx, gChain, gChain3, gTest, isBl, gIfS, gIt, gIl, gRng1, gRng2, gApp, gExt, gFrz, gAsgO, gNext, gTru, gNot, gAnd, gOr, gPart, gNoP, gSlT, gCatL, gNeg, gNm2, gZip, eq_self, if_true, ↓reduceIte, Bool.false_eq_true, if_false, List.getElem?_cons_zero, List.getElem?_cons_succ, List.set_cons_zero, List.set_cons_succ, e1, F__law_rows, onDeeds_of _ ho, e2, e3]
theorem zipD {es : List D} {ns : List Int} : List.zipWith (fun x y => D.tup [x, y]) es (ns.map D.int) = List.zipWith (fun x n => D.tup [x, .int n]) es ns := by
  rw [List.zipWith_map_right]
theorem vc_is_row : ∀ ds d, F_is_row ds = some d → g_is_row (retD d) (dstart ["thing", "deeds"] ds)
  | [x, .tup es], d, h => by
    obtain ⟨ns, rfl, ho, rfl⟩ := onDeeds_eq (show onDeeds es (fun ns => D.bl (isRow x ns)) = some d from h)
    show g_is_row _ [.im x, .im (.tup (ns.map D.int))]
    obtain ⟨m1, m2⟩ := okDeeds_mem ho
    cases x with
    | tup xs =>
      by_cases h1 : xs.length = ns.length
      · have e1 : isTupleOf (.tup xs) (ns.map D.int).length (ns.map D.int).length = true := by
          simp [isTupleOf]
          omega
        simp only [g_is_row, g_is_row_1, gRet, gAndV, gOrV, gNotV, gInst, isSub_int, isSub_bool, isSub_tuple, gVar, gSeq, gAsg, gNm, gC, gF, gLst, gConsA, gNilA, gTupE, gCallB, gCallF, gCallD, gCallR, gOpt, gOptP, cLen, cAbs, cAll, cTuple, cList, gOp, oInt, oIntC, oAdd, oMul, oNe, oEq, oIs, oIsnot, eqD, dep, gIx, gChain, gChain3, gTest, isBl, gIfS, gIt, gIl, gRng1, gRng2, gApp, gExt, gFrz, gAsgO, gNext, gTru, gNot, gAnd, gOr, gPart, gNoP, gSlT, gCatL, gNeg, gNm2, gZip, eq_self, if_true, ↓reduceIte, Bool.false_eq_true, if_false, List.getElem?_cons_zero, List.getElem?_cons_succ, List.set_cons_zero, List.set_cons_succ, F_is_tuple_of, e1, Bool.not_true, gComp]
        refine ⟨?_, fun p => match p with
          | .tup [a, .int n] => .bl (isBetween a 0 (n - 1))
          | _ => .non, fun p hp => ?_, ?_⟩
        · rw [List.length_zipWith]
          exact ends_le (by rw [h1]; omega)
        · rw [zipD] at hp
          obtain ⟨i, hi, rfl⟩ := List.mem_iff_getElem.mp hp
          rw [List.getElem_zipWith]
          simp [δc, gRet, gAndV, gOrV, gNotV, gInst, isSub_int, isSub_bool, isSub_tuple, gVar, gSeq, gAsg, gNm, gC, gF, gLst, gConsA, gNilA, gTupE, gCallB, gCallF, gCallD, gCallR, gOpt, gOptP, cLen, cAbs, cAll, cTuple, cList, gOp, oInt, oIntC, oAdd, oMul, oNe, oEq, oIs, oIsnot, eqD, dep, gIx, gChain, gChain3, gTest, isBl, gIfS, gIt, gIl, gRng1, gRng2, gApp, gExt, gFrz, gAsgO, gNext, gTru, gNot, gAnd, gOr, gPart, gNoP, gSlT, gCatL, gNeg, gNm2, gZip, eq_self, if_true, ↓reduceIte, Bool.false_eq_true, if_false, List.getElem?_cons_zero, List.getElem?_cons_succ, List.set_cons_zero, List.set_cons_succ, F_is_between]
        · have e2 : (List.zipWith (fun x y => D.tup [x, y]) xs (ns.map D.int)).map (fun p => match p with
              | .tup [a, .int n] => D.bl (isBetween a 0 (n - 1))
              | _ => .non) = (List.zipWith (fun x n => isBetween x 0 (n - 1)) xs ns).map D.bl := by
            rw [zipD, List.map_zipWith, List.map_zipWith]
          rw [e2, bools_map]
          simp [isRow, h1]
      · have e1 : isTupleOf (.tup xs) (ns.map D.int).length (ns.map D.int).length = false := by
          simp [isTupleOf]
          omega
        simp only [g_is_row, g_is_row_1, gRet, gAndV, gOrV, gNotV, gInst, isSub_int, isSub_bool, isSub_tuple, gVar, gSeq, gAsg, gNm, gC, gF, gLst, gConsA, gNilA, gTupE, gCallB, gCallF, gCallD, gCallR, gOpt, gOptP, cLen, cAbs, cAll, cTuple, cList, gOp, oInt, oIntC, oAdd, oMul, oNe, oEq, oIs, oIsnot, eqD, dep, gIx, gChain, gChain3, gTest, isBl, gIfS, gIt, gIl, gRng1, gRng2, gApp, gExt, gFrz, gAsgO, gNext, gTru, gNot, gAnd, gOr, gPart, gNoP, gSlT, gCatL, gNeg, gNm2, gZip, eq_self, if_true, ↓reduceIte, Bool.false_eq_true, if_false, List.getElem?_cons_zero, List.getElem?_cons_succ, List.set_cons_zero, List.set_cons_succ, F_is_tuple_of, e1, Bool.not_false, isRow, decide_eq_false h1, Bool.false_and]
    | _ => simp [g_is_row, g_is_row_1, gRet, gAndV, gOrV, gNotV, gInst, isSub_int, isSub_bool, isSub_tuple, gVar, gSeq, gAsg, gNm, gC, gF, gLst, gConsA, gNilA, gTupE, gCallB, gCallF, gCallD, gCallR, gOpt, gOptP, cLen, cAbs, cAll, cTuple, cList, gOp, oInt, oIntC, oAdd, oMul, oNe, oEq, oIs, oIsnot, eqD, dep, gIx, gChain, gChain3, gTest, isBl, gIfS, gIt, gIl, gRng1, gRng2, gApp, gExt, gFrz, gAsgO, gNext, gTru, gNot, gAnd, gOr, gPart, gNoP, gSlT, gCatL, gNeg, gNm2, gZip, eq_self, if_true, ↓reduceIte, Bool.false_eq_true, if_false, List.getElem?_cons_zero, List.getElem?_cons_succ, List.set_cons_zero, List.set_cons_succ, F_is_tuple_of, isTupleOf, isRow]
theorem vc_is_nexts : ∀ ds d, F_is_nexts ds = some d → g_is_nexts (retD d) (dstart ["thing", "deeds", "states", "many"] ds)
  | [x, .tup es, .int st], d, h => by
    obtain ⟨ns, rfl, ho, rfl⟩ := onDeeds_eq (show onDeeds es (fun ns => D.bl (isNexts x ns st)) = some d from h)
    show g_is_nexts _ [.im x, .im (.tup (ns.map D.int)), .im (.int st), .un]
    obtain ⟨l1, l2⟩ := rows_len ho
    cases x with
    | tup xs =>
      by_cases h1 : xs.length = (rowsL ns).length
      · have e1 : isTupleOf (.tup xs) ((rowsL ns).map dInts).length ((rowsL ns).map dInts).length = true := by
          simp [isTupleOf]
          omega
        have h2 : xs.length ≤ 1000 := by omega
        simp only [g_is_nexts, g_is_nexts_1, gRet, gAndV, gOrV, gNotV, gInst, isSub_int, isSub_bool, isSub_tuple, gVar, gSeq, gAsg, gNm, gC, gF, gLst, gConsA, gNilA, gTupE, gCallB, gCallF, gCallD, gCallR, gOpt, gOptP, cLen, cAbs, cAll, cTuple, cList, gOp, oInt, oIntC, oAdd, oMul, oNe, oEq, oIs, oIsnot, eqD, dep, gIx, gChain, gChain3, gTest, isBl, gIfS, gIt, gIl, gRng1, gRng2, gApp, gExt, gFrz, gAsgO, gNext, gTru, gNot, gAnd, gOr, gPart, gNoP, gSlT, gCatL, gNeg, gNm2, gZip, eq_self, if_true, ↓reduceIte, Bool.false_eq_true, if_false, List.getElem?_cons_zero, List.getElem?_cons_succ, List.set_cons_zero, List.set_cons_succ, F_rows_of, onDeeds_of _ ho, F_is_tuple_of, e1, F_are_between, if_pos h2, isNexts, decide_eq_true h1, Bool.true_and]
      · have e1 : isTupleOf (.tup xs) ((rowsL ns).map dInts).length ((rowsL ns).map dInts).length = false := by
          simp [isTupleOf]
          omega
        simp only [g_is_nexts, g_is_nexts_1, gRet, gAndV, gOrV, gNotV, gInst, isSub_int, isSub_bool, isSub_tuple, gVar, gSeq, gAsg, gNm, gC, gF, gLst, gConsA, gNilA, gTupE, gCallB, gCallF, gCallD, gCallR, gOpt, gOptP, cLen, cAbs, cAll, cTuple, cList, gOp, oInt, oIntC, oAdd, oMul, oNe, oEq, oIs, oIsnot, eqD, dep, gIx, gChain, gChain3, gTest, isBl, gIfS, gIt, gIl, gRng1, gRng2, gApp, gExt, gFrz, gAsgO, gNext, gTru, gNot, gAnd, gOr, gPart, gNoP, gSlT, gCatL, gNeg, gNm2, gZip, eq_self, if_true, ↓reduceIte, Bool.false_eq_true, if_false, List.getElem?_cons_zero, List.getElem?_cons_succ, List.set_cons_zero, List.set_cons_succ, F_rows_of, onDeeds_of _ ho, F_is_tuple_of, e1, isNexts, decide_eq_false h1, Bool.false_and]
    | _ => simp only [g_is_nexts, g_is_nexts_1, gRet, gAndV, gOrV, gNotV, gInst, isSub_int, isSub_bool, isSub_tuple, gVar, gSeq, gAsg, gNm, gC, gF, gLst, gConsA, gNilA, gTupE, gCallB, gCallF, gCallD, gCallR, gOpt, gOptP, cLen, cAbs, cAll, cTuple, cList, gOp, oInt, oIntC, oAdd, oMul, oNe, oEq, oIs, oIsnot, eqD, dep, gIx, gChain, gChain3, gTest, isBl, gIfS, gIt, gIl, gRng1, gRng2, gApp, gExt, gFrz, gAsgO, gNext, gTru, gNot, gAnd, gOr, gPart, gNoP, gSlT, gCatL, gNeg, gNm2, gZip, eq_self, if_true, ↓reduceIte, Bool.false_eq_true, if_false, List.getElem?_cons_zero, List.getElem?_cons_succ, List.set_cons_zero, List.set_cons_succ, F_rows_of, onDeeds_of _ ho, F_is_tuple_of, isTupleOf, isNexts]
theorem vc_is_state : ∀ ds d, F_is_state ds = some d → g_is_state (retD d) (dstart ["thing", "deeds", "states"] ds)
  | [x, .tup es, .int st], d, h => by
    obtain ⟨ns, rfl, ho, rfl⟩ := onDeeds_eq (show onDeeds es (fun ns => D.bl (isState x ns st)) = some d from h)
    show g_is_state _ [.im x, .im (.tup (ns.map D.int)), .im (.int st)]
    cases x with
    | tup xs =>
      match xs with
      | [a, b] =>
        have e0 : atI [a, b] 0 = some a := rfl
        have e1 : atI [a, b] 1 = some b := rfl
        have e2 : isTupleOf (.tup [a, b]) 2 2 = true := by simp [isTupleOf]
        simp only [g_is_state, gRet, gAndV, gOrV, gNotV, gInst, isSub_int, isSub_bool, isSub_tuple, gVar, gSeq, gAsg, gNm, gC, gF, gLst, gConsA, gNilA, gTupE, gCallB, gCallF, gCallD, gCallR, gOpt, gOptP, cLen, cAbs, cAll, cTuple, cList, gOp, oInt, oIntC, oAdd, oMul, oNe, oEq, oIs, oIsnot, eqD, dep, gIx, gChain, gChain3, gTest, isBl, gIfS, gIt, gIl, gRng1, gRng2, gApp, gExt, gFrz, gAsgO, gNext, gTru, gNot, gAnd, gOr, gPart, gNoP, gSlT, gCatL, gNeg, gNm2, gZip, eq_self, if_true, ↓reduceIte, Bool.false_eq_true, if_false, List.getElem?_cons_zero, List.getElem?_cons_succ, List.set_cons_zero, List.set_cons_succ, F_is_tuple_of, e2, e0, e1, F_is_row, F_is_nexts, onDeeds_of _ ho, isState]
        cases isRow a ns <;> simp
      | [] => simp [g_is_state, gRet, gAndV, gOrV, gNotV, gInst, isSub_int, isSub_bool, isSub_tuple, gVar, gSeq, gAsg, gNm, gC, gF, gLst, gConsA, gNilA, gTupE, gCallB, gCallF, gCallD, gCallR, gOpt, gOptP, cLen, cAbs, cAll, cTuple, cList, gOp, oInt, oIntC, oAdd, oMul, oNe, oEq, oIs, oIsnot, eqD, dep, gIx, gChain, gChain3, gTest, isBl, gIfS, gIt, gIl, gRng1, gRng2, gApp, gExt, gFrz, gAsgO, gNext, gTru, gNot, gAnd, gOr, gPart, gNoP, gSlT, gCatL, gNeg, gNm2, gZip, eq_self, if_true, ↓reduceIte, Bool.false_eq_true, if_false, List.getElem?_cons_zero, List.getElem?_cons_succ, List.set_cons_zero, List.set_cons_succ, F_is_tuple_of, isTupleOf, isState]
      | [a] => simp [g_is_state, gRet, gAndV, gOrV, gNotV, gInst, isSub_int, isSub_bool, isSub_tuple, gVar, gSeq, gAsg, gNm, gC, gF, gLst, gConsA, gNilA, gTupE, gCallB, gCallF, gCallD, gCallR, gOpt, gOptP, cLen, cAbs, cAll, cTuple, cList, gOp, oInt, oIntC, oAdd, oMul, oNe, oEq, oIs, oIsnot, eqD, dep, gIx, gChain, gChain3, gTest, isBl, gIfS, gIt, gIl, gRng1, gRng2, gApp, gExt, gFrz, gAsgO, gNext, gTru, gNot, gAnd, gOr, gPart, gNoP, gSlT, gCatL, gNeg, gNm2, gZip, eq_self, if_true, ↓reduceIte, Bool.false_eq_true, if_false, List.getElem?_cons_zero, List.getElem?_cons_succ, List.set_cons_zero, List.set_cons_succ, F_is_tuple_of, isTupleOf, isState]
      | a :: b :: c :: r =>
        have h4 : isTupleOf (.tup (a :: b :: c :: r)) 2 2 = false := by simp [isTupleOf]; omega
        simp only [g_is_state, gRet, gAndV, gOrV, gNotV, gInst, isSub_int, isSub_bool, isSub_tuple, gVar, gSeq, gAsg, gNm, gC, gF, gLst, gConsA, gNilA, gTupE, gCallB, gCallF, gCallD, gCallR, gOpt, gOptP, cLen, cAbs, cAll, cTuple, cList, gOp, oInt, oIntC, oAdd, oMul, oNe, oEq, oIs, oIsnot, eqD, dep, gIx, gChain, gChain3, gTest, isBl, gIfS, gIt, gIl, gRng1, gRng2, gApp, gExt, gFrz, gAsgO, gNext, gTru, gNot, gAnd, gOr, gPart, gNoP, gSlT, gCatL, gNeg, gNm2, gZip, eq_self, if_true, ↓reduceIte, Bool.false_eq_true, if_false, List.getElem?_cons_zero, List.getElem?_cons_succ, List.set_cons_zero, List.set_cons_succ, F_is_tuple_of, h4, isState]
    | _ => simp [g_is_state, gRet, gAndV, gOrV, gNotV, gInst, isSub_int, isSub_bool, isSub_tuple, gVar, gSeq, gAsg, gNm, gC, gF, gLst, gConsA, gNilA, gTupE, gCallB, gCallF, gCallD, gCallR, gOpt, gOptP, cLen, cAbs, cAll, cTuple, cList, gOp, oInt, oIntC, oAdd, oMul, oNe, oEq, oIs, oIsnot, eqD, dep, gIx, gChain, gChain3, gTest, isBl, gIfS, gIt, gIl, gRng1, gRng2, gApp, gExt, gFrz, gAsgO, gNext, gTru, gNot, gAnd, gOr, gPart, gNoP, gSlT, gCatL, gNeg, gNm2, gZip, eq_self, if_true, ↓reduceIte, Bool.false_eq_true, if_false, List.getElem?_cons_zero, List.getElem?_cons_succ, List.set_cons_zero, List.set_cons_succ, F_is_tuple_of, isTupleOf, isState]
theorem vc_is_plan : ∀ ds d, F_is_plan ds = some d → g_is_plan (retD d) (dstart ["thing", "meeting"] ds)
  | [x, .tup [.tup es, p]], d, h => by
    obtain ⟨ns, rfl, ho, rfl⟩ := onDeeds_eq (show onDeeds es (fun ns => D.bl (isPlan x ns)) = some d from h)
    show g_is_plan _ [.im x, .im (.tup [.tup (ns.map D.int), p])]
    have e0 : atI [D.tup (ns.map D.int), p] 0 = some (D.tup (ns.map D.int)) := rfl
    cases x with
    | tup xs =>
      by_cases h1 : 1 ≤ xs.length ∧ xs.length ≤ 8
      · have e1 : isTupleOf (.tup xs) 1 8 = true := by
          simp [isTupleOf]
          omega
        simp only [g_is_plan, g_is_plan_1, gRet, gAndV, gOrV, gNotV, gInst, isSub_int, isSub_bool, isSub_tuple, gVar, gSeq, gAsg, gNm, gC, gF, gLst, gConsA, gNilA, gTupE, gCallB, gCallF, gCallD, gCallR, gOpt, gOptP, cLen, cAbs, cAll, cTuple, cList, gOp, oInt, oIntC, oAdd, oMul, oNe, oEq, oIs, oIsnot, eqD, dep, gIx, gChain, gChain3, gTest, isBl, gIfS, gIt, gIl, gRng1, gRng2, gApp, gExt, gFrz, gAsgO, gNext, gTru, gNot, gAnd, gOr, gPart, gNoP, gSlT, gCatL, gNeg, gNm2, gZip, eq_self, if_true, ↓reduceIte, Bool.false_eq_true, if_false, List.getElem?_cons_zero, List.getElem?_cons_succ, List.set_cons_zero, List.set_cons_succ, F_is_tuple_of, e1, Bool.not_true, gComp]
        refine ⟨ends_le (by omega), fun s => .bl (isState s ns xs.length), fun s hs => ?_, ?_⟩
        · simp only [δc, List.map_cons, List.map_nil, gRet, gAndV, gOrV, gNotV, gInst, isSub_int, isSub_bool, isSub_tuple, gVar, gSeq, gAsg, gNm, gC, gF, gLst, gConsA, gNilA, gTupE, gCallB, gCallF, gCallD, gCallR, gOpt, gOptP, cLen, cAbs, cAll, cTuple, cList, gOp, oInt, oIntC, oAdd, oMul, oNe, oEq, oIs, oIsnot, eqD, dep, gIx, gChain, gChain3, gTest, isBl, gIfS, gIt, gIl, gRng1, gRng2, gApp, gExt, gFrz, gAsgO, gNext, gTru, gNot, gAnd, gOr, gPart, gNoP, gSlT, gCatL, gNeg, gNm2, gZip, eq_self, if_true, ↓reduceIte, Bool.false_eq_true, if_false, List.getElem?_cons_zero, List.getElem?_cons_succ, List.set_cons_zero, List.set_cons_succ, e0, F_is_state, onDeeds_of _ ho]
        · rw [bools_mapf]
          simp [Function.comp_def, List.all_map, isPlan, h1]
      · have e1 : isTupleOf (.tup xs) 1 8 = false := by
          simp [isTupleOf]
          omega
        have e2 : (decide (1 ≤ xs.length) && decide (xs.length ≤ 8)) = false := by simp; omega
        simp only [g_is_plan, g_is_plan_1, gRet, gAndV, gOrV, gNotV, gInst, isSub_int, isSub_bool, isSub_tuple, gVar, gSeq, gAsg, gNm, gC, gF, gLst, gConsA, gNilA, gTupE, gCallB, gCallF, gCallD, gCallR, gOpt, gOptP, cLen, cAbs, cAll, cTuple, cList, gOp, oInt, oIntC, oAdd, oMul, oNe, oEq, oIs, oIsnot, eqD, dep, gIx, gChain, gChain3, gTest, isBl, gIfS, gIt, gIl, gRng1, gRng2, gApp, gExt, gFrz, gAsgO, gNext, gTru, gNot, gAnd, gOr, gPart, gNoP, gSlT, gCatL, gNeg, gNm2, gZip, eq_self, if_true, ↓reduceIte, Bool.false_eq_true, if_false, List.getElem?_cons_zero, List.getElem?_cons_succ, List.set_cons_zero, List.set_cons_succ, F_is_tuple_of, e1, Bool.not_false, isPlan, e2, Bool.false_and]
    | _ => simp [g_is_plan, g_is_plan_1, gRet, gAndV, gOrV, gNotV, gInst, isSub_int, isSub_bool, isSub_tuple, gVar, gSeq, gAsg, gNm, gC, gF, gLst, gConsA, gNilA, gTupE, gCallB, gCallF, gCallD, gCallR, gOpt, gOptP, cLen, cAbs, cAll, cTuple, cList, gOp, oInt, oIntC, oAdd, oMul, oNe, oEq, oIs, oIsnot, eqD, dep, gIx, gChain, gChain3, gTest, isBl, gIfS, gIt, gIl, gRng1, gRng2, gApp, gExt, gFrz, gAsgO, gNext, gTru, gNot, gAnd, gOr, gPart, gNoP, gSlT, gCatL, gNeg, gNm2, gZip, eq_self, if_true, ↓reduceIte, Bool.false_eq_true, if_false, List.getElem?_cons_zero, List.getElem?_cons_succ, List.set_cons_zero, List.set_cons_succ, F_is_tuple_of, isTupleOf, isPlan]
theorem vc_common_divisor : ∀ ds d, F_common_divisor ds = some d → g_common_divisor (retD d) (dstart ["one", "other", "greater", "smaller", "rest"] ds)
  | [.int a, .int b], d, h => by
    cases h
    show g_common_divisor _ [.im (.int a), .im (.int b), .un, .un, .un]
    simp only [g_common_divisor, g_common_divisor_2, g_common_divisor_1, gRet, gAndV, gOrV, gNotV, gInst, isSub_int, isSub_bool, isSub_tuple, gVar, gSeq, gAsg, gNm, gC, gF, gLst, gConsA, gNilA, gTupE, gCallB, gCallF, gCallD, gCallR, gOpt, gOptP, cLen, cAbs, cAll, cTuple, cList, gOp, oInt, oIntC, oAdd, oMul, oNe, oEq, oIs, oIsnot, eqD, dep, gIx, gChain, gChain3, gTest, isBl, gIfS, gIt, gIl, gRng1, gRng2, gApp, gExt, gFrz, gAsgO, gNext, gTru, gNot, gAnd, gOr, gPart, gNoP, gSlT, gCatL, gNeg, gNm2, gZip, eq_self, if_true, ↓reduceIte, Bool.false_eq_true, if_false, List.getElem?_cons_zero, List.getElem?_cons_succ, List.set_cons_zero, List.set_cons_succ, gWhile]
    have ea : ∀ a : Int, (if a < 0 then -a else a) = (a.natAbs : Int) := fun a => by split <;> omega
    refine ⟨fun n δ => ∃ (x y : Nat) (z : Sl), δ = [.im (.int a), .im (.int b), .im (.int x), .im (.int y), z] ∧ n = y ∧ Nat.gcd x y = Int.gcd a b, ⟨b.natAbs, a.natAbs, b.natAbs, .un, by rw [ea, ea], rfl, rfl⟩, ?_⟩
    rintro n δ ⟨x, y, z, rfl, rfl, hg⟩
    simp only [gRet, gAndV, gOrV, gNotV, gInst, isSub_int, isSub_bool, isSub_tuple, gVar, gSeq, gAsg, gNm, gC, gF, gLst, gConsA, gNilA, gTupE, gCallB, gCallF, gCallD, gCallR, gOpt, gOptP, cLen, cAbs, cAll, cTuple, cList, gOp, oInt, oIntC, oAdd, oMul, oNe, oEq, oIs, oIsnot, eqD, dep, gIx, gChain, gChain3, gTest, isBl, gIfS, gIt, gIl, gRng1, gRng2, gApp, gExt, gFrz, gAsgO, gNext, gTru, gNot, gAnd, gOr, gPart, gNoP, gSlT, gCatL, gNeg, gNm2, gZip, eq_self, if_true, ↓reduceIte, Bool.false_eq_true, if_false, List.getElem?_cons_zero, List.getElem?_cons_succ, List.set_cons_zero, List.set_cons_succ]
    refine ⟨by decide, ?_⟩
    cases n with
    | zero =>
      simp
      rw [← hg]
      simp
    | succ y =>
      have e : ((((y + 1 : Nat) : Int)) == 0) = false := by simp; omega
      simp only [e, Bool.not_false, gRet, gAndV, gOrV, gNotV, gInst, isSub_int, isSub_bool, isSub_tuple, gVar, gSeq, gAsg, gNm, gC, gF, gLst, gConsA, gNilA, gTupE, gCallB, gCallF, gCallD, gCallR, gOpt, gOptP, cLen, cAbs, cAll, cTuple, cList, gOp, oInt, oIntC, oAdd, oMul, oNe, oEq, oIs, oIsnot, eqD, dep, gIx, gChain, gChain3, gTest, isBl, gIfS, gIt, gIl, gRng1, gRng2, gApp, gExt, gFrz, gAsgO, gNext, gTru, gNot, gAnd, gOr, gPart, gNoP, gSlT, gCatL, gNeg, gNm2, gZip, eq_self, if_true, ↓reduceIte, Bool.false_eq_true, if_false, List.getElem?_cons_zero, List.getElem?_cons_succ, List.set_cons_zero, List.set_cons_succ]
      refine ⟨by omega, (x % (y + 1) : Nat), Nat.mod_lt _ (Nat.succ_pos _), y + 1, x % (y + 1), _, rfl, rfl, ?_⟩
      rw [← hg, Nat.gcd_comm x, Nat.gcd_rec (y + 1) x, Nat.gcd_comm]
theorem vc_is_fraction : ∀ ds d, F_is_fraction ds = some d → g_is_fraction (retD d) (dstart ["thing", "upper", "lower"] ds)
  | [x], d, h => by
    cases h
    show g_is_fraction _ [.im x, .un, .un]
    cases x with
    | tup xs =>
      match xs with
      | [a, b] =>
        have e0 : atI [a, b] 0 = some a := rfl
        have e1 : atI [a, b] 1 = some b := rfl
        simp only [g_is_fraction, g_is_fraction_3, g_is_fraction_2, g_is_fraction_1, gRet, gAndV, gOrV, gNotV, gInst, isSub_int, isSub_bool, isSub_tuple, gVar, gSeq, gAsg, gNm, gC, gF, gLst, gConsA, gNilA, gTupE, gCallB, gCallF, gCallD, gCallR, gOpt, gOptP, cLen, cAbs, cAll, cTuple, cList, gOp, oInt, oIntC, oAdd, oMul, oNe, oEq, oIs, oIsnot, eqD, dep, gIx, gChain, gChain3, gTest, isBl, gIfS, gIt, gIl, gRng1, gRng2, gApp, gExt, gFrz, gAsgO, gNext, gTru, gNot, gAnd, gOr, gPart, gNoP, gSlT, gCatL, gNeg, gNm2, gZip, eq_self, if_true, ↓reduceIte, Bool.false_eq_true, if_false, List.getElem?_cons_zero, List.getElem?_cons_succ, List.set_cons_zero, List.set_cons_succ, Bool.not_true, e0, e1, F_is_whole]
        refine ⟨by simp [dep, deps], ?_⟩
        cases a with
        | int i =>
          cases b with
          | int j =>
            simp [isWhole, isFraction, F_common_divisor, gRet, gAndV, gOrV, gNotV, gInst, isSub_int, isSub_bool, isSub_tuple, gVar, gSeq, gAsg, gNm, gC, gF, gLst, gConsA, gNilA, gTupE, gCallB, gCallF, gCallD, gCallR, gOpt, gOptP, cLen, cAbs, cAll, cTuple, cList, gOp, oInt, oIntC, oAdd, oMul, oNe, oEq, oIs, oIsnot, eqD, dep, gIx, gChain, gChain3, gTest, isBl, gIfS, gIt, gIl, gRng1, gRng2, gApp, gExt, gFrz, gAsgO, gNext, gTru, gNot, gAnd, gOr, gPart, gNoP, gSlT, gCatL, gNeg, gNm2, gZip, eq_self, if_true, ↓reduceIte, Bool.false_eq_true, if_false, List.getElem?_cons_zero, List.getElem?_cons_succ, List.set_cons_zero, List.set_cons_succ]
            by_cases hj : 1 ≤ j
            · simp [hj]
              rw [Bool.eq_iff_iff]
              simp
              omega
            · simp [hj]
          | _ => simp [isWhole, isFraction]
        | _ => simp [isWhole, isFraction]
      | [] => simp [g_is_fraction, g_is_fraction_3, g_is_fraction_2, g_is_fraction_1, gRet, gAndV, gOrV, gNotV, gInst, isSub_int, isSub_bool, isSub_tuple, gVar, gSeq, gAsg, gNm, gC, gF, gLst, gConsA, gNilA, gTupE, gCallB, gCallF, gCallD, gCallR, gOpt, gOptP, cLen, cAbs, cAll, cTuple, cList, gOp, oInt, oIntC, oAdd, oMul, oNe, oEq, oIs, oIsnot, eqD, dep, gIx, gChain, gChain3, gTest, isBl, gIfS, gIt, gIl, gRng1, gRng2, gApp, gExt, gFrz, gAsgO, gNext, gTru, gNot, gAnd, gOr, gPart, gNoP, gSlT, gCatL, gNeg, gNm2, gZip, eq_self, if_true, ↓reduceIte, Bool.false_eq_true, if_false, List.getElem?_cons_zero, List.getElem?_cons_succ, List.set_cons_zero, List.set_cons_succ, isFraction]
      | [a] => simp [g_is_fraction, g_is_fraction_3, g_is_fraction_2, g_is_fraction_1, gRet, gAndV, gOrV, gNotV, gInst, isSub_int, isSub_bool, isSub_tuple, gVar, gSeq, gAsg, gNm, gC, gF, gLst, gConsA, gNilA, gTupE, gCallB, gCallF, gCallD, gCallR, gOpt, gOptP, cLen, cAbs, cAll, cTuple, cList, gOp, oInt, oIntC, oAdd, oMul, oNe, oEq, oIs, oIsnot, eqD, dep, gIx, gChain, gChain3, gTest, isBl, gIfS, gIt, gIl, gRng1, gRng2, gApp, gExt, gFrz, gAsgO, gNext, gTru, gNot, gAnd, gOr, gPart, gNoP, gSlT, gCatL, gNeg, gNm2, gZip, eq_self, if_true, ↓reduceIte, Bool.false_eq_true, if_false, List.getElem?_cons_zero, List.getElem?_cons_succ, List.set_cons_zero, List.set_cons_succ, isFraction]
      | a :: b :: c :: r =>
        have h4 : ((((a :: b :: c :: r).length : Nat) : Int) == 2) = false := by simp; omega
        simp only [g_is_fraction, g_is_fraction_3, g_is_fraction_2, g_is_fraction_1, gRet, gAndV, gOrV, gNotV, gInst, isSub_int, isSub_bool, isSub_tuple, gVar, gSeq, gAsg, gNm, gC, gF, gLst, gConsA, gNilA, gTupE, gCallB, gCallF, gCallD, gCallR, gOpt, gOptP, cLen, cAbs, cAll, cTuple, cList, gOp, oInt, oIntC, oAdd, oMul, oNe, oEq, oIs, oIsnot, eqD, dep, gIx, gChain, gChain3, gTest, isBl, gIfS, gIt, gIl, gRng1, gRng2, gApp, gExt, gFrz, gAsgO, gNext, gTru, gNot, gAnd, gOr, gPart, gNoP, gSlT, gCatL, gNeg, gNm2, gZip, eq_self, if_true, ↓reduceIte, Bool.false_eq_true, if_false, List.getElem?_cons_zero, List.getElem?_cons_succ, List.set_cons_zero, List.set_cons_succ, Bool.not_true, h4, Bool.not_false, isFraction]
        exact ⟨by simp, trivial⟩
    | _ => simp [g_is_fraction, g_is_fraction_3, g_is_fraction_2, g_is_fraction_1, gRet, gAndV, gOrV, gNotV, gInst, isSub_int, isSub_bool, isSub_tuple, gVar, gSeq, gAsg, gNm, gC, gF, gLst, gConsA, gNilA, gTupE, gCallB, gCallF, gCallD, gCallR, gOpt, gOptP, cLen, cAbs, cAll, cTuple, cList, gOp, oInt, oIntC, oAdd, oMul, oNe, oEq, oIs, oIsnot, eqD, dep, gIx, gChain, gChain3, gTest, isBl, gIfS, gIt, gIl, gRng1, gRng2, gApp, gExt, gFrz, gAsgO, gNext, gTru, gNot, gAnd, gOr, gPart, gNoP, gSlT, gCatL, gNeg, gNm2, gZip, eq_self, if_true, ↓reduceIte, Bool.false_eq_true, if_false, List.getElem?_cons_zero, List.getElem?_cons_succ, List.set_cons_zero, List.set_cons_succ, isFraction]
  | [], d, h => by cases h
  | _ :: _ :: _, d, h => by cases h
theorem vc_is_patience : ∀ ds d, F_is_patience ds = some d → g_is_patience (retD d) (dstart ["thing"] ds)
  | [x], d, h => by
    cases h
    show g_is_patience _ [.im x]
    cases hf : isFraction x with
    | false =>
      simp only [g_is_patience, gRet, gAndV, gOrV, gNotV, gInst, isSub_int, isSub_bool, isSub_tuple, gVar, gSeq, gAsg, gNm, gC, gF, gLst, gConsA, gNilA, gTupE, gCallB, gCallF, gCallD, gCallR, gOpt, gOptP, cLen, cAbs, cAll, cTuple, cList, gOp, oInt, oIntC, oAdd, oMul, oNe, oEq, oIs, oIsnot, eqD, dep, gIx, gChain, gChain3, gTest, isBl, gIfS, gIt, gIl, gRng1, gRng2, gApp, gExt, gFrz, gAsgO, gNext, gTru, gNot, gAnd, gOr, gPart, gNoP, gSlT, gCatL, gNeg, gNm2, gZip, eq_self, if_true, ↓reduceIte, Bool.false_eq_true, if_false, List.getElem?_cons_zero, List.getElem?_cons_succ, List.set_cons_zero, List.set_cons_succ, F_is_fraction, hf]
      unfold isPatience
      split
      · rename_i a b
        rw [hf]
        simp
      · rfl
    | true =>
      have : ∃ a b : Int, x = .tup [.int a, .int b] := by
        unfold isFraction at hf
        split at hf
        · exact ⟨_, _, rfl⟩
        · cases hf
      obtain ⟨a, b, rfl⟩ := this
      have e0 : atI [D.int a, .int b] 0 = some (.int a) := rfl
      have e1 : atI [D.int a, .int b] 1 = some (.int b) := rfl
      simp only [g_is_patience, gRet, gAndV, gOrV, gNotV, gInst, isSub_int, isSub_bool, isSub_tuple, gVar, gSeq, gAsg, gNm, gC, gF, gLst, gConsA, gNilA, gTupE, gCallB, gCallF, gCallD, gCallR, gOpt, gOptP, cLen, cAbs, cAll, cTuple, cList, gOp, oInt, oIntC, oAdd, oMul, oNe, oEq, oIs, oIsnot, eqD, dep, gIx, gChain, gChain3, gTest, isBl, gIfS, gIt, gIl, gRng1, gRng2, gApp, gExt, gFrz, gAsgO, gNext, gTru, gNot, gAnd, gOr, gPart, gNoP, gSlT, gCatL, gNeg, gNm2, gZip, eq_self, if_true, ↓reduceIte, Bool.false_eq_true, if_false, List.getElem?_cons_zero, List.getElem?_cons_succ, List.set_cons_zero, List.set_cons_succ, F_is_fraction, hf, e0, e1, isPatience, Bool.true_and]
      cases decide (0 < a) <;> cases decide (a < b) <;> simp
  | [], d, h => by cases h
  | _ :: _ :: _, d, h => by cases h
theorem vc__law_cells : ∀ ds d, F__law_cells ds = some d → g__law_cells (retD d) (dstart ["_law_script", "_law_k"] ds)
  | [.lst xs, .int k], d, h => by
    have h : (match intsD xs with
      | some ns => if 0 ≤ k then some (D.lst ((List.range 4).map fun (n : Nat) => .int (ns.getD (k.toNat + n) 0))) else none
      | none => none) = some d := h
    split at h
    · rename_i ns e
      split at h
      · rename_i hk
        cases h
        rw [ints_eq e]
        show g__law_cells _ [.im (.lst (ns.map D.int)), .im (.int k)]
        simp only [g__law_cells, gRet, gAndV, gOrV, gNotV, gInst, isSub_int, isSub_bool, isSub_tuple, gVar, gSeq, gAsg, gNm, gC, gF, gLst, gConsA, gNilA, gTupE, gCallB, gCallF, gCallD, gCallR, gOpt, gOptP, cLen, cAbs, cAll, cTuple, cList, gOp, oInt, oIntC, oAdd, oMul, oNe, oEq, oIs, oIsnot, eqD, dep, gIx, gChain, gChain3, gTest, isBl, gIfS, gIt, gIl, gRng1, gRng2, gApp, gExt, gFrz, gAsgO, gNext, gTru, gNot, gAnd, gOr, gPart, gNoP, gSlT, gCatL, gNeg, gNm2, gZip, eq_self, if_true, ↓reduceIte, Bool.false_eq_true, if_false, List.getElem?_cons_zero, List.getElem?_cons_succ, List.set_cons_zero, List.set_cons_succ, gComp]
        refine ⟨by decide, by decide, fun d => match d with
          | .int n => .int (ns.getD (k + n).toNat 0)
          | _ => .non, fun d hd => ?_, ?_⟩
        · unfold rangeD at hd
          obtain ⟨n, hn, rfl⟩ := List.mem_map.mp hd
          have h0 : 0 ≤ k + (0 + (n : Int)) := by omega
          simp only [δc, List.map_cons, List.map_nil, gRet, gAndV, gOrV, gNotV, gInst, isSub_int, isSub_bool, isSub_tuple, gVar, gSeq, gAsg, gNm, gC, gF, gLst, gConsA, gNilA, gTupE, gCallB, gCallF, gCallD, gCallR, gOpt, gOptP, cLen, cAbs, cAll, cTuple, cList, gOp, oInt, oIntC, oAdd, oMul, oNe, oEq, oIs, oIsnot, eqD, dep, gIx, gChain, gChain3, gTest, isBl, gIfS, gIt, gIl, gRng1, gRng2, gApp, gExt, gFrz, gAsgO, gNext, gTru, gNot, gAnd, gOr, gPart, gNoP, gSlT, gCatL, gNeg, gNm2, gZip, eq_self, if_true, ↓reduceIte, Bool.false_eq_true, if_false, List.getElem?_cons_zero, List.getElem?_cons_succ, List.set_cons_zero, List.set_cons_succ, F__law_cell, ints_map, if_pos h0]
        · congr 1
          unfold rangeD
          rw [List.map_map]
          refine List.map_congr_left fun n hn => ?_
          have : (k + (0 + (n : Int))).toNat = k.toNat + n := by omega
          simp only [Function.comp_def, this]
      · cases h
    · cases h
end L2
namespace L2
open PySem PySem.Spec PyProof.Rows
theorem rowStep_take (R : List (List Int)) (n : Int) (j : Nat) (h : j < R.length) : rowStep (R.take (j + 1)) n = rowStep (R.take j) n ++ (List.range n.toNat).map fun (k : Nat) => R[j] ++ [(k : Int)] := by
  rw [List.take_succ, List.getElem?_eq_getElem h, Option.toList_some, rowStep_append, rowStep_one]
theorem rowsL_take (ns : List Int) (i : Nat) (h : i < ns.length) : rowsL (ns.take (i + 1)) = rowStep (rowsL (ns.take i)) ns[i] := by
  rw [List.take_succ, List.getElem?_eq_getElem h, Option.toList_some, rowsL_snoc]
theorem getm_map {α β : Type} {f : α → β} {l : List α} {i : Nat} {d : β} (e : (l.map f)[i]? = some d) : ∃ h : i < l.length, d = f l[i] := by
  rw [List.getElem?_map] at e
  cases e2 : l[i]? with
  | none => rw [e2] at e; cases e
  | some x =>
    rw [e2] at e
    obtain ⟨h, e3⟩ := List.getElem?_eq_some_iff.mp e2
    cases e
    exact ⟨h, by rw [e3]⟩
theorem dInts_snoc (r : List Int) (k : Int) : dInts (r ++ [k]) = .tup (r.map D.int ++ [.int k]) := by
  unfold dInts
  rw [List.map_append]
  rfl
/-- what the loops over rows want -/
theorem row_facts {ns : List Int} (ho : okDeeds ns = true) {i : Nat} (hi : i < ns.length) : 1 ≤ ns[i] ∧ ns[i] ≤ 3 ∧ (rowsL (ns.take i)).length ≤ 27 ∧ ∀ r ∈ rowsL (ns.take i), r.length ≤ 3 := by
  obtain ⟨m1, m2⟩ := okDeeds_mem ho
  have h1 := m2 ns[i] (List.getElem_mem hi)
  refine ⟨h1.1, h1.2, (rows_len (okDeeds_take ho i)).2, fun r hr => ?_⟩
  rw [(rows_row hr).1, List.length_take]
  omega
theorem vc_rows_of : ∀ ds d, F_rows_of ds = some d → g_rows_of (retD d) (dstart ["deeds", "rows", "many", "longer", "row", "deed"] ds)
  | [.tup es], d, h => by
    obtain ⟨ns, rfl, ho, rfl⟩ := onDeeds_eq (show onDeeds es (fun ns => D.tup ((rowsL ns).map dInts)) = some d from h)
    show g_rows_of _ [.im (.tup (ns.map D.int)), .un, .un, .un, .un, .un]
    simp only [g_rows_of, g_rows_of_1, gRet, gAndV, gOrV, gNotV, gInst, isSub_int, isSub_bool, isSub_tuple, gVar, gSeq, gAsg, gNm, gC, gF, gLst, gConsA, gNilA, gTupE, gCallB, gCallF, gCallD, gCallR, gOpt, gOptP, cLen, cAbs, cAll, cTuple, cList, gOp, oInt, oIntC, oAdd, oMul, oNe, oEq, oIs, oIsnot, eqD, dep, gIx, gChain, gChain3, gTest, isBl, gIfS, gIt, gIl, gRng1, gRng2, gApp, gExt, gFrz, gAsgO, gNext, gTru, gNot, gAnd, gOr, gPart, gNoP, gSlT, gCatL, gNeg, gNm2, gZip, eq_self, if_true, ↓reduceIte, Bool.false_eq_true, if_false, List.getElem?_cons_zero, List.getElem?_cons_succ, List.set_cons_zero, List.set_cons_succ, gFor]
    refine ⟨by decide, by decide, fun i δ => ∃ a b c e, δ = [.im (.tup (ns.map D.int)), .im (.lst ((rowsL (ns.take i)).map dInts)), a, b, c, e], ⟨.un, .un, .un, .un, rfl⟩, ?_, ?_⟩
    · rintro i d δ ed ⟨a, b, c, e, rfl⟩
      obtain ⟨hi, rfl⟩ := getm_map ed
      obtain ⟨f1, f2, f3, f4⟩ := row_facts ho hi
      generalize hR : rowsL (ns.take i) = R at *
      generalize hn : ns[i] = n at *
      simp only [gRet, gAndV, gOrV, gNotV, gInst, isSub_int, isSub_bool, isSub_tuple, gVar, gSeq, gAsg, gNm, gC, gF, gLst, gConsA, gNilA, gTupE, gCallB, gCallF, gCallD, gCallR, gOpt, gOptP, cLen, cAbs, cAll, cTuple, cList, gOp, oInt, oIntC, oAdd, oMul, oNe, oEq, oIs, oIsnot, eqD, dep, gIx, gChain, gChain3, gTest, isBl, gIfS, gIt, gIl, gRng1, gRng2, gApp, gExt, gFrz, gAsgO, gNext, gTru, gNot, gAnd, gOr, gPart, gNoP, gSlT, gCatL, gNeg, gNm2, gZip, eq_self, if_true, ↓reduceIte, Bool.false_eq_true, if_false, List.getElem?_cons_zero, List.getElem?_cons_succ, List.set_cons_zero, List.set_cons_succ]
      refine ⟨by decide, fun j δ => ∃ c e, δ = [.im (.tup (ns.map D.int)), .im (.lst (R.map dInts)), .im (.int n), .ow ((rowStep (R.take j) n).map dInts), c, e], ⟨c, e, rfl⟩, ?_, ?_⟩
      · rintro j d δ ed ⟨c, e, rfl⟩
        obtain ⟨hj, rfl⟩ := getm_map ed
        have fr := f4 R[j] (List.getElem_mem hj)
        simp only [gRet, gAndV, gOrV, gNotV, gInst, isSub_int, isSub_bool, isSub_tuple, gVar, gSeq, gAsg, gNm, gC, gF, gLst, gConsA, gNilA, gTupE, gCallB, gCallF, gCallD, gCallR, gOpt, gOptP, cLen, cAbs, cAll, cTuple, cList, gOp, oInt, oIntC, oAdd, oMul, oNe, oEq, oIs, oIsnot, eqD, dep, gIx, gChain, gChain3, gTest, isBl, gIfS, gIt, gIl, gRng1, gRng2, gApp, gExt, gFrz, gAsgO, gNext, gTru, gNot, gAnd, gOr, gPart, gNoP, gSlT, gCatL, gNeg, gNm2, gZip, eq_self, if_true, ↓reduceIte, Bool.false_eq_true, if_false, List.getElem?_cons_zero, List.getElem?_cons_succ, List.set_cons_zero, List.set_cons_succ]
        refine ⟨by omega, fun k δ => ∃ e, δ = [.im (.tup (ns.map D.int)), .im (.lst (R.map dInts)), .im (.int n), .ow ((rowStep (R.take j) n).map dInts ++ ((List.range k).map fun (m : Nat) => dInts (R[j] ++ [(m : Int)]))), .im (dInts R[j]), e], ⟨e, by simp⟩, ?_, ?_⟩
        · rintro k d δ ed ⟨e, rfl⟩
          unfold rangeD at ed
          obtain ⟨hk, rfl⟩ := getm_map ed
          rw [List.length_range] at hk
          simp only [gRet, gAndV, gOrV, gNotV, gInst, isSub_int, isSub_bool, isSub_tuple, gVar, gSeq, gAsg, gNm, gC, gF, gLst, gConsA, gNilA, gTupE, gCallB, gCallF, gCallD, gCallR, gOpt, gOptP, cLen, cAbs, cAll, cTuple, cList, gOp, oInt, oIntC, oAdd, oMul, oNe, oEq, oIs, oIsnot, eqD, dep, gIx, gChain, gChain3, gTest, isBl, gIfS, gIt, gIl, gRng1, gRng2, gApp, gExt, gFrz, gAsgO, gNext, gTru, gNot, gAnd, gOr, gPart, gNoP, gSlT, gCatL, gNeg, gNm2, gZip, eq_self, if_true, ↓reduceIte, Bool.false_eq_true, if_false, List.getElem?_cons_zero, List.getElem?_cons_succ, List.set_cons_zero, List.set_cons_succ, dInts, List.getElem_range, Int.zero_add]
          have hl : (rowStep (R.take j) n).length ≤ 81 := by
            rw [rowStep_length, List.length_take]
            exact Nat.le_trans (Nat.mul_le_mul (Nat.le_trans (Nat.min_le_right _ _) f3) (show n.toNat ≤ 3 by omega)) (by decide)
          refine ⟨ends_le (by simp), by simp; exact ends_le (by omega), ?_, ?_⟩
          · refine small1000 ?_
            simp
            omega
          · refine ⟨.im (.int (k : Int)), ?_⟩
            rw [List.range_succ, List.map_append, ← List.append_assoc]
            simp only [List.map_cons, List.map_nil, List.map_append, dInts]
        · rintro δ ⟨e, rfl⟩
          refine ⟨.im (dInts R[j]), e, ?_⟩
          rw [rowStep_take R n j hj, List.map_append, List.map_map]
          simp [rangeD, Function.comp_def]
      · rintro δ ⟨c, e, rfl⟩
        simp only [gRet, gAndV, gOrV, gNotV, gInst, isSub_int, isSub_bool, isSub_tuple, gVar, gSeq, gAsg, gNm, gC, gF, gLst, gConsA, gNilA, gTupE, gCallB, gCallF, gCallD, gCallR, gOpt, gOptP, cLen, cAbs, cAll, cTuple, cList, gOp, oInt, oIntC, oAdd, oMul, oNe, oEq, oIs, oIsnot, eqD, dep, gIx, gChain, gChain3, gTest, isBl, gIfS, gIt, gIl, gRng1, gRng2, gApp, gExt, gFrz, gAsgO, gNext, gTru, gNot, gAnd, gOr, gPart, gNoP, gSlT, gCatL, gNeg, gNm2, gZip, eq_self, if_true, ↓reduceIte, Bool.false_eq_true, if_false, List.getElem?_cons_zero, List.getElem?_cons_succ, List.set_cons_zero, List.set_cons_succ]
        rw [rowsL_take ns i hi, hR, hn, List.length_map, List.take_length]
        exact ⟨_, _, _, _, rfl⟩
    · rintro δ ⟨a, b, c, e, rfl⟩
      simp only [gRet, gAndV, gOrV, gNotV, gInst, isSub_int, isSub_bool, isSub_tuple, gVar, gSeq, gAsg, gNm, gC, gF, gLst, gConsA, gNilA, gTupE, gCallB, gCallF, gCallD, gCallR, gOpt, gOptP, cLen, cAbs, cAll, cTuple, cList, gOp, oInt, oIntC, oAdd, oMul, oNe, oEq, oIs, oIsnot, eqD, dep, gIx, gChain, gChain3, gTest, isBl, gIfS, gIt, gIl, gRng1, gRng2, gApp, gExt, gFrz, gAsgO, gNext, gTru, gNot, gAnd, gOr, gPart, gNoP, gSlT, gCatL, gNeg, gNm2, gZip, eq_self, if_true, ↓reduceIte, Bool.false_eq_true, if_false, List.getElem?_cons_zero, List.getElem?_cons_succ, List.set_cons_zero, List.set_cons_succ]
      rw [List.length_map, List.take_length]
theorem vc__law_rows : ∀ ds d, F__law_rows ds = some d → g__law_rows (retD d) (dstart ["_law_deeds", "_law_found", "_law_many", "_law_more", "_law_row_here"] ds)
  | [.tup es], d, h => by
    obtain ⟨ns, rfl, ho, rfl⟩ := onDeeds_eq (show onDeeds es (fun ns => D.lst ((rowsL ns).map dInts)) = some d from h)
    show g__law_rows _ [.im (.tup (ns.map D.int)), .un, .un, .un, .un]
    simp only [g__law_rows, g__law_rows_1, gRet, gAndV, gOrV, gNotV, gInst, isSub_int, isSub_bool, isSub_tuple, gVar, gSeq, gAsg, gNm, gC, gF, gLst, gConsA, gNilA, gTupE, gCallB, gCallF, gCallD, gCallR, gOpt, gOptP, cLen, cAbs, cAll, cTuple, cList, gOp, oInt, oIntC, oAdd, oMul, oNe, oEq, oIs, oIsnot, eqD, dep, gIx, gChain, gChain3, gTest, isBl, gIfS, gIt, gIl, gRng1, gRng2, gApp, gExt, gFrz, gAsgO, gNext, gTru, gNot, gAnd, gOr, gPart, gNoP, gSlT, gCatL, gNeg, gNm2, gZip, eq_self, if_true, ↓reduceIte, Bool.false_eq_true, if_false, List.getElem?_cons_zero, List.getElem?_cons_succ, List.set_cons_zero, List.set_cons_succ, gFor]
    refine ⟨by decide, by decide, fun i δ => ∃ a b c, δ = [.im (.tup (ns.map D.int)), .im (.lst ((rowsL (ns.take i)).map dInts)), a, b, c], ⟨.un, .un, .un, rfl⟩, ?_, ?_⟩
    · rintro i d δ ed ⟨a, b, c, rfl⟩
      obtain ⟨hi, rfl⟩ := getm_map ed
      obtain ⟨f1, f2, f3, f4⟩ := row_facts ho hi
      generalize hR : rowsL (ns.take i) = R at *
      generalize hn : ns[i] = n at *
      simp only [gRet, gAndV, gOrV, gNotV, gInst, isSub_int, isSub_bool, isSub_tuple, gVar, gSeq, gAsg, gNm, gC, gF, gLst, gConsA, gNilA, gTupE, gCallB, gCallF, gCallD, gCallR, gOpt, gOptP, cLen, cAbs, cAll, cTuple, cList, gOp, oInt, oIntC, oAdd, oMul, oNe, oEq, oIs, oIsnot, eqD, dep, gIx, gChain, gChain3, gTest, isBl, gIfS, gIt, gIl, gRng1, gRng2, gApp, gExt, gFrz, gAsgO, gNext, gTru, gNot, gAnd, gOr, gPart, gNoP, gSlT, gCatL, gNeg, gNm2, gZip, eq_self, if_true, ↓reduceIte, Bool.false_eq_true, if_false, List.getElem?_cons_zero, List.getElem?_cons_succ, List.set_cons_zero, List.set_cons_succ]
      refine ⟨by decide, fun j δ => ∃ c, δ = [.im (.tup (ns.map D.int)), .im (.lst (R.map dInts)), .im (.int n), .ow ((rowStep (R.take j) n).map dInts), c], ⟨c, rfl⟩, ?_, ?_⟩
      · rintro j d δ ed ⟨c, rfl⟩
        obtain ⟨hj, rfl⟩ := getm_map ed
        have fr := f4 R[j] (List.getElem_mem hj)
        have hl : (rowStep (R.take j) n).length ≤ 81 := by
          rw [rowStep_length, List.length_take]
          exact Nat.le_trans (Nat.mul_le_mul (Nat.le_trans (Nat.min_le_right _ _) f3) (show n.toNat ≤ 3 by omega)) (by decide)
        simp only [gRet, gAndV, gOrV, gNotV, gInst, isSub_int, isSub_bool, isSub_tuple, gVar, gSeq, gAsg, gNm, gC, gF, gLst, gConsA, gNilA, gTupE, gCallB, gCallF, gCallD, gCallR, gOpt, gOptP, cLen, cAbs, cAll, cTuple, cList, gOp, oInt, oIntC, oAdd, oMul, oNe, oEq, oIs, oIsnot, eqD, dep, gIx, gChain, gChain3, gTest, isBl, gIfS, gIt, gIl, gRng1, gRng2, gApp, gExt, gFrz, gAsgO, gNext, gTru, gNot, gAnd, gOr, gPart, gNoP, gSlT, gCatL, gNeg, gNm2, gZip, eq_self, if_true, ↓reduceIte, Bool.false_eq_true, if_false, List.getElem?_cons_zero, List.getElem?_cons_succ, List.set_cons_zero, List.set_cons_succ, gComp]
        refine ⟨by omega, ?_, fun d => match d with
          | .int k => dInts (R[j] ++ [k])
          | _ => .non, fun d hd => ?_, ?_, ?_⟩
        · unfold rangeD
          rw [List.length_map, List.length_range]
          exact ends_le (by omega)
        · unfold rangeD at hd
          obtain ⟨k, hk, rfl⟩ := List.mem_map.mp hd
          simp only [δc, List.map_cons, List.map_nil, gRet, gAndV, gOrV, gNotV, gInst, isSub_int, isSub_bool, isSub_tuple, gVar, gSeq, gAsg, gNm, gC, gF, gLst, gConsA, gNilA, gTupE, gCallB, gCallF, gCallD, gCallR, gOpt, gOptP, cLen, cAbs, cAll, cTuple, cList, gOp, oInt, oIntC, oAdd, oMul, oNe, oEq, oIs, oIsnot, eqD, dep, gIx, gChain, gChain3, gTest, isBl, gIfS, gIt, gIl, gRng1, gRng2, gApp, gExt, gFrz, gAsgO, gNext, gTru, gNot, gAnd, gOr, gPart, gNoP, gSlT, gCatL, gNeg, gNm2, gZip, eq_self, if_true, ↓reduceIte, Bool.false_eq_true, if_false, List.getElem?_cons_zero, List.getElem?_cons_succ, List.set_cons_zero, List.set_cons_succ, dInts, List.length_cons, List.length_nil, List.length_map]
          exact ⟨by decide, ends_le (by omega), by rw [List.map_append]; rfl⟩
        · unfold rangeD
          simp only [List.length_map, List.length_range]
          exact ends_le (by omega)
        · refine ⟨.im (dInts R[j]), ?_⟩
          rw [rowStep_take R n j hj, List.map_append, List.map_map]
          simp [rangeD, Function.comp_def]
      · rintro δ ⟨c, rfl⟩
        simp only [gRet, gAndV, gOrV, gNotV, gInst, isSub_int, isSub_bool, isSub_tuple, gVar, gSeq, gAsg, gNm, gC, gF, gLst, gConsA, gNilA, gTupE, gCallB, gCallF, gCallD, gCallR, gOpt, gOptP, cLen, cAbs, cAll, cTuple, cList, gOp, oInt, oIntC, oAdd, oMul, oNe, oEq, oIs, oIsnot, eqD, dep, gIx, gChain, gChain3, gTest, isBl, gIfS, gIt, gIl, gRng1, gRng2, gApp, gExt, gFrz, gAsgO, gNext, gTru, gNot, gAnd, gOr, gPart, gNoP, gSlT, gCatL, gNeg, gNm2, gZip, eq_self, if_true, ↓reduceIte, Bool.false_eq_true, if_false, List.getElem?_cons_zero, List.getElem?_cons_succ, List.set_cons_zero, List.set_cons_succ]
        rw [rowsL_take ns i hi, hR, hn, List.length_map, List.take_length]
        exact ⟨_, _, _, rfl⟩
    · rintro δ ⟨a, b, c, rfl⟩
      simp only [gRet, gAndV, gOrV, gNotV, gInst, isSub_int, isSub_bool, isSub_tuple, gVar, gSeq, gAsg, gNm, gC, gF, gLst, gConsA, gNilA, gTupE, gCallB, gCallF, gCallD, gCallR, gOpt, gOptP, cLen, cAbs, cAll, cTuple, cList, gOp, oInt, oIntC, oAdd, oMul, oNe, oEq, oIs, oIsnot, eqD, dep, gIx, gChain, gChain3, gTest, isBl, gIfS, gIt, gIl, gRng1, gRng2, gApp, gExt, gFrz, gAsgO, gNext, gTru, gNot, gAnd, gOr, gPart, gNoP, gSlT, gCatL, gNeg, gNm2, gZip, eq_self, if_true, ↓reduceIte, Bool.false_eq_true, if_false, List.getElem?_cons_zero, List.getElem?_cons_succ, List.set_cons_zero, List.set_cons_succ]
      rw [List.length_map, List.take_length]
end L2
namespace L2
open PySem PySem.Spec PyProof.Rows
abbrev retP (p : D → Prop) : DEnds := { nx := fun _ => p .non, rt := p }
theorem mix_nn {c p m : Int} (h : 0 < m) : 0 ≤ mix c p m := Int.emod_nonneg _ (by omega)
theorem mix_lt {c p m : Int} (h : 0 < m) : mix c p m < m := Int.emod_lt_of_pos _ h
theorem Fmix {c p m : Int} (hp : 0 < p) (hm : 0 < m) : F__law_mix [.int c, .int p, .int m] = some (.int (mix c p m)) := if_pos ⟨hp, hm⟩
theorem vc__law_patience : ∀ ds p, F__law_patience ds = some p → g__law_patience (retP p) (dstart ["_law_cell_here", "_law_lower", "_law_upper", "_law_by"] ds)
  | [.int c], p, h => by
    cases h
    show g__law_patience _ [.im (.int c), .un, .un, .un]
    have a1 : 0 ≤ mix c 9929 29 := mix_nn (by decide)
    have a2 : mix c 9929 29 < 29 := mix_lt (by decide)
    simp only [g__law_patience, g__law_patience_3, g__law_patience_2, g__law_patience_1, gRet, gAndV, gOrV, gNotV, gInst, isSub_int, isSub_bool, isSub_tuple, gVar, gSeq, gAsg, gNm, gC, gF, gLst, gConsA, gNilA, gTupE, gCallB, gCallF, gCallD, gCallR, gOpt, gOptP, cLen, cAbs, cAll, cTuple, cList, gOp, oInt, oIntC, oAdd, oMul, oNe, oEq, oIs, oIsnot, eqD, dep, gIx, gChain, gChain3, gTest, isBl, gIfS, gIt, gIl, gRng1, gRng2, gApp, gExt, gFrz, gAsgO, gNext, gTru, gNot, gAnd, gOr, gPart, gNoP, gSlT, gCatL, gNeg, gNm2, gZip, eq_self, if_true, ↓reduceIte, Bool.false_eq_true, if_false, List.getElem?_cons_zero, List.getElem?_cons_succ, List.set_cons_zero, List.set_cons_succ, Fmix (show (0 : Int) < 9929 by decide) (show (0 : Int) < 29 by decide)]
    generalize hl : 2 + mix c 9929 29 = l
    have l1 : 2 ≤ l := by omega
    have l2 : l ≤ 30 := by omega
    have m1 : 0 < l - 1 := by omega
    simp only [Fmix (show (0 : Int) < 9923 by decide) m1]
    have b1 : 0 ≤ mix c 9923 (l - 1) := mix_nn m1
    have b2 : mix c 9923 (l - 1) < l - 1 := mix_lt m1
    have key : ∀ u : Int, 0 < u → u < l → g__law_patience_3 (retP fun d => ∃ u l : Int, d = .tup [.int u, .int l] ∧ 0 < u ∧ u < l ∧ l ≤ 30 ∧ Int.gcd u l = 1) [.im (.int c), .im (.int l), .im (.int u), .un] := by
      intro u u1 u2
      simp only [g__law_patience_3, gRet, gAndV, gOrV, gNotV, gInst, isSub_int, isSub_bool, isSub_tuple, gVar, gSeq, gAsg, gNm, gC, gF, gLst, gConsA, gNilA, gTupE, gCallB, gCallF, gCallD, gCallR, gOpt, gOptP, cLen, cAbs, cAll, cTuple, cList, gOp, oInt, oIntC, oAdd, oMul, oNe, oEq, oIs, oIsnot, eqD, dep, gIx, gChain, gChain3, gTest, isBl, gIfS, gIt, gIl, gRng1, gRng2, gApp, gExt, gFrz, gAsgO, gNext, gTru, gNot, gAnd, gOr, gPart, gNoP, gSlT, gCatL, gNeg, gNm2, gZip, eq_self, if_true, ↓reduceIte, Bool.false_eq_true, if_false, List.getElem?_cons_zero, List.getElem?_cons_succ, List.set_cons_zero, List.set_cons_succ, gFor, gWhile]
      refine ⟨by decide, fun i δ => ∃ (u l : Int) (z : Sl), δ = [.im (.int c), .im (.int l), .im (.int u), z] ∧ 0 < u ∧ u < l ∧ l ≤ 30 ∧ ∀ d : Int, 2 ≤ d → d < 2 + i → d ∣ u → d ∣ l → False, ⟨u, l, .un, rfl, u1, u2, l2, fun d h1 h2 => by omega⟩, ?_, ?_⟩
      · rintro i d δ ed ⟨u, l, z, rfl, u1, u2, l2, hd⟩
        unfold rangeD at ed
        obtain ⟨hi, rfl⟩ := getm_map ed
        rw [List.length_range] at hi
        simp only [List.getElem_range, gRet, gAndV, gOrV, gNotV, gInst, isSub_int, isSub_bool, isSub_tuple, gVar, gSeq, gAsg, gNm, gC, gF, gLst, gConsA, gNilA, gTupE, gCallB, gCallF, gCallD, gCallR, gOpt, gOptP, cLen, cAbs, cAll, cTuple, cList, gOp, oInt, oIntC, oAdd, oMul, oNe, oEq, oIs, oIsnot, eqD, dep, gIx, gChain, gChain3, gTest, isBl, gIfS, gIt, gIl, gRng1, gRng2, gApp, gExt, gFrz, gAsgO, gNext, gTru, gNot, gAnd, gOr, gPart, gNoP, gSlT, gCatL, gNeg, gNm2, gZip, eq_self, if_true, ↓reduceIte, Bool.false_eq_true, if_false, List.getElem?_cons_zero, List.getElem?_cons_succ, List.set_cons_zero, List.set_cons_succ]
        generalize hb : (2 : Int) + (i : Int) = b at *
        have b1 : 0 < b := by omega
        refine ⟨fun n δ => ∃ u l : Int, δ = [.im (.int c), .im (.int l), .im (.int u), .im (.int b)] ∧ n = u.toNat ∧ 0 < u ∧ u < l ∧ l ≤ 30 ∧ ∀ d : Int, 2 ≤ d → d < b → d ∣ u → d ∣ l → False, ⟨_, u, l, rfl, rfl, u1, u2, l2, fun d h1 h2 => hd d h1 (by omega)⟩, ?_⟩
        rintro n δ ⟨u, l, rfl, rfl, u1, u2, l2, hd⟩
        simp only [gRet, gAndV, gOrV, gNotV, gInst, isSub_int, isSub_bool, isSub_tuple, gVar, gSeq, gAsg, gNm, gC, gF, gLst, gConsA, gNilA, gTupE, gCallB, gCallF, gCallD, gCallR, gOpt, gOptP, cLen, cAbs, cAll, cTuple, cList, gOp, oInt, oIntC, oAdd, oMul, oNe, oEq, oIs, oIsnot, eqD, dep, gIx, gChain, gChain3, gTest, isBl, gIfS, gIt, gIl, gRng1, gRng2, gApp, gExt, gFrz, gAsgO, gNext, gTru, gNot, gAnd, gOr, gPart, gNoP, gSlT, gCatL, gNeg, gNm2, gZip, eq_self, if_true, ↓reduceIte, Bool.false_eq_true, if_false, List.getElem?_cons_zero, List.getElem?_cons_succ, List.set_cons_zero, List.set_cons_succ]
        refine ⟨b1, by decide, ?_⟩
        by_cases e1 : u % b = 0
        · have e1' : (u % b == 0) = true := by simpa using e1
          simp only [e1', gRet, gAndV, gOrV, gNotV, gInst, isSub_int, isSub_bool, isSub_tuple, gVar, gSeq, gAsg, gNm, gC, gF, gLst, gConsA, gNilA, gTupE, gCallB, gCallF, gCallD, gCallR, gOpt, gOptP, cLen, cAbs, cAll, cTuple, cList, gOp, oInt, oIntC, oAdd, oMul, oNe, oEq, oIs, oIsnot, eqD, dep, gIx, gChain, gChain3, gTest, isBl, gIfS, gIt, gIl, gRng1, gRng2, gApp, gExt, gFrz, gAsgO, gNext, gTru, gNot, gAnd, gOr, gPart, gNoP, gSlT, gCatL, gNeg, gNm2, gZip, eq_self, if_true, ↓reduceIte, Bool.false_eq_true, if_false, List.getElem?_cons_zero, List.getElem?_cons_succ, List.set_cons_zero, List.set_cons_succ]
          refine ⟨b1, by decide, ?_⟩
          by_cases e2 : l % b = 0
          · have e2' : (l % b == 0) = true := by simpa using e2
            simp only [e2', gRet, gAndV, gOrV, gNotV, gInst, isSub_int, isSub_bool, isSub_tuple, gVar, gSeq, gAsg, gNm, gC, gF, gLst, gConsA, gNilA, gTupE, gCallB, gCallF, gCallD, gCallR, gOpt, gOptP, cLen, cAbs, cAll, cTuple, cList, gOp, oInt, oIntC, oAdd, oMul, oNe, oEq, oIs, oIsnot, eqD, dep, gIx, gChain, gChain3, gTest, isBl, gIfS, gIt, gIl, gRng1, gRng2, gApp, gExt, gFrz, gAsgO, gNext, gTru, gNot, gAnd, gOr, gPart, gNoP, gSlT, gCatL, gNeg, gNm2, gZip, eq_self, if_true, ↓reduceIte, Bool.false_eq_true, if_false, List.getElem?_cons_zero, List.getElem?_cons_succ, List.set_cons_zero, List.set_cons_succ]
            have hb2 : 2 ≤ b := by omega
            have hb3 : b < 1073741824 := by omega
            obtain ⟨q, hq⟩ := Int.dvd_of_emod_eq_zero e1
            obtain ⟨r, hr⟩ := Int.dvd_of_emod_eq_zero e2
            have eq1 : u / b = q := by rw [hq]; exact Int.mul_ediv_cancel_left _ (by omega)
            have er1 : l / b = r := by rw [hr]; exact Int.mul_ediv_cancel_left _ (by omega)
            rw [eq1, er1]
            have q0 : 0 < q := by
              by_cases z : 0 < q
              · exact z
              · have := Int.mul_nonpos_of_nonneg_of_nonpos (show 0 ≤ b by omega) (show q ≤ 0 by omega)
                omega
            have qr : q < r := by
              by_cases z : q < r
              · exact z
              · have := Int.mul_le_mul_of_nonneg_left (show r ≤ q by omega) (show 0 ≤ b by omega)
                omega
            have qu : q < u := by
              have : 2 * q ≤ b * q := Int.mul_le_mul_of_nonneg_right hb2 (by omega)
              omega
            have rl : r ≤ l := by
              have : 1 * r ≤ b * r := Int.mul_le_mul_of_nonneg_right (by omega) (by omega)
              omega
            refine ⟨⟨b1, hb3⟩, ⟨b1, hb3⟩, q.toNat, by omega, q, r, rfl, rfl, q0, qr, by omega, fun d h1 h2 h3 h4 => hd d h1 h2 ?_ ?_⟩
            · rw [hq]; exact Int.dvd_trans h3 (Int.dvd_mul_left _ _)
            · rw [hr]; exact Int.dvd_trans h4 (Int.dvd_mul_left _ _)
          · have e2' : (l % b == 0) = false := by simpa using e2
            simp only [e2', gRet, gAndV, gOrV, gNotV, gInst, isSub_int, isSub_bool, isSub_tuple, gVar, gSeq, gAsg, gNm, gC, gF, gLst, gConsA, gNilA, gTupE, gCallB, gCallF, gCallD, gCallR, gOpt, gOptP, cLen, cAbs, cAll, cTuple, cList, gOp, oInt, oIntC, oAdd, oMul, oNe, oEq, oIs, oIsnot, eqD, dep, gIx, gChain, gChain3, gTest, isBl, gIfS, gIt, gIl, gRng1, gRng2, gApp, gExt, gFrz, gAsgO, gNext, gTru, gNot, gAnd, gOr, gPart, gNoP, gSlT, gCatL, gNeg, gNm2, gZip, eq_self, if_true, ↓reduceIte, Bool.false_eq_true, if_false, List.getElem?_cons_zero, List.getElem?_cons_succ, List.set_cons_zero, List.set_cons_succ]
            refine ⟨u, l, _, rfl, u1, u2, l2, fun d h1 h2 h3 h4 => ?_⟩
            by_cases hdb : d = b
            · subst hdb; exact e2 (Int.emod_eq_zero_of_dvd h4)
            · exact hd d h1 (by omega) h3 h4
        · have e1' : (u % b == 0) = false := by simpa using e1
          simp only [e1', gRet, gAndV, gOrV, gNotV, gInst, isSub_int, isSub_bool, isSub_tuple, gVar, gSeq, gAsg, gNm, gC, gF, gLst, gConsA, gNilA, gTupE, gCallB, gCallF, gCallD, gCallR, gOpt, gOptP, cLen, cAbs, cAll, cTuple, cList, gOp, oInt, oIntC, oAdd, oMul, oNe, oEq, oIs, oIsnot, eqD, dep, gIx, gChain, gChain3, gTest, isBl, gIfS, gIt, gIl, gRng1, gRng2, gApp, gExt, gFrz, gAsgO, gNext, gTru, gNot, gAnd, gOr, gPart, gNoP, gSlT, gCatL, gNeg, gNm2, gZip, eq_self, if_true, ↓reduceIte, Bool.false_eq_true, if_false, List.getElem?_cons_zero, List.getElem?_cons_succ, List.set_cons_zero, List.set_cons_succ]
          refine ⟨u, l, _, rfl, u1, u2, l2, fun d h1 h2 h3 h4 => ?_⟩
          by_cases hdb : d = b
          · subst hdb; exact e1 (Int.emod_eq_zero_of_dvd h3)
          · exact hd d h1 (by omega) h3 h4
      · rintro δ ⟨u, l, z, rfl, u1, u2, l2, hd⟩
        simp only [gRet, gAndV, gOrV, gNotV, gInst, isSub_int, isSub_bool, isSub_tuple, gVar, gSeq, gAsg, gNm, gC, gF, gLst, gConsA, gNilA, gTupE, gCallB, gCallF, gCallD, gCallR, gOpt, gOptP, cLen, cAbs, cAll, cTuple, cList, gOp, oInt, oIntC, oAdd, oMul, oNe, oEq, oIs, oIsnot, eqD, dep, gIx, gChain, gChain3, gTest, isBl, gIfS, gIt, gIl, gRng1, gRng2, gApp, gExt, gFrz, gAsgO, gNext, gTru, gNot, gAnd, gOr, gPart, gNoP, gSlT, gCatL, gNeg, gNm2, gZip, eq_self, if_true, ↓reduceIte, Bool.false_eq_true, if_false, List.getElem?_cons_zero, List.getElem?_cons_succ, List.set_cons_zero, List.set_cons_succ]
        refine ⟨ends_le (by simp), u, l, rfl, u1, u2, l2, ?_⟩
        rw [show (rangeD 2 ((30 : Int) - 2).toNat).length = 28 from by simp [rangeD]] at hd
        have g1 : (Int.gcd u l : Int) ∣ u := Int.gcd_dvd_left ..
        have g2 : (Int.gcd u l : Int) ∣ l := Int.gcd_dvd_right ..
        have g3 : (Int.gcd u l : Int) ≤ u := Int.le_of_dvd u1 g1
        have g4 : 0 < Int.gcd u l := Int.gcd_pos_of_ne_zero_left _ (by omega)
        by_cases g5 : Int.gcd u l = 1
        · exact g5
        · exact (hd (Int.gcd u l) (by omega) (by omega) g1 g2).elim
    refine ⟨by decide, by decide, ?_⟩
    by_cases e1 : c % 4 = 0
    · have e1' : (c % 4 == 0) = true := by simpa using e1
      simp only [e1', gRet, gAndV, gOrV, gNotV, gInst, isSub_int, isSub_bool, isSub_tuple, gVar, gSeq, gAsg, gNm, gC, gF, gLst, gConsA, gNilA, gTupE, gCallB, gCallF, gCallD, gCallR, gOpt, gOptP, cLen, cAbs, cAll, cTuple, cList, gOp, oInt, oIntC, oAdd, oMul, oNe, oEq, oIs, oIsnot, eqD, dep, gIx, gChain, gChain3, gTest, isBl, gIfS, gIt, gIl, gRng1, gRng2, gApp, gExt, gFrz, gAsgO, gNext, gTru, gNot, gAnd, gOr, gPart, gNoP, gSlT, gCatL, gNeg, gNm2, gZip, eq_self, if_true, ↓reduceIte, Bool.false_eq_true, if_false, List.getElem?_cons_zero, List.getElem?_cons_succ, List.set_cons_zero, List.set_cons_succ]
      exact key _ (by omega) (by omega)
    · have e1' : (c % 4 == 0) = false := by simpa using e1
      simp only [e1', gRet, gAndV, gOrV, gNotV, gInst, isSub_int, isSub_bool, isSub_tuple, gVar, gSeq, gAsg, gNm, gC, gF, gLst, gConsA, gNilA, gTupE, gCallB, gCallF, gCallD, gCallR, gOpt, gOptP, cLen, cAbs, cAll, cTuple, cList, gOp, oInt, oIntC, oAdd, oMul, oNe, oEq, oIs, oIsnot, eqD, dep, gIx, gChain, gChain3, gTest, isBl, gIfS, gIt, gIl, gRng1, gRng2, gApp, gExt, gFrz, gAsgO, gNext, gTru, gNot, gAnd, gOr, gPart, gNoP, gSlT, gCatL, gNeg, gNm2, gZip, eq_self, if_true, ↓reduceIte, Bool.false_eq_true, if_false, List.getElem?_cons_zero, List.getElem?_cons_succ, List.set_cons_zero, List.set_cons_succ]
      exact key _ (by omega) (by omega)
theorem okD {ns : List Int} (h1 : ns.length ≤ 3) (h2 : ∀ n ∈ ns, 1 ≤ n ∧ n ≤ 3) : okDeeds ns = true := by
  unfold okDeeds
  rw [Bool.and_eq_true, decide_eq_true_eq, List.all_eq_true]
  exact ⟨h1, fun n hn => by simpa using h2 n hn⟩
abbrev meetP : D → Prop := fun d => ∃ ns pay, d = meetD ns pay ∧ MeetOk ns pay
theorem rangeD_len (a : Int) (n : Nat) : (rangeD a n).length = n := by simp [rangeD]
/-- the end of _law_meeting: the four numbers, or the pays as they are -/
theorem meet_end (c : Int) (ns : List Int) (hns : ns.length ≤ 3) (h2 : 2 ≤ ns.length) (ho : okDeeds ns = true) (h3 : c % 3 = 0 → ns = [2, 2]) (w : Sl) (pay : List (List Int)) (hp : MeetOk ns pay) (a b d e : Sl) :
    g__law_meeting_5 (retP meetP) [.im (.int c), .im (dInts ns), w, .ow (pay.map dInts), a, b, d, e] := by
  obtain ⟨l1, l2⟩ := rows_len ho
  have fin : ∀ (pay : List (List Int)) (a b d e : Sl), MeetOk ns pay → g__law_meeting_6 (retP meetP) [.im (.int c), .im (dInts ns), w, .ow (pay.map dInts), a, b, d, e] := by
    intro pay a b d e hp
    simp only [g__law_meeting_6, gRet, gAndV, gOrV, gNotV, gInst, isSub_int, isSub_bool, isSub_tuple, gVar, gSeq, gAsg, gNm, gC, gF, gLst, gConsA, gNilA, gTupE, gCallB, gCallF, gCallD, gCallR, gOpt, gOptP, cLen, cAbs, cAll, cTuple, cList, gOp, oInt, oIntC, oAdd, oMul, oNe, oEq, oIs, oIsnot, eqD, dep, gIx, gChain, gChain3, gTest, isBl, gIfS, gIt, gIl, gRng1, gRng2, gApp, gExt, gFrz, gAsgO, gNext, gTru, gNot, gAnd, gOr, gPart, gNoP, gSlT, gCatL, gNeg, gNm2, gZip, eq_self, if_true, ↓reduceIte, Bool.false_eq_true, if_false, List.getElem?_cons_zero, List.getElem?_cons_succ, List.set_cons_zero, List.set_cons_succ, List.length_cons, List.length_nil]
    exact ⟨by decide, ns, pay, rfl, hp⟩
  simp only [g__law_meeting_5, gRet, gAndV, gOrV, gNotV, gInst, isSub_int, isSub_bool, isSub_tuple, gVar, gSeq, gAsg, gNm, gC, gF, gLst, gConsA, gNilA, gTupE, gCallB, gCallF, gCallD, gCallR, gOpt, gOptP, cLen, cAbs, cAll, cTuple, cList, gOp, oInt, oIntC, oAdd, oMul, oNe, oEq, oIs, oIsnot, eqD, dep, gIx, gChain, gChain3, gTest, isBl, gIfS, gIt, gIl, gRng1, gRng2, gApp, gExt, gFrz, gAsgO, gNext, gTru, gNot, gAnd, gOr, gPart, gNoP, gSlT, gCatL, gNeg, gNm2, gZip, eq_self, if_true, ↓reduceIte, Bool.false_eq_true, if_false, List.getElem?_cons_zero, List.getElem?_cons_succ, List.set_cons_zero, List.set_cons_succ]
  refine ⟨by decide, by decide, ?_⟩
  by_cases e9 : c % 9 = 0
  · have e9' : (c % 9 == 0) = true := by simpa using e9
    simp only [e9', gRet, gAndV, gOrV, gNotV, gInst, isSub_int, isSub_bool, isSub_tuple, gVar, gSeq, gAsg, gNm, gC, gF, gLst, gConsA, gNilA, gTupE, gCallB, gCallF, gCallD, gCallR, gOpt, gOptP, cLen, cAbs, cAll, cTuple, cList, gOp, oInt, oIntC, oAdd, oMul, oNe, oEq, oIs, oIsnot, eqD, dep, gIx, gChain, gChain3, gTest, isBl, gIfS, gIt, gIl, gRng1, gRng2, gApp, gExt, gFrz, gAsgO, gNext, gTru, gNot, gAnd, gOr, gPart, gNoP, gSlT, gCatL, gNeg, gNm2, gZip, eq_self, if_true, ↓reduceIte, Bool.false_eq_true, if_false, List.getElem?_cons_zero, List.getElem?_cons_succ, List.set_cons_zero, List.set_cons_succ, gComp]
    have e3 : ns = [2, 2] := h3 (by omega)
    refine ⟨by decide, by decide, fun x => match x with
      | .int k => .int (mix (c + k) 9931 19 - 9)
      | _ => .non, fun x hx => ?_, ?_⟩
    · unfold rangeD at hx
      obtain ⟨k, hk, rfl⟩ := List.mem_map.mp hx
      simp only [δc, List.map_cons, List.map_nil, gRet, gAndV, gOrV, gNotV, gInst, isSub_int, isSub_bool, isSub_tuple, gVar, gSeq, gAsg, gNm, gC, gF, gLst, gConsA, gNilA, gTupE, gCallB, gCallF, gCallD, gCallR, gOpt, gOptP, cLen, cAbs, cAll, cTuple, cList, gOp, oInt, oIntC, oAdd, oMul, oNe, oEq, oIs, oIsnot, eqD, dep, gIx, gChain, gChain3, gTest, isBl, gIfS, gIt, gIl, gRng1, gRng2, gApp, gExt, gFrz, gAsgO, gNext, gTru, gNot, gAnd, gOr, gPart, gNoP, gSlT, gCatL, gNeg, gNm2, gZip, eq_self, if_true, ↓reduceIte, Bool.false_eq_true, if_false, List.getElem?_cons_zero, List.getElem?_cons_succ, List.set_cons_zero, List.set_cons_succ, Fmix (show (0 : Int) < 9931 by decide) (show (0 : Int) < 19 by decide)]
    · have em : (rangeD 0 (4 : Int).toNat).map (fun x => match x with
          | .int k => D.int (mix (c + k) 9931 19 - 9)
          | _ => .non) = ((List.range 4).map fun (k : Nat) => mix (c + (0 + (k : Int))) 9931 19 - 9).map D.int := by
        simp [rangeD, Function.comp_def]
      rw [em]
      simp only [cSorted, ints_map]
      refine ⟨by simp, fun ms hpm hso => ?_⟩
      have hlen : ms.length = 4 := by rw [hpm.length_eq]; simp
      have hb : ∀ x ∈ ms, -9 ≤ x ∧ x ≤ 9 := by
        intro x hx
        have hx' := hpm.mem_iff.mp hx
        obtain ⟨k, hk, rfl⟩ := List.mem_map.mp hx'
        have := mix_nn (c := c + (0 + (k : Int))) (p := 9931) (show (0 : Int) < 19 by decide)
        have := mix_lt (c := c + (0 + (k : Int))) (p := 9931) (show (0 : Int) < 19 by decide)
        omega
      match ms, hlen, hb with
      | [m0, m1, m2, m3], _, hb =>
        have i0 : atI ([m0, m1, m2, m3].map D.int) 0 = some (.int m0) := rfl
        have i1 : atI ([m0, m1, m2, m3].map D.int) 1 = some (.int m1) := rfl
        have i2 : atI ([m0, m1, m2, m3].map D.int) 2 = some (.int m2) := rfl
        have i3 : atI ([m0, m1, m2, m3].map D.int) 3 = some (.int m3) := rfl
        simp only [gRet, gAndV, gOrV, gNotV, gInst, isSub_int, isSub_bool, isSub_tuple, gVar, gSeq, gAsg, gNm, gC, gF, gLst, gConsA, gNilA, gTupE, gCallB, gCallF, gCallD, gCallR, gOpt, gOptP, cLen, cAbs, cAll, cTuple, cList, gOp, oInt, oIntC, oAdd, oMul, oNe, oEq, oIs, oIsnot, eqD, dep, gIx, gChain, gChain3, gTest, isBl, gIfS, gIt, gIl, gRng1, gRng2, gApp, gExt, gFrz, gAsgO, gNext, gTru, gNot, gAnd, gOr, gPart, gNoP, gSlT, gCatL, gNeg, gNm2, gZip, eq_self, if_true, ↓reduceIte, Bool.false_eq_true, if_false, List.getElem?_cons_zero, List.getElem?_cons_succ, List.set_cons_zero, List.set_cons_succ, i0, i1, i2, i3, List.length_cons, List.length_nil]
        refine ⟨by decide, by decide, by decide, by decide, by decide, ?_⟩
        have b0 := hb m0 (by simp)
        have b1 := hb m1 (by simp)
        have b2 := hb m2 (by simp)
        have b3 := hb m3 (by simp)
        refine fin [[m2, m2], [m0, m3], [m3, m0], [m1, m1]] _ _ _ _ ⟨h2, ho, ?_, ?_⟩
        · rw [e3]; rfl
        · intro r hr
          rw [e3]
          simp only [List.mem_cons, List.not_mem_nil, or_false] at hr
          rcases hr with rfl | rfl | rfl | rfl <;> refine ⟨rfl, fun x hx => ?_⟩ <;> simp only [List.mem_cons, List.not_mem_nil, or_false] at hx <;> rcases hx with rfl | rfl <;> assumption
  · have e9' : (c % 9 == 0) = false := by simpa using e9
    simp only [e9', gRet, gAndV, gOrV, gNotV, gInst, isSub_int, isSub_bool, isSub_tuple, gVar, gSeq, gAsg, gNm, gC, gF, gLst, gConsA, gNilA, gTupE, gCallB, gCallF, gCallD, gCallR, gOpt, gOptP, cLen, cAbs, cAll, cTuple, cList, gOp, oInt, oIntC, oAdd, oMul, oNe, oEq, oIs, oIsnot, eqD, dep, gIx, gChain, gChain3, gTest, isBl, gIfS, gIt, gIl, gRng1, gRng2, gApp, gExt, gFrz, gAsgO, gNext, gTru, gNot, gAnd, gOr, gPart, gNoP, gSlT, gCatL, gNeg, gNm2, gZip, eq_self, if_true, ↓reduceIte, Bool.false_eq_true, if_false, List.getElem?_cons_zero, List.getElem?_cons_succ, List.set_cons_zero, List.set_cons_succ]
    exact fin pay a b d e hp
end L2
namespace L2
open PySem PySem.Spec PyProof.Rows
theorem Frows {ns : List Int} (ho : okDeeds ns = true) : F__law_rows [dInts ns] = some (.lst ((rowsL ns).map dInts)) := onDeeds_of _ ho
theorem meet_rest (c : Int) (ns : List Int) (hns : ns.length ≤ 3) (h2 : 2 ≤ ns.length) (ho : okDeeds ns = true) (h3 : c % 3 = 0 → ns = [2, 2]) :
    g__law_meeting_2 (retP meetP) [.im (.int c), .im (dInts ns), .un, .un, .un, .un, .un, .un] := by
  obtain ⟨l1, l2⟩ := rows_len ho
  have w0 := mix_nn (c := c) (p := 9949) (show (0 : Int) < 3 by decide)
  have w1 := mix_lt (c := c) (p := 9949) (show (0 : Int) < 3 by decide)
  have hw : ∃ wd : Int, atI [D.int 2, .int 5, .int 10] (mix c 9949 3) = some (.int wd) ∧ 2 ≤ wd ∧ wd ≤ 10 := by
    have : mix c 9949 3 = 0 ∨ mix c 9949 3 = 1 ∨ mix c 9949 3 = 2 := by omega
    rcases this with e | e | e <;> rw [e]
    · exact ⟨2, rfl, by decide, by decide⟩
    · exact ⟨5, rfl, by decide, by decide⟩
    · exact ⟨10, rfl, by decide, by decide⟩
  obtain ⟨wd, ew, wd1, wd2⟩ := hw
  simp only [g__law_meeting_2, g__law_meeting_4, gRet, gAndV, gOrV, gNotV, gInst, isSub_int, isSub_bool, isSub_tuple, gVar, gSeq, gAsg, gNm, gC, gF, gLst, gConsA, gNilA, gTupE, gCallB, gCallF, gCallD, gCallR, gOpt, gOptP, cLen, cAbs, cAll, cTuple, cList, gOp, oInt, oIntC, oAdd, oMul, oNe, oEq, oIs, oIsnot, eqD, dep, gIx, gChain, gChain3, gTest, isBl, gIfS, gIt, gIl, gRng1, gRng2, gApp, gExt, gFrz, gAsgO, gNext, gTru, gNot, gAnd, gOr, gPart, gNoP, gSlT, gCatL, gNeg, gNm2, gZip, eq_self, if_true, ↓reduceIte, Bool.false_eq_true, if_false, List.getElem?_cons_zero, List.getElem?_cons_succ, List.set_cons_zero, List.set_cons_succ, Fmix (show (0 : Int) < 9949 by decide) (show (0 : Int) < 3 by decide), ew, Frows ho, gFor, List.length_cons, List.length_nil]
  refine ⟨by decide, by decide, ⟨by omega, by rw [List.length_map]; omega⟩, fun i δ => ∃ a b d e, ∃ pay : List (List Int), δ = [.im (.int c), .im (dInts ns), .im (.int wd), .ow (pay.map dInts), a, b, d, e] ∧ pay.length = i ∧ i ≤ (rowsL ns).length ∧ ∀ r ∈ pay, r.length = ns.length ∧ ∀ x ∈ r, -9 ≤ x ∧ x ≤ 9, ⟨.un, .un, .un, .un, [], rfl, rfl, Nat.zero_le _, fun r hr => by simp at hr⟩, ?_, ?_⟩
  · rintro i x δ ed ⟨a, b, d, e, pay, rfl, hpl, hil, hpb⟩
    unfold rangeD at ed
    obtain ⟨hi, rfl⟩ := getm_map ed
    rw [List.length_range, List.length_map] at hi
    have hi' : i < (rowsL ns).length := by omega
    simp only [gRet, gAndV, gOrV, gNotV, gInst, isSub_int, isSub_bool, isSub_tuple, gVar, gSeq, gAsg, gNm, gC, gF, gLst, gConsA, gNilA, gTupE, gCallB, gCallF, gCallD, gCallR, gOpt, gOptP, cLen, cAbs, cAll, cTuple, cList, gOp, oInt, oIntC, oAdd, oMul, oNe, oEq, oIs, oIsnot, eqD, dep, gIx, gChain, gChain3, gTest, isBl, gIfS, gIt, gIl, gRng1, gRng2, gApp, gExt, gFrz, gAsgO, gNext, gTru, gNot, gAnd, gOr, gPart, gNoP, gSlT, gCatL, gNeg, gNm2, gZip, eq_self, if_true, ↓reduceIte, Bool.false_eq_true, if_false, List.getElem?_cons_zero, List.getElem?_cons_succ, List.set_cons_zero, List.set_cons_succ, gComp, dInts, List.length_map, List.getElem_range]
    generalize hsd : c + 13 * (0 + (i : Int)) = sd
    have m1 : 0 < 2 * wd - 1 := by omega
    refine ⟨Or.inl ⟨by decide, by decide⟩, ⟨by omega, by omega⟩, by rw [rangeD_len]; exact ends_le (by omega), fun y => match y with
      | .int k => .int (mix (sd + 5 * k) 9941 (2 * wd - 1) + 1 - wd)
      | _ => .non, fun y hy => ?_, ?_⟩
    · unfold rangeD at hy
      obtain ⟨k, hk, rfl⟩ := List.mem_map.mp hy
      simp only [δc, List.map_cons, List.map_nil, gRet, gAndV, gOrV, gNotV, gInst, isSub_int, isSub_bool, isSub_tuple, gVar, gSeq, gAsg, gNm, gC, gF, gLst, gConsA, gNilA, gTupE, gCallB, gCallF, gCallD, gCallR, gOpt, gOptP, cLen, cAbs, cAll, cTuple, cList, gOp, oInt, oIntC, oAdd, oMul, oNe, oEq, oIs, oIsnot, eqD, dep, gIx, gChain, gChain3, gTest, isBl, gIfS, gIt, gIl, gRng1, gRng2, gApp, gExt, gFrz, gAsgO, gNext, gTru, gNot, gAnd, gOr, gPart, gNoP, gSlT, gCatL, gNeg, gNm2, gZip, eq_self, if_true, ↓reduceIte, Bool.false_eq_true, if_false, List.getElem?_cons_zero, List.getElem?_cons_succ, List.set_cons_zero, List.set_cons_succ, Fmix (show (0 : Int) < 9941 by decide) m1]
      exact ⟨Or.inl ⟨by decide, by decide⟩, Or.inl ⟨by decide, by decide⟩, trivial⟩
    · have em : (rangeD 0 (ns.length : Int).toNat).map (fun y => match y with
          | .int k => D.int (mix (sd + 5 * k) 9941 (2 * wd - 1) + 1 - wd)
          | _ => .non) = ((List.range ns.length).map fun (k : Nat) => mix (sd + 5 * (0 + (k : Int))) 9941 (2 * wd - 1) + 1 - wd).map D.int := by
        simp [rangeD, Function.comp_def]
      rw [em]
      have hrow : ∀ x ∈ (List.range ns.length).map fun (k : Nat) => mix (sd + 5 * (0 + (k : Int))) 9941 (2 * wd - 1) + 1 - wd, -9 ≤ x ∧ x ≤ 9 := by
        intro x hx
        obtain ⟨k, hk, rfl⟩ := List.mem_map.mp hx
        have := mix_nn (c := sd + 5 * (0 + (k : Int))) (p := 9941) m1
        have := mix_lt (c := sd + 5 * (0 + (k : Int))) (p := 9941) m1
        omega
      have hrl : ((List.range ns.length).map fun (k : Nat) => mix (sd + 5 * (0 + (k : Int))) 9941 (2 * wd - 1) + 1 - wd).length = ns.length := by simp
      generalize ((List.range ns.length).map fun (k : Nat) => mix (sd + 5 * (0 + (k : Int))) 9941 (2 * wd - 1) + 1 - wd) = row at hrow hrl
      have e5 : pay.map dInts ++ [D.tup (row.map D.int)] = (pay ++ [row]).map dInts := by
        rw [List.map_append]
        rfl
      rw [e5]
      refine ⟨small1000 (by omega), _, _, _, _, _, rfl, by simp [hpl], hi', fun r hr => ?_⟩
      rcases List.mem_append.mp hr with hr | hr
      · exact hpb r hr
      · obtain rfl := List.mem_singleton.mp hr
        exact ⟨hrl, hrow⟩
  · rintro δ ⟨a, b, d, e, pay, rfl, hpl, hil, hpb⟩
    rw [rangeD_len, List.length_map] at hpl
    exact meet_end c ns hns h2 ho h3 _ pay ⟨h2, ho, by omega, hpb⟩ a b d e
theorem vc__law_meeting : ∀ ds p, F__law_meeting ds = some p → g__law_meeting (retP p) (dstart ["_law_cell_here", "_law_deeds", "_law_wide", "_law_pay", "_law_k", "_law_seed", "_law_one", "_law_few"] ds)
  | [.int c], p, h => by
    cases h
    show g__law_meeting _ [.im (.int c), .un, .un, .un, .un, .un, .un, .un]
    have a0 := mix_nn (c := c) (p := 9967) (show (0 : Int) < 4 by decide)
    have a1 := mix_lt (c := c) (p := 9967) (show (0 : Int) < 4 by decide)
    unfold g__law_meeting g__law_meeting_1
    simp only [gRet, gAndV, gOrV, gNotV, gInst, isSub_int, isSub_bool, isSub_tuple, gVar, gSeq, gAsg, gNm, gC, gF, gLst, gConsA, gNilA, gTupE, gCallB, gCallF, gCallD, gCallR, gOpt, gOptP, cLen, cAbs, cAll, cTuple, cList, gOp, oInt, oIntC, oAdd, oMul, oNe, oEq, oIs, oIsnot, eqD, dep, gIx, gChain, gChain3, gTest, isBl, gIfS, gIt, gIl, gRng1, gRng2, gApp, gExt, gFrz, gAsgO, gNext, gTru, gNot, gAnd, gOr, gPart, gNoP, gSlT, gCatL, gNeg, gNm2, gZip, eq_self, if_true, ↓reduceIte, Bool.false_eq_true, if_false, List.getElem?_cons_zero, List.getElem?_cons_succ, List.set_cons_zero, List.set_cons_succ, Fmix (show (0 : Int) < 9967 by decide) (show (0 : Int) < 4 by decide), gComp]
    have n1 : 2 ≤ 2 + mix c 9967 4 / 3 := by omega
    have n2 : 2 + mix c 9967 4 / 3 ≤ 3 := by omega
    generalize hn : 2 + mix c 9967 4 / 3 = n at *
    refine ⟨⟨by decide, by decide⟩, ⟨by omega, by omega⟩, by rw [rangeD_len]; exact ends_le (by omega), fun y => match y with
      | .int k => .int (1 + mix (c + 7 * k) 9973 3)
      | _ => .non, fun y hy => ?_, ?_⟩
    · unfold rangeD at hy
      obtain ⟨k, hk, rfl⟩ := List.mem_map.mp hy
      simp only [δc, List.map_cons, List.map_nil, gRet, gAndV, gOrV, gNotV, gInst, isSub_int, isSub_bool, isSub_tuple, gVar, gSeq, gAsg, gNm, gC, gF, gLst, gConsA, gNilA, gTupE, gCallB, gCallF, gCallD, gCallR, gOpt, gOptP, cLen, cAbs, cAll, cTuple, cList, gOp, oInt, oIntC, oAdd, oMul, oNe, oEq, oIs, oIsnot, eqD, dep, gIx, gChain, gChain3, gTest, isBl, gIfS, gIt, gIl, gRng1, gRng2, gApp, gExt, gFrz, gAsgO, gNext, gTru, gNot, gAnd, gOr, gPart, gNoP, gSlT, gCatL, gNeg, gNm2, gZip, eq_self, if_true, ↓reduceIte, Bool.false_eq_true, if_false, List.getElem?_cons_zero, List.getElem?_cons_succ, List.set_cons_zero, List.set_cons_succ, Fmix (show (0 : Int) < 9973 by decide) (show (0 : Int) < 3 by decide)]
      exact ⟨Or.inl ⟨by decide, by decide⟩, trivial⟩
    · have em : (rangeD 0 n.toNat).map (fun y => match y with
          | .int k => D.int (1 + mix (c + 7 * k) 9973 3)
          | _ => .non) = ((List.range n.toNat).map fun (k : Nat) => 1 + mix (c + 7 * (0 + (k : Int))) 9973 3).map D.int := by
        simp [rangeD, Function.comp_def]
      rw [em]
      refine ⟨by decide, by decide, ?_⟩
      by_cases e3 : c % 3 = 0
      · have e3' : (c % 3 == 0) = true := by simpa using e3
        simp only [e3', gRet, gAndV, gOrV, gNotV, gInst, isSub_int, isSub_bool, isSub_tuple, gVar, gSeq, gAsg, gNm, gC, gF, gLst, gConsA, gNilA, gTupE, gCallB, gCallF, gCallD, gCallR, gOpt, gOptP, cLen, cAbs, cAll, cTuple, cList, gOp, oInt, oIntC, oAdd, oMul, oNe, oEq, oIs, oIsnot, eqD, dep, gIx, gChain, gChain3, gTest, isBl, gIfS, gIt, gIl, gRng1, gRng2, gApp, gExt, gFrz, gAsgO, gNext, gTru, gNot, gAnd, gOr, gPart, gNoP, gSlT, gCatL, gNeg, gNm2, gZip, eq_self, if_true, ↓reduceIte, Bool.false_eq_true, if_false, List.getElem?_cons_zero, List.getElem?_cons_succ, List.set_cons_zero, List.set_cons_succ, List.length_cons, List.length_nil]
        exact ⟨by decide, meet_rest c [2, 2] (by decide) (by decide) (by decide) fun _ => rfl⟩
      · have e3' : (c % 3 == 0) = false := by simpa using e3
        simp only [e3', gRet, gAndV, gOrV, gNotV, gInst, isSub_int, isSub_bool, isSub_tuple, gVar, gSeq, gAsg, gNm, gC, gF, gLst, gConsA, gNilA, gTupE, gCallB, gCallF, gCallD, gCallR, gOpt, gOptP, cLen, cAbs, cAll, cTuple, cList, gOp, oInt, oIntC, oAdd, oMul, oNe, oEq, oIs, oIsnot, eqD, dep, gIx, gChain, gChain3, gTest, isBl, gIfS, gIt, gIl, gRng1, gRng2, gApp, gExt, gFrz, gAsgO, gNext, gTru, gNot, gAnd, gOr, gPart, gNoP, gSlT, gCatL, gNeg, gNm2, gZip, eq_self, if_true, ↓reduceIte, Bool.false_eq_true, if_false, List.getElem?_cons_zero, List.getElem?_cons_succ, List.set_cons_zero, List.set_cons_succ]
        have hl : ((List.range n.toNat).map fun (k : Nat) => 1 + mix (c + 7 * (0 + (k : Int))) 9973 3).length = n.toNat := by simp
        refine meet_rest c _ (by omega) (by omega) (okD (by omega) fun x hx => ?_) fun z => absurd z e3
        obtain ⟨k, hk, rfl⟩ := List.mem_map.mp hx
        have := mix_nn (c := c + 7 * (0 + (k : Int))) (p := 9973) (show (0 : Int) < 3 by decide)
        have := mix_lt (c := c + 7 * (0 + (k : Int))) (p := 9973) (show (0 : Int) < 3 by decide)
        omega
end L2
namespace L2
open PySem PySem.Spec PyProof.Rows
def encS (s : List Int × List Int) : D := .tup [dInts s.1, dInts s.2]
theorem vc__law_plan : ∀ ds p, F__law_plan ds = some p → g__law_plan (retP p) (dstart ["_law_meeting_here", "_law_cells_here", "_law_most", "_law_many", "_law_found", "_law_k", "_law_cell_here", "_law_nexts"] ds)
  | [.tup [.tup es, q], .lst cs, .int m], p, h => by
    have h' : (match intsD es, intsD cs with
      | some ns, some xs => if okDeeds ns = true ∧ xs.length = 4 ∧ m = 8 then some (fun d => ∃ pl, d = planD pl ∧ PlanOk ns pl) else none
      | _, _ => none) = some p := h
    clear h
    split at h'
    · rename_i ns xs e1 e2
      split at h'
      · rename_i hh
        obtain ⟨ho, hx, rfl⟩ := hh
        have e := Option.some.inj h'
        subst e
        rw [ints_eq e1, ints_eq e2]
        clear h' e1 e2
        match xs, hx with
        | [c0, c1, c2, c3], _ =>
          show g__law_plan _ [.im (.tup [.tup (ns.map D.int), q]), .im (.lst [.int c0, .int c1, .int c2, .int c3]), .im (.int 8), .un, .un, .un, .un, .un]
          obtain ⟨l1, l2⟩ := rows_len ho
          have m0 := mix_nn (c := c0) (p := 9901) (show (0 : Int) < 8 by decide)
          have m1 := mix_lt (c := c0) (p := 9901) (show (0 : Int) < 8 by decide)
          have i0 : atI [D.int c0, .int c1, .int c2, .int c3] 0 = some (.int c0) := rfl
          have j0 : atI [D.tup (ns.map D.int), q] 0 = some (dInts ns) := rfl
          unfold g__law_plan g__law_plan_2
          simp only [gRet, gAndV, gOrV, gNotV, gInst, isSub_int, isSub_bool, isSub_tuple, gVar, gSeq, gAsg, gNm, gC, gF, gLst, gConsA, gNilA, gTupE, gCallB, gCallF, gCallD, gCallR, gOpt, gOptP, cLen, cAbs, cAll, cTuple, cList, gOp, oInt, oIntC, oAdd, oMul, oNe, oEq, oIs, oIsnot, eqD, dep, gIx, gChain, gChain3, gTest, isBl, gIfS, gIt, gIl, gRng1, gRng2, gApp, gExt, gFrz, gAsgO, gNext, gTru, gNot, gAnd, gOr, gPart, gNoP, gSlT, gCatL, gNeg, gNm2, gZip, eq_self, if_true, ↓reduceIte, Bool.false_eq_true, if_false, List.getElem?_cons_zero, List.getElem?_cons_succ, List.set_cons_zero, List.set_cons_succ, i0, Fmix (show (0 : Int) < 9901 by decide) (show (0 : Int) < 8 by decide), gFor, List.length_cons, List.length_nil]
          generalize hmany : 1 + mix c0 9901 8 = many
          have k1 : 1 ≤ many := by omega
          have k2 : many ≤ 8 := by omega
          refine ⟨by decide, ⟨by omega, by omega⟩, fun i δ => ∃ a b d, ∃ pl : List (List Int × List Int), δ = [.im (.tup [.tup (ns.map D.int), q]), .im (.lst [.int c0, .int c1, .int c2, .int c3]), .im (.int 8), .im (.int many), .ow (pl.map encS), a, b, d] ∧ pl.length = i ∧ (i : Int) ≤ many ∧ ∀ s ∈ pl, s.1 ∈ rowsL ns ∧ s.2.length = (rowsL ns).length ∧ ∀ x ∈ s.2, 0 ≤ x ∧ x < many, ⟨.un, .un, .un, [], rfl, rfl, by omega, fun r hr => by simp at hr⟩, ?_, ?_⟩
          · rintro i x δ ed ⟨a, b, d, pl, rfl, hpl, hil, hpb⟩
            unfold rangeD at ed
            obtain ⟨hi, rfl⟩ := getm_map ed
            rw [List.length_range] at hi
            have hcell : ∃ cc : Int, atI [D.int c0, .int c1, .int c2, .int c3] (1 + (0 + (i : Int)) % 3) = some (.int cc) := by
              have : (0 + (i : Int)) % 3 = 0 ∨ (0 + (i : Int)) % 3 = 1 ∨ (0 + (i : Int)) % 3 = 2 := by omega
              rcases this with e | e | e <;> rw [e]
              · exact ⟨c1, rfl⟩
              · exact ⟨c2, rfl⟩
              · exact ⟨c3, rfl⟩
            obtain ⟨cc, hcc⟩ := hcell
            simp only [gRet, gAndV, gOrV, gNotV, gInst, isSub_int, isSub_bool, isSub_tuple, gVar, gSeq, gAsg, gNm, gC, gF, gLst, gConsA, gNilA, gTupE, gCallB, gCallF, gCallD, gCallR, gOpt, gOptP, cLen, cAbs, cAll, cTuple, cList, gOp, oInt, oIntC, oAdd, oMul, oNe, oEq, oIs, oIsnot, eqD, dep, gIx, gChain, gChain3, gTest, isBl, gIfS, gIt, gIl, gRng1, gRng2, gApp, gExt, gFrz, gAsgO, gNext, gTru, gNot, gAnd, gOr, gPart, gNoP, gSlT, gCatL, gNeg, gNm2, gZip, eq_self, if_true, ↓reduceIte, Bool.false_eq_true, if_false, List.getElem?_cons_zero, List.getElem?_cons_succ, List.set_cons_zero, List.set_cons_succ, gComp, List.getElem_range, hcc, j0, Frows ho]
            generalize hsd : cc + 11 * (0 + (i : Int)) = sd
            refine ⟨by decide, Or.inl ⟨by decide, by decide⟩, ⟨by omega, by rw [List.length_map]; omega⟩, by rw [rangeD_len, List.length_map]; exact ends_le (by omega), fun y => match y with
              | .int k => .int (mix (sd + 3 * k) 9887 many)
              | _ => .non, fun y hy => ?_, ?_⟩
            · unfold rangeD at hy
              obtain ⟨k, hk, rfl⟩ := List.mem_map.mp hy
              simp only [δc, List.map_cons, List.map_nil, gRet, gAndV, gOrV, gNotV, gInst, isSub_int, isSub_bool, isSub_tuple, gVar, gSeq, gAsg, gNm, gC, gF, gLst, gConsA, gNilA, gTupE, gCallB, gCallF, gCallD, gCallR, gOpt, gOptP, cLen, cAbs, cAll, cTuple, cList, gOp, oInt, oIntC, oAdd, oMul, oNe, oEq, oIs, oIsnot, eqD, dep, gIx, gChain, gChain3, gTest, isBl, gIfS, gIt, gIl, gRng1, gRng2, gApp, gExt, gFrz, gAsgO, gNext, gTru, gNot, gAnd, gOr, gPart, gNoP, gSlT, gCatL, gNeg, gNm2, gZip, eq_self, if_true, ↓reduceIte, Bool.false_eq_true, if_false, List.getElem?_cons_zero, List.getElem?_cons_succ, List.set_cons_zero, List.set_cons_succ, Fmix (show (0 : Int) < 9887 by decide) (show 0 < many by omega)]
              exact ⟨Or.inl ⟨by decide, by decide⟩, trivial⟩
            · have em : (rangeD 0 (((rowsL ns).map dInts).length : Int).toNat).map (fun y => match y with
                  | .int k => D.int (mix (sd + 3 * k) 9887 many)
                  | _ => .non) = ((List.range (rowsL ns).length).map fun (k : Nat) => mix (sd + 3 * (0 + (k : Int))) 9887 many).map D.int := by
                simp [rangeD, Function.comp_def]
              rw [em]
              have hrow : ∀ x ∈ (List.range (rowsL ns).length).map fun (k : Nat) => mix (sd + 3 * (0 + (k : Int))) 9887 many, 0 ≤ x ∧ x < many := by
                intro x hx
                obtain ⟨k, hk, rfl⟩ := List.mem_map.mp hx
                exact ⟨mix_nn (by omega), mix_lt (by omega)⟩
              have hrl : ((List.range (rowsL ns).length).map fun (k : Nat) => mix (sd + 3 * (0 + (k : Int))) 9887 many).length = (rowsL ns).length := by simp
              generalize ((List.range (rowsL ns).length).map fun (k : Nat) => mix (sd + 3 * (0 + (k : Int))) 9887 many) = nx at hrow hrl
              have er : F__law_row [.tup [.tup (ns.map D.int), q], .int sd] = some (dInts ((rowsL ns).getD (mix sd 9907 (rowsL ns).length).toNat [])) := onDeeds_of _ ho
              simp only [er, gRet, gAndV, gOrV, gNotV, gInst, isSub_int, isSub_bool, isSub_tuple, gVar, gSeq, gAsg, gNm, gC, gF, gLst, gConsA, gNilA, gTupE, gCallB, gCallF, gCallD, gCallR, gOpt, gOptP, cLen, cAbs, cAll, cTuple, cList, gOp, oInt, oIntC, oAdd, oMul, oNe, oEq, oIs, oIsnot, eqD, dep, gIx, gChain, gChain3, gTest, isBl, gIfS, gIt, gIl, gRng1, gRng2, gApp, gExt, gFrz, gAsgO, gNext, gTru, gNot, gAnd, gOr, gPart, gNoP, gSlT, gCatL, gNeg, gNm2, gZip, eq_self, if_true, ↓reduceIte, Bool.false_eq_true, if_false, List.getElem?_cons_zero, List.getElem?_cons_succ, List.set_cons_zero, List.set_cons_succ, List.length_cons, List.length_nil]
              have b1 : 0 ≤ mix sd 9907 (rowsL ns).length := mix_nn (by omega)
              have b2 : mix sd 9907 (rowsL ns).length < (rowsL ns).length := mix_lt (by omega)
              have hmem : (rowsL ns).getD (mix sd 9907 (rowsL ns).length).toNat [] ∈ rowsL ns := by
                have hlt : (mix sd 9907 (rowsL ns).length).toNat < (rowsL ns).length := by omega
                rw [List.getD_eq_getElem?_getD, List.getElem?_eq_getElem hlt]
                exact List.getElem_mem hlt
              generalize (rowsL ns).getD (mix sd 9907 (rowsL ns).length).toNat [] = rw0 at hmem
              have e5 : pl.map encS ++ [D.tup [dInts rw0, .tup (nx.map D.int)]] = (pl ++ [(rw0, nx)]).map encS := by
                rw [List.map_append]
                rfl
              rw [e5]
              refine ⟨by decide, small1000 (by rw [List.length_map]; omega), _, _, _, _, rfl, by simp [hpl], by omega, fun s hs => ?_⟩
              rcases List.mem_append.mp hs with hs | hs
              · exact hpb s hs
              · obtain rfl := List.mem_singleton.mp hs
                exact ⟨hmem, hrl, hrow⟩
          · rintro δ ⟨a, b, d, pl, rfl, hpl, hil, hpb⟩
            rw [rangeD_len] at hpl hil
            simp only [gRet, gAndV, gOrV, gNotV, gInst, isSub_int, isSub_bool, isSub_tuple, gVar, gSeq, gAsg, gNm, gC, gF, gLst, gConsA, gNilA, gTupE, gCallB, gCallF, gCallD, gCallR, gOpt, gOptP, cLen, cAbs, cAll, cTuple, cList, gOp, oInt, oIntC, oAdd, oMul, oNe, oEq, oIs, oIsnot, eqD, dep, gIx, gChain, gChain3, gTest, isBl, gIfS, gIt, gIl, gRng1, gRng2, gApp, gExt, gFrz, gAsgO, gNext, gTru, gNot, gAnd, gOr, gPart, gNoP, gSlT, gCatL, gNeg, gNm2, gZip, eq_self, if_true, ↓reduceIte, Bool.false_eq_true, if_false, List.getElem?_cons_zero, List.getElem?_cons_succ, List.set_cons_zero, List.set_cons_succ]
            refine ⟨pl, rfl, ⟨by omega, by omega⟩, fun s hs => (hpb s hs).1, fun s hs => ⟨(hpb s hs).2.1, fun x hx => ?_⟩⟩
            have := (hpb s hs).2.2 x hx
            omega
      · cases h'
    · cases h'
end L2
namespace L2
open PySem PySem.Spec PyProof.Rows
theorem cut_tail (xs : List D) : cutD xs (some 1) none = xs.drop 1 := by
  unfold cutD
  have e : HT.sIx xs.length 0 (some 1) = min 1 xs.length := HT.sIx_nat _ _ 1
  rw [e, HT.sIx_none]
  cases xs with
  | nil => rfl
  | cons x xs => simp
theorem cut_head (xs : List D) : cutD xs none (some 1) = xs.take 1 := by
  unfold cutD
  have e : HT.sIx xs.length xs.length (some 1) = min 1 xs.length := HT.sIx_nat _ _ 1
  rw [e, HT.sIx_none]
  cases xs with
  | nil => rfl
  | cons x xs => simp
theorem cut_init_len (xs : List D) : (cutD xs none (some (-1))).length = xs.length - 1 := by
  unfold cutD
  have e : HT.sIx xs.length xs.length (some (-1)) = xs.length - 1 := by
    show (if (-1 : Int) < 0 then ((-1) + (xs.length : Int)).toNat else min (-1 : Int).toNat xs.length) = _
    rw [if_pos (by decide)]
    omega
  rw [e, HT.sIx_none]
  simp
theorem meet_pay {ns : List Int} {x : D} (h : isPay x ns = false) : isMeeting (.tup [dInts ns, x]) = false := by
  simp [isMeeting, dInts, ints_map, h]
theorem meet_deeds {a x : D} (h : isDeeds a = false) : isMeeting (.tup [a, x]) = false := by
  simp [isMeeting, h]
theorem deeds_len {xs : List D} (h : xs.length < 2 ∨ 3 < xs.length) : isDeeds (.tup xs) = false := by
  simp [isDeeds]
  intro h1 h2
  omega
theorem deeds_bad {d : D} {xs : List D} (h : isBetween d 1 3 = false) : isDeeds (.tup (d :: xs)) = false := by
  simp [isDeeds, h]
theorem pay_len {xs : List D} {ns : List Int} (h : xs.length ≠ (rowsL ns).length) : isPay (.tup xs) ns = false := by
  simp [isPay, h]
theorem pay_bad {x : D} {xs : List D} {ns : List Int} (h : isPayRow x ns.length = false) : isPay (.tup (x :: xs)) ns = false := by
  simp [isPay, h]
theorem row_bad {d : D} {xs : List D} {n : Nat} (h : isBetween d (-9) 9 = false) : isPayRow (.tup (d :: xs)) n = false := by
  simp [isPayRow, h]
theorem row_len {xs : List D} {n : Nat} (h : xs.length ≠ n) : isPayRow (.tup xs) n = false := by
  simp [isPayRow, h]
abbrev badM : D → Prop := fun d => isMeeting d = false
theorem vc__law_bad_meeting : ∀ ds p, F__law_bad_meeting ds = some p → g__law_bad_meeting (retP p) (dstart ["_law_meeting_here", "_law_cell_here", "_law_deeds", "_law_pay", "_law_some", "_law_bad"] ds)
  | [m, .int c], p, h => by
    classical
    have h' : (if ∃ ns pay, m = meetD ns pay ∧ MeetOk ns pay then some badM else none) = some p := h
    clear h
    split at h'
    · rename_i hh
      obtain ⟨ns, pay, rfl, M⟩ := hh
      have e := Option.some.inj h'
      subst e
      clear h'
      obtain ⟨h2, ho, hmany, hrows⟩ := M
      obtain ⟨l1, l2⟩ := rows_len ho
      obtain ⟨m1, m2⟩ := okDeeds_mem ho
      obtain ⟨n0, n1, nr, rfl⟩ : ∃ n0 n1 nr, ns = n0 :: n1 :: nr := by
        match ns, h2 with
        | n0 :: n1 :: nr, _ => exact ⟨n0, n1, nr, rfl⟩
      obtain ⟨r0, rr, rfl⟩ : ∃ r0 rr, pay = r0 :: rr := by
        cases pay with
        | nil => rw [List.length_nil] at hmany; omega
        | cons r0 rr => exact ⟨r0, rr, rfl⟩
      obtain ⟨q1, q2⟩ := hrows r0 List.mem_cons_self
      obtain ⟨x0, xr, rfl⟩ : ∃ x0 xr, r0 = x0 :: xr := by
        cases r0 with
        | nil => simp at q1
        | cons x0 xr => exact ⟨x0, xr, rfl⟩
      generalize hns : n0 :: n1 :: nr = ns at *
      have hxr : xr.length ≤ 10 := by
        rw [List.length_cons] at q1
        omega
      have hrr : rr.length ≤ 30 := by
        rw [List.length_cons] at hmany
        omega
      have hnl : nr.length + 2 = ns.length := by rw [← hns]; rfl
      generalize hpay : (x0 :: xr) :: rr = pay at *
      have hpl : rr.length + 1 = pay.length := by rw [← hpay]; rfl
      show g__law_bad_meeting _ [.im (.tup [dInts ns, .tup (pay.map dInts)]), .im (.int c), .un, .un, .un, .un]
      have j0 : atI (pay.map dInts) 0 = some (dInts (x0 :: xr)) := by
        rw [← hpay]
        simp [atI, ixN]
      have jt : (pay.map dInts).drop 1 = rr.map dInts := by rw [← hpay]; rfl
      have jh : (pay.map dInts).take 1 = [dInts (x0 :: xr)] := by rw [← hpay]; rfl
      have dt : (ns.map D.int).drop 1 = (n1 :: nr).map D.int := by rw [← hns]; rfl
      have dh : (ns.map D.int).take 1 = [.int n0] := by rw [← hns]; rfl
      have xt : ((x0 :: xr).map D.int).drop 1 = xr.map D.int := rfl
      -- the last row
      have t7 : ∀ (L : List D) (z : Sl), (∀ d ∈ L, badM d) → L ≠ [] → L.length ≤ 100 → g__law_bad_meeting_7 (retP badM) [.im (.tup [dInts ns, .tup (pay.map dInts)]), .im (.int c), .im (dInts ns), .im (.tup (pay.map dInts)), .ow L, z] := by
        intro L z hL hne hle
        simp only [g__law_bad_meeting_7, gRet, gAndV, gOrV, gNotV, gInst, isSub_int, isSub_bool, isSub_tuple, gVar, gSeq, gAsg, gNm, gC, gF, gLst, gConsA, gNilA, gTupE, gCallB, gCallF, gCallD, gCallR, gOpt, gOptP, cLen, cAbs, cAll, cTuple, cList, gOp, oInt, oIntC, oAdd, oMul, oNe, oEq, oIs, oIsnot, eqD, dep, gIx, gChain, gChain3, gTest, isBl, gIfS, gIt, gIl, gRng1, gRng2, gApp, gExt, gFrz, gAsgO, gNext, gTru, gNot, gAnd, gOr, gPart, gNoP, gSlT, gCatL, gNeg, gNm2, gZip, eq_self, if_true, ↓reduceIte, Bool.false_eq_true, if_false, List.getElem?_cons_zero, List.getElem?_cons_succ, List.set_cons_zero, List.set_cons_succ]
        have hpos : 0 < (L.length : Int) := by
          cases L with
          | nil => exact absurd rfl hne
          | cons a b => rw [List.length_cons]; omega
        refine ⟨hpos, ?_⟩
        have b1 := Int.emod_nonneg c (show (L.length : Int) ≠ 0 by omega)
        have b2 := Int.emod_lt_of_pos c hpos
        have b3 : (c % (L.length : Int)).toNat < L.length := by omega
        have e : atI L (c % (L.length : Int)) = some L[(c % (L.length : Int)).toNat] := by simp [atI, ixN, b1, b2, b3]
        simp only [e]
        exact hL _ (List.getElem_mem b3)
      have t6 : ∀ (L : List D) (z : Sl), (∀ d ∈ L, badM d) → L ≠ [] → L.length ≤ 60 → g__law_bad_meeting_6 (retP badM) [.im (.tup [dInts ns, .tup (pay.map dInts)]), .im (.int c), .im (dInts ns), .im (.tup (pay.map dInts)), .ow L, z] := by
        intro L z hL hne hle
        simp only [g__law_bad_meeting_6, gRet, gAndV, gOrV, gNotV, gInst, isSub_int, isSub_bool, isSub_tuple, gVar, gSeq, gAsg, gNm, gC, gF, gLst, gConsA, gNilA, gTupE, gCallB, gCallF, gCallD, gCallR, gOpt, gOptP, cLen, cAbs, cAll, cTuple, cList, gOp, oInt, oIntC, oAdd, oMul, oNe, oEq, oIs, oIsnot, eqD, dep, gIx, gChain, gChain3, gTest, isBl, gIfS, gIt, gIl, gRng1, gRng2, gApp, gExt, gFrz, gAsgO, gNext, gTru, gNot, gAnd, gOr, gPart, gNoP, gSlT, gCatL, gNeg, gNm2, gZip, eq_self, if_true, ↓reduceIte, Bool.false_eq_true, if_false, List.getElem?_cons_zero, List.getElem?_cons_succ, List.set_cons_zero, List.set_cons_succ, dInts, List.length_cons, List.length_nil]
        refine ⟨by decide, by decide, by decide, ends_le (by omega), t7 _ z ?_ (by simp) (by simp; omega)⟩
        intro d hd
        rcases List.mem_append.mp hd with hd | hd
        · exact hL d hd
        · simp only [List.mem_cons, List.not_mem_nil, or_false] at hd
          rcases hd with rfl | rfl | rfl | rfl | rfl
          · exact meet_deeds rfl
          · rfl
          · rfl
          · rfl
          · rfl
      have t5 : ∀ (L : List D) (z : Sl), (∀ d ∈ L, badM d) → L ≠ [] → L.length ≤ 50 → g__law_bad_meeting_5 (retP badM) [.im (.tup [dInts ns, .tup (pay.map dInts)]), .im (.int c), .im (dInts ns), .im (.tup (pay.map dInts)), .ow L, z] := by
        intro L z hL hne hle
        simp only [g__law_bad_meeting_5, gRet, gAndV, gOrV, gNotV, gInst, isSub_int, isSub_bool, isSub_tuple, gVar, gSeq, gAsg, gNm, gC, gF, gLst, gConsA, gNilA, gTupE, gCallB, gCallF, gCallD, gCallR, gOpt, gOptP, cLen, cAbs, cAll, cTuple, cList, gOp, oInt, oIntC, oAdd, oMul, oNe, oEq, oIs, oIsnot, eqD, dep, gIx, gChain, gChain3, gTest, isBl, gIfS, gIt, gIl, gRng1, gRng2, gApp, gExt, gFrz, gAsgO, gNext, gTru, gNot, gAnd, gOr, gPart, gNoP, gSlT, gCatL, gNeg, gNm2, gZip, eq_self, if_true, ↓reduceIte, Bool.false_eq_true, if_false, List.getElem?_cons_zero, List.getElem?_cons_succ, List.set_cons_zero, List.set_cons_succ, dInts, List.length_cons, List.length_nil, cut_tail, dt, List.length_map, List.cons_append, List.nil_append]
        refine ⟨by decide, ends_le (by omega), by decide, by decide, by decide, ends_le (by omega), by decide, by decide, ends_le (by omega), by decide, by decide, ends_le (by omega), t6 _ z ?_ (by simp) (by simp; omega)⟩
        intro d hd
        rcases List.mem_append.mp hd with hd | hd
        · exact hL d hd
        · simp only [List.mem_cons, List.not_mem_nil, or_false] at hd
          rcases hd with rfl | rfl | rfl
          · exact meet_deeds (deeds_bad rfl)
          · exact meet_deeds (deeds_bad rfl)
          · exact meet_deeds (deeds_bad rfl)
      have t4 : ∀ (L : List D) (z : Sl), (∀ d ∈ L, badM d) → L ≠ [] → L.length ≤ 40 → g__law_bad_meeting_4 (retP badM) [.im (.tup [dInts ns, .tup (pay.map dInts)]), .im (.int c), .im (dInts ns), .im (.tup (pay.map dInts)), .ow L, z] := by
        intro L z hL hne hle
        simp only [g__law_bad_meeting_4, gRet, gAndV, gOrV, gNotV, gInst, isSub_int, isSub_bool, isSub_tuple, gVar, gSeq, gAsg, gNm, gC, gF, gLst, gConsA, gNilA, gTupE, gCallB, gCallF, gCallD, gCallR, gOpt, gOptP, cLen, cAbs, cAll, cTuple, cList, gOp, oInt, oIntC, oAdd, oMul, oNe, oEq, oIs, oIsnot, eqD, dep, gIx, gChain, gChain3, gTest, isBl, gIfS, gIt, gIl, gRng1, gRng2, gApp, gExt, gFrz, gAsgO, gNext, gTru, gNot, gAnd, gOr, gPart, gNoP, gSlT, gCatL, gNeg, gNm2, gZip, eq_self, if_true, ↓reduceIte, Bool.false_eq_true, if_false, List.getElem?_cons_zero, List.getElem?_cons_succ, List.set_cons_zero, List.set_cons_succ, j0, dInts, List.length_cons, List.length_nil, cut_tail, jt, List.length_map, List.cons_append, List.nil_append]
        repeat (with_reducible refine ⟨ends_le (by omega), ?_⟩)
        refine t5 _ z ?_ (by simp) (by simp; omega)
        intro d hd
        rcases List.mem_append.mp hd with hd | hd
        · exact hL d hd
        · simp only [List.mem_cons, List.not_mem_nil, or_false] at hd
          rcases hd with rfl | rfl | rfl
          · exact meet_pay (pay_bad (row_len (by rw [cut_init_len, List.length_map]; omega)))
          · exact meet_pay (pay_bad rfl)
          · rfl
      have t3 : ∀ (L : List D) (z : Sl), (∀ d ∈ L, badM d) → L ≠ [] → L.length ≤ 10 → g__law_bad_meeting_3 (retP badM) [.im (.tup [dInts ns, .tup (pay.map dInts)]), .im (.int c), .im (dInts ns), .im (.tup (pay.map dInts)), .ow L, z] := by
        intro L z hL hne hle
        simp only [g__law_bad_meeting_3, gRet, gAndV, gOrV, gNotV, gInst, isSub_int, isSub_bool, isSub_tuple, gVar, gSeq, gAsg, gNm, gC, gF, gLst, gConsA, gNilA, gTupE, gCallB, gCallF, gCallD, gCallR, gOpt, gOptP, cLen, cAbs, cAll, cTuple, cList, gOp, oInt, oIntC, oAdd, oMul, oNe, oEq, oIs, oIsnot, eqD, dep, gIx, gChain, gChain3, gTest, isBl, gIfS, gIt, gIl, gRng1, gRng2, gApp, gExt, gFrz, gAsgO, gNext, gTru, gNot, gAnd, gOr, gPart, gNoP, gSlT, gCatL, gNeg, gNm2, gZip, eq_self, if_true, ↓reduceIte, Bool.false_eq_true, if_false, List.getElem?_cons_zero, List.getElem?_cons_succ, List.set_cons_zero, List.set_cons_succ, gFor, List.length_cons, List.length_nil]
        repeat (with_reducible refine ⟨ends_le (by omega), ?_⟩)
        refine ⟨fun i δ => ∃ (L : List D) (z : Sl), δ = [.im (.tup [dInts ns, .tup (pay.map dInts)]), .im (.int c), .im (dInts ns), .im (.tup (pay.map dInts)), .ow L, z] ∧ (∀ d ∈ L, badM d) ∧ L ≠ [] ∧ L.length ≤ 10 + i, ⟨L, z, rfl, hL, hne, hle⟩, ?_, ?_⟩
        · rintro i d δ ed ⟨L, z, rfl, hL, hne, hle⟩
          have hi : i < 6 := (List.getElem?_eq_some_iff.mp ed).1
          have hb : isBetween d (-9) 9 = false := by
            have := List.mem_of_getElem? ed
            simp only [List.mem_cons, List.not_mem_nil, or_false] at this
            rcases this with rfl | rfl | rfl | rfl | rfl | rfl <;> rfl
          simp only [gRet, gAndV, gOrV, gNotV, gInst, isSub_int, isSub_bool, isSub_tuple, gVar, gSeq, gAsg, gNm, gC, gF, gLst, gConsA, gNilA, gTupE, gCallB, gCallF, gCallD, gCallR, gOpt, gOptP, cLen, cAbs, cAll, cTuple, cList, gOp, oInt, oIntC, oAdd, oMul, oNe, oEq, oIs, oIsnot, eqD, dep, gIx, gChain, gChain3, gTest, isBl, gIfS, gIt, gIl, gRng1, gRng2, gApp, gExt, gFrz, gAsgO, gNext, gTru, gNot, gAnd, gOr, gPart, gNoP, gSlT, gCatL, gNeg, gNm2, gZip, eq_self, if_true, ↓reduceIte, Bool.false_eq_true, if_false, List.getElem?_cons_zero, List.getElem?_cons_succ, List.set_cons_zero, List.set_cons_succ, j0, dInts, List.length_cons, List.length_nil, cut_tail, jt, xt, List.length_map, List.cons_append, List.nil_append]
          repeat (with_reducible refine ⟨ends_le (by omega), ?_⟩)
          refine ⟨_, _, rfl, fun x hx => ?_, by simp, by simp; omega⟩
          rcases List.mem_append.mp hx with hx | hx
          · exact hL x hx
          · obtain rfl := List.mem_singleton.mp hx
            exact meet_pay (pay_bad (row_bad hb))
        · rintro δ ⟨L, z, rfl, hL, hne, hle⟩
          exact t4 L z hL hne (by simp at hle; omega)
      unfold g__law_bad_meeting g__law_bad_meeting_1 g__law_bad_meeting_2
      simp only [gRet, gAndV, gOrV, gNotV, gInst, isSub_int, isSub_bool, isSub_tuple, gVar, gSeq, gAsg, gNm, gC, gF, gLst, gConsA, gNilA, gTupE, gCallB, gCallF, gCallD, gCallR, gOpt, gOptP, cLen, cAbs, cAll, cTuple, cList, gOp, oInt, oIntC, oAdd, oMul, oNe, oEq, oIs, oIsnot, eqD, dep, gIx, gChain, gChain3, gTest, isBl, gIfS, gIt, gIl, gRng1, gRng2, gApp, gExt, gFrz, gAsgO, gNext, gTru, gNot, gAnd, gOr, gPart, gNoP, gSlT, gCatL, gNeg, gNm2, gZip, eq_self, if_true, ↓reduceIte, Bool.false_eq_true, if_false, List.getElem?_cons_zero, List.getElem?_cons_succ, List.set_cons_zero, List.set_cons_succ, dInts, List.length_cons, List.length_nil, cut_tail, cut_head, jh, dh, List.length_map]
      repeat (with_reducible refine ⟨ends_le (by omega), ?_⟩)
      refine t3 _ _ ?_ (by simp) (by simp)
      intro d hd
      simp only [List.cons_append, List.nil_append, List.mem_cons, List.not_mem_nil, or_false] at hd
      rcases hd with rfl | rfl | rfl | rfl | rfl | rfl
      · exact meet_pay (pay_len (by rw [cut_init_len, List.length_map]; omega))
      · exact meet_pay (pay_len (by simp; omega))
      · exact meet_deeds (deeds_len (.inl (by simp)))
      · exact meet_deeds (deeds_len (.inr (by simp; omega)))
      · rw [← hns]
        cases nr with
        | nil => exact meet_deeds rfl
        | cons a b => rfl
      · exact meet_pay rfl
    · cases h'
end L2
namespace L2
open PySem PySem.Spec PyProof.Rows
theorem plan_len {xs : List D} {ns : List Int} (h : xs.length < 1 ∨ 8 < xs.length) : isPlan (.tup xs) ns = false := by
  simp [isPlan]
  intro h1 h2
  omega
theorem plan_bad {x : D} {xs : List D} {ns : List Int} (h : isState x ns ((x :: xs).length : Nat) = false) : isPlan (.tup (x :: xs)) ns = false := by
  have e : isState x ns (((xs.length + 1 : Nat)) : Int) = false := h
  simp only [isPlan, List.all_cons, List.length_cons, e, Bool.false_and, Bool.and_false]
theorem state_row {a b : D} {ns : List Int} {st : Int} (h : isRow a ns = false) : isState (.tup [a, b]) ns st = false := by
  simp [isState, h]
theorem state_nexts {a b : D} {ns : List Int} {st : Int} (h : isNexts b ns st = false) : isState (.tup [a, b]) ns st = false := by
  simp [isState, h]
theorem isrow_len {xs : List D} {ns : List Int} (h : xs.length ≠ ns.length) : isRow (.tup xs) ns = false := by
  simp [isRow, h]
theorem isrow_bad {x : D} {xs : List D} {n : Int} {ns : List Int} (h : isBetween x 0 (n - 1) = false) : isRow (.tup (x :: xs)) (n :: ns) = false := by
  simp [isRow, h]
theorem nexts_len {xs : List D} {ns : List Int} {st : Int} (h : xs.length ≠ (rowsL ns).length) : isNexts (.tup xs) ns st = false := by
  simp [isNexts, h]
theorem nexts_bad {x : D} {xs : List D} {ns : List Int} {st : Int} (h : isBetween x 0 (st - 1) = false) : isNexts (.tup (x :: xs)) ns st = false := by
  simp [isNexts, h]
theorem dInts_inj {a b : List Int} (h : dInts a = dInts b) : a = b := by
  unfold dInts at h
  have h' := D.tup.inj h
  have : a.map D.int = b.map D.int := h'
  exact List.map_inj_right (fun x y e => D.int.inj e) |>.mp this
theorem planD_inj {a b : List (List Int × List Int)} (h : planD a = planD b) : a = b := by
  unfold planD at h
  have h' := D.tup.inj h
  refine List.map_inj_right (fun x y e => ?_) |>.mp h'
  have e1 := D.tup.inj e
  simp only [List.cons.injEq, and_true] at e1
  exact Prod.ext (dInts_inj e1.1) (dInts_inj e1.2)
/-- what a thing is that is no plan, whatever the deeds it was drawn for -/
def BadPlan (pl : List (List Int × List Int)) (d : D) : Prop := ∀ ns, okDeeds ns = true → 2 ≤ ns.length → PlanOk ns pl → isPlan d ns = false
abbrev bpS (R Nx : D) (E : List D) (c : Int) (L : List D) (z w : Sl) : DS := [.im (.tup (.tup [R, Nx] :: E)), .im (.int c), .im R, .im Nx, .im (.tup E), .ow L, z, w]
theorem bp7 (R Nx : D) (E : List D) (c : Int) (post : D → Prop) (L : List D) (z w : Sl) (hL : ∀ d ∈ L, post d) (hne : L ≠ []) (hle : L.length ≤ 100) : g__law_bad_plan_7 (retP post) (bpS R Nx E c L z w) := by
  simp only [g__law_bad_plan_7, bpS, gRet, gAndV, gOrV, gNotV, gInst, isSub_int, isSub_bool, isSub_tuple, gVar, gSeq, gAsg, gNm, gC, gF, gLst, gConsA, gNilA, gTupE, gCallB, gCallF, gCallD, gCallR, gOpt, gOptP, cLen, cAbs, cAll, cTuple, cList, gOp, oInt, oIntC, oAdd, oMul, oNe, oEq, oIs, oIsnot, eqD, dep, gIx, gChain, gChain3, gTest, isBl, gIfS, gIt, gIl, gRng1, gRng2, gApp, gExt, gFrz, gAsgO, gNext, gTru, gNot, gAnd, gOr, gPart, gNoP, gSlT, gCatL, gNeg, gNm2, gZip, eq_self, if_true, ↓reduceIte, Bool.false_eq_true, if_false, List.getElem?_cons_zero, List.getElem?_cons_succ, List.set_cons_zero, List.set_cons_succ]
  have hpos : 0 < (L.length : Int) := by
    cases L with
    | nil => exact absurd rfl hne
    | cons a b => rw [List.length_cons]; omega
  refine ⟨hpos, ?_⟩
  have b1 := Int.emod_nonneg c (show (L.length : Int) ≠ 0 by omega)
  have b2 := Int.emod_lt_of_pos c hpos
  have b3 : (c % (L.length : Int)).toNat < L.length := by omega
  have e : atI L (c % (L.length : Int)) = some L[(c % (L.length : Int)).toNat] := by simp [atI, ixN, b1, b2, b3]
  simp only [e]
  exact hL _ (List.getElem_mem b3)
def nexts7 (y0 : D) (ys : List D) (n : Nat) : List D := [.tup (cutD (y0 :: ys) none (some (-1))), .tup (y0 :: ys ++ [.int 0]), .tup (.int (-1) :: ys), .tup (.int n :: ys), .tup (.bl true :: ys), .lst (y0 :: ys), .int 0]
theorem bp6 (R y0 : D) (ys E : List D) (c : Int) (post : D → Prop) (hE : E.length ≤ 8) (hys : ys.length ≤ 30) (hb : ∀ x ∈ nexts7 y0 ys (E.length + 1), post (.tup (.tup [R, x] :: E))) (L : List D) (z : Sl) (hL : ∀ d ∈ L, post d) (hne : L ≠ []) (hle : L.length ≤ 40) :
    g__law_bad_plan_6 (retP post) (bpS R (.tup (y0 :: ys)) E c L z (.im (.tup ys))) := by
  simp only [g__law_bad_plan_6, bpS, gRet, gAndV, gOrV, gNotV, gInst, isSub_int, isSub_bool, isSub_tuple, gVar, gSeq, gAsg, gNm, gC, gF, gLst, gConsA, gNilA, gTupE, gCallB, gCallF, gCallD, gCallR, gOpt, gOptP, cLen, cAbs, cAll, cTuple, cList, gOp, oInt, oIntC, oAdd, oMul, oNe, oEq, oIs, oIsnot, eqD, dep, gIx, gChain, gChain3, gTest, isBl, gIfS, gIt, gIl, gRng1, gRng2, gApp, gExt, gFrz, gAsgO, gNext, gTru, gNot, gAnd, gOr, gPart, gNoP, gSlT, gCatL, gNeg, gNm2, gZip, eq_self, if_true, ↓reduceIte, Bool.false_eq_true, if_false, List.getElem?_cons_zero, List.getElem?_cons_succ, List.set_cons_zero, List.set_cons_succ, gFor, List.length_cons, List.length_nil, List.cons_append, List.nil_append]
  repeat (with_reducible refine ⟨ends_le (by omega), ?_⟩)
  refine ⟨fun i δ => ∃ (L : List D) (z : Sl), δ = bpS R (.tup (y0 :: ys)) E c L z (.im (.tup ys)) ∧ (∀ d ∈ L, post d) ∧ L ≠ [] ∧ L.length ≤ 40 + i, ⟨L, z, rfl, hL, hne, hle⟩, ?_, ?_⟩
  · rintro i d δ ed ⟨L, z, rfl, hL, hne, hle⟩
    have hi : i < 7 := (List.getElem?_eq_some_iff.mp ed).1
    have hd := hb d (List.mem_of_getElem? ed)
    simp only [bpS, gRet, gAndV, gOrV, gNotV, gInst, isSub_int, isSub_bool, isSub_tuple, gVar, gSeq, gAsg, gNm, gC, gF, gLst, gConsA, gNilA, gTupE, gCallB, gCallF, gCallD, gCallR, gOpt, gOptP, cLen, cAbs, cAll, cTuple, cList, gOp, oInt, oIntC, oAdd, oMul, oNe, oEq, oIs, oIsnot, eqD, dep, gIx, gChain, gChain3, gTest, isBl, gIfS, gIt, gIl, gRng1, gRng2, gApp, gExt, gFrz, gAsgO, gNext, gTru, gNot, gAnd, gOr, gPart, gNoP, gSlT, gCatL, gNeg, gNm2, gZip, eq_self, if_true, ↓reduceIte, Bool.false_eq_true, if_false, List.getElem?_cons_zero, List.getElem?_cons_succ, List.set_cons_zero, List.set_cons_succ, List.length_cons, List.length_nil, List.cons_append, List.nil_append]
    repeat (with_reducible refine ⟨ends_le (by omega), ?_⟩)
    refine ⟨_, _, rfl, fun x hx => ?_, by simp, by simp; omega⟩
    rcases List.mem_append.mp hx with hx | hx
    · exact hL x hx
    · obtain rfl := List.mem_singleton.mp hx
      exact hd
  · rintro δ ⟨L, z, rfl, hL, hne, hle⟩
    exact bp7 _ _ _ _ _ L z _ hL hne (by simp at hle; omega)
def rows7 (x0 : D) (xs : List D) : List D := [.tup (cutD (x0 :: xs) none (some (-1))), .tup (x0 :: xs ++ [.int 0]), .tup (.int (-1) :: xs), .tup (.int 3 :: xs), .tup (.bl true :: xs), .lst (x0 :: xs), .non]
theorem bp4 (x0 y0 : D) (xs ys E : List D) (c : Int) (post : D → Prop) (hE : E.length ≤ 8) (hys : ys.length ≤ 30) (hxs : xs.length ≤ 10) (hb : ∀ x ∈ nexts7 y0 ys (E.length + 1), post (.tup (.tup [.tup (x0 :: xs), x] :: E))) (hr : ∀ x ∈ rows7 x0 xs, post (.tup (.tup [x, .tup (y0 :: ys)] :: E)))
    (L : List D) (z w : Sl) (hL : ∀ d ∈ L, post d) (hne : L ≠ []) (hle : L.length ≤ 20) : g__law_bad_plan_4 (retP post) (bpS (.tup (x0 :: xs)) (.tup (y0 :: ys)) E c L z w) := by
  simp only [g__law_bad_plan_4, bpS, gRet, gAndV, gOrV, gNotV, gInst, isSub_int, isSub_bool, isSub_tuple, gVar, gSeq, gAsg, gNm, gC, gF, gLst, gConsA, gNilA, gTupE, gCallB, gCallF, gCallD, gCallR, gOpt, gOptP, cLen, cAbs, cAll, cTuple, cList, gOp, oInt, oIntC, oAdd, oMul, oNe, oEq, oIs, oIsnot, eqD, dep, gIx, gChain, gChain3, gTest, isBl, gIfS, gIt, gIl, gRng1, gRng2, gApp, gExt, gFrz, gAsgO, gNext, gTru, gNot, gAnd, gOr, gPart, gNoP, gSlT, gCatL, gNeg, gNm2, gZip, eq_self, if_true, ↓reduceIte, Bool.false_eq_true, if_false, List.getElem?_cons_zero, List.getElem?_cons_succ, List.set_cons_zero, List.set_cons_succ, gFor, List.length_cons, List.length_nil, List.cons_append, List.nil_append, cut_tail, List.drop_succ_cons, List.drop_zero]
  repeat (with_reducible refine ⟨ends_le (by omega), ?_⟩)
  refine ⟨fun i δ => ∃ (L : List D) (z : Sl), δ = bpS (.tup (x0 :: xs)) (.tup (y0 :: ys)) E c L z w ∧ (∀ d ∈ L, post d) ∧ L ≠ [] ∧ L.length ≤ 20 + i, ⟨L, z, rfl, hL, hne, hle⟩, ?_, ?_⟩
  · rintro i d δ ed ⟨L, z, rfl, hL, hne, hle⟩
    have hi : i < 7 := (List.getElem?_eq_some_iff.mp ed).1
    have hd := hr d (List.mem_of_getElem? ed)
    simp only [bpS, gRet, gAndV, gOrV, gNotV, gInst, isSub_int, isSub_bool, isSub_tuple, gVar, gSeq, gAsg, gNm, gC, gF, gLst, gConsA, gNilA, gTupE, gCallB, gCallF, gCallD, gCallR, gOpt, gOptP, cLen, cAbs, cAll, cTuple, cList, gOp, oInt, oIntC, oAdd, oMul, oNe, oEq, oIs, oIsnot, eqD, dep, gIx, gChain, gChain3, gTest, isBl, gIfS, gIt, gIl, gRng1, gRng2, gApp, gExt, gFrz, gAsgO, gNext, gTru, gNot, gAnd, gOr, gPart, gNoP, gSlT, gCatL, gNeg, gNm2, gZip, eq_self, if_true, ↓reduceIte, Bool.false_eq_true, if_false, List.getElem?_cons_zero, List.getElem?_cons_succ, List.set_cons_zero, List.set_cons_succ, List.length_cons, List.length_nil, List.cons_append, List.nil_append]
    repeat (with_reducible refine ⟨ends_le (by omega), ?_⟩)
    refine ⟨_, _, rfl, fun x hx => ?_, by simp, by simp; omega⟩
    rcases List.mem_append.mp hx with hx | hx
    · exact hL x hx
    · obtain rfl := List.mem_singleton.mp hx
      exact hd
  · rintro δ ⟨L, z, rfl, hL, hne, hle⟩
    simp only [g__law_bad_plan_5, bpS, gRet, gAndV, gOrV, gNotV, gInst, isSub_int, isSub_bool, isSub_tuple, gVar, gSeq, gAsg, gNm, gC, gF, gLst, gConsA, gNilA, gTupE, gCallB, gCallF, gCallD, gCallR, gOpt, gOptP, cLen, cAbs, cAll, cTuple, cList, gOp, oInt, oIntC, oAdd, oMul, oNe, oEq, oIs, oIsnot, eqD, dep, gIx, gChain, gChain3, gTest, isBl, gIfS, gIt, gIl, gRng1, gRng2, gApp, gExt, gFrz, gAsgO, gNext, gTru, gNot, gAnd, gOr, gPart, gNoP, gSlT, gCatL, gNeg, gNm2, gZip, eq_self, if_true, ↓reduceIte, Bool.false_eq_true, if_false, List.getElem?_cons_zero, List.getElem?_cons_succ, List.set_cons_zero, List.set_cons_succ, cut_tail, List.drop_succ_cons, List.drop_zero]
    exact bp6 _ y0 ys E c post hE hys hb L z hL hne (by simp at hle; omega)
theorem oMul9 (xs : List D) (Q : D → Prop) (h1 : xs ≠ []) (h2 : (xs.length : Int) * 9 ≤ sizeLine) (h3 : ∀ L : List D, L.length = 9 * xs.length → Q (.tup L)) : oMul (.tup xs) (.int 9) Q := by
  refine ⟨by omega, by omega, h1, h2, h3 _ ?_⟩
  rw [len_rep]
  rfl
theorem bp3 (x0 y0 : D) (xs ys E : List D) (c : Int) (post : D → Prop) (hE : E.length ≤ 8) (hys : ys.length ≤ 30) (hxs : xs.length ≤ 10) (hb : ∀ x ∈ nexts7 y0 ys (E.length + 1), post (.tup (.tup [.tup (x0 :: xs), x] :: E))) (hr : ∀ x ∈ rows7 x0 xs, post (.tup (.tup [x, .tup (y0 :: ys)] :: E)))
    (hz : post (D.tup (D.lst [.tup (x0 :: xs), .tup (y0 :: ys)] :: E))) (L : List D) (z w : Sl) (hL : ∀ d ∈ L, post d) (hle : L.length ≤ 10) : g__law_bad_plan_3 (retP post) (bpS (.tup (x0 :: xs)) (.tup (y0 :: ys)) E c L z w) := by
  simp only [g__law_bad_plan_3, bpS, gRet, gAndV, gOrV, gNotV, gInst, isSub_int, isSub_bool, isSub_tuple, gVar, gSeq, gAsg, gNm, gC, gF, gLst, gConsA, gNilA, gTupE, gCallB, gCallF, gCallD, gCallR, gOpt, gOptP, cLen, cAbs, cAll, cTuple, cList, gOp, oInt, oIntC, oAdd, oMul, oNe, oEq, oIs, oIsnot, eqD, dep, gIx, gChain, gChain3, gTest, isBl, gIfS, gIt, gIl, gRng1, gRng2, gApp, gExt, gFrz, gAsgO, gNext, gTru, gNot, gAnd, gOr, gPart, gNoP, gSlT, gCatL, gNeg, gNm2, gZip, eq_self, if_true, ↓reduceIte, Bool.false_eq_true, if_false, List.getElem?_cons_zero, List.getElem?_cons_succ, List.set_cons_zero, List.set_cons_succ, List.length_cons, List.length_nil, List.cons_append, List.nil_append]
  repeat (with_reducible refine ⟨ends_le (by omega), ?_⟩)
  refine bp4 x0 y0 xs ys E c post hE hys hxs hb hr _ _ _ (fun d hd => ?_) (by simp) (by simp; omega)
  rcases List.mem_append.mp hd with hd | hd
  · exact hL d hd
  · obtain rfl := List.mem_singleton.mp hd
    exact hz
theorem bp2 (R Nx : D) (E : List D) (c : Int) (post : D → Prop) (hE : E.length ≤ 8)
    (h3 : ∀ L : List D, (∀ d ∈ L, post d) → L.length ≤ 10 → g__law_bad_plan_3 (retP post) (bpS R Nx E c L .un .un))
    (hm : ∀ L : List D, L.length = 9 * (E.length + 1) → post (.tup L)) (hz : ∀ x ∈ [D.tup [], D.lst (D.tup [R, Nx] :: E), D.non, D.tup (D.tup [R, Nx, D.int 0] :: E), D.tup (D.tup [R] :: E), D.int 7, D.str (Str.ofString "plan")], post x) :
    g__law_bad_plan_2 (retP post) [.im (.tup (.tup [R, Nx] :: E)), .im (.int c), .im R, .im Nx, .im (.tup E), .un, .un, .un] := by
  simp only [g__law_bad_plan_2, gRet, gAndV, gOrV, gNotV, gInst, isSub_int, isSub_bool, isSub_tuple, gVar, gSeq, gAsg, gNm, gC, gF, gLst, gConsA, gNilA, gTupE, gCallB, gCallF, gCallD, gCallR, gOpt, gOptP, cLen, cAbs, cAll, cTuple, cList, gOp, oInt, oIntC, oAdd, oMulI, oNe, oEq, oIs, oIsnot, eqD, dep, gIx, gChain, gChain3, gTest, isBl, gIfS, gIt, gIl, gRng1, gRng2, gApp, gExt, gFrz, gAsgO, gNext, gTru, gNot, gAnd, gOr, gPart, gNoP, gSlT, gCatL, gNeg, gNm2, gZip, eq_self, if_true, ↓reduceIte, Bool.false_eq_true, if_false, List.getElem?_cons_zero, List.getElem?_cons_succ, List.set_cons_zero, List.set_cons_succ, List.length_cons, List.length_nil, List.cons_append, List.nil_append]
  refine ⟨ends_le (by omega), ?_⟩
  refine oMul9 _ _ (List.cons_ne_nil _ _) ?_ fun L hL => ?_
  · have : (1000 : Nat) ≤ sizeLine := ends_le (by decide)
    rw [List.length_cons]
    omega
  · have hpl := hm L (by rw [hL, List.length_cons])
    repeat (with_reducible refine ⟨ends_le (by omega), ?_⟩)
    refine h3 _ (fun d hd => ?_) (by simp)
    simp only [List.mem_cons, List.not_mem_nil, or_false] at hd hz
    rcases hd with rfl | rfl | rfl | rfl | rfl | rfl | rfl | rfl
    · exact hz _ (by simp)
    · exact hpl
    · exact hz _ (by simp)
    · exact hz _ (by simp)
    · exact hz _ (by simp)
    · exact hz _ (by simp)
    · exact hz _ (by simp)
    · exact hz _ (by simp)
theorem bp0 (x0 y0 : D) (xs ys E : List D) (c : Int) (post : D → Prop) (hE : E.length ≤ 8) (hys : ys.length ≤ 30) (hxs : xs.length ≤ 10) (hb : ∀ x ∈ nexts7 y0 ys (E.length + 1), post (.tup (.tup [.tup (x0 :: xs), x] :: E))) (hr : ∀ x ∈ rows7 x0 xs, post (.tup (.tup [x, .tup (y0 :: ys)] :: E)))
    (hm : ∀ L : List D, L.length = 9 * (E.length + 1) → post (.tup L)) (hl : post (D.tup (D.lst [.tup (x0 :: xs), .tup (y0 :: ys)] :: E)))
    (hz : ∀ x ∈ [D.tup [], D.lst (D.tup [.tup (x0 :: xs), .tup (y0 :: ys)] :: E), D.non, D.tup (D.tup [.tup (x0 :: xs), .tup (y0 :: ys), D.int 0] :: E), D.tup (D.tup [.tup (x0 :: xs)] :: E), D.int 7, D.str (Str.ofString "plan")], post x) :
    g__law_bad_plan (retP post) [.im (.tup (.tup [.tup (x0 :: xs), .tup (y0 :: ys)] :: E)), .im (.int c), .un, .un, .un, .un, .un, .un] := by
  have e0 : ∀ a : D, atI (a :: E) 0 = some a := fun a => by simp [atI, ixN]
  unfold g__law_bad_plan g__law_bad_plan_1
  simp only [gRet, gAndV, gOrV, gNotV, gInst, isSub_int, isSub_bool, isSub_tuple, gVar, gSeq, gAsg, gNm, gC, gF, gLst, gConsA, gNilA, gTupE, gCallB, gCallF, gCallD, gCallR, gOpt, gOptP, cLen, cAbs, cAll, cTuple, cList, gOp, oInt, oIntC, oAdd, oMulI, oNe, oEq, oIs, oIsnot, eqD, dep, gIx, gChain, gChain3, gTest, isBl, gIfS, gIt, gIl, gRng1, gRng2, gApp, gExt, gFrz, gAsgO, gNext, gTru, gNot, gAnd, gOr, gPart, gNoP, gSlT, gCatL, gNeg, gNm2, gZip, eq_self, if_true, ↓reduceIte, Bool.false_eq_true, if_false, List.getElem?_cons_zero, List.getElem?_cons_succ, List.set_cons_zero, List.set_cons_succ, e0, cut_tail, List.drop_succ_cons, List.drop_zero]
  exact bp2 _ _ E c post hE (fun L hL hle => bp3 x0 y0 xs ys E c post hE hys hxs hb hr hl L _ _ hL hle) hm hz
theorem vc__law_bad_plan : ∀ ds p, F__law_bad_plan ds = some p → g__law_bad_plan (retP p) (dstart ["_law_plan_here", "_law_cell_here", "_law_row_here", "_law_nexts", "_law_rest", "_law_some", "_law_bad", "_law_less"] ds)
  | [m, .int c], p, h => by
    classical
    have h' : (if ∃ ns pl, m = planD pl ∧ okDeeds ns = true ∧ 2 ≤ ns.length ∧ PlanOk ns pl then some (fun d => ∀ ns pl, m = planD pl → okDeeds ns = true → 2 ≤ ns.length → PlanOk ns pl → isPlan d ns = false) else none) = some p := h
    clear h
    split at h'
    · rename_i hh
      obtain ⟨ns, pl, rfl, ho, h2, K⟩ := hh
      have e := Option.some.inj h'
      subst e
      clear h'
      obtain ⟨l1, l2⟩ := rows_len ho
      obtain ⟨k1, k2⟩ := K.few
      obtain ⟨⟨r0, n0⟩, rest, rfl⟩ : ∃ s rest, pl = s :: rest := by
        cases pl with
        | nil => simp at k1
        | cons s rest => exact ⟨s, rest, rfl⟩
      have hrl : r0.length = ns.length := (rows_row (K.row _ List.mem_cons_self)).1
      have hnl : n0.length = (rowsL ns).length := (K.nexts _ List.mem_cons_self).1
      obtain ⟨m1, m2⟩ := okDeeds_mem ho
      obtain ⟨x0, xr, rfl⟩ : ∃ x0 xr, r0 = x0 :: xr := by
        cases r0 with
        | nil => simp at hrl; omega
        | cons x0 xr => exact ⟨x0, xr, rfl⟩
      obtain ⟨y0, yr, rfl⟩ : ∃ y0 yr, n0 = y0 :: yr := by
        cases n0 with
        | nil => simp at hnl; omega
        | cons x0 xr => exact ⟨x0, xr, rfl⟩
      have hxr : xr.length ≤ 10 := by rw [List.length_cons] at hrl; omega
      have hyr : yr.length ≤ 30 := by rw [List.length_cons] at hnl; omega
      have hre : rest.length ≤ 8 := by rw [List.length_cons] at k2; omega
      have hEl : (rest.map (fun s => D.tup [dInts s.1, dInts s.2])).length = rest.length := by rw [List.length_map]
      have bs : ∀ x : D, (∀ ns, okDeeds ns = true → 2 ≤ ns.length → PlanOk ns ((x0 :: xr, y0 :: yr) :: rest) → isState x ns ((rest.length + 1 : Nat) : Int) = false) → ∀ ns' pl', planD ((x0 :: xr, y0 :: yr) :: rest) = planD pl' → okDeeds ns' = true → 2 ≤ ns'.length → PlanOk ns' pl' → isPlan (.tup (x :: rest.map (fun s => D.tup [dInts s.1, dInts s.2]))) ns' = false := by
        intro x hx ns pl' e ho h2 K
        obtain rfl := planD_inj e
        refine plan_bad ?_
        rw [List.length_cons, hEl]
        exact hx ns ho h2 K
      refine bp0 (.int x0) (.int y0) (xr.map D.int) (yr.map D.int) (rest.map (fun s => D.tup [dInts s.1, dInts s.2])) c _ (by rw [hEl]; exact hre) (by rw [List.length_map]; exact hyr) (by rw [List.length_map]; exact hxr) ?_ ?_ ?_ ?_ ?_
      · intro d hd
        refine bs _ fun ns ho h2 K => state_nexts ?_
        have h : (y0 :: yr).length = (rowsL ns).length := (K.nexts _ List.mem_cons_self).1
        unfold nexts7 at hd
        rw [hEl] at hd
        simp only [List.mem_cons, List.not_mem_nil, or_false] at hd
        rcases hd with rfl | rfl | rfl | rfl | rfl | rfl | rfl
        · exact nexts_len (by rw [cut_init_len]; simp at h ⊢; omega)
        · exact nexts_len (by simp at h ⊢; omega)
        · exact nexts_bad (by simp [isBetween])
        · exact nexts_bad (by simp [isBetween]; omega)
        · exact nexts_bad rfl
        · rfl
        · rfl
      · intro d hd
        refine bs _ fun ns ho h2 K => state_row ?_
        have h : (x0 :: xr).length = ns.length := (rows_row (K.row _ List.mem_cons_self)).1
        have rb : ∀ (x : D) (z : List D), (∀ n : Int, n ≤ 3 → isBetween x 0 (n - 1) = false) → isRow (.tup (x :: z)) ns = false := by
          intro x z hx
          cases ns with
          | nil => simp at h2
          | cons n ns => exact isrow_bad (hx n ((okDeeds_mem ho).2 n List.mem_cons_self).2)
        unfold rows7 at hd
        simp only [List.mem_cons, List.not_mem_nil, or_false] at hd
        rcases hd with rfl | rfl | rfl | rfl | rfl | rfl | rfl
        · exact isrow_len (by rw [cut_init_len]; simp at h ⊢; omega)
        · exact isrow_len (by simp at h ⊢; omega)
        · exact rb _ _ fun n hn => by simp [isBetween]
        · exact rb _ _ fun n hn => by simp [isBetween]; omega
        · exact rb _ _ fun n hn => rfl
        · rfl
        · rfl
      · intro L hL ns pl' e ho h2 K
        refine plan_len (.inr ?_)
        omega
      · exact bs _ fun ns ho h2 K => rfl
      · intro d hd
        simp only [List.mem_cons, List.not_mem_nil, or_false] at hd
        rcases hd with rfl | rfl | rfl | rfl | rfl | rfl | rfl
        · intro ns pl' e ho h2 K
          exact plan_len (.inl (by simp))
        · intro ns pl' e ho h2 K
          rfl
        · intro ns pl' e ho h2 K
          rfl
        · exact bs _ fun ns ho h2 K => rfl
        · exact bs _ fun ns ho h2 K => rfl
        · intro ns pl' e ho h2 K
          rfl
        · intro ns pl' e ho h2 K
          rfl
    · cases h'
end L2
namespace L2
open PySem PySem.Spec PyProof.Rows
theorem meet_true {ns : List Int} {pay : List (List Int)} (M : MeetOk ns pay) : isMeeting (meetD ns pay) = true := by
  have hd := isDeeds_mk M.ok M.two
  have hp : isPay (.tup (pay.map dInts)) ns = true := by
    simp only [isPay, List.length_map, M.many, decide_true, Bool.true_and, List.all_map, List.all_eq_true]
    intro r hr
    obtain ⟨h1, h2⟩ := M.rows r hr
    simp only [Function.comp_def, dInts, isPayRow, List.length_map, h1, decide_true, Bool.true_and, List.all_map, List.all_eq_true]
    intro x hx
    simpa [isBetween] using h2 x hx
  have hd' : isDeeds (.tup (ns.map D.int)) = true := hd
  simp [isMeeting, meetD, dInts, hd', ints_map, hp]
theorem row_true {ns r : List Int} (h : r ∈ rowsL ns) : isRow (dInts r) ns = true := by
  have R := rows_row h
  simp only [isRow, dInts, List.length_map, R.1, decide_true, Bool.true_and, List.all_eq_true, id]
  intro b hb
  obtain ⟨i, hi, rfl⟩ := List.mem_iff_getElem.mp hb
  rw [List.length_zipWith, List.length_map] at hi
  rw [List.getElem_zipWith, List.getElem_map]
  have h1 : r[i]? = some r[i] := List.getElem?_eq_getElem (by omega)
  have h2 : ns[i]? = some ns[i] := List.getElem?_eq_getElem (by omega)
  have := R.2 i _ _ h1 h2
  simp [isBetween]
  omega
theorem plan_true {ns : List Int} {pl : List (List Int × List Int)} (K : PlanOk ns pl) : isPlan (planD pl) ns = true := by
  obtain ⟨k1, k2⟩ := K.few
  simp only [isPlan, planD, List.length_map, k1, k2, decide_true, Bool.true_and, List.all_map, List.all_eq_true]
  intro s hs
  have e1 := row_true (K.row s hs)
  obtain ⟨h1, h2⟩ := K.nexts s hs
  have e2 : isNexts (dInts s.2) ns pl.length = true := by
    simp only [isNexts, dInts, List.length_map, h1, decide_true, Bool.true_and, List.all_map, List.all_eq_true]
    intro x hx
    have := h2 x hx
    simp [isBetween]
    omega
  simp [Function.comp_def, isState, e1, e2]
theorem pat_true {u l : Int} (h1 : 0 < u) (h2 : u < l) (h3 : l ≤ 30) (h4 : Int.gcd u l = 1) : isPatience (.tup [.int u, .int l]) = true := by
  have : 1 ≤ l := by omega
  simp [isPatience, isFraction, h1, h2, h3, h4, this]
theorem deps_map (f : List Int → D) (l : List (List Int)) (h : ∀ r, dep (f r) ≤ 1) : deps (l.map f) ≤ 1 := by
  induction l with
  | nil => simp [deps]
  | cons r l ih =>
    rw [List.map_cons, deps]
    have := h r
    omega
theorem dep_dInts (r : List Int) : dep (dInts r) ≤ 1 := by
  unfold dInts
  rw [dep]
  have : ∀ l : List Int, deps (l.map D.int) = 0 := by
    intro l
    induction l with
    | nil => rfl
    | cons x l ih => rw [List.map_cons, deps, ih]; rfl
  rw [this]
  exact Nat.le_refl _
theorem Fbadm {ns : List Int} {pay : List (List Int)} (M : MeetOk ns pay) (c : Int) : F__law_bad_meeting [meetD ns pay, .int c] = some fun d => isMeeting d = false := by
  unfold F__law_bad_meeting
  exact if_pos ⟨ns, pay, rfl, M⟩
theorem Fbadp {ns : List Int} {pl : List (List Int × List Int)} (ho : okDeeds ns = true) (h2 : 2 ≤ ns.length) (K : PlanOk ns pl) (c : Int) : F__law_bad_plan [planD pl, .int c] = some fun d => ∀ ns pl', planD pl = planD pl' → okDeeds ns = true → 2 ≤ ns.length → PlanOk ns pl' → isPlan d ns = false := by
  unfold F__law_bad_plan
  exact if_pos ⟨ns, pl, rfl, ho, h2, K⟩
theorem vc_law : ∀ ds p, F_law ds = some p → g_law (retP p) (dstart ["_law_script", "_law_k", "_law_cell_here", "_law_meeting_here", "_law_plan_here", "_law_bad", "_law_some"] ds)
  | [.lst xs], p, h => by
    have h' : (match intsD xs with
      | some _ => some (fun d => d = D.bl true)
      | none => none) = some p := h
    clear h
    split at h'
    · rename_i ns0 e
      cases h'
      rw [ints_eq e]
      clear e
      show g_law _ [.im (.lst (ns0.map D.int)), .un, .un, .un, .un, .un, .un]
      -- the patiences that are none
      have tail : ∀ a b c d e f, g_law_1 (retP fun d => d = D.bl true) [.im (.lst (ns0.map D.int)), a, b, c, d, e, f] := by
        intro a b c d e f
        unfold g_law_1 g_law_2 g_law_3
        simp only [gRet, gAndV, gOrV, gNotV, gInst, isSub_int, isSub_bool, isSub_tuple, gVar, gSeq, gAsg, gNm, gC, gF, gLst, gConsA, gNilA, gTupE, gCallB, gCallF, gCallD, gCallR, gOpt, gOptP, cLen, cAbs, cAll, cTuple, cList, gOp, oInt, oIntC, oAdd, oMulI, oNe, oEq, oIs, oIsnot, eqD, dep, gIx, gChain, gChain3, gTest, isBl, gIfS, gIt, gIl, gRng1, gRng2, gApp, gExt, gFrz, gAsgO, gNext, gTru, gNot, gAnd, gOr, gPart, gNoP, gSlT, gCatL, gNeg, gNm2, gZip, eq_self, if_true, ↓reduceIte, Bool.false_eq_true, if_false, List.getElem?_cons_zero, List.getElem?_cons_succ, List.set_cons_zero, List.set_cons_succ, gFor, List.length_cons, List.length_nil, List.cons_append, List.nil_append]
        repeat (with_reducible refine ⟨ends_le (by omega), ?_⟩)
        refine ⟨fun i δ => ∃ (a b c d e f : Sl), δ = [.im (.lst (ns0.map D.int)), a, b, c, d, e, f], ⟨_, _, _, _, _, _, rfl⟩, ?_, ?_⟩
        · rintro i x δ ed ⟨a, b, c, d, e, f, rfl⟩
          have hb : isPatience x = false := by
            have := List.mem_of_getElem? ed
            simp only [List.mem_cons, List.not_mem_nil, or_false] at this
            rcases this with rfl | rfl | rfl | rfl | rfl | rfl | rfl | rfl | rfl | rfl | rfl | rfl | rfl | rfl <;> decide
          simp only [gRet, gAndV, gOrV, gNotV, gInst, isSub_int, isSub_bool, isSub_tuple, gVar, gSeq, gAsg, gNm, gC, gF, gLst, gConsA, gNilA, gTupE, gCallB, gCallF, gCallD, gCallR, gOpt, gOptP, cLen, cAbs, cAll, cTuple, cList, gOp, oInt, oIntC, oAdd, oMulI, oNe, oEq, oIs, oIsnot, eqD, dep, gIx, gChain, gChain3, gTest, isBl, gIfS, gIt, gIl, gRng1, gRng2, gApp, gExt, gFrz, gAsgO, gNext, gTru, gNot, gAnd, gOr, gPart, gNoP, gSlT, gCatL, gNeg, gNm2, gZip, eq_self, if_true, ↓reduceIte, Bool.false_eq_true, if_false, List.getElem?_cons_zero, List.getElem?_cons_succ, List.set_cons_zero, List.set_cons_succ, F_is_patience, hb, bne_self_eq_false]
          exact ⟨_, _, _, _, _, _, rfl⟩
        · rintro δ ⟨a, b, c, d, e, f, rfl⟩
          have p1 : isPatience (.tup [.int 29, .int 30]) = true := by decide
          have p2 : isPatience (.tup [.int 6, .int 9]) = false := by decide
          simp only [gRet, gAndV, gOrV, gNotV, gInst, isSub_int, isSub_bool, isSub_tuple, gVar, gSeq, gAsg, gNm, gC, gF, gLst, gConsA, gNilA, gTupE, gCallB, gCallF, gCallD, gCallR, gOpt, gOptP, cLen, cAbs, cAll, cTuple, cList, gOp, oInt, oIntC, oAdd, oMulI, oNe, oEq, oIs, oIsnot, eqD, dep, gIx, gChain, gChain3, gTest, isBl, gIfS, gIt, gIl, gRng1, gRng2, gApp, gExt, gFrz, gAsgO, gNext, gTru, gNot, gAnd, gOr, gPart, gNoP, gSlT, gCatL, gNeg, gNm2, gZip, eq_self, if_true, ↓reduceIte, Bool.false_eq_true, if_false, List.getElem?_cons_zero, List.getElem?_cons_succ, List.set_cons_zero, List.set_cons_succ, F_is_patience, p1, p2, List.length_cons, List.length_nil, beq_self_eq_true]
          exact ⟨ends_le (by omega), ends_le (by omega), trivial⟩
      unfold g_law
      simp only [gRet, gAndV, gOrV, gNotV, gInst, isSub_int, isSub_bool, isSub_tuple, gVar, gSeq, gAsg, gNm, gC, gF, gLst, gConsA, gNilA, gTupE, gCallB, gCallF, gCallD, gCallR, gOpt, gOptP, cLen, cAbs, cAll, cTuple, cList, gOp, oInt, oIntC, oAdd, oMulI, oNe, oEq, oIs, oIsnot, eqD, dep, gIx, gChain, gChain3, gTest, isBl, gIfS, gIt, gIl, gRng1, gRng2, gApp, gExt, gFrz, gAsgO, gNext, gTru, gNot, gAnd, gOr, gPart, gNoP, gSlT, gCatL, gNeg, gNm2, gZip, eq_self, if_true, ↓reduceIte, Bool.false_eq_true, if_false, List.getElem?_cons_zero, List.getElem?_cons_succ, List.set_cons_zero, List.set_cons_succ, gFor]
      refine ⟨by decide, fun i δ => ∃ (a b c d e f : Sl), δ = [.im (.lst (ns0.map D.int)), a, b, c, d, e, f], ⟨_, _, _, _, _, _, rfl⟩, ?_, ?_⟩
      · rintro i x δ ed ⟨a, b, c, d, e, f, rfl⟩
        unfold rangeD at ed
        obtain ⟨hi, rfl⟩ := getm_map ed
        rw [List.length_range] at hi
        have hi' : i < 4 := hi
        have fc : ∀ k : Int, 0 ≤ k → F__law_cell [.lst (ns0.map D.int), .int k] = some (.int (ns0.getD k.toNat 0)) := by
          intro k hk
          unfold F__law_cell
          simp only [ints_map, if_pos hk]
        have fcs : ∀ k : Int, 0 ≤ k → F__law_cells [.lst (ns0.map D.int), .int k] = some (.lst (((List.range 4).map fun (n : Nat) => ns0.getD (k.toNat + n) 0).map D.int)) := by
          intro k hk
          unfold F__law_cells
          simp only [ints_map, if_pos hk, List.map_map, Function.comp_def]
        simp only [List.getElem_range, gRet, gAndV, gOrV, gNotV, gInst, isSub_int, isSub_bool, isSub_tuple, gVar, gSeq, gAsg, gNm, gC, gF, gLst, gConsA, gNilA, gTupE, gCallB, gCallF, gCallD, gCallR, gOpt, gOptP, cLen, cAbs, cAll, cTuple, cList, gOp, oInt, oIntC, oAdd, oMulI, oNe, oEq, oIs, oIsnot, eqD, dep, gIx, gChain, gChain3, gTest, isBl, gIfS, gIt, gIl, gRng1, gRng2, gApp, gExt, gFrz, gAsgO, gNext, gTru, gNot, gAnd, gOr, gPart, gNoP, gSlT, gCatL, gNeg, gNm2, gZip, eq_self, if_true, ↓reduceIte, Bool.false_eq_true, if_false, List.getElem?_cons_zero, List.getElem?_cons_succ, List.set_cons_zero, List.set_cons_succ, fc (5 * (0 + (i : Int))) (by omega)]
        generalize ns0.getD (5 * (0 + (i : Int))).toNat 0 = c
        refine ⟨Or.inl ⟨by decide, by decide⟩, ?_⟩
        simp only [F__law_meeting]
        rintro m ⟨ns, pay, rfl, M⟩
        have ho := M.ok
        have j0 : ∀ q : D, atI [dInts ns, q] 0 = some (dInts ns) := fun q => rfl
        have e1 : F_all_rows [meetD ns pay] = some (.tup ((rowsL ns).map dInts)) := onDeeds_of _ ho
        have e2 : dep (.tup ((rowsL ns).map dInts)) ≤ 32 := by
          rw [dep]
          have := deps_map dInts (rowsL ns) dep_dInts
          omega
        have e3 : ∀ d, eqD d d = some true := eqD_self
        have mt : isMeeting (.tup [dInts ns, .tup (pay.map dInts)]) = true := meet_true M
        have e1' : F_all_rows [.tup [dInts ns, .tup (pay.map dInts)]] = some (.tup ((rowsL ns).map dInts)) := e1
        simp only [F_is_meeting, meetD, mt, bne_self_eq_false, gRet, gAndV, gOrV, gNotV, gInst, isSub_int, isSub_bool, isSub_tuple, gVar, gSeq, gAsg, gNm, gC, gF, gLst, gConsA, gNilA, gTupE, gCallB, gCallF, gCallD, gCallR, gOpt, gOptP, cLen, cAbs, cAll, cTuple, cList, gOp, oInt, oIntC, oAdd, oMulI, oNe, oEq, oIs, oIsnot, eqD, dep, gIx, gChain, gChain3, gTest, isBl, gIfS, gIt, gIl, gRng1, gRng2, gApp, gExt, gFrz, gAsgO, gNext, gTru, gNot, gAnd, gOr, gPart, gNoP, gSlT, gCatL, gNeg, gNm2, gZip, eq_self, if_true, ↓reduceIte, Bool.false_eq_true, if_false, List.getElem?_cons_zero, List.getElem?_cons_succ, List.set_cons_zero, List.set_cons_succ, e1', j0, Frows ho, eqDs_self, Option.map_some, beq_self_eq_true, Bool.and_true, Bool.and_self, Bool.not_true]
        refine ⟨e2, Or.inl ⟨by decide, by decide⟩, ?_⟩
        simp only [fcs (5 * (0 + (i : Int)) + 1) (by omega)]
        have hl4 : ((List.range 4).map fun (n : Nat) => ns0.getD ((5 * (0 + (i : Int)) + 1).toNat + n) 0).length = 4 := by simp
        generalize ((List.range 4).map fun (n : Nat) => ns0.getD ((5 * (0 + (i : Int)) + 1).toNat + n) 0) = cs at hl4
        have e4 : F__law_plan [.tup [dInts ns, .tup (pay.map dInts)], .lst (cs.map D.int), .int 8] = some fun d => ∃ pl, d = planD pl ∧ PlanOk ns pl := by
          unfold F__law_plan dInts
          simp only [ints_map]
          exact if_pos ⟨ho, hl4, trivial⟩
        simp only [e4]
        rintro pd ⟨pl, rfl, K⟩
        have e5 : ∀ x : D, F_is_plan [x, .tup [dInts ns, .tup (pay.map dInts)]] = some (.bl (isPlan x ns)) := fun x => onDeeds_of _ ho
        simp only [e5, plan_true K, bne_self_eq_false, gRet, gAndV, gOrV, gNotV, gInst, isSub_int, isSub_bool, isSub_tuple, gVar, gSeq, gAsg, gNm, gC, gF, gLst, gConsA, gNilA, gTupE, gCallB, gCallF, gCallD, gCallR, gOpt, gOptP, cLen, cAbs, cAll, cTuple, cList, gOp, oInt, oIntC, oAdd, oMulI, oNe, oEq, oIs, oIsnot, eqD, dep, gIx, gChain, gChain3, gTest, isBl, gIfS, gIt, gIl, gRng1, gRng2, gApp, gExt, gFrz, gAsgO, gNext, gTru, gNot, gAnd, gOr, gPart, gNoP, gSlT, gCatL, gNeg, gNm2, gZip, eq_self, if_true, ↓reduceIte, Bool.false_eq_true, if_false, List.getElem?_cons_zero, List.getElem?_cons_succ, List.set_cons_zero, List.set_cons_succ, F__law_patience]
        rintro pd ⟨u, l, rfl, u1, u2, u3, u4⟩
        simp only [F_is_patience, pat_true u1 u2 u3 u4, bne_self_eq_false, gRet, gAndV, gOrV, gNotV, gInst, isSub_int, isSub_bool, isSub_tuple, gVar, gSeq, gAsg, gNm, gC, gF, gLst, gConsA, gNilA, gTupE, gCallB, gCallF, gCallD, gCallR, gOpt, gOptP, cLen, cAbs, cAll, cTuple, cList, gOp, oInt, oIntC, oAdd, oMulI, oNe, oEq, oIs, oIsnot, eqD, dep, gIx, gChain, gChain3, gTest, isBl, gIfS, gIt, gIl, gRng1, gRng2, gApp, gExt, gFrz, gAsgO, gNext, gTru, gNot, gAnd, gOr, gPart, gNoP, gSlT, gCatL, gNeg, gNm2, gZip, eq_self, if_true, ↓reduceIte, Bool.false_eq_true, if_false, List.getElem?_cons_zero, List.getElem?_cons_succ, List.set_cons_zero, List.set_cons_succ, List.length_cons, List.length_nil]
        refine ⟨⟨by decide, by decide⟩, ⟨by decide, by decide⟩, ends_le (by omega), fun _ δ => ∃ (e f : Sl), δ = [.im (.lst (ns0.map D.int)), .im (.int (0 + (i : Int))), .im (.int c), .im (.tup [dInts ns, .tup (pay.map dInts)]), .im (planD pl), e, f], ⟨_, _, rfl⟩, ?_, ?_⟩
        · rintro k x δ ed ⟨e, f, rfl⟩
          obtain ⟨y, rfl⟩ : ∃ y : Int, x = .int y := by
            have := List.mem_of_getElem? ed
            simp only [List.mem_cons, List.not_mem_nil, or_false] at this
            rcases this with rfl | rfl
            · exact ⟨_, rfl⟩
            · exact ⟨_, rfl⟩
          have e6 : F__law_bad_meeting [.tup [dInts ns, .tup (pay.map dInts)], .int y] = some fun d => isMeeting d = false := Fbadm M y
          simp only [gRet, gAndV, gOrV, gNotV, gInst, isSub_int, isSub_bool, isSub_tuple, gVar, gSeq, gAsg, gNm, gC, gF, gLst, gConsA, gNilA, gTupE, gCallB, gCallF, gCallD, gCallR, gOpt, gOptP, cLen, cAbs, cAll, cTuple, cList, gOp, oInt, oIntC, oAdd, oMulI, oNe, oEq, oIs, oIsnot, eqD, dep, gIx, gChain, gChain3, gTest, isBl, gIfS, gIt, gIl, gRng1, gRng2, gApp, gExt, gFrz, gAsgO, gNext, gTru, gNot, gAnd, gOr, gPart, gNoP, gSlT, gCatL, gNeg, gNm2, gZip, eq_self, if_true, ↓reduceIte, Bool.false_eq_true, if_false, List.getElem?_cons_zero, List.getElem?_cons_succ, List.set_cons_zero, List.set_cons_succ, e6]
          intro d1 h1
          simp only [h1, bne_self_eq_false, gRet, gAndV, gOrV, gNotV, gInst, isSub_int, isSub_bool, isSub_tuple, gVar, gSeq, gAsg, gNm, gC, gF, gLst, gConsA, gNilA, gTupE, gCallB, gCallF, gCallD, gCallR, gOpt, gOptP, cLen, cAbs, cAll, cTuple, cList, gOp, oInt, oIntC, oAdd, oMulI, oNe, oEq, oIs, oIsnot, eqD, dep, gIx, gChain, gChain3, gTest, isBl, gIfS, gIt, gIl, gRng1, gRng2, gApp, gExt, gFrz, gAsgO, gNext, gTru, gNot, gAnd, gOr, gPart, gNoP, gSlT, gCatL, gNeg, gNm2, gZip, eq_self, if_true, ↓reduceIte, Bool.false_eq_true, if_false, List.getElem?_cons_zero, List.getElem?_cons_succ, List.set_cons_zero, List.set_cons_succ, Fbadp ho M.two K y]
          intro d2 h2
          simp only [e5, h2 ns pl rfl ho M.two K, bne_self_eq_false, gRet, gAndV, gOrV, gNotV, gInst, isSub_int, isSub_bool, isSub_tuple, gVar, gSeq, gAsg, gNm, gC, gF, gLst, gConsA, gNilA, gTupE, gCallB, gCallF, gCallD, gCallR, gOpt, gOptP, cLen, cAbs, cAll, cTuple, cList, gOp, oInt, oIntC, oAdd, oMulI, oNe, oEq, oIs, oIsnot, eqD, dep, gIx, gChain, gChain3, gTest, isBl, gIfS, gIt, gIl, gRng1, gRng2, gApp, gExt, gFrz, gAsgO, gNext, gTru, gNot, gAnd, gOr, gPart, gNoP, gSlT, gCatL, gNeg, gNm2, gZip, eq_self, if_true, ↓reduceIte, Bool.false_eq_true, if_false, List.getElem?_cons_zero, List.getElem?_cons_succ, List.set_cons_zero, List.set_cons_succ]
          exact ⟨_, _, rfl⟩
        · rintro δ ⟨e, f, rfl⟩
          exact ⟨_, _, _, _, _, _, rfl⟩
      · rintro δ ⟨a, b, c, d, e, f, rfl⟩
        exact tail _ _ _ _ _ _
    · cases h'
end L2
namespace L2
open PySem PySem.Spec PyProof.Rows
theorem len_is_whole : ∀ ds d, F_is_whole ds = some d → ds.length = (["thing"] : List Str).length := by
  intro ds d h
  unfold F_is_whole at h
  split at h
  all_goals first | rfl | cases h
theorem len_common_divisor : ∀ ds d, F_common_divisor ds = some d → ds.length = (["one", "other"] : List Str).length := by
  intro ds d h
  unfold F_common_divisor at h
  split at h
  all_goals first | rfl | cases h
theorem len_rows_of : ∀ ds d, F_rows_of ds = some d → ds.length = (["deeds"] : List Str).length := by
  intro ds d h
  unfold F_rows_of at h
  split at h
  all_goals first | rfl | cases h
theorem len_is_tuple_of : ∀ ds d, F_is_tuple_of ds = some d → ds.length = (["thing", "fewest", "most"] : List Str).length := by
  intro ds d h
  unfold F_is_tuple_of at h
  split at h
  all_goals first | rfl | cases h
theorem len__law_cell : ∀ ds d, F__law_cell ds = some d → ds.length = (["_law_script", "_law_k"] : List Str).length := by
  intro ds d h
  unfold F__law_cell at h
  split at h
  all_goals first | rfl | cases h
theorem len__law_mix : ∀ ds d, F__law_mix ds = some d → ds.length = (["_law_cell_here", "_law_prime", "_law_many"] : List Str).length := by
  intro ds d h
  unfold F__law_mix at h
  split at h
  all_goals first | rfl | cases h
theorem len__law_rows : ∀ ds d, F__law_rows ds = some d → ds.length = (["_law_deeds"] : List Str).length := by
  intro ds d h
  unfold F__law_rows at h
  split at h
  all_goals first | rfl | cases h
theorem len__law_bad_meeting : ∀ ds d, F__law_bad_meeting ds = some d → ds.length = (["_law_meeting_here", "_law_cell_here"] : List Str).length := by
  intro ds d h
  unfold F__law_bad_meeting at h
  split at h
  all_goals first | rfl | cases h
theorem len__law_bad_plan : ∀ ds d, F__law_bad_plan ds = some d → ds.length = (["_law_plan_here", "_law_cell_here"] : List Str).length := by
  intro ds d h
  unfold F__law_bad_plan at h
  split at h
  all_goals first | rfl | cases h
theorem len_is_fraction : ∀ ds d, F_is_fraction ds = some d → ds.length = (["thing"] : List Str).length := by
  intro ds d h
  unfold F_is_fraction at h
  split at h
  all_goals first | rfl | cases h
theorem len_all_rows : ∀ ds d, F_all_rows ds = some d → ds.length = (["meeting"] : List Str).length := by
  intro ds d h
  unfold F_all_rows at h
  split at h
  all_goals first | rfl | cases h
theorem len_is_between : ∀ ds d, F_is_between ds = some d → ds.length = (["thing", "least", "most"] : List Str).length := by
  intro ds d h
  unfold F_is_between at h
  split at h
  all_goals first | rfl | cases h
theorem len__law_meeting : ∀ ds d, F__law_meeting ds = some d → ds.length = (["_law_cell_here"] : List Str).length := by
  intro ds d h
  unfold F__law_meeting at h
  split at h
  all_goals first | rfl | cases h
theorem len__law_patience : ∀ ds d, F__law_patience ds = some d → ds.length = (["_law_cell_here"] : List Str).length := by
  intro ds d h
  unfold F__law_patience at h
  split at h
  all_goals first | rfl | cases h
theorem len__law_row : ∀ ds d, F__law_row ds = some d → ds.length = (["_law_meeting_here", "_law_cell_here"] : List Str).length := by
  intro ds d h
  unfold F__law_row at h
  split at h
  all_goals first | rfl | cases h
theorem len__law_cells : ∀ ds d, F__law_cells ds = some d → ds.length = (["_law_script", "_law_k"] : List Str).length := by
  intro ds d h
  unfold F__law_cells at h
  split at h
  all_goals first | rfl | cases h
theorem len_is_patience : ∀ ds d, F_is_patience ds = some d → ds.length = (["thing"] : List Str).length := by
  intro ds d h
  unfold F_is_patience at h
  split at h
  all_goals first | rfl | cases h
theorem len_is_row : ∀ ds d, F_is_row ds = some d → ds.length = (["thing", "deeds"] : List Str).length := by
  intro ds d h
  unfold F_is_row at h
  split at h
  all_goals first | rfl | cases h
theorem len_are_between : ∀ ds d, F_are_between ds = some d → ds.length = (["parts", "least", "most"] : List Str).length := by
  intro ds d h
  unfold F_are_between at h
  split at h
  all_goals first | rfl | cases h
theorem len__law_plan : ∀ ds d, F__law_plan ds = some d → ds.length = (["_law_meeting_here", "_law_cells_here", "_law_most"] : List Str).length := by
  intro ds d h
  unfold F__law_plan at h
  split at h
  all_goals first | rfl | cases h
theorem len_is_deeds : ∀ ds d, F_is_deeds ds = some d → ds.length = (["thing"] : List Str).length := by
  intro ds d h
  unfold F_is_deeds at h
  split at h
  all_goals first | rfl | cases h
theorem len_is_pay_of_row : ∀ ds d, F_is_pay_of_row ds = some d → ds.length = (["thing", "hands"] : List Str).length := by
  intro ds d h
  unfold F_is_pay_of_row at h
  split at h
  all_goals first | rfl | cases h
theorem len_is_nexts : ∀ ds d, F_is_nexts ds = some d → ds.length = (["thing", "deeds", "states"] : List Str).length := by
  intro ds d h
  unfold F_is_nexts at h
  split at h
  all_goals first | rfl | cases h
theorem len_is_pay : ∀ ds d, F_is_pay ds = some d → ds.length = (["thing", "deeds"] : List Str).length := by
  intro ds d h
  unfold F_is_pay at h
  split at h
  all_goals first | rfl | cases h
theorem len_is_state : ∀ ds d, F_is_state ds = some d → ds.length = (["thing", "deeds", "states"] : List Str).length := by
  intro ds d h
  unfold F_is_state at h
  split at h
  all_goals first | rfl | cases h
theorem len_is_meeting : ∀ ds d, F_is_meeting ds = some d → ds.length = (["thing"] : List Str).length := by
  intro ds d h
  unfold F_is_meeting at h
  split at h
  all_goals first | rfl | cases h
theorem len_is_plan : ∀ ds d, F_is_plan ds = some d → ds.length = (["thing", "meeting"] : List Str).length := by
  intro ds d h
  unfold F_is_plan at h
  split at h
  all_goals first | rfl | cases h
theorem len_law : ∀ ds d, F_law ds = some d → ds.length = (["_law_script"] : List Str).length := by
  intro ds d h
  unfold F_law at h
  split at h
  all_goals first | rfl | cases h
theorem last_law {P : Program} {w : World} {K : PySem.W.Frag} {mg : Str → Option Value} {base : Heap} {f : Addr} {fd : FuncData} (T : Txt K mg) (H_is_whole : FunAt K mg "is_whole" s_is_whole ["thing"]) (H_common_divisor : FunAt K mg "common_divisor" s_common_divisor ["one", "other"]) (H_rows_of : FunAt K mg "rows_of" s_rows_of ["deeds"]) (H_is_tuple_of : FunAt K mg "is_tuple_of" s_is_tuple_of ["thing", "fewest", "most"]) (H__law_cell : FunAt K mg "_law_cell" s__law_cell ["_law_script", "_law_k"]) (H__law_mix : FunAt K mg "_law_mix" s__law_mix ["_law_cell_here", "_law_prime", "_law_many"]) (H__law_rows : FunAt K mg "_law_rows" s__law_rows ["_law_deeds"]) (H__law_bad_meeting : FunAt K mg "_law_bad_meeting" s__law_bad_meeting ["_law_meeting_here", "_law_cell_here"]) (H__law_bad_plan : FunAt K mg "_law_bad_plan" s__law_bad_plan ["_law_plan_here", "_law_cell_here"]) (H_is_fraction : FunAt K mg "is_fraction" s_is_fraction ["thing"]) (H_all_rows : FunAt K mg "all_rows" s_all_rows ["meeting"]) (H_is_between : FunAt K mg "is_between" s_is_between ["thing", "least", "most"]) (H__law_meeting : FunAt K mg "_law_meeting" s__law_meeting ["_law_cell_here"]) (H__law_patience : FunAt K mg "_law_patience" s__law_patience ["_law_cell_here"]) (H__law_row : FunAt K mg "_law_row" s__law_row ["_law_meeting_here", "_law_cell_here"]) (H__law_cells : FunAt K mg "_law_cells" s__law_cells ["_law_script", "_law_k"]) (H_is_patience : FunAt K mg "is_patience" s_is_patience ["thing"]) (H_is_row : FunAt K mg "is_row" s_is_row ["thing", "deeds"]) (H_are_between : FunAt K mg "are_between" s_are_between ["parts", "least", "most"]) (H__law_plan : FunAt K mg "_law_plan" s__law_plan ["_law_meeting_here", "_law_cells_here", "_law_most"]) (H_is_deeds : FunAt K mg "is_deeds" s_is_deeds ["thing"]) (H_is_pay_of_row : FunAt K mg "is_pay_of_row" s_is_pay_of_row ["thing", "hands"]) (H_is_nexts : FunAt K mg "is_nexts" s_is_nexts ["thing", "deeds", "states"]) (H_is_pay : FunAt K mg "is_pay" s_is_pay ["thing", "deeds"]) (H_is_state : FunAt K mg "is_state" s_is_state ["thing", "deeds", "states"]) (H_is_meeting : FunAt K mg "is_meeting" s_is_meeting ["thing"]) (H_is_plan : FunAt K mg "is_plan" s_is_plan ["thing", "meeting"]) (FL : Fun K "law" "law" s_law f fd) : FnOk P w K mg base CX0 7 f fd ["_law_script"] (spR K F_law) := by
  have h_is_whole : DFn P w K mg base 1 "is_whole" F_is_whole := by
    obtain ⟨f, fd, Fn, hm, bi⟩ := H_is_whole
    exact fnD Fn sc_is_whole len_is_whole (fun cdv A outer s H E hr => body_is_whole T  hr) vc_is_whole hm bi
  have h_common_divisor : DFn P w K mg base 1 "common_divisor" F_common_divisor := by
    obtain ⟨f, fd, Fn, hm, bi⟩ := H_common_divisor
    exact fnD Fn sc_common_divisor len_common_divisor (fun cdv A outer s H E hr => body_common_divisor T  hr) vc_common_divisor hm bi
  have h_rows_of : DFn P w K mg base 1 "rows_of" F_rows_of := by
    obtain ⟨f, fd, Fn, hm, bi⟩ := H_rows_of
    exact fnD Fn sc_rows_of len_rows_of (fun cdv A outer s H E hr => body_rows_of T  hr) vc_rows_of hm bi
  have h_is_tuple_of : DFn P w K mg base 1 "is_tuple_of" F_is_tuple_of := by
    obtain ⟨f, fd, Fn, hm, bi⟩ := H_is_tuple_of
    exact fnD Fn sc_is_tuple_of len_is_tuple_of (fun cdv A outer s H E hr => body_is_tuple_of T  hr) vc_is_tuple_of hm bi
  have h__law_cell : DFn P w K mg base 1 "_law_cell" F__law_cell := by
    obtain ⟨f, fd, Fn, hm, bi⟩ := H__law_cell
    exact fnD Fn sc__law_cell len__law_cell (fun cdv A outer s H E hr => body__law_cell T  hr) vc__law_cell hm bi
  have h__law_mix : DFn P w K mg base 1 "_law_mix" F__law_mix := by
    obtain ⟨f, fd, Fn, hm, bi⟩ := H__law_mix
    exact fnD Fn sc__law_mix len__law_mix (fun cdv A outer s H E hr => body__law_mix T  hr) vc__law_mix hm bi
  have h__law_rows : DFn P w K mg base 1 "_law_rows" F__law_rows := by
    obtain ⟨f, fd, Fn, hm, bi⟩ := H__law_rows
    exact fnD Fn sc__law_rows len__law_rows (fun cdv A outer s H E hr => body__law_rows T  hr) vc__law_rows hm bi
  have h__law_bad_meeting : DFnR P w K mg base 1 "_law_bad_meeting" F__law_bad_meeting := by
    obtain ⟨f, fd, Fn, hm, bi⟩ := H__law_bad_meeting
    exact fnR Fn sc__law_bad_meeting len__law_bad_meeting (fun cdv A outer s H E hr => body__law_bad_meeting T  hr) vc__law_bad_meeting hm bi
  have h__law_bad_plan : DFnR P w K mg base 1 "_law_bad_plan" F__law_bad_plan := by
    obtain ⟨f, fd, Fn, hm, bi⟩ := H__law_bad_plan
    exact fnR Fn sc__law_bad_plan len__law_bad_plan (fun cdv A outer s H E hr => body__law_bad_plan T  hr) vc__law_bad_plan hm bi
  have h_is_fraction : DFn P w K mg base 2 "is_fraction" F_is_fraction := by
    obtain ⟨f, fd, Fn, hm, bi⟩ := H_is_fraction
    exact fnD Fn sc_is_fraction len_is_fraction (fun cdv A outer s H E hr => body_is_fraction T h_is_whole h_common_divisor hr) vc_is_fraction hm bi
  have h_all_rows : DFn P w K mg base 2 "all_rows" F_all_rows := by
    obtain ⟨f, fd, Fn, hm, bi⟩ := H_all_rows
    exact fnD Fn sc_all_rows len_all_rows (fun cdv A outer s H E hr => body_all_rows T h_rows_of hr) vc_all_rows hm bi
  have h_is_between : DFn P w K mg base 2 "is_between" F_is_between := by
    obtain ⟨f, fd, Fn, hm, bi⟩ := H_is_between
    exact fnD Fn sc_is_between len_is_between (fun cdv A outer s H E hr => body_is_between T h_is_whole hr) vc_is_between hm bi
  have h__law_meeting : DFnR P w K mg base 2 "_law_meeting" F__law_meeting := by
    obtain ⟨f, fd, Fn, hm, bi⟩ := H__law_meeting
    exact fnR Fn sc__law_meeting len__law_meeting (fun cdv A outer s H E hr => body__law_meeting T h__law_mix h__law_rows hr) vc__law_meeting hm bi
  have h__law_patience : DFnR P w K mg base 2 "_law_patience" F__law_patience := by
    obtain ⟨f, fd, Fn, hm, bi⟩ := H__law_patience
    exact fnR Fn sc__law_patience len__law_patience (fun cdv A outer s H E hr => body__law_patience T h__law_mix hr) vc__law_patience hm bi
  have h__law_row : DFn P w K mg base 2 "_law_row" F__law_row := by
    obtain ⟨f, fd, Fn, hm, bi⟩ := H__law_row
    exact fnD Fn sc__law_row len__law_row (fun cdv A outer s H E hr => body__law_row T h__law_rows h__law_mix hr) vc__law_row hm bi
  have h__law_cells : DFn P w K mg base 2 "_law_cells" F__law_cells := by
    obtain ⟨f, fd, Fn, hm, bi⟩ := H__law_cells
    exact fnD Fn sc__law_cells len__law_cells (fun cdv A outer s H E hr => body__law_cells T h__law_cell hr) vc__law_cells hm bi
  have h_is_patience : DFn P w K mg base 3 "is_patience" F_is_patience := by
    obtain ⟨f, fd, Fn, hm, bi⟩ := H_is_patience
    exact fnD Fn sc_is_patience len_is_patience (fun cdv A outer s H E hr => body_is_patience T h_is_fraction hr) vc_is_patience hm bi
  have h_is_row : DFn P w K mg base 3 "is_row" F_is_row := by
    obtain ⟨f, fd, Fn, hm, bi⟩ := H_is_row
    exact fnD Fn sc_is_row len_is_row (fun cdv A outer s H E hr => body_is_row T h_is_tuple_of h_is_between hr) vc_is_row hm bi
  have h_are_between : DFn P w K mg base 3 "are_between" F_are_between := by
    obtain ⟨f, fd, Fn, hm, bi⟩ := H_are_between
    exact fnD Fn sc_are_between len_are_between (fun cdv A outer s H E hr => body_are_between T h_is_between hr) vc_are_between hm bi
  have h__law_plan : DFnR P w K mg base 3 "_law_plan" F__law_plan := by
    obtain ⟨f, fd, Fn, hm, bi⟩ := H__law_plan
    exact fnR Fn sc__law_plan len__law_plan (fun cdv A outer s H E hr => body__law_plan T h__law_mix h__law_rows h__law_row hr) vc__law_plan hm bi
  have h_is_deeds : DFn P w K mg base 4 "is_deeds" F_is_deeds := by
    obtain ⟨f, fd, Fn, hm, bi⟩ := H_is_deeds
    exact fnD Fn sc_is_deeds len_is_deeds (fun cdv A outer s H E hr => body_is_deeds T h_is_tuple_of h_are_between hr) vc_is_deeds hm bi
  have h_is_pay_of_row : DFn P w K mg base 4 "is_pay_of_row" F_is_pay_of_row := by
    obtain ⟨f, fd, Fn, hm, bi⟩ := H_is_pay_of_row
    exact fnD Fn sc_is_pay_of_row len_is_pay_of_row (fun cdv A outer s H E hr => body_is_pay_of_row T h_is_tuple_of h_are_between hr) vc_is_pay_of_row hm bi
  have h_is_nexts : DFn P w K mg base 4 "is_nexts" F_is_nexts := by
    obtain ⟨f, fd, Fn, hm, bi⟩ := H_is_nexts
    exact fnD Fn sc_is_nexts len_is_nexts (fun cdv A outer s H E hr => body_is_nexts T h_rows_of h_is_tuple_of h_are_between hr) vc_is_nexts hm bi
  have h_is_pay : DFn P w K mg base 5 "is_pay" F_is_pay := by
    obtain ⟨f, fd, Fn, hm, bi⟩ := H_is_pay
    exact fnD Fn sc_is_pay len_is_pay (fun cdv A outer s H E hr => body_is_pay T h_rows_of h_is_tuple_of h_is_pay_of_row hr) vc_is_pay hm bi
  have h_is_state : DFn P w K mg base 5 "is_state" F_is_state := by
    obtain ⟨f, fd, Fn, hm, bi⟩ := H_is_state
    exact fnD Fn sc_is_state len_is_state (fun cdv A outer s H E hr => body_is_state T h_is_tuple_of h_is_row h_is_nexts hr) vc_is_state hm bi
  have h_is_meeting : DFn P w K mg base 6 "is_meeting" F_is_meeting := by
    obtain ⟨f, fd, Fn, hm, bi⟩ := H_is_meeting
    exact fnD Fn sc_is_meeting len_is_meeting (fun cdv A outer s H E hr => body_is_meeting T h_is_tuple_of h_is_deeds h_is_pay hr) vc_is_meeting hm bi
  have h_is_plan : DFn P w K mg base 6 "is_plan" F_is_plan := by
    obtain ⟨f, fd, Fn, hm, bi⟩ := H_is_plan
    exact fnD Fn sc_is_plan len_is_plan (fun cdv A outer s H E hr => body_is_plan T h_is_tuple_of h_is_state hr) vc_is_plan hm bi
  exact fnR0 FL sc_law len_law (fun cdv A outer s H E hr => body_law T h__law_cell h__law_meeting h_is_meeting h_all_rows h__law_rows h__law_cells h__law_plan h_is_plan h__law_patience h_is_patience h__law_bad_meeting h__law_bad_plan hr) vc_law
theorem walk_law {l : PySem.W.OpenLaw} {q : Program} {loose : List Str} {XP : (Str → Option Value) → Heap → Prop} {YP : World → Heap → Prop} {d : DefRec} {K : Params → PySem.W.Frag} (hn : l.most = some 63) (hdf : d.params.defaults = []) (hY : ∀ (w : World) (h : Heap), YP w h → (K w.params).In h)
    (F : ∀ (w : World) (mg : Str → Option Value) (fa : Addr) (h : Heap), (K w.params).In h → h.Ns mainGlobals mg → mg d.name = some (.ref fa) →
      ∃ fd : FuncData, (∀ (s : Shared) (u : Value), BindsTo s fd ⟨[u], []⟩ [("_law_script", u)]) ∧ ∀ base : Heap, (K w.params).In base → base.Ns mainGlobals mg → FnOk l.prog w (K w.params) mg base CX0 7 fa fd ["_law_script"] (spR (K w.params) F_law)) :
    PySem.W.WalkO q loose XP YP l.row.toRowW d [] (fun f vs => PySem.call f vs) :=
  walk_ofK (n := 63) (k := 7) (x := "_law_script") (CX := CX0) (sp := fun K => spR K F_law) hn (by decide) hdf ⟨rfl, by decide, by decide⟩ hY F (fun K H a ns _ _ hS => ⟨H, [.lst (ns.map D.int)], fun d => d = .bl true, Same.refl _, .cons (den_lst.mpr ⟨a, ns.map V.int, rfl, hS, dens_ints ns⟩) .nil, by simp [F_law, ints_map], fun d v C' H' hd _ nv => by subst hd; exact den_bl.mp nv⟩) fun _ _ _ _ z => z
theorem txt_of {K : PySem.W.Frag} {mg : Str → Option Value} {h : Heap} {t_FEWEST_HANDS : Tok} {t_HIGHEST_PAY : Tok} {t_LOWEST_PAY : Tok} {t_MOST_DEEDS : Tok} {t_MOST_HANDS : Tok} {t_MOST_LOWER : Tok} {t_MOST_STATES : Tok}  (X : K.In h) (G : h.Ns mainGlobals mg) (z_abs : PySem.W.nsIn K mainGlobals "abs" = some none) (z_all : PySem.W.nsIn K mainGlobals "all" = some none) (z_bool : PySem.W.nsIn K mainGlobals "bool" = some none) (z_int : PySem.W.nsIn K mainGlobals "int" = some none) (z_isinstance : PySem.W.nsIn K mainGlobals "isinstance" = some none) (z_len : PySem.W.nsIn K mainGlobals "len" = some none) (z_list : PySem.W.nsIn K mainGlobals "list" = some none) (z_range : PySem.W.nsIn K mainGlobals "range" = some none) (z_sorted : PySem.W.nsIn K mainGlobals "sorted" = some none) (z_tuple : PySem.W.nsIn K mainGlobals "tuple" = some none) (z_zip : PySem.W.nsIn K mainGlobals "zip" = some none) (v_FEWEST_HANDS : PySem.W.nsIn K mainGlobals "FEWEST_HANDS" = some (some (.int (2) t_FEWEST_HANDS))) (v_HIGHEST_PAY : PySem.W.nsIn K mainGlobals "HIGHEST_PAY" = some (some (.int (9) t_HIGHEST_PAY))) (v_LOWEST_PAY : PySem.W.nsIn K mainGlobals "LOWEST_PAY" = some (some (.int (-9) t_LOWEST_PAY))) (v_MOST_DEEDS : PySem.W.nsIn K mainGlobals "MOST_DEEDS" = some (some (.int (3) t_MOST_DEEDS))) (v_MOST_HANDS : PySem.W.nsIn K mainGlobals "MOST_HANDS" = some (some (.int (3) t_MOST_HANDS))) (v_MOST_LOWER : PySem.W.nsIn K mainGlobals "MOST_LOWER" = some (some (.int (30) t_MOST_LOWER))) (v_MOST_STATES : PySem.W.nsIn K mainGlobals "MOST_STATES" = some (some (.int (8) t_MOST_STATES))) : Txt K mg :=
  ⟨PySem.W.mg_none_of X G z_abs, PySem.W.mg_none_of X G z_all, PySem.W.mg_none_of X G z_bool, PySem.W.mg_none_of X G z_int, PySem.W.mg_none_of X G z_isinstance, PySem.W.mg_none_of X G z_len, PySem.W.mg_none_of X G z_list, PySem.W.mg_none_of X G z_range, PySem.W.mg_none_of X G z_sorted, PySem.W.mg_none_of X G z_tuple, PySem.W.mg_none_of X G z_zip, ⟨_, PySem.W.mg_of X G v_FEWEST_HANDS⟩, ⟨_, PySem.W.mg_of X G v_HIGHEST_PAY⟩, ⟨_, PySem.W.mg_of X G v_LOWEST_PAY⟩, ⟨_, PySem.W.mg_of X G v_MOST_DEEDS⟩, ⟨_, PySem.W.mg_of X G v_MOST_HANDS⟩, ⟨_, PySem.W.mg_of X G v_MOST_LOWER⟩, ⟨_, PySem.W.mg_of X G v_MOST_STATES⟩⟩
theorem law_mk {l : PySem.W.OpenLaw} {w : World} {K : PySem.W.Frag} {h : Heap} {mg : Str → Option Value} {fa f : Addr} {od an : Option Addr} {sl : Array (Option Value)} {oc kV dc pm cd ct : Value} (X : K.In h) (G : h.Ns mainGlobals mg) (hfa : mg "law" = some (.ref fa)) (T : Txt K mg) (H_is_whole : FunAt K mg "is_whole" s_is_whole ["thing"]) (H_common_divisor : FunAt K mg "common_divisor" s_common_divisor ["one", "other"]) (H_rows_of : FunAt K mg "rows_of" s_rows_of ["deeds"]) (H_is_tuple_of : FunAt K mg "is_tuple_of" s_is_tuple_of ["thing", "fewest", "most"]) (H__law_cell : FunAt K mg "_law_cell" s__law_cell ["_law_script", "_law_k"]) (H__law_mix : FunAt K mg "_law_mix" s__law_mix ["_law_cell_here", "_law_prime", "_law_many"]) (H__law_rows : FunAt K mg "_law_rows" s__law_rows ["_law_deeds"]) (H__law_bad_meeting : FunAt K mg "_law_bad_meeting" s__law_bad_meeting ["_law_meeting_here", "_law_cell_here"]) (H__law_bad_plan : FunAt K mg "_law_bad_plan" s__law_bad_plan ["_law_plan_here", "_law_cell_here"]) (H_is_fraction : FunAt K mg "is_fraction" s_is_fraction ["thing"]) (H_all_rows : FunAt K mg "all_rows" s_all_rows ["meeting"]) (H_is_between : FunAt K mg "is_between" s_is_between ["thing", "least", "most"]) (H__law_meeting : FunAt K mg "_law_meeting" s__law_meeting ["_law_cell_here"]) (H__law_patience : FunAt K mg "_law_patience" s__law_patience ["_law_cell_here"]) (H__law_row : FunAt K mg "_law_row" s__law_row ["_law_meeting_here", "_law_cell_here"]) (H__law_cells : FunAt K mg "_law_cells" s__law_cells ["_law_script", "_law_k"]) (H_is_patience : FunAt K mg "is_patience" s_is_patience ["thing"]) (H_is_row : FunAt K mg "is_row" s_is_row ["thing", "deeds"]) (H_are_between : FunAt K mg "are_between" s_are_between ["parts", "least", "most"]) (H__law_plan : FunAt K mg "_law_plan" s__law_plan ["_law_meeting_here", "_law_cells_here", "_law_most"]) (H_is_deeds : FunAt K mg "is_deeds" s_is_deeds ["thing"]) (H_is_pay_of_row : FunAt K mg "is_pay_of_row" s_is_pay_of_row ["thing", "hands"]) (H_is_nexts : FunAt K mg "is_nexts" s_is_nexts ["thing", "deeds", "states"]) (H_is_pay : FunAt K mg "is_pay" s_is_pay ["thing", "deeds"]) (H_is_state : FunAt K mg "is_state" s_is_state ["thing", "deeds", "states"]) (H_is_meeting : FunAt K mg "is_meeting" s_is_meeting ["thing"]) (H_is_plan : FunAt K mg "is_plan" s_is_plan ["thing", "meeting"])
    (a : PySem.W.nsIn K mainGlobals "law" = some (some (.ref f))) (ll : K.lookup f = some ⟨oc, od, .func (PySem.W.fnOf "law" "law" (defArgs s_law) (defBody s_law) (defScope s_law) .none kV dc pm an cd ct), sl⟩) (c : PySem.W.codeIn K cd "law" = true) (k : PySem.W.keepIn K (.ref f) = true) :
    ∃ fd : FuncData, (∀ (s : Shared) (v : Value), BindsTo s fd ⟨[v], []⟩ [("_law_script", v)]) ∧ ∀ base : Heap, K.In base → base.Ns mainGlobals mg → FnOk l.prog w K mg base CX0 7 fa fd ["_law_script"] (spR K F_law) := by
  have e := hfa.symm.trans (PySem.W.mg_of X G a)
  cases e
  exact ⟨PySem.W.fnOf "law" "law" (defArgs s_law) (defBody s_law) (defScope s_law) .none kV dc pm an cd ct, fun s v => .of_eq rfl, fun base _ _ => last_law T H_is_whole H_common_divisor H_rows_of H_is_tuple_of H__law_cell H__law_mix H__law_rows H__law_bad_meeting H__law_bad_plan H_is_fraction H_all_rows H_is_between H__law_meeting H__law_patience H__law_row H__law_cells H_is_patience H_is_row H_are_between H__law_plan H_is_deeds H_is_pay_of_row H_is_nexts H_is_pay H_is_state H_is_meeting H_is_plan (fun_mk (st := s_law) ll c k)⟩
end L2
open PySem PySem.W PyProof.Rows
set_option maxRecDepth 100000 in
set_option maxHeartbeats 0 in
theorem PySem.Challenge.cw_pactkeep_k01_things_holds : PySem.Challenge.rw_pactkeep_k01_things.Holds := by
  w_on; o_law; k_head; (case hw => w_witness2)
  k_fill
  refine L2.walk_law (l := PySem.Challenge.rw_pactkeep_k01_things) rfl rfl (fun w h Y => PySem.W.kIn_of Y) ?F
  case F =>
    intro w mg fa h KX G hmg
    have T : L2.Txt (L2.KOf KX) mg := by
      dsimp only [L2.KOf]
      refine' L2.txt_of KX G ?z_abs ?z_all ?z_bool ?z_int ?z_isinstance ?z_len ?z_list ?z_range ?z_sorted ?z_tuple ?z_zip ?v_FEWEST_HANDS ?v_HIGHEST_PAY ?v_LOWEST_PAY ?v_MOST_DEEDS ?v_MOST_HANDS ?v_MOST_LOWER ?v_MOST_STATES
      (case z_abs => k_is); (case z_all => k_is); (case z_bool => k_is); (case z_int => k_is); (case z_isinstance => k_is); (case z_len => k_is); (case z_list => k_is); (case z_range => k_is); (case z_sorted => k_is); (case z_tuple => k_is); (case z_zip => k_is); (case v_FEWEST_HANDS => k_is); (case v_HIGHEST_PAY => k_is); (case v_LOWEST_PAY => k_is); (case v_MOST_DEEDS => k_is); (case v_MOST_HANDS => k_is); (case v_MOST_LOWER => k_is); (case v_MOST_STATES => k_is)
    have H_is_whole : L2.FunAt (L2.KOf KX) mg "is_whole" L2.s_is_whole ["thing"] := by
      dsimp only [L2.KOf]
      refine' L2.funAt_of KX G ?a ?l ?c ?k (fun _ _ _ _ _ _ us hl => match us, hl with | [_], _ => rfl)
      (case a => k_is); (case l => k_is); (case c => k_is); (case k => k_is)
    have H_common_divisor : L2.FunAt (L2.KOf KX) mg "common_divisor" L2.s_common_divisor ["one", "other"] := by
      dsimp only [L2.KOf]
      refine' L2.funAt_of KX G ?a ?l ?c ?k (fun _ _ _ _ _ _ us hl => match us, hl with | [_, _], _ => rfl)
      (case a => k_is); (case l => k_is); (case c => k_is); (case k => k_is)
    have H_rows_of : L2.FunAt (L2.KOf KX) mg "rows_of" L2.s_rows_of ["deeds"] := by
      dsimp only [L2.KOf]
      refine' L2.funAt_of KX G ?a ?l ?c ?k (fun _ _ _ _ _ _ us hl => match us, hl with | [_], _ => rfl)
      (case a => k_is); (case l => k_is); (case c => k_is); (case k => k_is)
    have H_is_tuple_of : L2.FunAt (L2.KOf KX) mg "is_tuple_of" L2.s_is_tuple_of ["thing", "fewest", "most"] := by
      dsimp only [L2.KOf]
      refine' L2.funAt_of KX G ?a ?l ?c ?k (fun _ _ _ _ _ _ us hl => match us, hl with | [_, _, _], _ => rfl)
      (case a => k_is); (case l => k_is); (case c => k_is); (case k => k_is)
    have H__law_cell : L2.FunAt (L2.KOf KX) mg "_law_cell" L2.s__law_cell ["_law_script", "_law_k"] := by
      dsimp only [L2.KOf]
      refine' L2.funAt_of KX G ?a ?l ?c ?k (fun _ _ _ _ _ _ us hl => match us, hl with | [_, _], _ => rfl)
      (case a => k_is); (case l => k_is); (case c => k_is); (case k => k_is)
    have H__law_mix : L2.FunAt (L2.KOf KX) mg "_law_mix" L2.s__law_mix ["_law_cell_here", "_law_prime", "_law_many"] := by
      dsimp only [L2.KOf]
      refine' L2.funAt_of KX G ?a ?l ?c ?k (fun _ _ _ _ _ _ us hl => match us, hl with | [_, _, _], _ => rfl)
      (case a => k_is); (case l => k_is); (case c => k_is); (case k => k_is)
    have H__law_rows : L2.FunAt (L2.KOf KX) mg "_law_rows" L2.s__law_rows ["_law_deeds"] := by
      dsimp only [L2.KOf]
      refine' L2.funAt_of KX G ?a ?l ?c ?k (fun _ _ _ _ _ _ us hl => match us, hl with | [_], _ => rfl)
      (case a => k_is); (case l => k_is); (case c => k_is); (case k => k_is)
    have H__law_bad_meeting : L2.FunAt (L2.KOf KX) mg "_law_bad_meeting" L2.s__law_bad_meeting ["_law_meeting_here", "_law_cell_here"] := by
      dsimp only [L2.KOf]
      refine' L2.funAt_of KX G ?a ?l ?c ?k (fun _ _ _ _ _ _ us hl => match us, hl with | [_, _], _ => rfl)
      (case a => k_is); (case l => k_is); (case c => k_is); (case k => k_is)
    have H__law_bad_plan : L2.FunAt (L2.KOf KX) mg "_law_bad_plan" L2.s__law_bad_plan ["_law_plan_here", "_law_cell_here"] := by
      dsimp only [L2.KOf]
      refine' L2.funAt_of KX G ?a ?l ?c ?k (fun _ _ _ _ _ _ us hl => match us, hl with | [_, _], _ => rfl)
      (case a => k_is); (case l => k_is); (case c => k_is); (case k => k_is)
    have H_is_fraction : L2.FunAt (L2.KOf KX) mg "is_fraction" L2.s_is_fraction ["thing"] := by
      dsimp only [L2.KOf]
      refine' L2.funAt_of KX G ?a ?l ?c ?k (fun _ _ _ _ _ _ us hl => match us, hl with | [_], _ => rfl)
      (case a => k_is); (case l => k_is); (case c => k_is); (case k => k_is)
    have H_all_rows : L2.FunAt (L2.KOf KX) mg "all_rows" L2.s_all_rows ["meeting"] := by
      dsimp only [L2.KOf]
      refine' L2.funAt_of KX G ?a ?l ?c ?k (fun _ _ _ _ _ _ us hl => match us, hl with | [_], _ => rfl)
      (case a => k_is); (case l => k_is); (case c => k_is); (case k => k_is)
    have H_is_between : L2.FunAt (L2.KOf KX) mg "is_between" L2.s_is_between ["thing", "least", "most"] := by
      dsimp only [L2.KOf]
      refine' L2.funAt_of KX G ?a ?l ?c ?k (fun _ _ _ _ _ _ us hl => match us, hl with | [_, _, _], _ => rfl)
      (case a => k_is); (case l => k_is); (case c => k_is); (case k => k_is)
    have H__law_meeting : L2.FunAt (L2.KOf KX) mg "_law_meeting" L2.s__law_meeting ["_law_cell_here"] := by
      dsimp only [L2.KOf]
      refine' L2.funAt_of KX G ?a ?l ?c ?k (fun _ _ _ _ _ _ us hl => match us, hl with | [_], _ => rfl)
      (case a => k_is); (case l => k_is); (case c => k_is); (case k => k_is)
    have H__law_patience : L2.FunAt (L2.KOf KX) mg "_law_patience" L2.s__law_patience ["_law_cell_here"] := by
      dsimp only [L2.KOf]
      refine' L2.funAt_of KX G ?a ?l ?c ?k (fun _ _ _ _ _ _ us hl => match us, hl with | [_], _ => rfl)
      (case a => k_is); (case l => k_is); (case c => k_is); (case k => k_is)
    have H__law_row : L2.FunAt (L2.KOf KX) mg "_law_row" L2.s__law_row ["_law_meeting_here", "_law_cell_here"] := by
      dsimp only [L2.KOf]
      refine' L2.funAt_of KX G ?a ?l ?c ?k (fun _ _ _ _ _ _ us hl => match us, hl with | [_, _], _ => rfl)
      (case a => k_is); (case l => k_is); (case c => k_is); (case k => k_is)
    have H__law_cells : L2.FunAt (L2.KOf KX) mg "_law_cells" L2.s__law_cells ["_law_script", "_law_k"] := by
      dsimp only [L2.KOf]
      refine' L2.funAt_of KX G ?a ?l ?c ?k (fun _ _ _ _ _ _ us hl => match us, hl with | [_, _], _ => rfl)
      (case a => k_is); (case l => k_is); (case c => k_is); (case k => k_is)
    have H_is_patience : L2.FunAt (L2.KOf KX) mg "is_patience" L2.s_is_patience ["thing"] := by
      dsimp only [L2.KOf]
      refine' L2.funAt_of KX G ?a ?l ?c ?k (fun _ _ _ _ _ _ us hl => match us, hl with | [_], _ => rfl)
      (case a => k_is); (case l => k_is); (case c => k_is); (case k => k_is)
    have H_is_row : L2.FunAt (L2.KOf KX) mg "is_row" L2.s_is_row ["thing", "deeds"] := by
      dsimp only [L2.KOf]
      refine' L2.funAt_of KX G ?a ?l ?c ?k (fun _ _ _ _ _ _ us hl => match us, hl with | [_, _], _ => rfl)
      (case a => k_is); (case l => k_is); (case c => k_is); (case k => k_is)
    have H_are_between : L2.FunAt (L2.KOf KX) mg "are_between" L2.s_are_between ["parts", "least", "most"] := by
      dsimp only [L2.KOf]
      refine' L2.funAt_of KX G ?a ?l ?c ?k (fun _ _ _ _ _ _ us hl => match us, hl with | [_, _, _], _ => rfl)
      (case a => k_is); (case l => k_is); (case c => k_is); (case k => k_is)
    have H__law_plan : L2.FunAt (L2.KOf KX) mg "_law_plan" L2.s__law_plan ["_law_meeting_here", "_law_cells_here", "_law_most"] := by
      dsimp only [L2.KOf]
      refine' L2.funAt_of KX G ?a ?l ?c ?k (fun _ _ _ _ _ _ us hl => match us, hl with | [_, _, _], _ => rfl)
      (case a => k_is); (case l => k_is); (case c => k_is); (case k => k_is)
    have H_is_deeds : L2.FunAt (L2.KOf KX) mg "is_deeds" L2.s_is_deeds ["thing"] := by
      dsimp only [L2.KOf]
      refine' L2.funAt_of KX G ?a ?l ?c ?k (fun _ _ _ _ _ _ us hl => match us, hl with | [_], _ => rfl)
      (case a => k_is); (case l => k_is); (case c => k_is); (case k => k_is)
    have H_is_pay_of_row : L2.FunAt (L2.KOf KX) mg "is_pay_of_row" L2.s_is_pay_of_row ["thing", "hands"] := by
      dsimp only [L2.KOf]
      refine' L2.funAt_of KX G ?a ?l ?c ?k (fun _ _ _ _ _ _ us hl => match us, hl with | [_, _], _ => rfl)
      (case a => k_is); (case l => k_is); (case c => k_is); (case k => k_is)
    have H_is_nexts : L2.FunAt (L2.KOf KX) mg "is_nexts" L2.s_is_nexts ["thing", "deeds", "states"] := by
      dsimp only [L2.KOf]
      refine' L2.funAt_of KX G ?a ?l ?c ?k (fun _ _ _ _ _ _ us hl => match us, hl with | [_, _, _], _ => rfl)
      (case a => k_is); (case l => k_is); (case c => k_is); (case k => k_is)
    have H_is_pay : L2.FunAt (L2.KOf KX) mg "is_pay" L2.s_is_pay ["thing", "deeds"] := by
      dsimp only [L2.KOf]
      refine' L2.funAt_of KX G ?a ?l ?c ?k (fun _ _ _ _ _ _ us hl => match us, hl with | [_, _], _ => rfl)
      (case a => k_is); (case l => k_is); (case c => k_is); (case k => k_is)
    have H_is_state : L2.FunAt (L2.KOf KX) mg "is_state" L2.s_is_state ["thing", "deeds", "states"] := by
      dsimp only [L2.KOf]
      refine' L2.funAt_of KX G ?a ?l ?c ?k (fun _ _ _ _ _ _ us hl => match us, hl with | [_, _, _], _ => rfl)
      (case a => k_is); (case l => k_is); (case c => k_is); (case k => k_is)
    have H_is_meeting : L2.FunAt (L2.KOf KX) mg "is_meeting" L2.s_is_meeting ["thing"] := by
      dsimp only [L2.KOf]
      refine' L2.funAt_of KX G ?a ?l ?c ?k (fun _ _ _ _ _ _ us hl => match us, hl with | [_], _ => rfl)
      (case a => k_is); (case l => k_is); (case c => k_is); (case k => k_is)
    have H_is_plan : L2.FunAt (L2.KOf KX) mg "is_plan" L2.s_is_plan ["thing", "meeting"] := by
      dsimp only [L2.KOf]
      refine' L2.funAt_of KX G ?a ?l ?c ?k (fun _ _ _ _ _ _ us hl => match us, hl with | [_, _], _ => rfl)
      (case a => k_is); (case l => k_is); (case c => k_is); (case k => k_is)
    refine' L2.law_mk KX G hmg T H_is_whole H_common_divisor H_rows_of H_is_tuple_of H__law_cell H__law_mix H__law_rows H__law_bad_meeting H__law_bad_plan H_is_fraction H_all_rows H_is_between H__law_meeting H__law_patience H__law_row H__law_cells H_is_patience H_is_row H_are_between H__law_plan H_is_deeds H_is_pay_of_row H_is_nexts H_is_pay H_is_state H_is_meeting H_is_plan ?al ?ll ?cl ?kl
    (case al => k_is); (case ll => k_is); (case cl => k_is); (case kl => k_is)
#print axioms PySem.Challenge.cw_pactkeep_k01_things_holds
