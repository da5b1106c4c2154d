import PyProof.Rows.All
import Wide.All
import OpenK.AllK
import Wide.FinOn
import Lean
import PyProof.EqAt
import PyProof.EqKinds
import PyProof.TupleCall
import PySem.Challenge.RW_cuetimer_k25_cues_moved
set_option Elab.async false
set_option linter.all false
set_option maxRecDepth 100000
set_option maxHeartbeats 4000000
/-! THE HAND LAYER, for ints, bools, texts, own classes, LISTS and tuples (index, slices, in, append, pop ..), calls, loops. Paste it whole ahead of your own text; what your proof does not reach may be deleted. -/
namespace L2
open PySem PySem.Spec PyProof.Rows

/-- a key: an int or a str -/
abbrev Key := Sum Int Str
def keyIs : Key → Value → Bool
  | .inl k, v => Value.isInt k v
  | .inr x, v => Value.isStrOf x v
def keyH (w : World) : Key → Int
  | .inl k => hashInt k
  | .inr x => hashStr w x
theorem keyIs_shape : ∀ {k : Key} {v : Value}, keyIs k v = true → (∃ i t, k = Sum.inl i ∧ v = Value.int i t) ∨ (∃ x t, k = Sum.inr x ∧ v = Value.str x t)
  | .inl i, v, h => by
    obtain ⟨t, e⟩ := Value.isInt_shape (k := i) (v := v) h
    exact .inl ⟨i, t, rfl, e⟩
  | .inr x, v, h => by
    obtain ⟨t, e⟩ := Value.isStrOf_shape (x := x) (v := v) h
    exact .inr ⟨x, t, rfl, e⟩
theorem key_ll (a b : Int) : decide ((Sum.inl a : Key) = Sum.inl b) = (a == b) := by
  by_cases e : a = b
  · subst e; simp
  · have h : ¬ (Sum.inl a : Key) = Sum.inl b := fun q => e (Sum.inl.inj q)
    rw [decide_eq_false h]
    exact (beq_eq_false_iff_ne.mpr e).symm
theorem key_rr (a b : Str) : decide ((Sum.inr a : Key) = Sum.inr b) = decide (a = b) := by
  by_cases e : a = b
  · subst e; simp
  · have h : ¬ (Sum.inr a : Key) = Sum.inr b := fun q => e (Sum.inr.inj q)
    rw [decide_eq_false h, decide_eq_false e]
theorem key_lr (a : Int) (b : Str) : decide ((Sum.inl a : Key) = Sum.inr b) = false := decide_eq_false (fun q => nomatch q)
theorem key_rl (a : Str) (b : Int) : decide ((Sum.inr a : Key) = Sum.inl b) = false := decide_eq_false (fun q => nomatch q)

def mixKind (prog : Program) (w : World) : PySem.KeyKind prog w Key where
  is := keyIs
  hash := keyH w
  inj := fun v a b ha hb => by
    rcases keyIs_shape ha with ⟨i, t, rfl, rfl⟩ | ⟨x, t, rfl, rfl⟩
    · rcases keyIs_shape hb with ⟨j, u, rfl, e⟩ | ⟨y, u, rfl, e⟩
      · injection e with e1 _; rw [e1]
      · exact nomatch e
    · rcases keyIs_shape hb with ⟨j, u, rfl, e⟩ | ⟨y, u, rfl, e⟩
      · exact nomatch e
      · injection e with e1 _; rw [e1]
  byValue := fun k v h => by
    rcases keyIs_shape h with ⟨i, t, rfl, rfl⟩ | ⟨x, t, rfl, rfl⟩ <;> rfl
  pyHash := fun hv h => by
    rcases keyIs_shape hv with ⟨i, t, rfl, rfl⟩ | ⟨x, t, rfl, rfl⟩
    · exact wpAny_pyHash_int h
    · exact wpAny_pyHash_str h
  eqBool := fun hu hv h => by
    rcases keyIs_shape hu with ⟨i, t, rfl, rfl⟩ | ⟨x, t, rfl, rfl⟩
    · rcases keyIs_shape hv with ⟨j, u, rfl, rfl⟩ | ⟨y, u, rfl, rfl⟩
      · rw [key_ll] at h; exact wpAny_eqBool_int h
      · rw [key_lr] at h; exact SeqAt.EqAt.int_str i t y u _ _ _ _ h
    · rcases keyIs_shape hv with ⟨j, u, rfl, rfl⟩ | ⟨y, u, rfl, rfl⟩
      · rw [key_rl] at h; exact SeqAt.EqAt.str_int x t j u _ _ _ _ h
      · rw [key_rr] at h; exact wpAny_eqBool_str h
  «strs» := fun k x t v h => by
    rcases keyIs_shape h with ⟨i, u, rfl, e⟩ | ⟨y, u, rfl, e⟩
    · exact nomatch e
    · injection e with e1 _
      subst e1
      cases v <;> rfl

end L2

namespace L2
open PySem PySem.Spec PyProof.Rows

/-- a value, without the heap -/
inductive V where
  | non | bl (b : Bool) | int (i : Int) | str (x : Str) | byt (b : Array UInt8) | flt (b : UInt64) | ref (a : Addr) | ty (n : String)
  deriving DecidableEq

def RelV : V → Value → Prop
  | .non, u => u = Value.none
  | .bl b, u => u = Value.bool b
  | .int i, u => ∃ t, u = Value.int i t
  | .str x, u => ∃ t, u = Value.str x t
  | .byt b, u => ∃ t, u = Value.bytes b t
  | .flt b, u => ∃ t, u = Value.float b t
  | .ref a, u => u = Value.ref a
  | .ty n, u => u = Value.type n

abbrev Vals : List V → List Value → Prop := Paired RelV
theorem Vals.length {xs : List V} {us : List Value} (r : Vals xs us) : xs.length = us.length := Paired.length r
theorem Vals.get : ∀ {xs : List V} {us : List Value} {i : Nat} {x : V}, Vals xs us → xs[i]? = some x → ∃ u, us[i]? = some u ∧ RelV x u
  | _, _, _, _, .nil, e => by simp at e
  | _, _, 0, _, .cons r _, e => by simp at e; subst e; exact ⟨_, rfl, r⟩
  | _, _, i + 1, x, .cons _ t, e => by
    obtain ⟨u, h1, h2⟩ := Vals.get (i := i) (x := x) t (by simpa using e)
    exact ⟨u, by simpa using h1, h2⟩
theorem Vals.set {x : V} {u : Value} (r : RelV x u) : ∀ {xs : List V} {us : List Value} (i : Nat), Vals xs us → Vals (xs.set i x) (us.set i u)
  | _, _, _, .nil => .nil
  | _, _, 0, .cons _ t => .cons r t
  | _, _, i + 1, .cons q t => .cons q (Vals.set r i t)
theorem Vals.append : ∀ {xs ys : List V} {us ws : List Value}, Vals xs us → Vals ys ws → Vals (xs ++ ys) (us ++ ws)
  | _, _, _, _, .nil, s => s
  | _, _, _, _, .cons r t, s => .cons r (Vals.append t s)
theorem Vals.take : ∀ {xs : List V} {us : List Value} (n : Nat), Vals xs us → Vals (xs.take n) (us.take n)
  | _, _, 0, _ => .nil
  | _, _, _ + 1, .nil => .nil
  | _, _, n + 1, .cons r t => .cons r (Vals.take n t)
theorem Vals.drop : ∀ {xs : List V} {us : List Value} (n : Nat), Vals xs us → Vals (xs.drop n) (us.drop n)
  | _, _, 0, r => r
  | _, _, _ + 1, .nil => .nil
  | _, _, n + 1, .cons _ t => Vals.drop n t
theorem Vals.none_of : ∀ {xs : List V} {us : List Value} {i : Nat}, Vals xs us → xs[i]? = none → us[i]? = none := fun {xs us i} r e => by
  have h1 := r.length
  have h2 : xs.length ≤ i := List.getElem?_eq_none_iff.mp e
  exact List.getElem?_eq_none_iff.mpr (by omega)

def RelO : Option V → Option Value → Prop
  | some v, some u => RelV v u
  | none, none => True
  | _, _ => False
def KV {κ : Type} : List (κ × V) → List (κ × Value) → Prop := Paired fun (p : κ × V) (q : κ × Value) => p.1 = q.1 ∧ RelV p.2 q.2

/-- a key of a dict (00_mix): an int or a text -/
def kV : Key → V
  | .inl i => .int i
  | .inr x => .str x

/-- what stands at a tracked address -/
inductive HO where
  /-- a list -/
  | lst (xs : List V)
  /-- a tuple (never changes) -/
  | tup (xs : List V)
  /-- a dict whose keys are ints and texts; one whose keys are tuples of ints and texts (the empty one is both) -/
  | dK (kvs : List (Key × V)) | dT (kvs : List (List Key × V))
  /-- a set of ints: its members, its size -/
  | set (S : Int → Bool) (n : Nat)
  /-- an instance of the class at C, its dict at dx, its attributes -/
  | ins (C dx : Addr) (fs : List (Str × V))
  /-- the dict of the instance at x -/
  | own (x : Addr)
  /-- the dict of an exception -/
  | xd (fs : List (Str × V))
  /-- a bound method, f of x -/
  | met (f x : Addr)
  /-- a range object lo, lo + 1, .. below hi -/
  | rng (lo hi : Int)
  /-- a thing that is known to the object (the script; a dict while a loop walks it): read, never written while it is so -/
  | frz (o : Obj) (u : HO)
  /-- a code object's table -/
  | tbl (ps : Array Value)
  /-- any other thing, by what is true of its one object (a def of one's own: SetO a S n := HO.ext fun h => ..) -/
  | ext (φ : Heap → Prop)

abbrev Hp := Addr → Option HO
def upd (H : Hp) (a : Addr) (o : HO) : Hp := fun b => if b = a then some o else H b
theorem upd_same {H : Hp} {a : Addr} {o : HO} : upd H a o a = some o := by unfold upd; rw [if_pos rfl]
theorem upd_ne {H : Hp} {a b : Addr} {o : HO} (h : b ≠ a) : upd H a o b = H b := by unfold upd; rw [if_neg h]
/-- two objects of different content stand apart -/
theorem ne_of {H : Hp} {a b : Addr} {o u : HO} (h : H a = some o) (h' : H b = some u) (d : o ≠ u) : a ≠ b := by
  intro e; subst e; rw [h] at h'; exact d (Option.some.inj h')
theorem ne_of_none {H : Hp} {a b : Addr} {o : HO} (h : H a = some o) (h' : H b = none) : a ≠ b := by
  intro e; subst e; rw [h] at h'; cases h'

section
variable (P : Program) (w : World)
def ObjOk (H : Hp) (h : Heap) (a : Addr) : HO → Prop
  | .lst xs => xs.length ≤ sizeLine ∧ ∃ (its : List Value) (n : Nat), Vals xs its ∧ h.get? a = some { cls := .type "list", data := .seq its.toArray n }
  | .tup xs => xs.length ≤ sizeLine ∧ ∃ its : List Value, Vals xs its ∧ IsTup h a its.toArray
  | .dK kvs => kvs.length ≤ sizeLine ∧ (a == sysModules) = false ∧ ∃ vs, KV kvs vs ∧ h.DictOf (mixKind P w) a vs
  | .dT kvs => kvs.length ≤ sizeLine ∧ (a == sysModules) = false ∧ ∃ xs : List (List Key × Addr × Value),
      Paired (fun (p : List Key × V) (q : List Key × Addr × Value) => p.1 = q.1 ∧ H q.2.1 = some (.tup (p.1.map kV)) ∧ RelV p.2 q.2.2) kvs xs ∧
      ∃ o es ep, h.get? a = some o ∧ o.ExactDict ∧ o.data = .dict es ep ∧ es.toList = xs.map (entryOfKey (tupleKind (mixKind P w))) ∧ (xs.map (·.1)).Nodup
  | .set S n => h.SetOf (intKind P w) a S n
  | .ins C dx fs => H dx = some (.own a) ∧ fs.length ≤ 1000 ∧ dx ≠ a ∧ h.get? a = some (PySem.W.instObj C dx) ∧
      ∃ mA, h.Ns1 dx mA ∧ (∀ f, RelO (fs.lookup f) (mA f)) ∧ PySem.Within mA (fs.map (·.1))
  | .own _ => ∃ o, h.get? a = some o
  | .xd fs => ∃ mA, h.Ns1 a mA ∧ ∀ f, RelO (fs.lookup f) (mA f)
  | .rng lo hi => ∃ t u v, h.get? a = some { cls := .type "range", data := .fields #[.int lo t, .int hi u, .int 1 v] }
  | .frz o u => h.get? a = some o ∧ ObjOk H h a u
  | .tbl ps => h.get? a = some { cls := .none, data := .fields ps }
  | .met f x => h.get? a = some (PySem.W.methodObj (.ref f) (.ref x))
  | .ext φ => φ h ∧ (∃ o, h.get? a = some o) ∧ ∀ h1 h2 : Heap, φ h1 → (∀ o, h1.get? a = some o → h2.get? a = some o) → φ h2
/-- the abstract heap is held -/
def HOk (H : Hp) (h : Heap) : Prop := ∀ a o, H a = some o → ObjOk P w H h a o
end

section
variable {P : Program} {w : World} {H H' : Hp} {h h' : Heap} {a : Addr} {o : HO}
theorem ObjOk.lt (x : ObjOk P w H h a o) : a < h.objs.size := by
  cases o with
  | lst xs => obtain ⟨_, _, _, _, e⟩ := x; exact Heap.lt_size e
  | tup xs => obtain ⟨_, _, _, p⟩ := x; exact p.lt
  | dK kvs => obtain ⟨_, _, _, _, o, _, _, e, _⟩ := x; exact Heap.lt_size e
  | dT kvs => obtain ⟨_, _, _, _, o, _, _, e, _⟩ := x; exact Heap.lt_size e
  | set S n => obtain ⟨o, _, _, _, e, _⟩ := x; exact Heap.lt_size e
  | ins C dx fs => obtain ⟨_, _, _, e, _⟩ := x; exact Heap.lt_size e
  | own y => obtain ⟨_, e⟩ := x; exact Heap.lt_size e
  | xd fs => obtain ⟨_, ⟨_, _, _, e, _⟩, _⟩ := x; exact Heap.lt_size e
  | rng lo hi => obtain ⟨_, _, _, e⟩ := x; exact Heap.lt_size e
  | frz ob u => obtain ⟨e, _⟩ := x; exact Heap.lt_size e
  | tbl ps => exact Heap.lt_size (show h.get? a = some _ from x)
  | met f y => exact Heap.lt_size (show h.get? a = some _ from x)
  | ext φ => obtain ⟨_, ⟨_, e⟩, _⟩ := x; exact Heap.lt_size e
theorem Paired.mapP {α β : Type} {F G : α → β → Prop} : ∀ {l₁ : List α} {l₂ : List β}, Paired F l₁ l₂ → (∀ a b, F a b → G a b) → Paired G l₁ l₂
  | _, _, .nil, _ => .nil
  | _, _, .cons r t, f => .cons (f _ _ r) (Paired.mapP t f)
theorem Paired.imp' {α β : Type} {F G : α → β → Prop} (f : ∀ a b, F a b → G a b) {l₁ : List α} {l₂ : List β} (r : Paired F l₁ l₂) : Paired G l₁ l₂ := Paired.mapP r f
/-- what an object's description leans on: its own object, its own dict, the tuples -/
theorem ObjOk.stay (x : ObjOk P w H h a o) (k : ∀ b u, (b = a ∨ H b = some (.own a)) → h.get? b = some u → h'.get? b = some u)
    (ho : ∀ b, H b = some (.own a) → H' b = some (.own a)) (ht : ∀ b xs, H b = some (.tup xs) → H' b = some (.tup xs)) : ObjOk P w H' h' a o := by
  induction o with
  | lst xs => obtain ⟨z, its, n, r, e⟩ := x; exact ⟨z, its, n, r, k _ _ (.inl rfl) e⟩
  | tup xs => obtain ⟨z, its, r, ob, e, c⟩ := x; exact ⟨z, its, r, ob, k _ _ (.inl rfl) e, c⟩
  | dK kvs => obtain ⟨z, y, vs, r, ob, es, ep, e, c⟩ := x; exact ⟨z, y, vs, r, ob, es, ep, k _ _ (.inl rfl) e, c⟩
  | dT kvs =>
    obtain ⟨z, y, xs, r, ob, es, ep, e, c⟩ := x
    exact ⟨z, y, xs, Paired.mapP r fun p q z => ⟨z.1, ht _ _ z.2.1, z.2.2⟩, ob, es, ep, k _ _ (.inl rfl) e, c⟩
  | set S n => obtain ⟨ob, es, ep, t, e, c⟩ := x; exact ⟨ob, es, ep, t, k _ _ (.inl rfl) e, c⟩
  | ins C dx fs =>
    obtain ⟨d, z, ne, e, mA, ⟨od, es, ep, e2, c⟩, r⟩ := x
    exact ⟨ho _ d, z, ne, k _ _ (.inl rfl) e, mA, ⟨od, es, ep, k _ _ (.inr d) e2, c⟩, r⟩
  | own y => obtain ⟨ob, e⟩ := x; exact ⟨ob, k _ _ (.inl rfl) e⟩
  | xd fs => obtain ⟨mA, ⟨od, es, ep, e, c⟩, r⟩ := x; exact ⟨mA, ⟨od, es, ep, k _ _ (.inl rfl) e, c⟩, r⟩
  | rng lo hi => obtain ⟨t, u, v, e⟩ := x; exact ⟨t, u, v, k _ _ (.inl rfl) e⟩
  | frz ob u ih => obtain ⟨e, q⟩ := x; exact ⟨k _ _ (.inl rfl) e, ih q⟩
  | tbl ps =>
    have e : h.get? a = some { cls := .none, data := .fields ps } := x
    show h'.get? a = some { cls := .none, data := .fields ps }
    exact k a _ (.inl rfl) e
  | met f y =>
    have e : h.get? a = some (PySem.W.methodObj (.ref f) (.ref y)) := x
    show h'.get? a = some (PySem.W.methodObj (.ref f) (.ref y))
    exact k a _ (.inl rfl) e
  | ext φ => obtain ⟨p, ⟨o, e⟩, st⟩ := x; exact ⟨st _ _ p fun o q => k _ _ (.inl rfl) q, ⟨o, k _ _ (.inl rfl) e⟩, st⟩
theorem HOk.lt (x : HOk P w H h) (e : H a = some o) : a < h.objs.size := (x a o e).lt
theorem HOk.fresh (x : HOk P w H h) (e : h.objs.size ≤ a) : H a = none := by
  cases q : H a with
  | none => rfl
  | some u => exact absurd (Nat.lt_of_lt_of_le (x.lt q) e) (Nat.lt_irrefl _)
/-- every object of the heap is kept -/
theorem HOk.kept (x : HOk P w H h) (k : ∀ b u, h.get? b = some u → h'.get? b = some u) : HOk P w H h' := fun a o e =>
  (x a o e).stay (fun b u _ q => k b u q) (fun _ q => q) fun _ _ q => q
/-- a new object is laid and tracked -/
theorem HOk.laid (x : HOk P w H h) (k : ∀ b u, h.get? b = some u → h'.get? b = some u) (hp : h.objs.size ≤ a) (new : ObjOk P w (upd H a o) h' a o) : HOk P w (upd H a o) h' := fun b u e => by
  have hn := x.fresh hp
  by_cases hb : b = a
  · subst hb; rw [upd_same] at e; cases e; exact new
  · rw [upd_ne hb] at e
    exact (x b u e).stay (fun c v _ q => k c v q) (fun c q => by rw [upd_ne (ne_of_none q hn)]; exact q) fun c xs q => by rw [upd_ne (ne_of_none q hn)]; exact q
end

/-- what may be read as u: it is u, or a known u -/
def Rd (H : Hp) (a : Addr) (u : HO) : Prop := H a = some u ∨ ∃ o, H a = some (.frz o u)
theorem Rd.of {H : Hp} {a : Addr} {u : HO} (h : H a = some u) : Rd H a u := .inl h
theorem Rd.ok {P : Program} {w : World} {H : Hp} {h : Heap} {a : Addr} {u : HO} (r : Rd H a u) (x : HOk P w H h) : ObjOk P w H h a u := by
  rcases r with r | ⟨o, r⟩
  · exact x a u r
  · obtain ⟨_, q⟩ := x a _ r
    exact q
/-- what may be written -/
def Mut : Option HO → Prop
  | some (.lst _) => True
  | some (.dK _) => True
  | some (.dT _) => True
  | some (.set _ _) => True
  | some (.ins _ _ _) => True
  | some (.ext _) => True
  | _ => False
section
variable {P : Program} {w : World} {H : Hp} {h h' : Heap} {x e : Addr} {o' : HO}
/-- the object at e is changed: x itself, or the dict of the instance x -/
theorem HOk.write (ok : HOk P w H h) (mu : Mut (H x)) (he : e = x ∨ H e = some (.own x)) (k : ∀ b u, b ≠ e → h.get? b = some u → h'.get? b = some u) (heo : ∃ u, h'.get? e = some u)
    (new : ObjOk P w (upd H x o') h' x o') : HOk P w (upd H x o') h' := fun b u q => by
  have nown : ∀ c y, H c = some (.own y) → c ≠ x := fun c y r z => by subst z; rw [r] at mu; exact mu
  have ntup : ∀ c xs, H c = some (.tup xs) → c ≠ x := fun c xs r z => by subst z; rw [r] at mu; exact mu
  by_cases hb : b = x
  · subst hb; rw [upd_same] at q; cases q; exact new
  · rw [upd_ne hb] at q
    by_cases hbe : b = e
    · have q' : H b = some (.own x) := by
        rcases he with z | z
        · exact absurd (hbe.trans z) hb
        · rw [hbe]; exact z
      rw [q] at q'; cases q'
      obtain ⟨v, hv⟩ := heo
      exact ⟨v, by rw [hbe]; exact hv⟩
    · refine (ok b u q).stay (fun c v hc r => k c v ?_ r) (fun c r => by rw [upd_ne (nown c b r)]; exact r) fun c xs r => by rw [upd_ne (ntup c xs r)]; exact r
      rcases hc with rfl | hc
      · exact hbe
      · rintro rfl
        rcases he with z | z
        · exact nown c b hc z
        · rw [hc] at z; cases z; exact hb rfl
end

/-! ### kept unless tracked; of the frames at fs (the callers') the slots may change (an exception that passes writes there); of the records at ex (iterators) nothing is said -/
structure Un (fs ex : List Addr) (H H' : Hp) (h h' : Heap) : Prop where
  keep : ∀ b o, h.get? b = some o → H b = none → b ∉ fs → b ∉ ex → h'.get? b = some o
  slot : ∀ b o, h.get? b = some o → H b = none → b ∈ fs → b ∉ ex → ∃ sl, h'.get? b = some { o with slots := sl }
  free : ∀ b o, h.get? b = some o → H b = none → b ∉ ex → H' b = none
  there : ∀ b o, h.get? b = some o → b ∉ ex → ∃ o', h'.get? b = some o'
  tups : ∀ b xs, H b = some (.tup xs) → H' b = some (.tup xs)
  frzs : ∀ b o u, H b = some (.frz o u) → H' b = some (.frz o u)
  tbls : ∀ b ps, H b = some (.tbl ps) → ∃ more, H' b = some (.tbl (ps ++ more))
section
variable {fs fs' ex ex' : List Addr} {H H1 H2 : Hp} {h h1 h2 h' : Heap} {a x e : Addr} {o : HO}
theorem Un.any (u : Un fs ex H H1 h h1) {b : Addr} {ob : Obj} (q : h.get? b = some ob) (n : H b = none) (hx : b ∉ ex) : ∃ sl, h1.get? b = some { ob with slots := sl } := by
  by_cases hb : b ∈ fs
  · exact u.slot b ob q n hb hx
  · exact ⟨ob.slots, u.keep b ob q n hb hx⟩
theorem Un.trans (a : Un fs ex H H1 h h1) (b : Un fs ex H1 H2 h1 h2) : Un fs ex H H2 h h2 where
  keep := fun c ob q n hc hx => b.keep c ob (a.keep c ob q n hc hx) (a.free c ob q n hx) hc hx
  slot := fun c ob q n hc hx => by
    obtain ⟨sl, e1⟩ := a.slot c ob q n hc hx
    obtain ⟨sl', e2⟩ := b.slot c _ e1 (a.free c ob q n hx) hc hx
    exact ⟨sl', e2⟩
  free := fun c ob q n hx => by
    obtain ⟨o', e1⟩ := a.there c ob q hx
    exact b.free c o' e1 (a.free c ob q n hx) hx
  there := fun c ob q hx => by
    obtain ⟨o', e1⟩ := a.there c ob q hx
    exact b.there c o' e1 hx
  tups := fun c xs q => b.tups c xs (a.tups c xs q)
  frzs := fun c ob xs q => b.frzs c ob xs (a.frzs c ob xs q)
  tbls := fun c ps q => by
    obtain ⟨m1, e1⟩ := a.tbls c ps q
    obtain ⟨m2, e2⟩ := b.tbls c _ e1
    exact ⟨m1 ++ m2, by rw [e2, Array.append_assoc]⟩
theorem Un.kept (k : ∀ b u, h.get? b = some u → h'.get? b = some u) : Un fs ex H H h h' :=
  ⟨fun b ob q _ _ _ => k b ob q, fun b ob q _ _ _ => ⟨ob.slots, k b ob q⟩, fun _ _ _ n _ => n, fun b ob q _ => ⟨ob, k b ob q⟩, fun _ _ q => q, fun _ _ _ q => q, fun _ ps q => ⟨#[], by rw [q]; simp⟩⟩
theorem Un.refl : Un fs ex H H h h := Un.kept fun _ _ q => q
theorem Un.laid (k : ∀ b u, h.get? b = some u → h'.get? b = some u) (hp : h.objs.size ≤ a) (hn : H a = none) : Un fs ex H (upd H a o) h h' where
  keep := fun b u q _ _ _ => k b u q
  slot := fun b u q _ _ _ => ⟨u.slots, k b u q⟩
  free := fun b u q n _ => by rw [upd_ne (Nat.ne_of_lt (Nat.lt_of_lt_of_le (Heap.lt_size q) hp))]; exact n
  there := fun b u q _ => ⟨u, k b u q⟩
  tups := fun b xs q => by rw [upd_ne (ne_of_none q hn)]; exact q
  frzs := fun b u xs q => by rw [upd_ne (ne_of_none q hn)]; exact q
  tbls := fun b ps q => ⟨#[], by rw [upd_ne (ne_of_none q hn), q]; simp⟩
theorem Un.write (mu : Mut (H x)) (he : e = x ∨ H e = some (.own x)) (k : ∀ b u, b ≠ e → h.get? b = some u → h'.get? b = some u) (heo : ∃ u, h'.get? e = some u) : Un fs ex H (upd H x o) h h' := by
  have hx : ∀ b, H b = none → b ≠ x := fun b n z => by subst z; rw [n] at mu; exact mu
  have hb : ∀ b, H b = none → b ≠ e := fun b n z => by
    subst z
    rcases he with r | r
    · exact hx b n r
    · rw [n] at r; cases r
  have hm : ∀ b u, H b = some u → ¬ Mut (some u) → b ≠ x := fun b u q nm z => by subst z; rw [q] at mu; exact nm mu
  refine ⟨fun b u q n _ _ => k b u (hb b n) q, fun b u q n _ _ => ⟨u.slots, k b u (hb b n) q⟩, fun b u q n _ => by rw [upd_ne (hx b n)]; exact n, fun b u q _ => ?_,
    fun b xs q => by rw [upd_ne (hm b _ q fun z => z)]; exact q, fun b u xs q => by rw [upd_ne (hm b _ q fun z => z)]; exact q, fun b ps q => ⟨#[], by rw [upd_ne (hm b _ q fun z => z), q]; simp⟩⟩
  by_cases hbe : b = e
  · subst hbe; exact heo
  · exact ⟨u, k b u hbe q⟩
theorem Un.mono (u : Un fs ex H H1 h h1) (hs : ∀ b ∈ fs, b ∈ fs') (hx : ∀ b ∈ ex, b ∈ ex') : Un fs' ex' H H1 h h1 :=
  ⟨fun b ob q n hb he => u.keep b ob q n (fun z => hb (hs b z)) fun z => he (hx b z), fun _ _ q n _ he => u.any q n fun z => he (hx _ z), fun b ob q n he => u.free b ob q n fun z => he (hx b z), fun b ob q he => u.there b ob q fun z => he (hx b z), u.tups, u.frzs, u.tbls⟩
end

/-! ### the heap without what is tracked -/
def trk (h : Heap) (H : Hp) : List Addr := (List.range h.objs.size).filter fun a => (H a).isSome
def hidT (h : Heap) (H : Hp) : Heap := PySem.W.hideAll h (trk h H)
theorem hidT_size (h : Heap) (H : Hp) : (hidT h H).objs.size = h.objs.size := PySem.W.hideAll_size _ _
theorem hidT_get {h : Heap} {H : Hp} {b : Addr} {o : Obj} (e : h.get? b = some o) (n : H b = none) : (hidT h H).get? b = some o :=
  PySem.W.hideAll_get _ e fun hm => by
    have q : (H b).isSome = true := (List.mem_filter.mp hm).2
    rw [n] at q; simp at q
theorem of_hidT {h : Heap} {H : Hp} {b : Addr} {o : Obj} (e : (hidT h H).get? b = some o) : h.get? b = some o ∧ H b = none := by
  have e' : h.get? b = some o := PySem.W.of_hideAll (trk h H) e
  refine ⟨e', ?_⟩
  cases q : H b with
  | none => rfl
  | some x =>
    have hm : b ∈ trk h H := List.mem_filter.mpr ⟨List.mem_range.mpr (Heap.lt_size e'), by simp [q]⟩
    have z : (hidT h H).get? b = none := PySem.W.hideAll_none (trk h H) hm
    rw [z] at e; cases e

/-! ### OpenK's ledger, filled with every new object but one -/
def allNews (g h : Heap) (L : Addr) : List (Addr × Obj) := (List.range h.objs.size).filterMap fun a => if a = L ∨ (g.get? a).isSome = true then none else (h.get? a).map fun o => (a, o)
def rest (g h : Heap) (L d : Addr) : List (Addr × Obj) := (allNews g h L).filter fun p => decide (p.1 ≠ d)
end L2

namespace L2
open PySem PySem.Spec PyProof.Rows

/-- the module's facts, over the base: the heap at the law's entry without what is tracked there -/
structure Mod (K : PySem.W.Frag) (mg : Str → Option Value) (base : Heap) : Prop where
  kin : K.In base
  glob : base.Ns mainGlobals mg
  blt : ∃ mb, base.Ns builtinsNs mb ∧ ∀ x : Str, x ≠ "__name__" → mb x = bootBuiltins x
  nolimit : base.NoLimit

/-- the context: a def's body (or a comprehension's block) running. base: fixed through the whole law; s₀, H₀: the entry; outer: the frames whose slots others may change (a def's callers); stack: all frames that run;
   ex: iterators that were made ahead of the entry and are walked here (a comprehension's); fn: the names whose cells were made at the entry (a def: all; a comprehension's block: its own); calm: not within an except suite; pn: pins that every state bears; xe: what is wanted of an exception that leaves the code -/
structure Cx where
  prog : Program
  w : World
  K : PySem.W.Frag
  mg : Str → Option Value
  base : Heap
  A : Around
  N : List Str
  s₀ : Shared
  H₀ : Hp
  env : Env
  outer : List Env
  stack : List Env
  ex : List Addr
  fn : Str → Bool
  calm : Bool
  pn : List (Addr × Obj)
  xe : Value → Shared → Prop
/-- the callers' frames -/
def frs (l : List Env) : List Addr := l.filterMap (·.frame)
abbrev Cx.fs (X : Cx) : List Addr := frs X.outer

def Vis (sc : Scope) (x : Str) : Prop := sc.names.lookup x = some .local ∨ sc.names.lookup x = some .cell ∨ sc.names.lookup x = some .free
def Loc (sc : Scope) (x : Str) : Prop := sc.names.lookup x = some .local ∨ sc.names.lookup x = some .cell
def Look (env : Env) (h : Heap) (m : Str → Option Value) (x : Str) (u : Value) : Prop :=
  (env.kindOf x = some .local ∧ m x = some u) ∨ ((env.kindOf x = some .cell ∨ env.kindOf x = some .free) ∧ ∃ c, env.cells.lookup x = some c ∧ h.IsCell c (some u))

structure Cx.Ok (X : Cx) : Prop where
  mod : Mod X.K X.mg X.base
  kind : X.env.scope.kind = .function
  glob : X.env.globals = mainGlobals
  blt : X.env.builtins = builtinsNs
  above : X.s₀.heap.objs.size ≤ X.env.locals
  inj : ∀ x y c, X.env.cells.lookup x = some c → X.env.cells.lookup y = some c → x = y
  has : ∀ x, (X.env.kindOf x = some .cell ∨ X.env.kindOf x = some .free) → ∃ c, X.env.cells.lookup x = some c
  cab : ∀ x c, X.fn x = true → X.env.cells.lookup x = some c → X.s₀.heap.objs.size ≤ c
  hd : X.calm = true → X.A.handled = none
  frames : X.A.frames = some X.stack
  stk : X.stack = X.outer ∨ (X.stack = X.env :: X.outer ∧ X.env.frame = some X.env.locals)
  exf : ∀ b ∈ X.ex, b ≠ X.env.locals ∧ ∀ x c, X.env.cells.lookup x = some c → c ≠ b
  bs : ∀ b o, X.base.get? b = some o → X.s₀.heap.get? b = some o ∧ X.H₀ b = none
  bsz : X.base.objs.size ≤ X.s₀.heap.objs.size
  noex : ∀ b o, X.base.get? b = some o → b ∉ X.ex
  exfs : ∀ b ∈ X.ex, b ∉ X.fs
  funs : X.s₀.heap.FunFrames X.base X.outer
  frf : ∀ b ∈ X.fs, X.H₀ b = none

structure Inv (X : Cx) (pins : List (Addr × Obj)) (σ : List (Option V)) (H : Hp) (s : Shared) : Prop where
  ok : X.Ok
  os : s.os = X.s₀.os
  bare : AllBare s.gens
  base : Un X.fs X.ex X.H₀ H X.s₀.heap s.heap
  loc : ∃ m, s.heap.Ns X.env.locals m ∧ ∀ (i : Nat) (x : Str) (v : V), X.N[i]? = some x → σ[i]? = some (some v) → Vis X.env.scope x → ∃ u, RelV v u ∧ Look X.env s.heap m x u
  cell : ∀ x c, X.env.cells.lookup x = some c → ∃ v, s.heap.IsCell c v
  free : H X.env.locals = none
  freeC : ∀ x c, X.env.cells.lookup x = some c → H c = none
  pin : ∀ p ∈ X.pn ++ pins, s.heap.get? p.1 = some p.2 ∧ H p.1 = none ∧ p.1 ≠ X.env.locals ∧ p.1 ∉ X.fs ∧ ∀ v, p.2.data ≠ .cell v
  hok : HOk X.prog X.w H s.heap
  len : σ.length = X.N.length

section
variable {X : Cx} {pins : List (Addr × Obj)} {σ : List (Option V)} {H H' : Hp} {s : Shared} {h' : Heap}

theorem Cx.Ok.nofr (ok : X.Ok) {b : Addr} {o : Obj} (e : X.base.get? b = some o) : b ∉ X.fs := fun hb => by
  have := (ok.funs.mem hb).1
  rw [e] at this; cases this
theorem Inv.bs (I : Inv X pins σ H s) : ∀ b o, X.base.get? b = some o → s.heap.get? b = some o ∧ H b = none := fun b o e =>
  ⟨I.base.keep b o (I.ok.bs b o e).1 (I.ok.bs b o e).2 (I.ok.nofr e) (I.ok.noex b o e), I.base.free b o (I.ok.bs b o e).1 (I.ok.bs b o e).2 (I.ok.noex b o e)⟩
theorem Inv.bk (I : Inv X pins σ H s) : ∀ b o, X.base.get? b = some o → s.heap.get? b = some o := fun b o e => (I.bs b o e).1
theorem Inv.mod (I : Inv X pins σ H s) : Mod X.K X.mg X.base := I.ok.mod
theorem Inv.kIn (I : Inv X pins σ H s) : X.K.In s.heap := I.ok.mod.kin.keeps I.bk
theorem Inv.nolimit (I : Inv X pins σ H s) : s.heap.NoLimit := I.ok.mod.nolimit.keeps I.bk
/-- the frame over the base: for OpenK's rules (K.In X.base is I.mod.kin) -/
theorem Inv.fr (I : Inv X pins σ H s) : ∃ m, Fr X.base X.env.locals s.heap m :=
  let ⟨m, hn, _⟩ := I.loc
  ⟨m, hn, I.bk, Nat.le_trans I.ok.bsz I.ok.above⟩
theorem Inv.lt (I : Inv X pins σ H s) : X.env.locals < s.heap.objs.size := let ⟨_, hn, _⟩ := I.loc; hn.lt
theorem Inv.sz (I : Inv X pins σ H s) : X.s₀.heap.objs.size ≤ s.heap.objs.size := Nat.le_trans I.ok.above (Nat.le_of_lt I.lt)
theorem Inv.nofs (I : Inv X pins σ H s) {a : Addr} (h : s.heap.objs.size ≤ a) : a ∉ X.fs := fun hb => by
  obtain ⟨_, o, ho, _⟩ := I.ok.funs.mem hb
  exact absurd (Nat.lt_of_lt_of_le (Heap.lt_size ho) (Nat.le_trans I.sz h)) (Nat.lt_irrefl _)
theorem Inv.cne (I : Inv X pins σ H s) : ∀ x c, X.env.cells.lookup x = some c → c ≠ X.env.locals := fun x c e z => by
  obtain ⟨v, o, ho, hd⟩ := I.cell x c e
  obtain ⟨m, ⟨o', es, ep, ho', hd', _⟩, _⟩ := I.loc
  rw [z, ho'] at ho; cases ho; rw [hd'] at hd; cases hd
theorem Inv.funs (I : Inv X pins σ H s) : s.heap.FunFrames X.base X.outer := by
  have all : ∀ (l : List Env), (∀ b ∈ frs l, b ∈ X.fs) → X.s₀.heap.FunFrames X.base l → s.heap.FunFrames X.base l := by
    intro l
    induction l with
    | nil => intro _ _; trivial
    | cons env r ih =>
      intro hs hl
      obtain ⟨hk, ⟨L, o, hf, hn, ho, hd⟩, hr⟩ := hl
      have hL : L ∈ X.fs := hs L (by unfold frs; rw [List.filterMap_cons, hf]; exact List.mem_cons_self)
      obtain ⟨sl, e⟩ := I.base.slot L o ho (I.ok.frf L hL) hL fun z => I.ok.exfs L z hL
      exact ⟨hk, ⟨L, _, hf, hn, e, hd⟩, ih (fun b hb => hs b (by unfold frs; rw [List.filterMap_cons, hf]; exact List.mem_cons_of_mem _ hb)) hr⟩
  exact all X.outer (fun _ hb => hb) I.ok.funs

/-- the frames that run, for a call -/
theorem Inv.stack (I : Inv X pins σ H s) : s.heap.FunFrames X.base X.stack := by
  rcases I.ok.stk with e | ⟨e, hf⟩
  · rw [e]; exact I.funs
  · rw [e]
    obtain ⟨m, hn, _⟩ := I.loc
    refine .cons (by rw [I.ok.kind]; decide) hf hn ?_ I.funs
    exact Heap.get?_none_of_le (Nat.le_trans I.ok.bsz I.ok.above)
theorem Inv.stkSub (I : Inv X pins σ H s) : ∀ b ∈ frs X.stack, b ∈ X.env.locals :: X.fs := fun b hb => by
  rcases I.ok.stk with e | ⟨e, hf⟩
  · rw [e] at hb; exact List.mem_cons_of_mem _ hb
  · rw [e] at hb
    unfold frs at hb
    rw [List.filterMap_cons, hf] at hb
    exact hb
theorem Inv.stkFree (I : Inv X pins σ H s) : ∀ b ∈ frs X.stack, H b = none := fun b hb => by
  rcases List.mem_cons.mp (I.stkSub b hb) with e | hb
  · rw [e]; exact I.free
  · obtain ⟨_, o, ho, _⟩ := I.ok.funs.mem hb
    exact I.base.free b o ho (I.ok.frf b hb) fun z => I.ok.exfs b z hb

/-- THE STEP: the untracked objects but the frame and the records at ch are kept (the callers' frames up to slots), the frame's map is kept, the new abstract heap is held -/
theorem Inv.step {g' : Array GenState} {t' : Nat} {d' : Drawn} {ch : List Addr} (I : Inv X pins σ H s)
    (hch : ∀ b ∈ ch, (b ∈ X.ex ∨ X.s₀.heap.objs.size ≤ b) ∧ b ≠ X.env.locals ∧ (∀ x c, X.env.cells.lookup x = some c → c ≠ b) ∧ ∀ p ∈ X.pn ++ pins, p.1 ≠ b)
    (keep : ∀ b o, b ≠ X.env.locals → b ∉ X.fs → b ∉ ch → s.heap.get? b = some o → H b = none → h'.get? b = some o)
    (slot : ∀ b o, b ≠ X.env.locals → b ∈ X.fs → b ∉ ch → s.heap.get? b = some o → H b = none → ∃ sl, h'.get? b = some { o with slots := sl }) (free : ∀ b o, b ∉ ch → s.heap.get? b = some o → H b = none → H' b = none)
    (there : ∀ b o, b ∉ ch → s.heap.get? b = some o → ∃ o', h'.get? b = some o')
    (tups : ∀ b xs, H b = some (.tup xs) → H' b = some (.tup xs)) (frzs : ∀ b o u, H b = some (.frz o u) → H' b = some (.frz o u)) (tbls : ∀ b ps, H b = some (.tbl ps) → ∃ more, H' b = some (.tbl (ps ++ more)))
    (ns : ∀ m, s.heap.Ns X.env.locals m → h'.Ns X.env.locals m) (hok : HOk X.prog X.w H' h') (hg : AllBare g') :
    Inv X pins σ H' { s with heap := h', gens := g', drawn := d', toks := t' } := by
  have neL : ∀ b o, X.s₀.heap.get? b = some o → b ≠ X.env.locals := fun b o e => Nat.ne_of_lt (Nat.lt_of_lt_of_le (Heap.lt_size e) I.ok.above)
  have neC : ∀ b o, X.s₀.heap.get? b = some o → b ∉ X.ex → b ∉ ch := fun b o e hx hb => by
    rcases (hch b hb).1 with z | z
    · exact hx z
    · exact absurd (Nat.lt_of_lt_of_le (Heap.lt_size e) z) (Nat.lt_irrefl _)
  have cellK : ∀ x c, X.env.cells.lookup x = some c → ∀ v, s.heap.IsCell c v → h'.IsCell c v := fun x c e v ⟨o, ho, hd⟩ => by
    have nch : c ∉ ch := fun z => (hch c z).2.2.1 x c e rfl
    by_cases hc : c ∈ X.fs
    · obtain ⟨sl, q⟩ := slot c o (I.cne x c e) hc nch ho (I.freeC x c e)
      exact ⟨_, q, hd⟩
    · exact ⟨o, keep c o (I.cne x c e) hc nch ho (I.freeC x c e), hd⟩
  refine ⟨I.ok, I.os, hg, ⟨fun b o e n hb hx => ?_, fun b o e n hb hx => ?_, fun b o e n hx => ?_, fun b o e hx => ?_, fun b xs e => tups b xs (I.base.tups b xs e), fun b o xs e => frzs b o xs (I.base.frzs b o xs e), fun b ps e => ?_⟩, ?_, fun x c e => ?_, ?_, fun x c e => ?_, fun p hp => ?_, hok, I.len⟩
  · exact keep b o (neL b o e) hb (neC b o e hx) (I.base.keep b o e n hb hx) (I.base.free b o e n hx)
  · obtain ⟨sl, e1⟩ := I.base.slot b o e n hb hx
    obtain ⟨sl', e2⟩ := slot b _ (neL b o e) hb (neC b o e hx) e1 (I.base.free b o e n hx)
    exact ⟨sl', e2⟩
  · obtain ⟨o', e1⟩ := I.base.there b o e hx
    exact free b o' (neC b o e hx) e1 (I.base.free b o e n hx)
  · obtain ⟨o', e1⟩ := I.base.there b o e hx
    exact there b o' (neC b o e hx) e1
  · obtain ⟨m1, e1⟩ := I.base.tbls b ps e
    obtain ⟨m2, e2⟩ := tbls b _ e1
    exact ⟨m1 ++ m2, by rw [e2, Array.append_assoc]⟩
  · obtain ⟨m, hn, hl⟩ := I.loc
    refine ⟨m, ns m hn, fun i x v e1 e2 e3 => ?_⟩
    obtain ⟨u, r, l⟩ := hl i x v e1 e2 e3
    refine ⟨u, r, ?_⟩
    rcases l with l | ⟨k, c, e, z⟩
    · exact .inl l
    · exact .inr ⟨k, c, e, cellK x c e _ z⟩
  · obtain ⟨v, z⟩ := I.cell x c e
    exact ⟨v, cellK x c e v z⟩
  · obtain ⟨m, ⟨o, _, _, ho, _⟩, _⟩ := I.loc
    exact free _ o (fun z => (hch _ z).2.1 rfl) ho I.free
  · obtain ⟨v, o, ho, hd⟩ := I.cell x c e
    exact free c o (fun z => (hch c z).2.2.1 x c e rfl) ho (I.freeC x c e)
  · obtain ⟨e, n, ne, nf, d⟩ := I.pin p hp
    have nch : p.1 ∉ ch := fun z => (hch p.1 z).2.2.2 p hp rfl
    exact ⟨keep p.1 p.2 ne nf nch e n, free p.1 p.2 nch e n, ne, nf, d⟩
/-- .. where the frame's own object is kept too -/
theorem Inv.un {t' : Nat} (I : Inv X pins σ H s) (u : Un X.fs [] H H' s.heap h') (hok : HOk X.prog X.w H' h') : Inv X pins σ H' { s with heap := h', toks := t' } := by
  obtain ⟨m, ⟨o, es, ep, ho, r⟩, _⟩ := id I.loc
  obtain ⟨sl, hL⟩ := u.any ho I.free (by simp)
  exact I.step (g' := s.gens) (d' := s.drawn) (ch := []) (fun _ z => nomatch z) (fun b o _ hb _ e n => u.keep b o e n hb (by simp)) (fun b o _ hb _ e n => u.slot b o e n hb (by simp)) (fun b o _ e n => u.free b o e n (by simp)) (fun b o _ e => u.there b o e (by simp)) u.tups u.frzs u.tbls (fun m' hm => by
    obtain ⟨o', es', ep', ho', r'⟩ := hm
    rw [ho] at ho'; cases ho'
    exact ⟨_, es', ep', hL, r'⟩) hok I.bare
/-- behind a call (or a comprehension's block): the slots of this frame may have changed too, the records at ch may have turned -/
theorem Inv.call {g' : Array GenState} {t' : Nat} {d' : Drawn} {ch : List Addr} (I : Inv X pins σ H s) (u : Un (frs X.stack) ch H H' s.heap h') (hok : HOk X.prog X.w H' h') (hg : AllBare g')
    (hch : ∀ b ∈ ch, (b ∈ X.ex ∨ X.s₀.heap.objs.size ≤ b) ∧ b ≠ X.env.locals ∧ (∀ x c, X.env.cells.lookup x = some c → c ≠ b) ∧ ∀ p ∈ X.pn ++ pins, p.1 ≠ b) :
    Inv X pins σ H' { s with heap := h', gens := g', drawn := d', toks := t' } := by
  obtain ⟨m, ⟨o, es, ep, ho, r⟩, _⟩ := id I.loc
  obtain ⟨sl, hL⟩ := u.any ho I.free fun z => (hch _ z).2.1 rfl
  exact I.step (ch := ch) hch (fun b o hL hb hc e n => u.keep b o e n (fun z => (List.mem_cons.mp (I.stkSub b z)).elim hL hb) hc) (fun b o _ _ hc e n => u.any e n hc) (fun b o hc e n => u.free b o e n hc) (fun b o hc e => u.there b o e hc) u.tups u.frzs u.tbls (fun m' hm => by
    obtain ⟨o', es', ep', ho', r'⟩ := hm
    rw [ho] at ho'; cases ho'
    exact ⟨_, es', ep', hL, r'⟩) hok hg
/-- an untracked record of ours (an iterator) has turned -/
theorem Inv.turned {t' : Nat} {it : Addr} (I : Inv X pins σ H s) (k : ∀ b o, b ≠ it → s.heap.get? b = some o → h'.get? b = some o) (hn : H it = none) (hL : it ≠ X.env.locals)
    (h1 : it ∈ X.ex ∨ X.s₀.heap.objs.size ≤ it) (h2 : ∀ x c, X.env.cells.lookup x = some c → c ≠ it) (h3 : ∀ p ∈ X.pn ++ pins, p.1 ≠ it) : Inv X pins σ H { s with heap := h', toks := t' } := by
  have nit : ∀ b u, H b = some u → b ≠ it := fun b u e z => by rw [z, hn] at e; cases e
  refine I.step (g' := s.gens) (d' := s.drawn) (ch := [it]) (fun b hb => ?_) (fun b o _ _ hc e _ => k b o (fun z => hc (by simp [z])) e) (fun b o _ _ hc e _ => ⟨o.slots, k b o (fun z => hc (by simp [z])) e⟩) (fun _ _ _ _ n => n)
    (fun b o hc e => ⟨o, k b o (fun z => hc (by simp [z])) e⟩) (fun _ _ e => e) (fun _ _ _ e => e) (fun b ps e => ⟨#[], by rw [e]; simp⟩) (fun m hm => ?_) (fun b u e => ?_) I.bare
  · have e : b = it := by simpa using hb
    subst e
    exact ⟨h1, hL, h2, h3⟩
  · obtain ⟨o, es, ep, ho, r⟩ := hm
    exact ⟨o, es, ep, k _ o (Ne.symm hL) ho, r⟩
  · refine (I.hok b u e).stay (fun c v hc q => k c v ?_ q) (fun _ q => q) fun _ _ q => q
    rcases hc with z | z
    · rw [z]; exact nit b u e
    · exact nit c _ z
theorem Inv.tok (I : Inv X pins σ H s) (t : Nat) : Inv X pins σ H { s with toks := t } := I.un (h' := s.heap) (t' := t) Un.refl I.hok
/-- all objects kept -/
theorem Inv.kept {t' : Nat} (I : Inv X pins σ H s) (k : ∀ b u, s.heap.get? b = some u → h'.get? b = some u) : Inv X pins σ H { s with heap := h', toks := t' } := I.un (Un.kept k) (I.hok.kept k)
/-- a new object laid and tracked -/
theorem Inv.laid {a : Addr} {o : HO} {t' : Nat} (I : Inv X pins σ H s) (k : ∀ b u, s.heap.get? b = some u → h'.get? b = some u) (hp : s.heap.objs.size ≤ a) (new : ObjOk X.prog X.w (upd H a o) h' a o) :
    Inv X pins σ (upd H a o) { s with heap := h', toks := t' } := I.un (Un.laid k hp (I.hok.fresh hp)) (I.hok.laid k hp new)
/-- an object written -/
theorem Inv.write {x e : Addr} {o : HO} {t' : Nat} (I : Inv X pins σ H s) (mu : Mut (H x)) (he : e = x ∨ H e = some (.own x)) (k : ∀ b u, b ≠ e → s.heap.get? b = some u → h'.get? b = some u) (heo : ∃ u, h'.get? e = some u)
    (new : ObjOk X.prog X.w (upd H x o) h' x o) : Inv X pins σ (upd H x o) { s with heap := h', toks := t' } := I.un (Un.write mu he k heo) (I.hok.write mu he k heo new)
/-- forgetting slots, pins -/
theorem Inv.weak {σ' : List (Option V)} (I : Inv X pins σ H s) (hl : σ'.length = σ.length) (w : ∀ (i : Nat) v, σ'[i]? = some (some v) → σ[i]? = some (some v)) : Inv X pins σ' H s :=
  ⟨I.ok, I.os, I.bare, I.base, let ⟨m, hn, hl'⟩ := I.loc; ⟨m, hn, fun i x v e1 e2 e3 => hl' i x v e1 (w i v e2) e3⟩, I.cell, I.free, I.freeC, I.pin, I.hok, hl.trans I.len⟩
theorem Inv.pins_of {pins' : List (Addr × Obj)} (I : Inv X pins σ H s) (h : ∀ p ∈ pins', s.heap.get? p.1 = some p.2 ∧ H p.1 = none ∧ p.1 ≠ X.env.locals ∧ p.1 ∉ X.fs ∧ ∀ v, p.2.data ≠ .cell v) : Inv X pins' σ H s :=
  ⟨I.ok, I.os, I.bare, I.base, I.loc, I.cell, I.free, I.freeC, fun p hp => (List.mem_append.mp hp).elim (fun z => I.pin p (List.mem_append_left _ z)) (h p), I.hok, I.len⟩

theorem nodup_ix {N : List Str} (hN : N.Nodup) {i j : Nat} {x : Str} (a : N[i]? = some x) (b : N[j]? = some x) : i = j := by
  obtain ⟨h1, e1⟩ := List.getElem?_eq_some_iff.mp a
  obtain ⟨h2, e2⟩ := List.getElem?_eq_some_iff.mp b
  exact (List.getElem_inj hN).mp (e1.trans e2.symm)

/-- a name is stored; what changed -/
theorem store_ok2 {M : Model} {A : Around} {E : Value → Shared → Prop} {i : Nat} {x : Str} {v : V} {u : Value} {Q : Unit → Shared → Prop} (I : Inv X pins σ H s) (hN : X.N.Nodup) (hi : X.N[i]? = some x) (hx : Loc X.env.scope x) (r : RelV v u)
    (h : ∀ s', Inv X pins (σ.set i (some v)) H s' → (∃ a, Heap.SameBut a s.heap s'.heap ∧ (a = X.env.locals ∨ X.env.cells.lookup x = some a)) → Q () s') (hf : X.fn x = true ∨ X.env.scope.names.lookup x = some .local := by first | exact .inl rfl | exact .inr rfl | assumption) : wpAny M A (storeName X.env x u) Q E s := by
  obtain ⟨m, hn, hl⟩ := id I.loc
  have hcls : (X.env.scope.kind == .class || (X.env.scope.kind == .module && X.env.locals != X.env.globals)) = false := by rw [I.ok.kind]; rfl
  have hiσ : i < σ.length := by rw [I.len]; exact (List.getElem?_eq_some_iff.mp hi).1
  have cne := I.cne
  have tracked : ∀ {a : Addr} {h' : Heap}, (∃ o, s.heap.get? a = some o ∧ H a = none) → Heap.SameBut a s.heap h' → HOk X.prog X.w H h' := fun {a h'} ha hs b ob e => by
    obtain ⟨_, _, hfree⟩ := ha
    refine (I.hok b ob e).stay (fun c w' hc q => (hs.2 c ?_).trans q) (fun _ q => q) fun _ _ q => q
    rintro rfl
    rcases hc with rfl | hc
    · rw [hfree] at e; cases e
    · rw [hfree] at hc; cases hc
  rcases hx with hk | hk
  · refine wpAny_storeName_local hk hn (fun h' hn' hs => ?_) hcls
    obtain ⟨oL, _, _, hoL, _⟩ := id hn
    refine h _ ⟨I.ok, I.os, I.bare, ⟨fun b o e n hb hx => ?_, fun b o e n hb hx => ?_, I.base.free, fun b o e hx => ?_, I.base.tups, I.base.frzs, I.base.tbls⟩, ⟨_, hn', fun j y v' e1 e2 e3 => ?_⟩, fun y c e => ?_, I.free, I.freeC, fun p hp => ?_, tracked ⟨oL, hoL, I.free⟩ hs, by simpa using I.len⟩ ⟨_, hs, .inl rfl⟩
    · exact (hs.2 b (Nat.ne_of_lt (Nat.lt_of_lt_of_le (Heap.lt_size e) I.ok.above))).trans (I.base.keep b o e n hb hx)
    · obtain ⟨sl, e1⟩ := I.base.slot b o e n hb hx
      exact ⟨sl, (hs.2 b (Nat.ne_of_lt (Nat.lt_of_lt_of_le (Heap.lt_size e) I.ok.above))).trans e1⟩
    · obtain ⟨o', e1⟩ := I.base.there b o e hx
      exact ⟨o', (hs.2 b (Nat.ne_of_lt (Nat.lt_of_lt_of_le (Heap.lt_size e) I.ok.above))).trans e1⟩
    · by_cases hj : j = i
      · subst hj
        rw [hi] at e1; cases e1
        rw [List.getElem?_set_self hiσ] at e2
        cases e2
        exact ⟨u, r, .inl ⟨hk, by simp⟩⟩
      · rw [List.getElem?_set_ne (Ne.symm hj)] at e2
        obtain ⟨u', r', q⟩ := hl j y v' e1 e2 e3
        refine ⟨u', r', ?_⟩
        rcases q with ⟨k, e⟩ | ⟨k, c, e, z⟩
        · refine .inl ⟨k, ?_⟩
          have : y ≠ x := fun e => hj (nodup_ix hN e1 (e ▸ hi))
          simp [this, e]
        · exact .inr ⟨k, c, e, z.sameBut hs (cne y c e)⟩
    · obtain ⟨w', z⟩ := I.cell y c e
      exact ⟨w', z.sameBut hs (cne y c e)⟩
    · obtain ⟨e, n, ne, nf, d⟩ := I.pin p hp
      exact ⟨(hs.2 p.1 ne).trans e, n, ne, nf, d⟩
  · have hfn : X.fn x = true := by
      rcases hf with z | z
      · exact z
      · rw [z] at hk; cases hk
    obtain ⟨c, hc⟩ := I.ok.has x (.inl hk)
    obtain ⟨w', z⟩ := I.cell x c hc
    refine wpAny_storeName_cell I.ok.kind hk hc z (fun h' hc' hs => ?_)
    obtain ⟨oc, hoc, hocd⟩ := id z
    refine h { s with heap := h' } ⟨I.ok, I.os, I.bare, ⟨fun b o e n hb hx => ?_, fun b o e n hb hx => ?_, I.base.free, fun b o e hx => ?_, I.base.tups, I.base.frzs, I.base.tbls⟩, ⟨m, hn.sameBut hs (Ne.symm (cne x c hc)), fun j y v' e1 e2 e3 => ?_⟩, fun y c' e => ?_, I.free, I.freeC, fun p hp => ?_, tracked ⟨oc, hoc, I.freeC x c hc⟩ hs, by simpa using I.len⟩ ⟨c, hs, .inr hc⟩
    · exact (hs.2 b (Nat.ne_of_lt (Nat.lt_of_lt_of_le (Heap.lt_size e) (I.ok.cab x c hfn hc)))).trans (I.base.keep b o e n hb hx)
    · obtain ⟨sl, e1⟩ := I.base.slot b o e n hb hx
      exact ⟨sl, (hs.2 b (Nat.ne_of_lt (Nat.lt_of_lt_of_le (Heap.lt_size e) (I.ok.cab x c hfn hc)))).trans e1⟩
    · obtain ⟨o', e1⟩ := I.base.there b o e hx
      exact ⟨o', (hs.2 b (Nat.ne_of_lt (Nat.lt_of_lt_of_le (Heap.lt_size e) (I.ok.cab x c hfn hc)))).trans e1⟩
    · by_cases hj : j = i
      · subst hj
        rw [hi] at e1; cases e1
        rw [List.getElem?_set_self hiσ] at e2
        cases e2
        exact ⟨u, r, .inr ⟨.inl hk, c, hc, hc'⟩⟩
      · rw [List.getElem?_set_ne (Ne.symm hj)] at e2
        obtain ⟨u', r', q⟩ := hl j y v' e1 e2 e3
        refine ⟨u', r', ?_⟩
        rcases q with q | ⟨k, c', e, z'⟩
        · exact .inl q
        · refine .inr ⟨k, c', e, z'.sameBut hs ?_⟩
          rintro rfl
          exact hj (nodup_ix hN e1 (I.ok.inj _ _ _ e hc ▸ hi))
    · by_cases hcc : c' = c
      · subst hcc; exact ⟨_, hc'⟩
      · obtain ⟨w2, z2⟩ := I.cell y c' e
        exact ⟨w2, z2.sameBut hs hcc⟩
    · obtain ⟨e, n, ne, nf, d⟩ := I.pin p hp
      refine ⟨(hs.2 p.1 ?_).trans e, n, ne, nf, d⟩
      intro q
      rw [q, hoc] at e
      have q' : oc = p.2 := Option.some.inj e
      exact d w' (by rw [← q']; exact hocd)
theorem store_ok {M : Model} {A : Around} {E : Value → Shared → Prop} {i : Nat} {x : Str} {v : V} {u : Value} {Q : Unit → Shared → Prop} (I : Inv X pins σ H s) (hN : X.N.Nodup) (hi : X.N[i]? = some x) (hx : Loc X.env.scope x) (r : RelV v u)
    (h : ∀ s', Inv X pins (σ.set i (some v)) H s' → Q () s') (hf : X.fn x = true ∨ X.env.scope.names.lookup x = some .local := by first | exact .inl rfl | exact .inr rfl | assumption) : wpAny M A (storeName X.env x u) Q E s :=
  store_ok2 I hN hi hx r (fun s' I' _ => h s' I') hf
/-- behind a call or a block, the state as it is -/
theorem Inv.call' {s' : Shared} {ch : List Addr} (I : Inv X pins σ H s) (ho : s'.os = s.os) (u : Un (frs X.stack) ch H H' s.heap s'.heap) (hok : HOk X.prog X.w H' s'.heap) (hg : AllBare s'.gens)
    (hch : ∀ b ∈ ch, (b ∈ X.ex ∨ X.s₀.heap.objs.size ≤ b) ∧ b ≠ X.env.locals ∧ (∀ x c, X.env.cells.lookup x = some c → c ≠ b) ∧ ∀ p ∈ X.pn ++ pins, p.1 ≠ b) : Inv X pins σ H' s' := by
  obtain ⟨h', g', d', t', o'⟩ := s'
  have e : o' = s.os := ho
  subst e
  exact I.call (g' := g') (t' := t') (d' := d') u hok hg hch
end

/-! ### the judgements -/
/-- an exception: its class, its own dict's address (where it has one), the abstract heap behind it -/
abbrev XK := Value → Option Addr → Hp → Prop
abbrev St := List (Option V)
abbrev VK := V → Hp → Prop
/-- an expression's reading; a test's; an argument list's -/
abbrev TE := St → Hp → VK → Prop
abbrev TT := St → Hp → (Bool → Hp → Prop) → Prop
abbrev TA := St → Hp → (List V → Hp → Prop) → Prop
/-- what is wanted behind a statement -/
structure Ends where
  nx : St → Hp → Prop
  rt : VK
  bk : St → Hp → Prop := fun _ _ => False
  ct : St → Hp → Prop := fun _ _ => False
abbrev TS := Ends → St → Hp → Prop

def EP (X : Cx) (pins : List (Addr × Obj)) (σ : St) (Q : VK) (u : Value) (s' : Shared) : Prop := ∃ v H', Inv X pins σ H' s' ∧ RelV v u ∧ Q v H'
def TP (X : Cx) (pins : List (Addr × Obj)) (σ : St) (Q : Bool → Hp → Prop) (b : Bool) (s' : Shared) : Prop := ∃ H', Inv X pins σ H' s' ∧ Q b H'
def AP (X : Cx) (pins : List (Addr × Obj)) (σ : St) (Q : List V → Hp → Prop) (us : List Value) (s' : Shared) : Prop := ∃ vs H', Inv X pins σ H' s' ∧ Vals vs us ∧ Q vs H'
def SP (X : Cx) (pins : List (Addr × Obj)) (D : Ends) (f : Flow) (s' : Shared) : Prop :=
  match f with
  | .next => ∃ σ' H', Inv X pins σ' H' s' ∧ D.nx σ' H'
  | .brk => ∃ σ' H', Inv X pins σ' H' s' ∧ D.bk σ' H'
  | .cont => ∃ σ' H', Inv X pins σ' H' s' ∧ D.ct σ' H'
  | .ret u => ∃ v σ' H', Inv X pins σ' H' s' ∧ RelV v u ∧ D.rt v H'

def PE (X : Cx) (e : Expr) (t : TE) : Prop :=
  ∀ (pins : List (Addr × Obj)) (s : Shared) (σ : St) (H : Hp) (Q : VK), Inv X pins σ H s → t σ H Q → wpAny (model X.prog X.w) X.A (eval e X.env) (EP X pins σ Q) X.xe s
def PT (X : Cx) (e : Expr) (t : TT) : Prop :=
  ∀ (pins : List (Addr × Obj)) (s : Shared) (σ : St) (H : Hp) (Q : Bool → Hp → Prop), Inv X pins σ H s → t σ H Q → wpAny (model X.prog X.w) X.A (isTrue e X.env (eval e X.env)) (TP X pins σ Q) X.xe s
/-- a test whatever its 'whole' is (and, or) -/
def PW (X : Cx) (e : Expr) (t : TT) : Prop :=
  ∀ (whole : Sem Value) (pins : List (Addr × Obj)) (s : Shared) (σ : St) (H : Hp) (Q : Bool → Hp → Prop), Inv X pins σ H s → t σ H Q → wpAny (model X.prog X.w) X.A (isTrue e X.env whole) (TP X pins σ Q) X.xe s
theorem PW.pt {X : Cx} {e : Expr} {t : TT} (h : PW X e t) : PT X e t := h _
/-- an argument list (no star), from the left -/
def PA (X : Cx) (es : List Expr) (t : TA) : Prop :=
  ∀ (pos : Pos) (pins : List (Addr × Obj)) (s : Shared) (σ : St) (H : Hp) (Q : List V → Hp → Prop), Inv X pins σ H s → t σ H Q → wpAny (model X.prog X.w) X.A (spliced (backTo pos (starEach es X.env))) (AP X pins σ Q) X.xe s
def PS (X : Cx) (st : Stmt) (t : TS) : Prop :=
  ∀ (pins : List (Addr × Obj)) (s : Shared) (σ : St) (H : Hp) (D : Ends), Inv X pins σ H s → t D σ H → wpAny (model X.prog X.w) X.A (exec st X.env) (SP X pins D) X.xe s
def PSs (X : Cx) (st : List Stmt) (t : TS) : Prop :=
  ∀ (pins : List (Addr × Obj)) (s : Shared) (σ : St) (H : Hp) (D : Ends), Inv X pins σ H s → t D σ H → wpAny (model X.prog X.w) X.A (execs st X.env) (SP X pins D) X.xe s
/-- weaken the end -/
theorem thn {α : Type} {t : Sem α} {Q Q' : α → Shared → Prop} {M : Model} {A : Around} {E : Value → Shared → Prop} {s : Shared} (h : wpAny M A t Q E s) (hQ : ∀ a s, Q a s → Q' a s) : wpAny M A t Q' E s := wpAny_mono h hQ fun _ _ x => x
end L2

namespace L2
open PySem PySem.Spec PyProof.Rows
section
variable {X : Cx}

/-! ### names and constants -/
def tVar (i : Nat) : TE := fun σ H Q => ∃ v, σ[i]? = some (some v) ∧ Q v H
def tC (v : V) : TE := fun _ H Q => Q v H
theorem pe_var {i : Nat} {x : Str} {pos : Pos} (hN : X.N[i]? = some x) (hv : Vis X.env.scope x) (hd : (x == ("__debug__" : Str)) = false := by decide) (hcd : (x == ("__classdict__" : Str)) = false := by decide) : PE X (.Name x pos) (tVar i) := by
  intro pins s σ H Q I h
  obtain ⟨v, e, h⟩ := h
  obtain ⟨m, hn, hl⟩ := I.loc
  obtain ⟨u, r, l⟩ := hl i x v hN e hv
  have fin : EP X pins σ Q u s := ⟨v, H, I, r, h⟩
  rcases l with ⟨hk, hm⟩ | ⟨hk, c, hc, hcell⟩
  · exact wpAny_Name (wpAny_loadName_local I.ok.kind hk hn hm fin) hd
  · rcases hk with hk | hk
    · exact wpAny_Name (wpAny_loadName_cell I.ok.kind hk hc hcell fin) hd
    · exact wpAny_Name (wpAny_loadName_free I.ok.kind hk hc hcell fin hcd) hd
theorem pe_int {i j pos} : PE X (.Constant (.int i) j pos) (tC (.int i)) := fun _ _ _ H _ I h => wpAny_Constant_int ⟨.int i, H, I.tok _, ⟨_, rfl⟩, h⟩
theorem pe_bl {b j pos} : PE X (.Constant (.bool b) j pos) (tC (.bl b)) := fun _ _ _ H _ I h => Constant_bool ⟨.bl b, H, I, rfl, h⟩
theorem pe_non {j pos} : PE X (.Constant .none j pos) (tC .non) := fun _ _ _ H _ I h => Constant_none ⟨.non, H, I, rfl, h⟩
theorem pe_str {x j pos} : PE X (.Constant (.str x) j pos) (tC (.str x)) := fun _ _ _ H _ I h => Calls.Constant_str ⟨.str x, H, I.tok _, ⟨_, rfl⟩, h⟩

/-- a global name of the def -/
def Gl (X : Cx) (x : Str) : Prop := X.env.kindOf x = some .globalImplicit
theorem ld_glob {E : Value → Shared → Prop} {pins : List (Addr × Obj)} {s : Shared} {σ : St} {H : Hp} {x : Str} {u : Value} {pos : Pos} {Q : Value → Shared → Prop} (I : Inv X pins σ H s) (hg : Gl X x) (hm : X.mg x = some u) (h : Q u s)
    (hd : (x == ("__debug__" : Str)) = false := by decide) : wpAny (model X.prog X.w) X.A (eval (.Name x pos) X.env) Q E s :=
  Calls.Name_function_global I.ok.kind hg (Calls.loadGlobal_global (by rw [I.ok.glob]; exact I.mod.glob.keeps I.bk) hm h) hd
theorem ld_blt {E : Value → Shared → Prop} {pins : List (Addr × Obj)} {s : Shared} {σ : St} {H : Hp} {x : Str} {u : Value} {pos : Pos} {Q : Value → Shared → Prop} (I : Inv X pins σ H s) (hg : Gl X x) (hm : X.mg x = none) (hv : bootBuiltins x = some u) (h : Q u s)
    (hn : x ≠ "__name__" := by decide) (hd : (x == ("__debug__" : Str)) = false := by decide) : wpAny (model X.prog X.w) X.A (eval (.Name x pos) X.env) Q E s := by
  obtain ⟨mb, h1, h2⟩ := I.mod.blt
  exact Calls.Name_function_global I.ok.kind hg (Calls.loadGlobal_builtin (by rw [I.ok.glob]; exact I.mod.glob.keeps I.bk) hm (by rw [I.ok.blt]; exact h1.keeps I.bk) ((h2 x hn).trans hv) h) hd
/-- a module's constant, a class, a function, as a value -/
theorem pe_glob {x : Str} {v : V} {u : Value} {pos : Pos} (hg : Gl X x) (hm : X.mg x = some u) (r : RelV v u) (hd : (x == ("__debug__" : Str)) = false := by decide) : PE X (.Name x pos) (tC v) :=
  fun _ _ _ H _ I h => ld_glob I hg hm ⟨v, H, I, r, h⟩ hd
theorem pe_bltn {x : Str} {v : V} {u : Value} {pos : Pos} (hg : Gl X x) (hm : X.mg x = none) (hv : bootBuiltins x = some u) (r : RelV v u) (hn : x ≠ "__name__" := by decide) (hd : (x == ("__debug__" : Str)) = false := by decide) : PE X (.Name x pos) (tC v) :=
  fun _ _ _ H _ I h => ld_blt I hg hm hv ⟨v, H, I, r, h⟩ hn hd

/-! ### arithmetic -/
/-- two ints -/
def t2I (ta tb : TE) (k : Int → Int → Hp → Prop) : St → Hp → Prop := fun σ H => ta σ H fun x H1 => tb σ H1 fun y H2 => ∃ i j, x = .int i ∧ y = .int j ∧ k i j H2
def tAdd (ta tb : TE) : TE := fun σ H Q => t2I ta tb (fun i j H2 => Q (.int (i + j)) H2) σ H
def tSub (ta tb : TE) : TE := fun σ H Q => t2I ta tb (fun i j H2 => Q (.int (i - j)) H2) σ H
/-- the left factor below 2^64 -/
def tMul (ta tb : TE) : TE := fun σ H Q => t2I ta tb (fun i j H2 => (-(2 ^ 64) < i ∧ i < 2 ^ 64) ∧ Q (.int (i * j)) H2) σ H
variable {a b : Expr} {ta tb : TE} {pos : Pos}
/-! ### comparisons -/
def PC (X : Cx) (op : CmpOp) (a b : Expr) (t : TE) : Prop :=
  ∀ (pins : List (Addr × Obj)) (s : Shared) (σ : St) (H : Hp) (Q : VK), Inv X pins σ H s → t σ H Q →
    wpAny (model X.prog X.w) X.A (eval a X.env) (fun v s₁ => wpAny (model X.prog X.w) X.A (eval b X.env) (fun u s₂ => wpAny (model X.prog X.w) X.A (compareOp op v u) (EP X pins σ Q) X.xe s₂) X.xe s₁) X.xe s
def tCmp (p : Int → Int → Bool) (ta tb : TE) : TE := fun σ H Q => t2I ta tb (fun i j H2 => Q (.bl (p i j)) H2) σ H
abbrev tLt : TE → TE → TE := tCmp fun i j => decide (i < j)
abbrev tLe : TE → TE → TE := tCmp fun i j => decide (i ≤ j)
abbrev tGt : TE → TE → TE := tCmp fun i j => decide (j < i)
abbrev tGe : TE → TE → TE := tCmp fun i j => decide (j ≤ i)
abbrev tEqI : TE → TE → TE := tCmp fun i j => decide (i = j)
abbrev tNeI : TE → TE → TE := tCmp fun i j => !decide (i = j)
/-- is None -/
def tIsN (ta : TE) : TE := fun σ H Q => ta σ H fun x H1 => Q (.bl (decide (x = .non))) H1
def tNotN (ta : TE) : TE := fun σ H Q => ta σ H fun x H1 => Q (.bl (!decide (x = .non))) H1
theorem RelV.none_iff {x : V} {v : Value} (r : RelV x v) : (v == Value.none) = decide (x = .non) := by
  cases x with
  | non => cases r; rfl
  | bl _ => cases r; rfl
  | int _ => obtain ⟨t, rfl⟩ := r; rfl
  | str _ => obtain ⟨t, rfl⟩ := r; rfl
  | byt _ => obtain ⟨t, rfl⟩ := r; rfl
  | flt _ => obtain ⟨t, rfl⟩ := r; rfl
  | ref _ => cases r; rfl
  | ty _ => cases r; rfl
/-- a comparison as a value, as a test -/
def tB (t : TE) : TT := fun σ H Q => t σ H fun x H1 => ∃ c, x = .bl c ∧ Q c H1
/-- an expression whose value is a bool, as a test -/
theorem pt_val {e : Expr} {t : TE} (h : PE X e t) (he : ∀ whole, isTrue e X.env whole = (do let v ← whole; standAt e.pos; holding [v] (truthy v)) := by intro _; rfl) : PT X e (tB t) := by
  intro pins s σ H Q I hw
  refine isTrue_plain (thn (h pins s σ H _ I hw) fun v s1 ⟨x, H1, I1, r1, q1⟩ => ?_) (he _)
  obtain ⟨d, rfl, q⟩ := q1
  cases r1
  exact wpAny_truthy_bool ⟨H1, I1, q⟩

/-! ### and, or, not -/
variable {tA tB' : TT} {rest : List Expr}
def tAnd (t u : TT) : TT := fun σ H Q => t σ H fun c H1 => if c = true then u σ H1 Q else Q false H1
def tOr (t u : TT) : TT := fun σ H Q => t σ H fun c H1 => if c = true then Q true H1 else u σ H1 Q
def tNot (t : TT) : TT := fun σ H Q => t σ H fun c H1 => Q (!c) H1
theorem pw_and1 (ha : PT X a tA) : PW X (.BoolOp .And [a] pos) tA := by
  intro wh pins s σ H Q I h
  refine isTrue_and (thn (ha pins s σ H Q I h) fun c s1 e => ?_)
  cases c with
  | true => exact isTrue_and_nil e
  | false => exact e
theorem pw_or1 (ha : PT X a tA) : PW X (.BoolOp .Or [a] pos) tA := by
  intro wh pins s σ H Q I h
  refine isTrue_or (thn (ha pins s σ H Q I h) fun c s1 e => ?_)
  cases c with
  | false => exact isTrue_or_nil e
  | true => exact e
theorem pw_and (ha : PT X a tA) (hb : PW X (.BoolOp .And (b :: rest) pos) tB') : PW X (.BoolOp .And (a :: b :: rest) pos) (tAnd tA tB') := by
  intro wh pins s σ H Q I h
  refine isTrue_and (thn (ha pins s σ H _ I h) fun c s1 ⟨H1, I1, q1⟩ => ?_)
  cases c with
  | true => exact hb wh pins s1 σ H1 Q I1 q1
  | false => exact ⟨H1, I1, q1⟩
theorem pw_or (ha : PT X a tA) (hb : PW X (.BoolOp .Or (b :: rest) pos) tB') : PW X (.BoolOp .Or (a :: b :: rest) pos) (tOr tA tB') := by
  intro wh pins s σ H Q I h
  refine isTrue_or (thn (ha pins s σ H _ I h) fun c s1 ⟨H1, I1, q1⟩ => ?_)
  cases c with
  | true => exact ⟨H1, I1, q1⟩
  | false => exact hb wh pins s1 σ H1 Q I1 q1
theorem pt_not (ha : PT X a tA) : PT X (.UnaryOp .Not a pos) (tNot tA) := by
  intro pins s σ H Q I h
  exact isTrue_not (ha pins s σ H (fun c H1 => Q (!c) H1) I h)
/-- .. as values (bools) -/
def tAndV (ta tb : TE) : TE := fun σ H Q => ta σ H fun x H1 => ∃ c, x = .bl c ∧ if c = true then tb σ H1 Q else Q (.bl false) H1
def tOrV (ta tb : TE) : TE := fun σ H Q => ta σ H fun x H1 => ∃ c, x = .bl c ∧ if c = true then Q (.bl true) H1 else tb σ H1 Q
def tNotV (ta : TE) : TE := fun σ H Q => ta σ H fun x H1 => ∃ c, x = .bl c ∧ Q (.bl (!c)) H1
theorem pe_one {op} {t : TE} (h : PE X a t) : PE X (.BoolOp op [a] pos) t := fun pins s σ H Q I hw => BoolOp_one (h pins s σ H Q I hw)
theorem pe_and (ha : PE X a ta) (hb : PE X (.BoolOp .And (b :: rest) pos) tb) : PE X (.BoolOp .And (a :: b :: rest) pos) (tAndV ta tb) := by
  intro pins s σ H Q I h
  refine BoolOp_and (thn (ha pins s σ H _ I h) fun v s1 ⟨x, H1, I1, r1, q1⟩ => ?_)
  obtain ⟨c, rfl, q1⟩ := q1
  cases r1
  refine wpAny_truthy_bool ?_
  cases c with
  | true => exact hb pins s1 σ H1 Q I1 q1
  | false => exact ⟨.bl false, H1, I1, rfl, q1⟩
theorem pe_not (ha : PE X a ta) : PE X (.UnaryOp .Not a pos) (tNotV ta) := by
  intro pins s σ H Q I h
  refine UnaryOp_ (thn (ha pins s σ H _ I h) fun v s1 ⟨x, H1, I1, r1, q1⟩ => ?_)
  obtain ⟨c, rfl, q1⟩ := q1
  cases r1
  exact not_of (wpAny_truthy_bool ⟨.bl (!c), H1, I1, rfl, q1⟩)
/-- a if t else b -/
def tIf (t : TT) (ta tb : TE) : TE := fun σ H Q => t σ H fun c H1 => if c = true then ta σ H1 Q else tb σ H1 Q
end
end L2

namespace L2
open PySem PySem.Spec PyProof.Rows

/-! ### a list, a tuple that is read: tracked, frozen, or an object of the module -/
def SqL (K : PySem.W.Frag) (H : Hp) (a : Addr) (xs : List V) : Prop :=
  Rd H a (.lst xs) ∨
    ∃ (o : Obj) (its : Array Value) (n : Nat), K.lookup a = some o ∧ o.cls = .type "list" ∧ o.dict = none ∧ o.data = .seq its n ∧ its.size ≤ sizeLine ∧ Vals xs its.toList
def SqT (K : PySem.W.Frag) (H : Hp) (a : Addr) (xs : List V) : Prop :=
  Rd H a (.tup xs) ∨
    ∃ (o : Obj) (its : Array Value) (n : Nat), K.lookup a = some o ∧ o.cls = .type "tuple" ∧ o.data = .seq its n ∧ its.size ≤ sizeLine ∧ Vals xs its.toList
def absV : Value → Option V
  | .none => some .non
  | .bool b => some (.bl b)
  | .int i _ => some (.int i)
  | .str x _ => some (.str x)
  | .bytes b _ => some (.byt b)
  | .float b _ => some (.flt b)
  | .ref a => some (.ref a)
  | .type n => some (.ty n)
  | _ => none
theorem RelV.abs {x : V} {u : Value} (r : RelV x u) : absV u = some x := by
  cases x with
  | non => cases r; rfl
  | bl _ => cases r; rfl
  | int _ => obtain ⟨t, rfl⟩ := r; rfl
  | str _ => obtain ⟨t, rfl⟩ := r; rfl
  | byt _ => obtain ⟨t, rfl⟩ := r; rfl
  | flt _ => obtain ⟨t, rfl⟩ := r; rfl
  | ref _ => cases r; rfl
  | ty _ => cases r; rfl
theorem RelV.inj {x y : V} {u : Value} (r : RelV x u) (q : RelV y u) : x = y := Option.some.inj (r.abs.symm.trans q.abs)
theorem Vals.inj : ∀ {xs ys : List V} {us : List Value}, Vals xs us → Vals ys us → xs = ys
  | _, _, _, .nil, .nil => rfl
  | _, _, _, .cons r t, .cons r' t' => by rw [r.inj r', Vals.inj t t']
section
variable {X : Cx} {pins : List (Addr × Obj)} {σ : St} {H : Hp} {s : Shared} {a : Addr} {xs ys : List V}
theorem SqL.of {K : PySem.W.Frag} (h : H a = some (.lst xs)) : SqL K H a xs := .inl (.inl h)
theorem SqT.of {K : PySem.W.Frag} (h : H a = some (.tup xs)) : SqT K H a xs := .inl (.inl h)
theorem Inv.list (I : Inv X pins σ H s) (h : SqL X.K H a xs) : ∃ its : List Value, Vals xs its ∧ PlainL s.heap a its.toArray ∧ xs.length ≤ sizeLine := by
  rcases h with h | ⟨o, its, n, hk, hc, hd, hs, hz, r⟩
  · obtain ⟨z, its, n, r, e⟩ := h.ok I.hok
    exact ⟨its, r, ⟨_, n, e, rfl, rfl, rfl⟩, z⟩
  · refine ⟨its.toList, r, ⟨o, n, I.kIn a o hk, hc, hd, by simpa using hs⟩, ?_⟩
    have e := r.length
    simp only [Array.length_toList] at e
    omega
theorem Inv.tuple (I : Inv X pins σ H s) (h : SqT X.K H a xs) : ∃ its : List Value, Vals xs its ∧ IsTup s.heap a its.toArray ∧ xs.length ≤ sizeLine := by
  rcases h with h | ⟨o, its, n, hk, hc, hs, hz, r⟩
  · obtain ⟨z, its, r, p⟩ := h.ok I.hok
    exact ⟨its, r, p, z⟩
  · refine ⟨its.toList, r, ⟨o, I.kIn a o hk, hc, n, by simpa using hs⟩, ?_⟩
    have e := r.length
    simp only [Array.length_toList] at e
    omega
theorem Inv.list_inj (I : Inv X pins σ H s) (h : SqL X.K H a xs) (h' : SqL X.K H a ys) : xs = ys := by
  obtain ⟨its, r, ⟨o, n, e, _, _, d⟩, _⟩ := I.list h
  obtain ⟨its', r', ⟨o', n', e', _, _, d'⟩, _⟩ := I.list h'
  rw [e] at e'; cases e'
  rw [d] at d'
  injection d' with d1 _
  have : its = its' := by simpa using congrArg Array.toList d1
  subst this
  exact r.inj r'
theorem Inv.tuple_inj (I : Inv X pins σ H s) (h : SqT X.K H a xs) (h' : SqT X.K H a ys) : xs = ys := by
  obtain ⟨its, r, ⟨o, e, _, n, d⟩, _⟩ := I.tuple h
  obtain ⟨its', r', ⟨o', e', _, n', d'⟩, _⟩ := I.tuple h'
  rw [e] at e'; cases e'
  rw [d] at d'
  injection d' with d1 _
  have : its = its' := by simpa using congrArg Array.toList d1
  subst this
  exact r.inj r'
end

/-! ### another wish about exceptions -/
abbrev Cx.wish (X : Cx) (E : Value → Shared → Prop) : Cx := { X with xe := E }
/-- no exception leaves -/
abbrev Cx.nox (X : Cx) : Cx := X.wish fun _ _ => False
theorem Cx.Ok.wish {X : Cx} (ok : X.Ok) (E : Value → Shared → Prop) : (X.wish E).Ok :=
  ⟨ok.mod, ok.kind, ok.glob, ok.blt, ok.above, ok.inj, ok.has, ok.cab, ok.hd, ok.frames, ok.stk, ok.exf, ok.bs, ok.bsz, ok.noex, ok.exfs, ok.funs, ok.frf⟩
theorem Cx.Ok.unwish {X : Cx} {E : Value → Shared → Prop} (ok : (X.wish E).Ok) : X.Ok :=
  ⟨ok.mod, ok.kind, ok.glob, ok.blt, ok.above, ok.inj, ok.has, ok.cab, ok.hd, ok.frames, ok.stk, ok.exf, ok.bs, ok.bsz, ok.noex, ok.exfs, ok.funs, ok.frf⟩
section
variable {X : Cx} {pins : List (Addr × Obj)} {σ : St} {H : Hp} {s : Shared} {E : Value → Shared → Prop}
theorem Inv.wish (I : Inv X pins σ H s) (E : Value → Shared → Prop) : Inv (X.wish E) pins σ H s := ⟨I.ok.wish E, I.os, I.bare, I.base, I.loc, I.cell, I.free, I.freeC, I.pin, I.hok, I.len⟩
theorem Inv.unwish (I : Inv (X.wish E) pins σ H s) : Inv X pins σ H s := ⟨I.ok.unwish, I.os, I.bare, I.base, I.loc, I.cell, I.free, I.freeC, I.pin, I.hok, I.len⟩
theorem SP.unwish {D : Ends} {f : Flow} {s' : Shared} (h : SP (X.wish E) pins D f s') : SP X pins D f s' := by
  cases f with
  | next => obtain ⟨σ', H', I, q⟩ := h; exact ⟨σ', H', I.unwish, q⟩
  | brk => obtain ⟨σ', H', I, q⟩ := h; exact ⟨σ', H', I.unwish, q⟩
  | cont => obtain ⟨σ', H', I, q⟩ := h; exact ⟨σ', H', I.unwish, q⟩
  | ret u => obtain ⟨v, σ', H', I, r, q⟩ := h; exact ⟨v, σ', H', I.unwish, r, q⟩
theorem PE.nox {e : Expr} {t : TE} (h : PE X.nox e t) : PE X e t := fun pins s σ H Q I hw =>
  wpAny_mono (h pins s σ H Q (I.wish _) hw) (fun _ _ ⟨v, H', I', r, q⟩ => ⟨v, H', I'.unwish, r, q⟩) fun _ _ z => False.elim z
theorem PT.nox {e : Expr} {t : TT} (h : PT X.nox e t) : PT X e t := fun pins s σ H Q I hw =>
  wpAny_mono (h pins s σ H Q (I.wish _) hw) (fun _ _ ⟨H', I', q⟩ => ⟨H', I'.unwish, q⟩) fun _ _ z => False.elim z
theorem PSs.nox {st : List Stmt} {t : TS} (h : PSs X.nox st t) : PSs X st t := fun pins s σ H D I hw =>
  wpAny_mono (h pins s σ H D (I.wish _) hw) (fun _ _ q => q.unwish) fun _ _ z => False.elim z
end

/-! ### blocks and small statements -/
section
variable {X : Cx} {st : Stmt} {rest : List Stmt} {t u : TS} {e : Expr} {te : TE} {pos : Pos}
def tNext : TS := fun D σ H => D.nx σ H
def tSeq (t u : TS) : TS := fun D σ H => t { D with nx := u D } σ H
theorem pss_nil : PSs X [] tNext := fun _ _ σ H _ I h => wpAny_execs_nil ⟨σ, H, I, h⟩
theorem pss_cons (h1 : PS X st t) (h2 : PSs X rest u) : PSs X (st :: rest) (tSeq t u) := by
  intro pins s σ H D I h
  refine wpAny_execs_cons (thn (h1 pins s σ H { D with nx := u D } I h) fun f s1 q => ?_)
  cases f with
  | next =>
    obtain ⟨σ', H', I', q⟩ := q
    exact h2 pins s1 σ' H' D I' q
  | ret v => exact q
  | brk => exact q
  | cont => exact q
theorem pss_one (h1 : PS X st t) : PSs X [st] t := by
  intro pins s σ H D I h
  refine wpAny_execs_cons (thn (h1 pins s σ H D I h) fun f s1 q => ?_)
  cases f with
  | next => exact wpAny_execs_nil q
  | ret v => exact q
  | brk => exact q
  | cont => exact q
def tBreak : TS := fun D σ H => D.bk σ H
def tCont : TS := fun D σ H => D.ct σ H
theorem ps_break : PS X (.Break pos) tBreak := fun _ _ σ H _ I h => wpAny_Break ⟨σ, H, I, h⟩
/-- in a def's body nothing is shown -/
theorem Inv.quiet {pins : List (Addr × Obj)} {σ : St} {H : Hp} {s : Shared} (I : Inv X pins σ H s) : interactive X.env = false := by simp [interactive, I.ok.kind]
/-- an expression whose value is dropped -/
def tDrop (te : TE) : TS := fun D σ H => te σ H fun _ H1 => D.nx σ H1
theorem ps_expr (he : PE X e te) (hs : swapsWith e none pos.line X.env = pure false := by rfl) : PS X (.Expr e pos) (tDrop te) := by
  intro pins s σ H D I h
  exact wpAny_Expr_any (thn (he pins s σ H _ I h) fun v s1 ⟨x, H1, I1, r1, q1⟩ => ⟨σ, H1, I1, q1⟩) I.quiet hs
def tRet (te : TE) : TS := fun D σ H => te σ H D.rt
theorem ps_ret (he : PE X e te) : PS X (.Return (some e) pos) (tRet te) := by
  intro pins s σ H D I h
  exact wpAny_Return_some (thn (he pins s σ H _ I h) fun v s1 ⟨x, H1, I1, r1, q1⟩ => ⟨x, σ, H1, I1, r1, q1⟩)
def tRetN : TS := fun D _ H => D.rt .non H
def tIfS (c : TT) (t u : TS) : TS := fun D σ H => c σ H fun b H1 => if b = true then t D σ H1 else u D σ H1
theorem ps_if {c : Expr} {a b : List Stmt} {tc : TT} (hc : PT X c tc) (ha : PSs X a t) (hb : PSs X b u) : PS X (.If c a b pos) (tIfS tc t u) := by
  intro pins s σ H D I h
  refine wpAny_If (thn (hc pins s σ H _ I h) fun d s1 ⟨H1, I1, q1⟩ => ?_)
  cases d with
  | true => exact ha pins s1 σ H1 D I1 q1
  | false => exact hb pins s1 σ H1 D I1 q1
/-- code that the proof never comes to -/
def tNever : TS := fun _ _ _ => False
end

/-! ### targets -/
abbrev TG := V → St → Hp → (St → Hp → Prop) → Prop
abbrev TGs := List V → St → Hp → (St → Hp → Prop) → Prop
def PG (X : Cx) (target : Expr) (t : TG) : Prop :=
  ∀ (pins : List (Addr × Obj)) (s : Shared) (σ : St) (H : Hp) (v : V) (u : Value) (Q : St → Hp → Prop), Inv X pins σ H s → RelV v u → t v σ H Q →
    wpAny (model X.prog X.w) X.A (assign target X.env u) (fun _ s' => ∃ σ' H', Inv X pins σ' H' s' ∧ Q σ' H') X.xe s
/-- several targets, one after another -/
def PGs (X : Cx) (ts : List Expr) (t : TGs) : Prop :=
  ∀ (pins : List (Addr × Obj)) (s : Shared) (σ : St) (H : Hp) (vs : List V) (us : List Value) (Q : St → Hp → Prop), Inv X pins σ H s → Vals vs us → t vs σ H Q →
    wpAny (model X.prog X.w) X.A (assignInOrder ((assignEach ts X.env).map (·.2)) us) (fun _ s' => ∃ σ' H', Inv X pins σ' H' s' ∧ Q σ' H') X.xe s
/-- o[i] = v, by values -/
abbrev TSet := V → V → V → Hp → (Hp → Prop) → Prop
def PSet (X : Cx) (t : TSet) : Prop :=
  ∀ (pins : List (Addr × Obj)) (s : Shared) (σ : St) (H : Hp) (o i v : V) (ov iv u : Value) (Q : Hp → Prop), Inv X pins σ H s → RelV o ov → RelV i iv → RelV v u → t o i v H Q →
    wpAny (model X.prog X.w) X.A (setItem ov iv u) (fun _ s' => ∃ H', Inv X pins σ H' s' ∧ Q H') X.xe s
/-- a op= b, by values -/
abbrev TIp := V → V → Hp → VK → Prop
def PIp (X : Cx) (op : Operator) (t : TIp) : Prop :=
  ∀ (pins : List (Addr × Obj)) (s : Shared) (σ : St) (H : Hp) (x y : V) (v u : Value) (Q : VK), Inv X pins σ H s → RelV x v → RelV y u → t x y H Q →
    wpAny (model X.prog X.w) X.A (inplaceOp op v u) (EP X pins σ Q) X.xe s
section
variable {X : Cx} {pos : Pos}
def gName (i : Nat) : TG := fun v σ H Q => Q (σ.set i (some v)) H
theorem pg_name {i : Nat} {x : Str} (hN : X.N.Nodup) (hi : X.N[i]? = some x) (hx : Loc X.env.scope x) (hf : X.fn x = true ∨ X.env.scope.names.lookup x = some .local := by first | exact .inl rfl | exact .inr rfl | assumption) : PG X (.Name x pos) (gName i) := by
  intro pins s σ H v u Q I r h
  exact wpAny_assign_Name (store_ok I hN hi hx r (fun s' I' => ⟨_, H, I', h⟩) hf)
def gNil : TGs := fun vs σ H Q => vs = [] ∧ Q σ H
def gCons (t : TG) (u : TGs) : TGs := fun vs σ H Q => ∃ v r, vs = v :: r ∧ t v σ H fun σ' H' => u r σ' H' Q
theorem pgs_nil : PGs X [] gNil := by
  intro pins s σ H vs us Q I r h
  obtain ⟨e, h⟩ := h
  subst e
  cases r
  exact assignInOrder_nil ⟨σ, H, I, h⟩
theorem pgs_cons {e : Expr} {es : List Expr} {t : TG} {u : TGs} (h1 : PG X e t) (h2 : PGs X es u)
    (hs : (assignEach (e :: es) X.env).map (·.2) = assign e X.env :: (assignEach es X.env).map (·.2) := by rfl) : PGs X (e :: es) (gCons t u) := by
  intro pins s σ H vs us Q I r h
  obtain ⟨v, vr, e1, h⟩ := h
  subst e1
  cases r with
  | cons r rr =>
    rw [hs]
    refine assignInOrder_cons (thn (h1 pins s σ H _ _ _ I r h) fun _ s1 ⟨σ1, H1, I1, q1⟩ => ?_)
    exact h2 pins s1 σ1 H1 _ _ Q I1 rr q1
/-- (a, b, ..) = a tuple of that length -/
def gTup (K : PySem.W.Frag) (n : Nat) (t : TGs) : TG := fun v σ H Q => ∃ a xs, v = .ref a ∧ SqT K H a xs ∧ xs.length = n ∧ t xs σ H Q
theorem pg_tup {es : List Expr} {k : Nat} {t : TGs} {n : Nat} (hc : X.calm = true) (h : PGs X es t)
    (hn : (assignEach es X.env).length = n := by rfl) (hst : (assignEach es X.env).findIdx? (·.1) = none := by rfl) : PG X (.Tuple es k pos) (gTup X.K n t) := by
  intro pins s σ H v u Q I r hw
  obtain ⟨a, xs, e1, hq, hl, hw⟩ := hw
  subst e1
  cases r
  obtain ⟨its, rv, ht, hz⟩ := I.tuple hq
  refine assign_Tuple_tuple (I.ok.hd hc) ht (by simp [hn, ← hl, rv.length]) hst fun h' hx => ?_
  have I1 : Inv X pins σ H { s with heap := h' } := I.kept (t' := s.toks) fun b o e => hx b o (Nat.ne_of_lt (Heap.lt_size e)) e
  exact h pins _ σ H xs _ Q I1 (by simpa using rv) hw
/-- o[i] = .. -/
def gSub (to ti : TE) (t : TSet) : TG := fun v σ H Q => to σ H fun o H1 => ti σ H1 fun i H2 => t o i v H2 fun H3 => Q σ H3
/-- target = value -/
def tAsg (te : TE) (g : TG) : TS := fun D σ H => te σ H fun x H1 => g x σ H1 D.nx
theorem ps_asg {tg e : Expr} {te : TE} {g : TG} (he : PE X e te) (hg : PG X tg g) (hs : swapsWithSole [tg] e pos.line X.env = pure false := by rfl) (hw : swappedStores [tg] e X.env = pure none := by rfl)
    (h1 : (assignEach [tg] X.env).map (·.2) = [assign tg X.env] := by rfl) : PS X (.Assign [tg] e pos) (tAsg te g) := by
  intro pins s σ H D I h
  refine wpAny_Assign_stores (thn (he pins s σ H _ I h) fun v s1 ⟨x, H1, I1, r1, q1⟩ => ?_) hs hw
  rw [h1]
  exact thn (hg pins s1 σ H1 x v _ I1 r1 q1) fun _ s2 q => q
/-- name = value -/
theorem ps_set {i : Nat} {x : Str} {e : Expr} {te : TE} {pos' : Pos} (hN : X.N.Nodup) (hi : X.N[i]? = some x) (hx : Loc X.env.scope x) (he : PE X e te) (hs : swapsWith e (some (.Name x pos')) pos.line X.env = pure false := by rfl) (hf : X.fn x = true ∨ X.env.scope.names.lookup x = some .local := by first | exact .inl rfl | exact .inr rfl | assumption) :
    PS X (.Assign [.Name x pos'] e pos) (tAsg te (gName i)) := by
  intro pins s σ H D I h
  refine wpAny_Assign_Name (thn (he pins s σ H _ I h) fun v s1 ⟨y, H1, I1, r1, q1⟩ => ?_) hs
  exact store_ok I1 hN hi hx r1 (fun s2 I2 => ⟨_, H1, I2, q1⟩) hf
/-- a, b = x, y with plain local names: stored from the right; the pair itself is not tracked (the opening rows as in PyProof/Rows/TupAssign.lean:23) -/
def tPar (i j : Nat) (ta : TA) : TS := fun D σ H => ta σ H fun vs H1 => ∃ v w, vs = [v, w] ∧ D.nx ((σ.set i (some v)).set j (some w)) H1
/-- name op= e -/
def tAug (i : Nat) (te : TE) (ti : TIp) : TS := fun D σ H => ∃ x, σ[i]? = some (some x) ∧ te σ H fun y H1 => ti x y H1 fun z H2 => D.nx (σ.set i (some z)) H2
/-- o[i] op= e -/
def tAugS (to ti te : TE) (tget : V → V → Hp → VK → Prop) (tip : TIp) (tset : TSet) : TS := fun D σ H => to σ H fun o H1 => ti σ H1 fun i H2 => tget o i H2 fun x H3 => te σ H3 fun y H4 => tip x y H4 fun z H5 => tset o i z H5 fun H6 => D.nx σ H6
/-- o[i], by values -/
def PGet (X : Cx) (t : V → V → Hp → VK → Prop) : Prop :=
  ∀ (pins : List (Addr × Obj)) (s : Shared) (σ : St) (H : Hp) (o i : V) (ov iv : Value) (Q : VK), Inv X pins σ H s → RelV o ov → RelV i iv → t o i H Q →
    wpAny (model X.prog X.w) X.A (getItem ov iv) (EP X pins σ Q) X.xe s
/-- ints -/
def ipI (f : Int → Int → Int) : TIp := fun x y H Q => ∃ i j, x = .int i ∧ y = .int j ∧ Q (.int (f i j)) H
end

/-! ### while -/
section
variable {X : Cx} {pos : Pos}
/-- the invariant W with its measure -/
def tWhile (c : TT) (tb : TS) : TS := fun D σ H => ∃ W : Nat → St → Hp → Prop, (∃ m, W m σ H) ∧ ∀ m σ H, W m σ H →
  c σ H fun b H1 => if b = true then ∃ N : St → Hp → Prop, (∀ σ' H', N σ' H' → ∃ m', m' < m ∧ W m' σ' H') ∧ tb { D with nx := N, ct := N, bk := D.nx } σ H1 else D.nx σ H1
end

/-! ### what a loop or a comprehension walks -/
/-- at turn i: it yields x (the heap may grow), or it stops -/
structure It where
  go : Nat → Hp → Prop
  yld : Nat → Hp → V → Hp → Prop
  stop : Nat → Hp → Prop
/-- the iterator's own objects may turn: they are not the frame's, not pinned, younger than the entry (or a comprehension's own) -/
def FpOk (X : Cx) (pins : List (Addr × Obj)) (H : Hp) (b : Addr) : Prop :=
  H b = none ∧ b ≠ X.env.locals ∧ b ∉ X.fs ∧ (b ∈ X.ex ∨ X.s₀.heap.objs.size ≤ b) ∧ (∀ x c, X.env.cells.lookup x = some c → c ≠ b) ∧ ∀ p ∈ X.pn ++ pins, p.1 ≠ b
theorem Inv.fpOk {X : Cx} {pins : List (Addr × Obj)} {σ : St} {H H' : Hp} {s : Shared} {b : Addr} (I : Inv X pins σ H s) (hb : s.heap.objs.size ≤ b) (hn : H' b = none) : FpOk X pins H' b := by
  refine ⟨hn, Nat.ne_of_gt (Nat.lt_of_lt_of_le I.lt hb), I.nofs hb, .inr (Nat.le_trans I.sz hb), fun x c e z => ?_, fun p hp z => ?_⟩
  · obtain ⟨v, q⟩ := I.cell x c e
    exact absurd (Nat.lt_of_lt_of_le q.lt (by rw [z]; exact hb)) (Nat.lt_irrefl _)
  · exact absurd (Nat.lt_of_lt_of_le (Heap.lt_size (I.pin p hp).1) (by rw [z]; exact hb)) (Nat.lt_irrefl _)
structure Turn (P : Program) (w : World) (K : PySem.W.Frag) (tg : Expr) (J : It) (fp : List Addr) (it : Addr) (tn : Nat → Heap → Prop) : Prop where
  mem : it ∈ fp
  obj : ∀ i h, tn i h → ∀ b ∈ fp, ∃ o, h.get? b = some o ∧ ∀ v, o.data ≠ .cell v
  keep : ∀ i h h', tn i h → (∀ b ∈ fp, ∀ o, h.get? b = some o → h'.get? b = some o) → tn i h'
  item : ∀ (X : Cx), X.prog = P → X.w = w → X.K = K → X.calm = true → ∀ (i : Nat) (pins : List (Addr × Obj)) (s : Shared) (σ : St) (H : Hp) (E : Value → Shared → Prop), Inv X pins σ H s → (∀ b ∈ fp, FpOk X pins H b) → tn i s.heap → J.go i H →
    wpAny (model P w) X.A (pyNext (.ref it)) (fun r s1 => ∃ u, r = some u ∧
      wpAny (model P w) X.A (letOwnedTupleGo tg (.ref it) u) (fun _ s2 => ∃ x H', Inv X pins σ H' s2 ∧ RelV x u ∧ J.yld i H x H' ∧ tn (i + 1) s2.heap ∧ ∀ b ∈ fp, H' b = none) E s1) E s
  done : ∀ (X : Cx), X.prog = P → X.w = w → X.K = K → X.calm = true → ∀ (i : Nat) (pins : List (Addr × Obj)) (s : Shared) (σ : St) (H : Hp) (E : Value → Shared → Prop), Inv X pins σ H s → (∀ b ∈ fp, FpOk X pins H b) → tn i s.heap → J.stop i H →
    wpAny (model P w) X.A (pyNext (.ref it)) (fun r s1 => r = none ∧ Inv X pins σ H s1) E s
  self : ∀ (A : Around) (i : Nat) (s : Shared) (Q : Value → Shared → Prop) (E : Value → Shared → Prop), tn i s.heap → Q (.ref it) s → wpAny (model P w) A (pyIter (.ref it)) Q E s
abbrev TI := St → Hp → (It → Hp → Prop) → Prop
/-- an iterator has come -/
def PIE (X : Cx) (pins : List (Addr × Obj)) (σ : St) (tg : Expr) (R : It → Hp → Prop) (itv : Value) (s2 : Shared) : Prop :=
  ∃ (it : Addr) (fp : List Addr) (tn : Nat → Heap → Prop) (J : It) (H' : Hp), itv = .ref it ∧ Inv X pins σ H' s2 ∧ Turn X.prog X.w X.K tg J fp it tn ∧ tn 0 s2.heap ∧ (∀ b ∈ fp, FpOk X pins H' b) ∧ R J H'
def PI (X : Cx) (tg iter : Expr) (wi : TI) : Prop :=
  ∀ (pins : List (Addr × Obj)) (s : Shared) (σ : St) (H : Hp) (R : It → Hp → Prop), Inv X pins σ H s → wi σ H R →
    wpAny (model X.prog X.w) X.A (eval iter X.env) (fun v s1 => wpAny (model X.prog X.w) X.A (pyIter v) (PIE X pins σ tg R) X.xe s1) X.xe s

/-- the step ahead of the store is nothing for an iterator that keeps no tuple -/
theorem go_of {M : Model} {A : Around} {E : Value → Shared → Prop} {s : Shared} {tg : Expr} {it : Addr} {u : Value} {o : Obj} {n : String} {vs : Array Value} {Q : Unit → Shared → Prop} (ho : s.heap.get? it = some o) (hc : o.cls = .type n) (hd : o.data = .fields vs)
    (hn : ["enumerate", "zip", "dict_itemiterator", "dict_reverseitemiterator", "odict_iterator", "itertools.zip_longest", "itertools.pairwise"].contains n = false) (hQ : Q () s) : wpAny M A (letOwnedTupleGo tg (.ref it) u) Q E s := by
  unfold letOwnedTupleGo
  cases tg <;> first
    | exact wpAny_pure hQ
    | (cases u <;> first
        | exact wpAny_pure hQ
        | (refine wpAny_bind (wpAny_load ho ?_)
           rw [hc, hd]
           show wpAny M A (if (["enumerate", "zip", "dict_itemiterator", "dict_reverseitemiterator", "odict_iterator", "itertools.zip_longest", "itertools.pairwise"].contains n && vs[0]? == some (rawInt _)) = true then _ else _) Q E s
           rw [if_neg (by intro h; rw [hn, Bool.false_and] at h; cases h)]
           exact wpAny_pure hQ))

/-- the list at a, as it stands at each turn (a loop may append to it) -/
def Itl (K : PySem.W.Frag) (a : Addr) : It :=
  ⟨fun i H => ∃ xs x, SqL K H a xs ∧ xs[i]? = some x, fun i H x H' => H' = H ∧ ∀ xs, SqL K H a xs → xs[i]? = some x, fun i H => ∃ xs, SqL K H a xs ∧ xs.length ≤ i⟩
def Itt (K : PySem.W.Frag) (a : Addr) : It :=
  ⟨fun i H => ∃ xs x, SqT K H a xs ∧ xs[i]? = some x, fun i H x H' => H' = H ∧ ∀ xs, SqT K H a xs → xs[i]? = some x, fun i H => ∃ xs, SqT K H a xs ∧ xs.length ≤ i⟩
/-- lo, lo + 1, .. (n of them) -/
def Itr (lo : Int) (n : Nat) : It := ⟨fun i _ => i < n, fun i H x H' => H' = H ∧ x = .int (lo + i), fun i _ => n ≤ i⟩
theorem turn_list {P : Program} {w : World} {K : PySem.W.Frag} {tg : Expr} (a it : Addr) : Turn P w K tg (Itl K a) [it] it (fun i h => h.IsListIter it a i) where
  mem := by simp
  obj := fun i h st b hb => by
    have e : b = it := by simpa using hb
    subst e
    obtain ⟨o, e, c, d⟩ := st
    exact ⟨o, e, fun v z => by rw [d] at z; cases z⟩
  keep := fun i h h' st k => st.at fun o e => k it (by simp) o e
  item := by
    intro X hP hw hK hc i pins s σ H E I hf st hg
    subst hP hw hK
    obtain ⟨xs, x, hq, hx⟩ := hg
    obtain ⟨its, rv, p, hz⟩ := I.list hq
    obtain ⟨u, hu, ru⟩ := rv.get hx
    obtain ⟨f0, f1, f2, f3, f4, f5⟩ := hf it (by simp)
    refine wpAny_pyNext_list_item st p.isList (x := u) (by simpa using hu) fun h' st' sb => ?_
    have I1 : Inv X pins σ H { s with heap := h' } := I.turned (t' := s.toks) (fun b o hb e => (sb.2 b hb).trans e) f0 f1 f3 f4 f5
    obtain ⟨o, e, c, d⟩ := id st'
    exact ⟨u, rfl, go_of (s := { s with heap := h' }) e c d (by decide) ⟨x, H, I1, ru, ⟨rfl, fun ys hy => by rw [I.list_inj hy hq]; exact hx⟩, st', fun b hb => (hf b hb).1⟩⟩
  done := by
    intro X hP hw hK hc i pins s σ H E I hf st hg
    subst hP hw hK
    obtain ⟨xs, hq, hx⟩ := hg
    obtain ⟨its, rv, p, hz⟩ := I.list hq
    obtain ⟨f0, f1, f2, f3, f4, f5⟩ := hf it (by simp)
    have hl := rv.length
    exact wpAny_pyNext_list_end (I.ok.hd hc) st p.isList (by simp; omega) fun h' eb => ⟨rfl, I.turned (t' := s.toks) (fun b o hb e => eb b o hb e) f0 f1 f3 f4 f5⟩
  self := fun _ _ _ _ _ st h => wpAny_pyIter_listiter st h
theorem turn_tuple {P : Program} {w : World} {K : PySem.W.Frag} {tg : Expr} (a it : Addr) : Turn P w K tg (Itt K a) [it] it (fun i h => h.IsTupleIter it a i) where
  mem := by simp
  obj := fun i h st b hb => by
    have e : b = it := by simpa using hb
    subst e
    obtain ⟨o, e, c, d⟩ := st
    exact ⟨o, e, fun v z => by rw [d] at z; cases z⟩
  keep := fun i h h' st k => st.at fun o e => k it (by simp) o e
  item := by
    intro X hP hw hK hc i pins s σ H E I hf st hg
    subst hP hw hK
    obtain ⟨xs, x, hq, hx⟩ := hg
    obtain ⟨its, rv, p, hz⟩ := I.tuple hq
    obtain ⟨u, hu, ru⟩ := rv.get hx
    obtain ⟨f0, f1, f2, f3, f4, f5⟩ := hf it (by simp)
    refine wpAny_pyNext_tuple_item st (show s.heap.IsTuple a its.toArray from p) (x := u) (by simpa using hu) fun h' st' sb => ?_
    have I1 : Inv X pins σ H { s with heap := h' } := I.turned (t' := s.toks) (fun b o hb e => (sb.2 b hb).trans e) f0 f1 f3 f4 f5
    obtain ⟨o, e, c, d⟩ := id st'
    exact ⟨u, rfl, go_of (s := { s with heap := h' }) e c d (by decide) ⟨x, H, I1, ru, ⟨rfl, fun ys hy => by rw [I.tuple_inj hy hq]; exact hx⟩, st', fun b hb => (hf b hb).1⟩⟩
  done := by
    intro X hP hw hK hc i pins s σ H E I hf st hg
    subst hP hw hK
    obtain ⟨xs, hq, hx⟩ := hg
    obtain ⟨its, rv, p, hz⟩ := I.tuple hq
    obtain ⟨f0, f1, f2, f3, f4, f5⟩ := hf it (by simp)
    have hl := rv.length
    exact wpAny_pyNext_tuple_end (I.ok.hd hc) st (show s.heap.IsTuple a its.toArray from p) (by simp; omega) fun h' eb => ⟨rfl, I.turned (t' := s.toks) (fun b o hb e => eb b o hb e) f0 f1 f3 f4 f5⟩
  self := fun _ _ _ _ _ st h => wpAny_pyIter_tupleiter st h
theorem turn_range {P : Program} {w : World} {K : PySem.W.Frag} {tg : Expr} (it : Addr) (lo : Int) (n : Nat) : Turn P w K tg (Itr lo n) [it] it (fun i h => IsRangeIter h it (lo + (i : Nat) * 1) ((n : Int) - (i : Nat)) 1) where
  mem := by simp
  obj := fun i h st b hb => by
    have e : b = it := by simpa using hb
    subst e
    exact ⟨_, st, fun v z => by
      have z' : Data.fields _ = Data.cell v := z
      cases z'⟩
  keep := fun i h h' st k => k it (by simp) _ st
  item := by
    intro X hP hw hK hc i pins s σ H E I hf st hg
    subst hP hw hK
    obtain ⟨f0, f1, f2, f3, f4, f5⟩ := hf it (by simp)
    have W := Walks.range (prog := X.prog) (w := X.w) (I.ok.hd hc) it lo 1 n
    refine W.item i s _ _ hg st fun v h' tk hv st' kk => ?_
    obtain ⟨t, rfl⟩ := hv
    have I1 : Inv X pins σ H { s with heap := h', toks := tk } := I.turned (fun b o hb e => kk b o (by simpa using hb) e) f0 f1 f3 f4 f5
    refine ⟨_, rfl, go_of (s := { s with heap := h', toks := tk }) (n := "range_iterator") st' rfl rfl (by decide) ⟨.int (lo + i), H, I1, ⟨t, ?_⟩, ⟨rfl, rfl⟩, st', fun b hb => (hf b hb).1⟩⟩
    rw [Int.mul_one]
  done := by
    intro X hP hw hK hc i pins s σ H E I hf st hg
    subst hP hw hK
    obtain ⟨f0, f1, f2, f3, f4, f5⟩ := hf it (by simp)
    exact wpAny_pyNext_range_end (I.ok.hd hc) st (by have : n ≤ i := hg; omega) fun h' eb => ⟨rfl, I.turned (t' := s.toks) (fun b o hb e => eb b o hb e) f0 f1 f3 f4 f5⟩
  self := fun _ _ _ _ _ st h => wpAny_pyIter_rangeiter st h
end L2

namespace L2
open PySem PySem.Spec PyProof.Rows
section
variable {X : Cx} {tg : Expr}
def iList (K : PySem.W.Frag) (tl : TE) : TI := fun σ H R => tl σ H fun x H1 => ∃ a, x = .ref a ∧ (∃ xs, SqL K H1 a xs) ∧ R (Itl K a) H1
def iTup (K : PySem.W.Frag) (tl : TE) : TI := fun σ H R => tl σ H fun x H1 => ∃ a, x = .ref a ∧ (∃ xs, SqT K H1 a xs) ∧ R (Itt K a) H1
/-- a range object just made, walked -/
theorem range_it {pins : List (Addr × Obj)} {σ : St} {H : Hp} {s : Shared} {R : It → Hp → Prop} {E : Value → Shared → Prop} {lo hi : Int} {t u v : Tok} {tk : Nat} (I : Inv X pins σ H s) (h1 : -(2 ^ 62) ≤ lo) (h2 : lo < 2 ^ 62) (h3 : -(2 ^ 62) ≤ hi) (h4 : hi < 2 ^ 62)
    (q : R (Itr lo (hi - lo).toNat) H) : wpAny (model X.prog X.w) X.A (pyIter (.ref s.heap.objs.size)) (PIE X pins σ tg R) E { s with heap := s.heap.push { cls := .type "range", data := .fields #[.int lo t, .int hi u, .int 1 v] }, toks := tk } := by
  refine wpAny_pyIter_range (IsRange.new ..) (small_one h1 h2 h3 h4) ?_
  have I1 : Inv X pins σ H { s with heap := s.heap.push { cls := .type "range", data := .fields #[.int lo t, .int hi u, .int 1 v] }, toks := tk } := I.kept fun b o e => Heap.get?_push_of_some _ e
  refine ⟨(s.heap.push { cls := .type "range", data := .fields #[.int lo t, .int hi u, .int 1 v] }).objs.size, [(s.heap.push { cls := .type "range", data := .fields #[.int lo t, .int hi u, .int 1 v] }).objs.size], _, _, H, rfl,
    I1.kept (t' := tk) fun b o e => Heap.get?_push_of_some _ e, turn_range _ lo (hi - lo).toNat, ?_, fun b hb => ?_, q⟩
  · have e1 : lo + ((0 : Nat) : Int) * 1 = lo := by simp
    have e2 : (((hi - lo).toNat : Nat) : Int) - ((0 : Nat) : Int) = Builtin.Range.rangeSize lo hi 1 := by rw [rangeSize_one]; split <;> omega
    show IsRangeIter _ _ (lo + ((0 : Nat) : Int) * 1) ((((hi - lo).toNat : Nat) : Int) - ((0 : Nat) : Int)) 1
    rw [e1, e2]
    exact Heap.get?_push_size _ rfl
  · have e : b = (s.heap.push { cls := .type "range", data := .fields #[.int lo t, .int hi u, .int 1 v] }).objs.size := by simpa using hb
    subst e
    exact I1.fpOk (Nat.le_refl _) (I1.hok.fresh (Nat.le_refl _))
def iRng1 (ta : TA) : TI := fun σ H R => ta σ H fun vs H1 => ∃ j : Int, vs = [.int j] ∧ -(2 ^ 62) ≤ j ∧ j < 2 ^ 62 ∧ R (Itr 0 j.toNat) H1
def iRng2 (ta : TA) : TI := fun σ H R => ta σ H fun vs H1 => ∃ i j : Int, vs = [.int i, .int j] ∧ (-(2 ^ 62) ≤ i ∧ i < 2 ^ 62 ∧ -(2 ^ 62) ≤ j ∧ j < 2 ^ 62) ∧ R (Itr i (j - i).toNat) H1
theorem pi_range1 {a : Expr} {ta : TA} {p pos : Pos} (hg : Gl X "range") (hm : X.mg "range" = none) (ha : PA X [a] ta) (hs : starEach [a] X.env = [(false, eval a X.env)] := by rfl) : PI X tg (.Call (.Name "range" p) [a] [] pos) (iRng1 ta) := by
  intro pins s σ H R I h
  refine Call_ (ld_blt I hg hm boot_range (PyProof.Rows.callWith_type1 (thn (ha pos pins s σ H _ I h) fun us s1 ⟨vs, H1, I1, r1, q1⟩ => ?_) hs rfl))
  obtain ⟨j, e, q1, q2, q⟩ := q1
  subst e
  cases r1 with
  | cons r rr =>
    cases rr
    obtain ⟨t, rfl⟩ := r
    exact call_range_1 (range_it I1 (by omega) (by omega) q1 q2 (by simpa using q))
theorem pi_range2 {a b : Expr} {ta : TA} {p pos : Pos} (hg : Gl X "range") (hm : X.mg "range" = none) (ha : PA X [a, b] ta) (hs : starEach [a, b] X.env = [(false, eval a X.env), (false, eval b X.env)] := by rfl) (hs2 : starEach [b] X.env = [(false, eval b X.env)] := by rfl) :
    PI X tg (.Call (.Name "range" p) [a, b] [] pos) (iRng2 ta) := by
  intro pins s σ H R I h
  refine Call_ (ld_blt I hg hm boot_range (PyProof.Rows.callWith_type1 (thn (ha pos pins s σ H _ I h) fun us s1 ⟨vs, H1, I1, r1, q1⟩ => ?_) (by rw [hs, hs2]) (by rw [hs2]; rfl)))
  obtain ⟨i, j, e, ⟨q1, q2, q3, q4⟩, q⟩ := q1
  subst e
  cases r1 with
  | cons r rr =>
    cases rr with
    | cons r' rr =>
      cases rr
      obtain ⟨t, rfl⟩ := r
      obtain ⟨t', rfl⟩ := r'
      exact call_range_2 (range_it I1 q1 q2 q3 q4 q)

/-! ### for -/
/-- W: the invariant by the turn and a measure; N: what the body is to reach -/
def tFor (wi : TI) (g : TG) (tb : TS) : TS := fun D σ H => wi σ H fun J H1 => ∃ W : Nat → Nat → St → Hp → Prop, (∃ m, W 0 m σ H1) ∧ ∀ i m σ H, W i m σ H →
  (J.stop i H ∧ D.nx σ H) ∨ (J.go i H ∧ ∃ N : St → Hp → Prop, (∀ σ' H', N σ' H' → ∃ m', m' < m ∧ W (i + 1) m' σ' H') ∧ ∀ x H', J.yld i H x H' → g x σ H' fun σ2 H2 => tb { D with nx := N, ct := N, bk := D.nx } σ2 H2)
/-- the records at fp as they stand -/
def pinsAt (fp : List Addr) (h : Heap) : List (Addr × Obj) := fp.filterMap fun b => (h.get? b).map fun o => (b, o)
theorem mem_pinsAt {fp : List Addr} {h : Heap} {b : Addr} {o : Obj} (hb : b ∈ fp) (e : h.get? b = some o) : (b, o) ∈ pinsAt fp h := List.mem_filterMap.mpr ⟨b, hb, by rw [e]; rfl⟩
theorem of_pinsAt {fp : List Addr} {h : Heap} {p : Addr × Obj} (hp : p ∈ pinsAt fp h) : p.1 ∈ fp ∧ h.get? p.1 = some p.2 := by
  obtain ⟨b, hb, e⟩ := List.mem_filterMap.mp hp
  cases q : h.get? b with
  | none => rw [q] at e; cases e
  | some o =>
    rw [q] at e
    have e' : (b, o) = p := Option.some.inj e
    subst e'
    exact ⟨hb, q⟩
theorem Inv.pinned {pins : List (Addr × Obj)} {σ : St} {H : Hp} {s : Shared} {fp : List Addr} (I : Inv X pins σ H s) (hf : ∀ b ∈ fp, FpOk X pins H b) (ho : ∀ b ∈ fp, ∃ o, s.heap.get? b = some o ∧ ∀ v, o.data ≠ .cell v) : Inv X (pins ++ pinsAt fp s.heap) σ H s :=
  I.pins_of fun p hp => (List.mem_append.mp hp).elim (fun z => I.pin p (List.mem_append_right _ z)) fun z => by
    obtain ⟨hb, e⟩ := of_pinsAt z
    obtain ⟨f0, f1, f2, _⟩ := hf p.1 hb
    obtain ⟨o, e', d⟩ := ho p.1 hb
    rw [e] at e'; cases e'
    exact ⟨e, f0, f1, f2, d⟩
theorem Inv.unpinned {pins pl : List (Addr × Obj)} {σ : St} {H : Hp} {s : Shared} (I : Inv X (pins ++ pl) σ H s) : Inv X pins σ H s := I.pins_of fun p hp => I.pin p (List.mem_append_right _ (List.mem_append_left _ hp))
theorem ps_for {iter : Expr} {body : List Stmt} {wi : TI} {g : TG} {tb : TS} {pos : Pos} (hp : PassesOwn (model X.prog X.w) X.A X.env X.xe) (hc : X.calm = true) (hi : PI X tg iter wi) (hg : PG X tg g) (hb : PSs X body tb)
    (hs : ∀ x, foldedSetIterable iter X.env x = pure x := by intro _; rfl) : PS X (.For tg iter body [] pos) (tFor wi g tb) := by
  intro pins s σ H D I h
  refine wpAny_For (thn (hi pins s σ H _ I h) fun v s1 h1 => thn h1 fun itv s2 h2 => ?_) hs
  obtain ⟨it, fp, tn, J, H2, e, I2, T, st2, f2, W, ⟨m0, w0⟩, turn⟩ := h2
  subst e
  -- what stays true of the iterator's objects through the loop
  have stat : ∀ {H' : Hp}, (∀ b ∈ fp, H' b = none) → ∀ b ∈ fp, FpOk X pins H' b := fun hn b hb => ⟨hn b hb, (f2 b hb).2⟩
  refine codeAny_forLoop_any (fun n s' => ∃ i σ' H', Inv X pins σ' H' s' ∧ tn i s'.heap ∧ (∀ b ∈ fp, H' b = none) ∧ W i n σ' H') ?_ m0 ⟨0, σ, H2, I2, st2, fun b hb => (f2 b hb).1, w0⟩
  rintro n s3 ⟨i, σ3, H3, I3, st3, fr3, w3⟩
  rcases turn i n σ3 H3 w3 with ⟨stop, qn⟩ | ⟨go, N, hN, step⟩
  · refine wpAny_passesOwn hp (thn (T.done X rfl rfl rfl hc i pins s3 σ3 H3 X.xe I3 (stat fr3) st3 stop) fun r s4 ⟨hr, I4⟩ => ?_)
    subst hr
    exact wpAny_execs_nil ⟨σ3, H3, I4, qn⟩
  · refine wpAny_passesOwn hp (thn (T.item X rfl rfl rfl hc i pins s3 σ3 H3 X.xe I3 (stat fr3) st3 go) fun r s4 ⟨u, hr, h4⟩ => ?_)
    subst hr
    refine wpAny_passesOwn hp (thn h4 fun _ s5 ⟨x, H5, I5, r5, y5, st5, fr5⟩ => ?_)
    have I5' := I5.pinned (stat fr5) (T.obj _ _ st5)
    refine wpAny_passesOwn hp (thn (hg _ s5 σ3 H5 x u _ I5' r5 (step x H5 y5)) fun _ s6 ⟨σ6, H6, I6, q6⟩ => ?_)
    refine wpAny_passesOwn hp (thn (hb _ s6 σ6 H6 _ I6 q6) fun f s7 q7 => ?_)
    have again : ∀ {σ7 : St} {H7 : Hp}, Inv X (pins ++ pinsAt fp s5.heap) σ7 H7 s7 → N σ7 H7 → ∃ m, m < n ∧ ∃ i σ' H', Inv X pins σ' H' s7 ∧ tn i s7.heap ∧ (∀ b ∈ fp, H' b = none) ∧ W i m σ' H' := fun {σ7 H7} I7 n7 => by
      obtain ⟨m', hm, w7⟩ := hN σ7 H7 n7
      refine ⟨m', hm, i + 1, σ7, H7, I7.unpinned, T.keep _ _ _ st5 fun b hb o e => (I7.pin (b, o) (List.mem_append_right _ (List.mem_append_right _ (mem_pinsAt hb e)))).1, fun b hb => ?_, w7⟩
      obtain ⟨o, e, d⟩ := T.obj _ _ st5 b hb
      exact (I7.pin (b, o) (List.mem_append_right _ (List.mem_append_right _ (mem_pinsAt hb e)))).2.1
    cases f with
    | next => obtain ⟨σ7, H7, I7, n7⟩ := q7; exact again I7 n7
    | cont => obtain ⟨σ7, H7, I7, n7⟩ := q7; exact again I7 n7
    | brk => obtain ⟨σ7, H7, I7, q7⟩ := q7; exact ⟨σ7, H7, I7.unpinned, q7⟩
    | ret v => obtain ⟨x7, σ7, H7, I7, r7, q7⟩ := q7; exact ⟨x7, σ7, H7, I7.unpinned, r7, q7⟩
end

/-! ### the forms one uses -/
end L2

namespace L2
open PySem PySem.Spec PyProof.Rows

abbrev R2 := V → V → Hp → VK → Prop
/-- a two-place operation on values: f is binaryOp op, inplaceOp op or compareOp op -/
def OpR (X : Cx) (f : Value → Value → Sem Value) (r : R2) : Prop :=
  ∀ (pins : List (Addr × Obj)) (s : Shared) (σ : St) (H : Hp) (x y : V) (v u : Value) (Q : VK), Inv X pins σ H s → RelV x v → RelV y u → r x y H Q →
    wpAny (model X.prog X.w) X.A (f v u) (EP X pins σ Q) X.xe s
/-- a one-place operation -/
def UnR (X : Cx) (f : Value → Sem Value) (r : V → Hp → VK → Prop) : Prop :=
  ∀ (pins : List (Addr × Obj)) (s : Shared) (σ : St) (H : Hp) (x : V) (v : Value) (Q : VK), Inv X pins σ H s → RelV x v → r x H Q →
    wpAny (model X.prog X.w) X.A (f v) (EP X pins σ Q) X.xe s
/-- a call of a value that is known (a builtin, a type) with values -/
def CallR (X : Cx) (f : Value) (r : List V → Hp → VK → Prop) : Prop :=
  ∀ (pins : List (Addr × Obj)) (s : Shared) (σ : St) (H : Hp) (xs : List V) (us : List Value) (Q : VK), Inv X pins σ H s → Vals xs us → r xs H Q →
    wpAny (model X.prog X.w) X.A (call f us) (EP X pins σ Q) X.xe s
/-- a value's truth -/
def TruR (X : Cx) (r : V → Hp → (Bool → Hp → Prop) → Prop) : Prop :=
  ∀ (pins : List (Addr × Obj)) (s : Shared) (σ : St) (H : Hp) (x : V) (v : Value) (Q : Bool → Hp → Prop), Inv X pins σ H s → RelV x v → r x H Q →
    wpAny (model X.prog X.w) X.A (truthy v) (TP X pins σ Q) X.xe s

def tOp (r : R2) (ta tb : TE) : TE := fun σ H Q => ta σ H fun x H1 => tb σ H1 fun y H2 => r x y H2 Q
def tUn (r : V → Hp → VK → Prop) (ta : TE) : TE := fun σ H Q => ta σ H fun x H1 => r x H1 Q
/-- ints in, under C, and a value out -/
def rI (C : Int → Int → Prop) (g : Int → Int → V) : R2 := fun x y H Q => ∃ i j, x = .int i ∧ y = .int j ∧ C i j ∧ Q (g i j) H
def rI0 (g : Int → Int → V) : R2 := fun x y H Q => ∃ i j, x = .int i ∧ y = .int j ∧ Q (g i j) H
def rU (g : Int → V) : V → Hp → VK → Prop := fun x H Q => ∃ i, x = .int i ∧ Q (g i) H

section
variable {X : Cx} {a b c : Expr} {ta tb tc : TE} {pos : Pos}

theorem binT (ha : PE X a ta) (hb : PE X b tb) {pins : List (Addr × Obj)} {s : Shared} {σ : St} {H : Hp} {R : V → V → Hp → Prop} (I : Inv X pins σ H s)
    (h : ta σ H fun x H1 => tb σ H1 fun y H2 => R x y H2) {Q : Value → Shared → Prop} {f : Value → Value → Sem Value}
    (hf : ∀ v u s2 x y H2, Inv X pins σ H2 s2 → RelV x v → RelV y u → R x y H2 → wpAny (model X.prog X.w) X.A (f v u) Q X.xe s2) :
    wpAny (model X.prog X.w) X.A (eval a X.env) (fun v s₁ => wpAny (model X.prog X.w) X.A (eval b X.env) (fun u s₂ => wpAny (model X.prog X.w) X.A (f v u) Q X.xe s₂) X.xe s₁) X.xe s := by
  refine thn (ha pins s σ H _ I h) fun v s1 ⟨x, H1, I1, r1, q1⟩ => ?_
  refine thn (hb pins s1 σ H1 _ I1 q1) fun u s2 ⟨y, H2, I2, r2, q2⟩ => ?_
  exact hf v u s2 x y H2 I2 r1 r2 q2

theorem pe_op {op : Operator} {r : R2} (ho : OpR X (binaryOp op) r) (ha : PE X a ta) (hb : PE X b tb) : PE X (.BinOp a op b pos) (tOp r ta tb) := by
  intro pins s σ H Q I h
  exact wpAny_BinOp (binT ha hb I h fun v u s2 x y H2 I2 rx ry q => ho pins s2 σ H2 x y v u Q I2 rx ry q)
theorem pe_un {op : UnaryOp} {r : V → Hp → VK → Prop} (ho : UnR X (unaryOp op) r) (ha : PE X a ta) : PE X (.UnaryOp op a pos) (tUn r ta) := by
  intro pins s σ H Q I h
  exact UnaryOp_ (thn (ha pins s σ H _ I h) fun v s1 ⟨x, H1, I1, r1, q1⟩ => ho pins s1 σ H1 x v Q I1 r1 q1)
/-! ### ints -/
theorem opI {f : Value → Value → Sem Value} {C : Int → Int → Prop} {g : Int → Int → Int}
    (rule : ∀ (i j : Int) (t u : Tok) (s : Shared) (Q : Value → Shared → Prop) (E : Value → Shared → Prop), C i j → Q (.int (g i j) s.toks) { s with toks := s.toks + 1 } → wpAny (model X.prog X.w) X.A (f (.int i t) (.int j u)) Q E s) :
    OpR X f (rI C fun i j => .int (g i j)) := by
  intro pins s σ H x y v u Q I rx ry h
  obtain ⟨i, j, rfl, rfl, hc, q⟩ := h
  obtain ⟨t, rfl⟩ := rx
  obtain ⟨t', rfl⟩ := ry
  exact rule i j t t' s _ _ hc ⟨.int (g i j), H, I.tok _, ⟨_, rfl⟩, q⟩
theorem opI0 {f : Value → Value → Sem Value} {g : Int → Int → Int}
    (rule : ∀ (i j : Int) (t u : Tok) (s : Shared) (Q : Value → Shared → Prop) (E : Value → Shared → Prop), Q (.int (g i j) s.toks) { s with toks := s.toks + 1 } → wpAny (model X.prog X.w) X.A (f (.int i t) (.int j u)) Q E s) :
    OpR X f (rI0 fun i j => .int (g i j)) := by
  intro pins s σ H x y v u Q I rx ry h
  obtain ⟨i, j, rfl, rfl, q⟩ := h
  obtain ⟨t, rfl⟩ := rx
  obtain ⟨t', rfl⟩ := ry
  exact rule i j t t' s _ _ ⟨.int (g i j), H, I.tok _, ⟨_, rfl⟩, q⟩
theorem opB0 {f : Value → Value → Sem Value} {g : Int → Int → Bool}
    (rule : ∀ (i j : Int) (t u : Tok) (s : Shared) (Q : Value → Shared → Prop) (E : Value → Shared → Prop), Q (.bool (g i j)) s → wpAny (model X.prog X.w) X.A (f (.int i t) (.int j u)) Q E s) :
    OpR X f (rI0 fun i j => .bl (g i j)) := by
  intro pins s σ H x y v u Q I rx ry h
  obtain ⟨i, j, rfl, rfl, q⟩ := h
  obtain ⟨t, rfl⟩ := rx
  obtain ⟨t', rfl⟩ := ry
  exact rule i j t t' s _ _ ⟨.bl (g i j), H, I, rfl, q⟩

def CDiv (i j : Int) : Prop := 0 < j ∧ j < 1073741824
def CDivN (i j : Int) : Prop := j ≠ 0 ∧ j.natAbs < 1073741824
def CPow (i j : Int) : Prop := 0 ≤ j ∧ j ≤ 1000000 ∧ i.natAbs < 2 ^ 64
def CMul (i j : Int) : Prop := (-(2 ^ 64) < i ∧ i < 2 ^ 64) ∨ (-(2 ^ 64) < j ∧ j < 2 ^ 64)
theorem CMul.ok {i j : Int} (h : CMul i j) : IntMulOk i j := by
  rcases h with ⟨h1, h2⟩ | ⟨h1, h2⟩
  · exact .of_left (intBits_le_64 h1 h2)
  · exact .of_right (intBits_le_64 h1 h2)
theorem op_add : OpR X (binaryOp .Add) (rI0 fun i j => .int (i + j)) := opI0 fun _ _ _ _ _ _ _ q => add_int q
theorem op_sub : OpR X (binaryOp .Sub) (rI0 fun i j => .int (i - j)) := opI0 fun _ _ _ _ _ _ _ q => sub_int q
theorem op_mul : OpR X (binaryOp .Mult) (rI CMul fun i j => .int (i * j)) := opI fun _ _ _ _ _ _ _ hc q => mul_int q hc.ok
/-- % by a positive divisor of any size -/
theorem op_mod : OpR X (binaryOp .Mod) (rI (fun _ j => 0 < j) fun i j => .int (i % j)) := opI fun i j _ _ _ _ _ hc q => by
  have h1 : (0 : Int) < j := hc
  exact mod_int' (by omega) (by rw [Int.fmod_eq_emod_of_nonneg i (by omega)]; exact q)
theorem unI {f : Value → Sem Value} {g : Int → Int}
    (rule : ∀ (i : Int) (t : Tok) (s : Shared) (Q : Value → Shared → Prop) (E : Value → Shared → Prop), Q (.int (g i) s.toks) { s with toks := s.toks + 1 } → wpAny (model X.prog X.w) X.A (f (.int i t)) Q E s) :
    UnR X f (rU fun i => .int (g i)) := by
  intro pins s σ H x v Q I rx h
  obtain ⟨i, rfl, q⟩ := h
  obtain ⟨t, rfl⟩ := rx
  exact rule i t s _ _ ⟨.int (g i), H, I.tok _, ⟨_, rfl⟩, q⟩
theorem un_neg : UnR X (unaryOp .USub) (rU fun i => .int (-i)) := unI fun _ _ _ _ _ q => neg_int q
/-! ### bools among ints: n += (a < b) -/
end

/-! ### comparisons -/
/-- the scalars that == tells apart as data does -/
def scal : V → V → Bool
  | .non, .non => true | .non, .int _ => true | .int _, .non => true | .non, .bl _ => true | .bl _, .non => true | .non, .str _ => true | .str _, .non => true
  | .int _, .int _ => true | .bl _, .bl _ => true | .str _, .str _ => true | .byt _, .byt _ => true
  | .int _, .str _ => true | .str _, .int _ => true | .bl _, .str _ => true | .str _, .bl _ => true
  | _, _ => false
def rEq : R2 := fun x y H Q => scal x y = true ∧ Q (.bl (decide (x = y))) H
def rNe : R2 := fun x y H Q => scal x y = true ∧ Q (.bl (!decide (x = y))) H

section
variable {X : Cx} {a b c : Expr} {ta tb tc : TE} {pos : Pos}
theorem fin_bl {pins : List (Addr × Obj)} {σ : St} {H : Hp} {s : Shared} {Q : VK} {k k' : Bool} (I : Inv X pins σ H s) (q : Q (.bl k) H) (e : k = k') : EP X pins σ Q (.bool k') s := by
  subst e
  exact ⟨.bl k, H, I, rfl, q⟩
theorem op_lt : OpR X (compareOp .Lt) (rI0 fun i j => .bl (decide (i < j))) := opB0 fun _ _ _ _ _ _ _ q => lt_int q
theorem op_le : OpR X (compareOp .LtE) (rI0 fun i j => .bl (decide (i ≤ j))) := opB0 fun _ _ _ _ _ _ _ q => le_int q
/-- is, is not of two objects that are tracked lists or instances -/
def isObj : HO → Bool
  | .lst _ => true
  | .ins _ _ _ => true
  | _ => false
/-- two rules for one operation: by cases -/
theorem OpR.or {f : Value → Value → Sem Value} {r r' : R2} (h : OpR X f r) (h' : OpR X f r') : OpR X f (fun x y H Q => r x y H Q ∨ r' x y H Q) := by
  intro pins s σ H x y v u Q I rx ry q
  rcases q with q | q
  · exact h pins s σ H x y v u Q I rx ry q
  · exact h' pins s σ H x y v u Q I rx ry q

theorem nomark (b : Expr) {op : CmpOp} (h : op ≠ .In := by decide) (h2 : op ≠ .NotIn := by decide) : behindInMarks op b = false := by
  have e1 : (op == CmpOp.In) = false := by cases op <;> first | rfl | exact absurd rfl h
  have e2 : (op == CmpOp.NotIn) = false := by cases op <;> first | rfl | exact absurd rfl h2
  cases b <;> simp [behindInMarks, e1, e2]
/-- a comparison as a value; hm: nomark b, or (for in, not in) by with_unfolding_all rfl -/
theorem pe_cmpR {op : CmpOp} {r : R2} (ho : OpR X (compareOp op) r) (ha : PE X a ta) (hb : PE X b tb) (hm : behindInMarks op b = false) : PE X (.Compare a [op] [b] pos) (tOp r ta tb) := by
  intro pins s σ H Q I h
  exact wpAny_Compare1 (binT ha hb I h fun v u s2 x y H2 I2 rx ry q => ho pins s2 σ H2 x y v u Q I2 rx ry q) hm
/-- a reading of a value as a test -/
def tTest (t : TE) : TT := fun σ H Q => t σ H fun x H' => ∃ k, x = .bl k ∧ Q k H'
theorem pt_cmpR {op : CmpOp} {r : R2} (ho : OpR X (compareOp op) r) (ha : PE X a ta) (hb : PE X b tb) (hm : behindInMarks op b = false) : PT X (.Compare a [op] [b] pos) (tTest (tOp r ta tb)) := by
  intro pins s σ H Q I h
  refine wpAny_isTrue_Compare1 (thn (ha pins s σ H _ I h) fun v s1 ⟨x, H1, I1, r1, q1⟩ => thn (hb pins s1 σ H1 _ I1 q1) fun u s2 ⟨y, H2, I2, r2, q2⟩ =>
    thn (ho pins s2 σ H2 x y v u _ I2 r1 r2 q2) fun c s3 ⟨z, H3, I3, r3, k, e, q3⟩ => ?_) hm
  subst e
  cases r3
  exact wpAny_truthy_bool ⟨H3, I3, q3⟩
/-- a op1 b op2 c -/
def tChain (r r' : R2) (ta tb tc : TE) : TE := fun σ H Q => ta σ H fun x H1 => tb σ H1 fun y H2 => r x y H2 fun z H3 => ∃ k, z = .bl k ∧
  (if k = true then tc σ H3 fun w' H4 => r' y w' H4 Q else Q (.bl false) H3)
/-! ### truth -/
/-- a value's truth by the abstract heap -/
def TruV (K : PySem.W.Frag) (x : V) (H : Hp) (k : Bool) : Prop :=
  match x with
  | .non => k = false
  | .bl b => k = b
  | .int i => k = (i != 0)
  | .str y => y.length ≤ sizeLine ∧ k = ((y.length : Int) != 0)
  | .byt y => y.size ≤ sizeLine ∧ k = ((y.size : Int) != 0)
  | .ref p => (∃ xs, SqL K H p xs ∧ k = !xs.isEmpty) ∨ (∃ xs, SqT K H p xs ∧ k = !xs.isEmpty) ∨ ∃ kvs, H p = some (.dK kvs) ∧ k = !kvs.isEmpty
  | _ => False
theorem line63 : (sizeLine : Nat) < 2 ^ 63 := by rw [sizeLine_eq]; decide
/-! ### strs and bytes -/
theorem op_add_str : OpR X (binaryOp .Add) (fun x y H Q => ∃ i j, x = .str i ∧ y = .str j ∧ i.length + j.length ≤ sizeLine ∧ Q (.str (i ++ j)) H) := by
  intro pins s σ H x y v u Q I rx ry h
  obtain ⟨i, j, rfl, rfl, hz, q⟩ := h
  obtain ⟨t, rfl⟩ := rx
  obtain ⟨t', rfl⟩ := ry
  exact add_str (fun t' tk => ⟨.str (i ++ j), H, I.tok _, ⟨_, rfl⟩, q⟩) hz
def PlainIxT (b : Expr) : Prop := ∀ o i, subscripted b false o i = operate [o, i] (getItem o i)
/-! ### scalar builtins, by CallR -/
theorem vals1 {x : V} {us : List Value} (r : Vals [x] us) : ∃ u, us = [u] ∧ RelV x u := by
  cases r with
  | cons r1 r2 => cases r2; exact ⟨_, rfl, r1⟩
theorem vals2 {x y : V} {us : List Value} (r : Vals [x, y] us) : ∃ u w', us = [u, w'] ∧ RelV x u ∧ RelV y w' := by
  cases r with
  | cons r1 r2 =>
    cases r2 with
    | cons r3 r4 => cases r4; exact ⟨_, _, rfl, r1, r3⟩
/-- len of a str, a bytes, a list, a tuple -/
def LenV (K : PySem.W.Frag) (x : V) (H : Hp) (n : Nat) : Prop :=
  match x with
  | .str y => y.length ≤ sizeLine ∧ n = y.length
  | .byt y => y.size ≤ sizeLine ∧ n = y.size
  | .ref p => (∃ xs, SqL K H p xs ∧ n = xs.length) ∨ ∃ xs, SqT K H p xs ∧ n = xs.length
  | _ => False
end
end L2

namespace L2
open PySem PySem.Spec PyProof.Rows

/-! ### an instance, its attributes a map -/
structure ObjM (h : Heap) (x dx C : Addr) (mA : Str → Option Value) : Prop where
  obj : h.get? x = some (PySem.W.instObj C dx)
  ns : h.Ns1 dx mA
  ne : dx ≠ x

theorem lookIn_ns {h : Heap} {dx : Addr} {mA : Str → Option Value} (n : h.Ns1 dx mA) : ∃ od, h.get? dx = some od ∧ ∀ name, PySem.W.lookIn name od = some (mA name) := by
  obtain ⟨o, es, ep, ho, hd, hk, _, hm⟩ := n
  refine ⟨o, ho, fun name => ?_⟩
  have e := hm name
  unfold nsFind findBy at e
  rw [← Array.find?_toList] at e
  unfold PySem.W.lookIn
  rw [hd]
  dsimp only
  split
  · rename_i y q
    rw [q] at e
    exact congrArg some e
  · rename_i q
    rw [q] at e
    have a : es.toList.any (·.refKey) = false := by
      rw [List.any_eq_false]
      intro y hy
      obtain ⟨z, t, hkey⟩ := hk y (Array.mem_toList_iff.mp hy)
      simp [DictEntry.refKey, hkey]
    have a' : ¬ es.toList.any (·.refKey) = true := by rw [a]; exact Bool.false_ne_true
    rw [if_neg a']
    exact congrArg some e

theorem ObjM.look {h : Heap} {x dx C : Addr} {mA : Str → Option Value} (I : ObjM h x dx C mA) : ∃ od, PySem.W.InstAt h x (PySem.W.instObj C dx) C (some od) ∧ ∀ name, PySem.W.lookIn name od = some (mA name) :=
  let ⟨od, ho, hl⟩ := lookIn_ns I.ns
  ⟨od, ⟨I.obj, rfl, rfl, ho⟩, hl⟩

section
variable {prog : Program} {w : World} {A : Around} {E : Value → Shared → Prop} {s : Shared} {K : PySem.W.Frag} {x dx C f : Addr} {mA : Str → Option Value} {name : Str} {v : Value}

end

/-! ### the attributes as a list of pairs -/
def putF (f : Str) (v : V) : List (Str × V) → List (Str × V)
  | [] => [(f, v)]
  | (g, x) :: r => if g = f then (g, v) :: r else (g, x) :: putF f v r
theorem RelO.some_of {v : V} {o : Option Value} (r : RelO (some v) o) : ∃ u, o = some u ∧ RelV v u := by
  cases o with
  | none => exact (show False from r).elim
  | some u => exact ⟨u, rfl, r⟩
theorem RelO.none_of {o : Option Value} (r : RelO none o) : o = none := by
  cases o with
  | none => rfl
  | some u => exact (show False from r).elim
theorem handed_of {v : V} {u : Value} (r : RelV v u) : PySem.W.handedIn u = true := by
  cases v with
  | non => cases (show u = Value.none from r); rfl
  | bl b => cases (show u = Value.bool b from r); rfl
  | int i => obtain ⟨t, e⟩ := (show ∃ t, u = Value.int i t from r); cases e; rfl
  | str x => obtain ⟨t, e⟩ := (show ∃ t, u = Value.str x t from r); cases e; rfl
  | byt b => obtain ⟨t, e⟩ := (show ∃ t, u = Value.bytes b t from r); cases e; rfl
  | flt b => obtain ⟨t, e⟩ := (show ∃ t, u = Value.float b t from r); cases e; rfl
  | ref a => cases (show u = Value.ref a from r); rfl
  | ty n => cases (show u = Value.type n from r); rfl

section
variable {P : Program} {w : World} {H H' : Hp} {h h' : Heap} {a C dx : Addr} {fs fs' : List (Str × V)}
end

/-! ### what of the text a class must have -/
structure Cls (K : PySem.W.Frag) (C : Addr) : Prop where
  pg : PySem.W.plainGet K C Str.empty = true
  hd : PySem.W.hasDictIn K C = true
  po : PySem.W.plainOver K C = true
  sa : PySem.W.findIn K (.ref C) "__setattr__" = some (some (.builtin "object.__setattr__"))
theorem Cls.get {K : PySem.W.Frag} {C : Addr} (c : Cls K C) (f : Str) : PySem.W.plainGet K C f = true := c.pg
/-- no class of it has the name -/
def NoAttr (K : PySem.W.Frag) (C : Addr) (f : Str) : Prop := PySem.W.findIn K (.ref C) f = some none
theorem NoAttr.taker {K : PySem.W.Frag} {C : Addr} {f : Str} (n : NoAttr K C f) : PySem.W.takerIn K C f = some none := by
  unfold PySem.W.takerIn
  rw [show PySem.W.findIn K (.ref C) f = some none from n]
  rfl
/-- a constant of the class -/
structure Con (K : PySem.W.Frag) (C : Addr) (f : Str) (v : V) (u : Value) : Prop where
  at_ : PySem.W.findIn K (.ref C) f = some (some u)
  rel : RelV v u
  get : PySem.W.specialIn K u "__get__" = some none
  cp : PySem.W.copiedNames.contains f = false
/-- a method: a plain def of the class or of one above it -/
structure Meth (K : PySem.W.Frag) (C : Addr) (m : Str) (f : Addr) : Prop where
  at_ : PySem.W.findIn K (.ref C) m = some (some (.ref f))
  fn : PySem.W.isFn K (.ref f) = true
  kp : PySem.W.keepIn K (.ref f) = true

section
variable {X : Cx} {pins : List (Addr × Obj)} {σ : St} {H : Hp} {s : Shared} {a C dx : Addr} {fs : List (Str × V)} {f : Str} {v : V} {A : Around} {E : Value → Shared → Prop}

/-- a new instance, tracked, without attributes -/
theorem Inv.made (I : Inv X pins σ H s) : Inv X pins σ (upd (upd H s.heap.objs.size (.own (s.heap.objs.size + 1))) (s.heap.objs.size + 1) (.ins C s.heap.objs.size []))
    { s with heap := (s.heap.push PySem.W.emptyDict).push (PySem.W.instObj C s.heap.objs.size) } := by
  have e1 : (s.heap.push PySem.W.emptyDict).get? s.heap.objs.size = some PySem.W.emptyDict := Heap.get?_push_size s.heap rfl
  have e2 : ((s.heap.push PySem.W.emptyDict).push (PySem.W.instObj C s.heap.objs.size)).get? (s.heap.objs.size + 1) = some (PySem.W.instObj C s.heap.objs.size) := by
    have := Heap.get?_push_size (s.heap.push PySem.W.emptyDict) (o := PySem.W.instObj C s.heap.objs.size) rfl
    rwa [Heap.size_push] at this
  have e3 : (s.heap.push PySem.W.emptyDict).Ns s.heap.objs.size (fun _ => none) := ⟨PySem.W.emptyDict, #[], _, e1, rfl, (fun e he => absurd he (by simp)), fun _ => rfl⟩
  have I1 := I.laid (a := s.heap.objs.size) (o := .own (s.heap.objs.size + 1)) (h' := s.heap.push PySem.W.emptyDict) (t' := s.toks) (fun b u q => Heap.get?_push_of_some _ q) (Nat.le_refl _) ⟨_, e1⟩
  refine I1.laid (a := s.heap.objs.size + 1) (o := .ins C s.heap.objs.size []) (t' := s.toks) (fun b u q => Heap.get?_push_of_some _ q) (Nat.le_of_eq (Heap.size_push _ _)) ?_
  have ne : s.heap.objs.size ≠ s.heap.objs.size + 1 := Nat.ne_of_lt (Nat.lt_succ_self _)
  refine ⟨by rw [upd_ne ne, upd_same], Nat.zero_le _, ne, e2, fun _ => none, (Heap.Ns1.of_empty e3).at fun o q => Heap.get?_push_of_some _ q, fun _ => True.intro, fun y hy => absurd rfl hy⟩

/-- e.f where nothing but the object is asked: through attributeBase (super) and the last hold -/
theorem attr_of {prog : Program} {w : World} {env : Env} {e : Expr} {f : Str} {pos : Pos} {s : Shared} {Q : Value → Shared → Prop} (hb : attributeBase e f env (eval e env) = eval e env)
    (h : wpAny (model prog w) A (eval e env) (fun o s₁ => wpAny (model prog w) A (getAttr o f true) Q E s₁) E s) : wpAny (model prog w) A (eval (.Attribute e f pos) env) Q E s :=
  Attribute_any_ h (by rw [arm_eval_Attribute, hb])
end

/-! ### readings and rules -/
/-- e.f, an attribute of the instance -/
def tFld (K : PySem.W.Frag) (ta : TE) (f : Str) : TE := fun σ H Q => ta σ H fun x H1 => ∃ a C dx fs v, x = .ref a ∧ H1 a = some (.ins C dx fs) ∧ Cls K C ∧ NoAttr K C f ∧ fs.lookup f = some v ∧ Q v H1
/-- e.f, a constant of the class -/
def tCon (K : PySem.W.Frag) (ta : TE) (f : Str) : TE := fun σ H Q => ta σ H fun x H1 => ∃ a C dx fs v u, x = .ref a ∧ H1 a = some (.ins C dx fs) ∧ Cls K C ∧ Con K C f v u ∧ fs.lookup f = none ∧ Q v H1
/-- e.f = value -/
def sFld (K : PySem.W.Frag) (ta tv : TE) (f : Str) : TS := fun D σ H => tv σ H fun y H1 => ta σ H1 fun x H2 => ∃ a C dx fs, x = .ref a ∧ H2 a = some (.ins C dx fs) ∧ Cls K C ∧ NoAttr K C f ∧ fs.length < 1000 ∧
  D.nx σ (upd H2 a (.ins C dx (putF f y fs)))
/-- an augmented operator on two values -/
def InOp (X : Cx) (op : Operator) (rd : V → V → Hp → VK → Prop) : Prop :=
  ∀ (pins : List (Addr × Obj)) (s : Shared) (σ : St) (H : Hp) (x y : V) (u v : Value) (Q : VK), Inv X pins σ H s → RelV x u → RelV y v → rd x y H Q → wpAny (model X.prog X.w) X.A (inplaceOp op u v) (EP X pins σ Q) X.xe s
/-- e.f op= value -/
def sFldAug (K : PySem.W.Frag) (ta tv : TE) (rd : V → V → Hp → VK → Prop) (f : Str) : TS := fun D σ H => ta σ H fun x H1 => ∃ a C dx fs v, x = .ref a ∧ H1 a = some (.ins C dx fs) ∧ Cls K C ∧ NoAttr K C f ∧ fs.lookup f = some v ∧
  tv σ H1 fun y H2 => rd v y H2 fun z H3 => ∃ dx' fs', H3 a = some (.ins C dx' fs') ∧ fs'.length < 1000 ∧ D.nx σ (upd H3 a (.ins C dx' (putF f z fs')))

section
variable {X : Cx} {o e value : Expr} {f : Str} {pos pos' tpos : Pos} {ta tv : TE}
def rAdd : V → V → Hp → VK → Prop := fun x y H Q => ∃ i j, x = .int i ∧ y = .int j ∧ Q (.int (i + j)) H
def rSub : V → V → Hp → VK → Prop := fun x y H Q => ∃ i j, x = .int i ∧ y = .int j ∧ Q (.int (i - j)) H
end

/-! ### isinstance -/
section
variable {X : Cx} {pins : List (Addr × Obj)} {σ : St} {H : Hp} {s : Shared} {A : Around} {E : Value → Shared → Prop} {Q : Value → Shared → Prop} {c : Value} {b : Bool}
/-- the type of a value, as the fragment's deciders take it; for an instance its class -/
inductive TyOf (K : PySem.W.Frag) (H : Hp) : V → Value → Prop where
  | non : TyOf K H .non (.type "NoneType")
  | bl (x : Bool) : TyOf K H (.bl x) (.type "bool")
  | int (i : Int) : TyOf K H (.int i) (.type "int")
  | str (x : Str) : TyOf K H (.str x) (.type "str")
  | flt (x : UInt64) : TyOf K H (.flt x) (.type "float")
  | lst {a : Addr} {xs : List V} (e : H a = some (.lst xs)) : TyOf K H (.ref a) (.type "list")
  | frz {a : Addr} {o : Obj} {xs : List V} (e : H a = some (.frz o (.lst xs))) : TyOf K H (.ref a) (.type "list")
  | tup {a : Addr} {xs : List V} (e : H a = some (.tup xs)) : TyOf K H (.ref a) (.type "tuple")
  | dK {a : Addr} {kvs : List (Key × V)} (e : H a = some (.dK kvs)) : TyOf K H (.ref a) (.type "dict")
  | dT {a : Addr} {kvs : List (List Key × V)} (e : H a = some (.dT kvs)) : TyOf K H (.ref a) (.type "dict")
  | ins {a C dx : Addr} {fs : List (Str × V)} (e : H a = some (.ins C dx fs)) (cl : Cls K C) (ha : PySem.W.findIn K (.ref C) "__class__" = some (some (.builtin "object.__class__")))
      (hn : PySem.W.specialIn K (.builtin "object.__class__") "__get__" = some (some (.builtin "getset_descriptor.__get__"))) (htk : PySem.W.takesIn K (.builtin "object.__class__") = some true)
      (hm : PySem.W.mroIn K C (.type "object") = some true) : TyOf K H (.ref a) (.ref C)
end
end L2

namespace L2
open PySem PySem.Spec PyProof.Rows

/-! ### room -/
structure Room (k : Nat) (A : Around) : Prop where
  hd : A.handled = none
  dp : A.depth + 3 * k + 5 < recursionLimit
  un : A.units + 16 * k + 200 < cLine
theorem Room.mono {j k : Nat} {A : Around} (r : Room k A) (h : j ≤ k) : Room j A := ⟨r.hd, by have := r.dp; omega, by have := r.un; omega⟩
theorem Room.deeper {k : Nat} {A : Around} (r : Room (k + 1) A) (env : Env) : Room k (A.deeper env) :=
  ⟨r.hd, by have := r.dp; show A.depth + 1 + 3 * k + 5 < _; omega, by have := r.un; show A.units + 3 + 16 * k + 200 < _; omega⟩
theorem Room.in1 {k : Nat} {A : Around} (r : Room (k + 1) A) : Room k A.in1 :=
  ⟨r.hd, by have := r.dp; show A.depth + 3 * k + 5 < _; omega, by have := r.un; show A.units + 1 + 16 * k + 200 < _; omega⟩
theorem make_depth {A : Around} {C : Addr} {us : List Value} {kw : List (Str × Value)} : (A.under (.builtin "type.__call__" ⟨.ref C :: us, kw⟩)).depth = A.depth + 1 := by
  first | rfl | simp [Around.under, Code.weight, Code.isCreation, Code.isGuard, Code.isCaller, Code.frames, Code.isFrame, guardIds]
theorem make_units {A : Around} {C : Addr} {us : List Value} {kw : List (Str × Value)} : (A.under (.builtin "type.__call__" ⟨.ref C :: us, kw⟩)).units = A.units + 1 := by
  first | rfl | simp [Around.under, Code.cUnits, Code.frames, Code.isFrame]
theorem Room.make {k : Nat} {A : Around} (r : Room (k + 1) A) (C : Addr) (us : List Value) (kw : List (Str × Value)) : Room k (A.under (.builtin "type.__call__" ⟨.ref C :: us, kw⟩)) :=
  ⟨r.hd, by have := r.dp; rw [make_depth]; omega, by have := r.un; rw [make_units]; omega⟩
theorem Room.depth {k : Nat} {A : Around} (r : Room k A) : A.depth < recursionLimit := by have := r.dp; omega
theorem Room.units {k : Nat} {A : Around} (r : Room k A) : A.units + 64 < cLine := by have := r.un; omega
theorem Room.units0 {k : Nat} {A : Around} (r : Room k A) : A.units < cLine := by have := r.un; omega

/-! ### argument lists and displays -/
def tNil : TA := fun _ H Q => Q [] H
def tCons (ta : TE) (tr : TA) : TA := fun σ H Q => ta σ H fun x H1 => tr σ H1 fun xs H2 => Q (x :: xs) H2
section
variable {X : Cx} {e : Expr} {es : List Expr} {te : TE} {t : TA} {pos : Pos}
theorem pa_nil : PA X [] tNil := fun _ _ _ _ H Q I h => Calls.spliced_nil ⟨[], H, I, .nil, h⟩
theorem pa_cons (ha : PE X e te) (hr : PA X es t) (hs : starEach (e :: es) X.env = (false, eval e X.env) :: starEach es X.env := by rfl) : PA X (e :: es) (tCons te t) := by
  intro pos pins s σ H Q I h
  rw [hs]
  show wpAny _ _ (spliced ((false, eval e X.env) :: backTo pos (starEach es X.env))) _ _ s
  refine Calls.spliced_cons (thn (ha pins s σ H _ I h) fun u s1 ⟨x, H1, I1, r1, q1⟩ => ?_)
  exact thn (hr pos pins s1 σ H1 _ I1 q1) fun us s2 ⟨xs, H2, I2, r2, q2⟩ => ⟨x :: xs, H2, I2, .cons r1 r2, q2⟩

/-- a tuple, a list of written items -/
def tTup (t : TA) : TE := fun σ H Q => t σ H fun xs H1 => xs.length ≤ sizeLine ∧ ∀ p, H1 p = none → Q (.ref p) (upd H1 p (.tup xs))
def tLst (t : TA) : TE := fun σ H Q => t σ H fun xs H1 => xs.length ≤ sizeLine ∧ ∀ p, H1 p = none → Q (.ref p) (upd H1 p (.lst xs))
theorem pe_tup {x1} (h : PA X es t) : PE X (.Tuple es x1 pos) (tTup t) := by
  intro pins s σ H Q I hq
  refine wpAny_Tuple_spliced (thn (h pos pins s σ H _ I hq) fun us s1 ⟨xs, H1, I1, r, z, q⟩ => ⟨by rw [← r.length]; exact z, ?_⟩)
  have hf : H1 s1.heap.objs.size = none := I1.hok.fresh (Nat.le_refl _)
  refine ⟨.ref s1.heap.objs.size, upd H1 s1.heap.objs.size (.tup xs), I1.laid (t' := s1.toks) (fun b u e => Heap.get?_push_of_some _ e) (Nat.le_refl _) ?_, rfl, q _ hf⟩
  exact ⟨z, us, r, ⟨_, Heap.get?_push_size _ rfl, rfl, _, rfl⟩⟩
theorem pe_lst (h : PA X es t) : PE X (.List es pos) (tLst t) := by
  intro pins s σ H Q I hq
  refine wpAny_List_spliced (thn (h pos pins s σ H _ I hq) fun us s1 ⟨xs, H1, I1, r, z, q⟩ => ⟨by rw [← r.length]; exact z, ?_⟩)
  have hf : H1 s1.heap.objs.size = none := I1.hok.fresh (Nat.le_refl _)
  refine ⟨.ref s1.heap.objs.size, upd H1 s1.heap.objs.size (.lst xs), I1.laid (t' := s1.toks) (fun b u e => Heap.get?_push_of_some _ e) (Nat.le_refl _) ?_, rfl, q _ hf⟩
  exact ⟨z, us, 0, r, Heap.get?_push_size _ rfl⟩
end

/-! ### what a def promises -/
/-- a def's promise: the bound arguments in the parameters' order, the heap, the wanted end, the wanted exception -/
abbrev Sp := List V → Hp → VK → XK → Prop
/-- how an exception lies behind a call (file 08 gives it): the callers' frames, abstract heap and state ahead of the call, the wish, the exception, the state -/
abbrev CXT := List Env → Hp → Shared → XK → Value → Shared → Prop

/-- the state at a call -/
structure Env0 (P : Program) (w : World) (K : PySem.W.Frag) (mg : Str → Option Value) (base : Heap) (A : Around) (outer : List Env) (s : Shared) (H : Hp) : Prop where
  frames : A.frames = some outer
  mod : Mod K mg base
  bs : ∀ b o, base.get? b = some o → s.heap.get? b = some o ∧ H b = none
  bsz : base.objs.size ≤ s.heap.objs.size
  funs : s.heap.FunFrames base outer
  frf : ∀ b ∈ frs outer, H b = none
  hok : HOk P w H s.heap
  bare : AllBare s.gens
/-- a call's end -/
def CE (outer : List Env) (P : Program) (w : World) (H : Hp) (s : Shared) (Q : VK) (u : Value) (s' : Shared) : Prop :=
  ∃ v H', s'.os = s.os ∧ AllBare s'.gens ∧ Un (frs outer) [] H H' s.heap s'.heap ∧ HOk P w H' s'.heap ∧ RelV v u ∧ Q v H'
def CR (CX : CXT) (outer : List Env) (P : Program) (w : World) (H : Hp) (s : Shared) (Q : VK) (E : XK) (r : Result) (s' : Shared) : Prop :=
  match r with
  | .ok (.ret u) => CE outer P w H s Q u s'
  | .ok _ => False
  | .error e => CX outer H s E e s'
structure FnOk (P : Program) (w : World) (K : PySem.W.Frag) (mg : Str → Option Value) (base : Heap) (CX : CXT) (k : Nat) (f : Addr) (fd : FuncData) (ps : List Str) (sp : Sp) : Prop where
  len : ∀ vs H Q E, sp vs H Q E → vs.length = ps.length
  run : ∀ (A : Around) (outer : List Env) (s : Shared) (H : Hp) (args : Args) (us : List Value) (vs : List V) (Q : VK) (E : XK), Room k A → Env0 P w K mg base A outer s H → BindsTo s fd args (ps.zip us) → Vals vs us → sp vs H Q E →
    codeAny (model P w) A (.call (.ref f) args) (CR CX outer P w H s Q E) s
theorem FnOk.mono {P : Program} {w : World} {K : PySem.W.Frag} {mg : Str → Option Value} {base : Heap} {CX : CXT} {j k : Nat} {f : Addr} {fd : FuncData} {ps : List Str} {sp : Sp} (F : FnOk P w K mg base CX j f fd ps sp) (h : j ≤ k) :
    FnOk P w K mg base CX k f fd ps sp := ⟨F.len, fun A outer s H args us vs Q E hr => F.run A outer s H args us vs Q E (hr.mono h)⟩
/-- a weaker promise -/
theorem FnOk.imp {P : Program} {w : World} {K : PySem.W.Frag} {mg : Str → Option Value} {base : Heap} {CX : CXT} {k : Nat} {f : Addr} {fd : FuncData} {ps : List Str} {sp sp' : Sp} (F : FnOk P w K mg base CX k f fd ps sp)
    (h : ∀ vs H Q E, sp' vs H Q E → sp vs H Q E) : FnOk P w K mg base CX k f fd ps sp' :=
  ⟨fun vs H Q E q => F.len vs H Q E (h _ _ _ _ q), fun A outer s H args us vs Q E hr he hb hv hs => F.run A outer s H args us vs Q E hr he hb hv (h _ _ _ _ hs)⟩

theorem Env0.make {P : Program} {w : World} {K : PySem.W.Frag} {mg : Str → Option Value} {base : Heap} {A : Around} {outer : List Env} {s : Shared} {H : Hp} (e : Env0 P w K mg base A outer s H) (C : Addr) (us : List Value) (kw : List (Str × Value)) :
    Env0 P w K mg base (A.under (.builtin "type.__call__" ⟨.ref C :: us, kw⟩)) outer s H := ⟨by first | exact e.frames | (simpa [Around.under, Code.envs, Code.isFrame, pushEnvs] using e.frames), e.mod, e.bs, e.bsz, e.funs, e.frf, e.hok, e.bare⟩
theorem Env0.in1 {P : Program} {w : World} {K : PySem.W.Frag} {mg : Str → Option Value} {base : Heap} {A : Around} {outer : List Env} {s : Shared} {H : Hp} (e : Env0 P w K mg base A outer s H) :
    Env0 P w K mg base A.in1 outer s H := ⟨e.frames, e.mod, e.bs, e.bsz, e.funs, e.frf, e.hok, e.bare⟩

section
variable {X : Cx} {pins : List (Addr × Obj)} {σ : St} {H : Hp} {s s' : Shared}
/-- from a body: what a callee wants -/
theorem Inv.env0 (I : Inv X pins σ H s) : Env0 X.prog X.w X.K X.mg X.base X.A X.stack s H :=
  ⟨I.ok.frames, I.ok.mod, I.bs, Nat.le_trans I.ok.bsz I.sz, I.stack, I.stkFree, I.hok, I.bare⟩
/-- behind a call -/
theorem Inv.after {Q : VK} {u : Value} (I : Inv X pins σ H s) (h : CE X.stack X.prog X.w H s Q u s') : EP X pins σ Q u s' := by
  obtain ⟨v, H', os, bare, un, hok, r, q⟩ := h
  obtain ⟨hh, g, d, t, os'⟩ := s'
  obtain rfl : os' = s.os := os
  exact ⟨v, H', I.call (h' := hh) (g' := g) (d' := d) (t' := t) (ch := []) un hok bare (fun b z => absurd z (by simp)), r, q⟩
end

/-! ### calls -/
/-- f(..): the written arguments, then the defaults dvs; E: what is wanted of an exception -/
def tCall (sp : Sp) (dvs : List V) (E : XK) (t : TA) : TE := fun σ H Q => t σ H fun vs H1 => sp (vs ++ dvs) H1 Q E
/-- o.m(..) of an instance of the class at C -/
def tMeth (C : Addr) (m : Str) (sp : Sp) (dvs : List V) (E : XK) (ta : TE) (t : TA) : TE := fun σ H Q => ta σ H fun x H1 => ∃ a dx fs, x = .ref a ∧ H1 a = some (.ins C dx fs) ∧ fs.lookup m = none ∧
  t σ H1 fun vs H2 => sp (x :: (vs ++ dvs)) H2 Q E
/-- C(..): a new instance and its dict, then __init__ -/
def tMake (C : Addr) (sp : Sp) (dvs : List V) (E : XK) (t : TA) : TE := fun σ H Q => t σ H fun vs H1 => ∀ x dx, H1 x = none → H1 dx = none → dx ≠ x →
  sp (.ref x :: (vs ++ dvs)) (upd (upd H1 dx (.own x)) x (.ins C dx [])) (fun v H2 => v = .non ∧ Q (.ref x) H2) E

/-- how the parameters are bound: us the positional arguments, kw the keywords' values by name, ds the defaults that fill up -/
def Binds (K : PySem.W.Frag) (fd : FuncData) (ps : List Str) (ds : List Value) : Prop :=
  ∀ (s : Shared) (us : List Value), K.In s.heap → (us ++ ds).length = ps.length → BindsTo s fd ⟨us, []⟩ (ps.zip (us ++ ds))
/-- every parameter is given -/
theorem Binds.all {K : PySem.W.Frag} {fd : FuncData} {ps : List Str} (h : ∀ us : List Value, us.length = ps.length → bindArgs fd ⟨us, []⟩ = pure (ps.zip us)) : Binds K fd ps [] := fun s us _ hl => by
  rw [List.append_nil] at hl ⊢
  exact .of_eq (h us hl)

/-- an exception of a callee reaches what this body wants of exceptions -/
def Passes (CX : CXT) (X : Cx) (E : XK) : Prop := ∀ (pins : List (Addr × Obj)) (σ : St) (H : Hp) (s : Shared) (e : Value) (s' : Shared), Inv X pins σ H s → CX X.stack H s E e s' → X.xe e s'

section
variable {X : Cx} {CX : CXT} {k : Nat} {f C : Addr} {fd : FuncData} {ps : List Str} {sp : Sp} {dvs : List V} {ds : List Value} {E : XK} {x m : Str} {p pos apos : Pos} {e o : Expr} {es : List Expr} {ta : TE} {t : TA}

/-- the callee runs -/
theorem run_fn {pins : List (Addr × Obj)} {σ : St} {H : Hp} {s : Shared} {Q : VK} {us : List Value} {vs : List V} (F : FnOk X.prog X.w X.K X.mg X.base CX k f fd ps sp) (hr : Room k X.A) (hb : Binds X.K fd ps ds) (hd : Vals dvs ds) (hx : Passes CX X E)
    (I : Inv X pins σ H s) (r : Vals vs us) (h : sp (vs ++ dvs) H Q E) : wpAny (model X.prog X.w) X.A (call (.ref f) us) (EP X pins σ Q) X.xe s := by
  have r2 : Vals (vs ++ dvs) (us ++ ds) := r.append hd
  have hl : (us ++ ds).length = ps.length := by rw [← r2.length]; exact F.len _ _ _ _ h
  refine wpAny_call (codeAny_mono (F.run X.A X.stack s H ⟨us, []⟩ (us ++ ds) (vs ++ dvs) Q E hr I.env0 (hb s us I.kIn hl) r2 h) fun r s' hq => ?_)
  cases r with
  | error e => exact hx pins σ H s e s' I hq
  | ok fl =>
    cases fl with
    | ret u => exact I.after hq
    | next => exact False.elim hq
    | brk => exact False.elim hq
    | cont => exact False.elim hq

theorem pe_call (F : FnOk X.prog X.w X.K X.mg X.base CX k f fd ps sp) (hr : Room k X.A) (hg : Gl X x) (hm : X.mg x = some (.ref f)) (hk : PySem.W.keepIn X.K (.ref f) = true) (hb : Binds X.K fd ps ds) (hd : Vals dvs ds) (hx : Passes CX X E)
    (ha : PA X (e :: es) t) (hdb : (x == ("__debug__" : Str)) = false := by decide) (he : starEach (e :: es) X.env = (false, eval e X.env) :: starEach es X.env := by rfl) (hpl : (backTo pos (starEach es X.env)).any (·.1) = false := by rfl) :
    PE X (.Call (.Name x p) (e :: es) [] pos) (tCall sp dvs E t) := by
  intro pins s σ H Q I h
  refine wpAny_Call_Name_kw (ld_glob I hg hm ?_ hdb)
  refine PySem.W.callWith_K (h₀ := X.base) I.ok.mod.kin hk (thn (ha pos pins s σ H _ I h) fun us s1 ⟨vs, H1, I1, r, q⟩ => ⟨I1.kIn, ?_⟩) he hpl
  exact run_fn F hr hb hd hx I1 r q
/-- what a class must have to be made -/
structure Mk (K : PySem.W.Frag) (C f : Addr) : Prop where
  makes : PySem.W.makesIn K C = true
  init : PySem.W.findIn K (.ref C) "__init__" = some (some (.ref f))
  fn : PySem.W.isFn K (.ref f) = true
  kp : PySem.W.keepIn K (.ref C) = true

end

/-! ### keywords -/
/-- the values of the keywords, from the left -/
def PK (X : Cx) (kws : List Keyword) (t : TA) : Prop :=
  ∀ (pos : Pos) (pins : List (Addr × Obj)) (s : Shared) (σ : St) (H : Hp) (Q : List V → Hp → Prop), Inv X pins σ H s → t σ H Q → wpAny (model X.prog X.w) X.A (evalAll ((backToKw pos (keywordEach kws X.env)).map (·.2))) (AP X pins σ Q) X.xe s
section
variable {X : Cx} {CX : CXT} {k : Nat} {f C : Addr} {fd : FuncData} {ps ks : List Str} {sp : Sp} {E : XK} {x m : Str} {p pos apos kpos : Pos} {e o : Expr} {es : List Expr} {kws : List Keyword} {te ta : TE} {t tk : TA} {nm : Option Str}
/-- how a call with keywords binds: g puts the positional values us and the keywords' values ws (names ks) in the parameters' order, defaults among them -/
structure KBinds (K : PySem.W.Frag) (fd : FuncData) (ps ks : List Str) (g : List Value → List Value → List Value) (gV : List V → List V → List V) : Prop where
  to : ∀ (s : Shared) (us ws : List Value), K.In s.heap → (g us ws).length = ps.length → BindsTo s fd ⟨us, ks.zip ws⟩ (ps.zip (g us ws))
  rel : ∀ {vs : List V} {us : List Value} {zs : List V} {ws : List Value}, Vals vs us → Vals zs ws → Vals (gV vs zs) (g us ws)
def tCallK (sp : Sp) (gV : List V → List V → List V) (E : XK) (t tk : TA) : TE := fun σ H Q => t σ H fun vs H1 => tk σ H1 fun zs H2 => sp (gV vs zs) H2 Q E
variable {g : List Value → List Value → List Value} {gV : List V → List V → List V}
end

/-! ### a def's body keeps its promise -/
/-- names: the parameters first -/
structure FnScope (N P : List Str) (sc : Scope) : Prop where
  kind : sc.kind = .function
  co : sc.isCoroutine = false
  gen : sc.isGenerator = false
  nd : N.Nodup
  pre : N.take P.length = P
  par : ∀ x ∈ P, sc.names.lookup x = some .local ∨ sc.names.lookup x = some .cell
  nofree : ∀ y ∈ sc.names, y.2 ≠ .free

theorem bindL_out {kindOf : Str → Option NameKind} {x : Str} : ∀ {binds : List (Str × Value)} {m : Str → Option Value}, (∀ v, (x, v) ∉ binds) → bindL kindOf binds m x = m x
  | [], _, _ => rfl
  | (n, v) :: r, m, h => by
    unfold bindL
    rw [bindL_out fun w hw => h w (List.mem_cons_of_mem _ hw)]
    split
    · have : x ≠ n := by rintro rfl; exact h v List.mem_cons_self
      simp [this]
    · rfl
theorem bindC_out {kindOf : Str → Option NameKind} {x : Str} : ∀ {binds : List (Str × Value)} {m : Str → Option Value}, (∀ v, (x, v) ∉ binds) → bindC kindOf binds m x = m x
  | [], _, _ => rfl
  | (n, v) :: r, m, h => by
    unfold bindC
    rw [bindC_out fun w hw => h w (List.mem_cons_of_mem _ hw)]
    split
    · rfl
    · have : x ≠ n := by rintro rfl; exact h v List.mem_cons_self
      simp [this]
theorem bindL_get {kindOf : Str → Option NameKind} {x : Str} {v : Value} : ∀ {P : List Str} {vs : List Value} {i : Nat} {m : Str → Option Value}, P.Nodup → P[i]? = some x → vs[i]? = some v → kindOf x = some .local →
    bindL kindOf (P.zip vs) m x = some v
  | [], _, _, _, _, h, _, _ => by simp at h
  | _ :: _, [], _, _, _, _, h, _ => by simp at h
  | p :: P, w :: vs, 0, m, nd, h1, h2, hk => by
    simp at h1 h2; subst h1; subst h2
    show bindL kindOf ((p, w) :: P.zip vs) m p = _
    unfold bindL
    rw [bindL_out fun v hv => (List.nodup_cons.mp nd).1 (List.of_mem_zip hv).1, if_pos hk]
    simp
  | p :: P, w :: vs, i + 1, m, nd, h1, h2, hk => by
    show bindL kindOf ((p, w) :: P.zip vs) m x = _
    unfold bindL
    exact bindL_get (i := i) (List.nodup_cons.mp nd).2 (by simpa using h1) (by simpa using h2) hk
theorem bindC_get {kindOf : Str → Option NameKind} {x : Str} {v : Value} : ∀ {P : List Str} {vs : List Value} {i : Nat} {m : Str → Option Value}, P.Nodup → P[i]? = some x → vs[i]? = some v → kindOf x ≠ some .local →
    bindC kindOf (P.zip vs) m x = some v
  | [], _, _, _, _, h, _, _ => by simp at h
  | _ :: _, [], _, _, _, _, h, _ => by simp at h
  | p :: P, w :: vs, 0, m, nd, h1, h2, hk => by
    simp at h1 h2; subst h1; subst h2
    show bindC kindOf ((p, w) :: P.zip vs) m p = _
    unfold bindC
    rw [bindC_out fun v hv => (List.nodup_cons.mp nd).1 (List.of_mem_zip hv).1, if_neg hk]
    simp
  | p :: P, w :: vs, i + 1, m, nd, h1, h2, hk => by
    show bindC kindOf ((p, w) :: P.zip vs) m x = _
    unfold bindC
    exact bindC_get (i := i) (List.nodup_cons.mp nd).2 (by simpa using h1) (by simpa using h2) hk

/-- the names' values at the entry -/
def start (N : List Str) (vs : List V) : St := vs.map some ++ List.replicate (N.length - vs.length) none

/-- the context of a def's body, at its entry; an exception leaves the frame, then lies as CX says -/
def cxOf (CX : CXT) (P : Program) (w : World) (K : PySem.W.Frag) (mg : Str → Option Value) (base : Heap) (N : List Str) (qual : Str) (scope : Scope) (f : Addr) (cd : Value) (A : Around) (outer : List Env) (s : Shared) (H : Hp) (E : XK) : Cx where
  prog := P
  w := w
  K := K
  mg := mg
  base := base
  A := A.deeper (envOfC qual scope s.heap.objs.size f cd)
  N := N
  s₀ := s
  H₀ := H
  env := envOfC qual scope s.heap.objs.size f cd
  outer := outer
  stack := envOfC qual scope s.heap.objs.size f cd :: outer
  ex := []
  calm := true
  fn := fun _ => true
  pn := []
  xe := fun e s' => wpAny (model P w) (A.deeper (envOfC qual scope s.heap.objs.size f cd)) (leaving (envOfC qual scope s.heap.objs.size f cd) e) (fun _ s'' => CX outer H s E e s'') (fun e' s'' => CX outer H s E e' s'') s'

theorem cell_has {sc : Scope} {n : Nat} {x : Str} (h : sc.names.lookup x = some .cell) : ∃ c, (cellsFrom n sc.names []).lookup x = some c := by
  have q := PySem.W.cellsFrom_some sc.names n [] (.inl h)
  exact Option.isSome_iff_exists.mp q

theorem inv_start {CX : CXT} {P : Program} {w : World} {K : PySem.W.Frag} {mg : Str → Option Value} {base : Heap} {N ps : List Str} {qual : Str} {scope : Scope} {f : Addr} {cd : Value} {A : Around} {outer : List Env} {s s1 : Shared} {H : Hp} {E : XK} {us : List Value} {vs : List V}
    (S : FnScope N ps scope) (hd : A.handled = none) (e0 : Env0 P w K mg base A outer s H) (hl : vs.length = ps.length) (r : Vals vs us)
    (x : InCallC s s.heap.objs.size (bindL (envOfC qual scope s.heap.objs.size f cd).kindOf (ps.zip us) fun _ => none) (cellsFrom (s.heap.objs.size + 1) scope.names []) (bindC (envOfC qual scope s.heap.objs.size f cd).kindOf (ps.zip us) fun _ => none) s1) :
    Inv (cxOf CX P w K mg base N qual scope f cd A outer s H E) [] (start N vs) H s1 := by
  have hpl : ps.length ≤ N.length := by have := congrArg List.length S.pre; rw [List.length_take] at this; omega
  obtain ⟨h1, tk, rfl, hk⟩ := x.done
  have noA : ∀ b : Addr, b ∉ (cxOf CX P w K mg base N qual scope f cd A outer s H E).ex := fun b z => absurd (show b ∈ ([] : List Addr) from z) (by simp)
  refine ⟨⟨e0.mod, S.kind, rfl, rfl, Nat.le_refl _, fun y z c h1 h2 => ?_, fun y hy => ?_, fun y c _ h => ?_, fun _ => hd, Around.frames_deeper e0.frames, .inr ⟨rfl, rfl⟩, fun b z => absurd z (noA b), e0.bs, e0.bsz, fun b _ _ => noA b, fun b z => absurd z (noA b), e0.funs, e0.frf⟩,
    rfl, e0.bare, Un.kept hk, ⟨_, x.toInCall.ns, fun i y v h1 h2 h3 => ?_⟩, fun y c h => ⟨_, x.cell y c h⟩, e0.hok.fresh (Nat.le_refl _), fun y c h => ?_, fun p hp => absurd (show p ∈ ([] : List (Addr × Obj)) from hp) (by simp), e0.hok.kept hk, ?_⟩
  · exact name_of_addr x.apart (PySem.mem_of_lookup h1) (PySem.mem_of_lookup h2)
  · have hy : scope.names.lookup y = some .cell ∨ scope.names.lookup y = some .free := hy
    rcases hy with hy | hy
    · exact cell_has hy
    · exact absurd rfl (S.nofree _ (PySem.mem_of_lookup hy))
  · exact Nat.le_of_lt (x.above y c (PySem.mem_of_lookup h))
  · have hi : i < vs.length := by
      unfold start at h2
      by_cases hi : i < vs.length
      · exact hi
      · rw [List.getElem?_append_right (by simpa using hi)] at h2
        rw [List.getElem?_replicate] at h2
        split at h2 <;> cases h2
    have ha : vs[i]? = some v := by
      unfold start at h2
      rw [List.getElem?_append_left (by simpa using hi), List.getElem?_map] at h2
      cases e : vs[i]? with
      | none => rw [e] at h2; cases h2
      | some a => rw [e] at h2; cases h2; rfl
    obtain ⟨u, hu, rv⟩ := r.get ha
    have hp : ps[i]? = some y := by
      rw [← S.pre, List.getElem?_take_of_lt (by omega)]; exact h1
    have ndP : ps.Nodup := by rw [← S.pre]; exact S.nd.sublist (List.take_sublist _ _)
    refine ⟨u, rv, ?_⟩
    rcases S.par y (List.mem_of_getElem? hp) with k | k
    · exact .inl ⟨k, bindL_get ndP hp hu k⟩
    · obtain ⟨c, e⟩ := cell_has (n := s.heap.objs.size + 1) k
      refine .inr ⟨.inl k, c, e, ?_⟩
      have q := x.cell y c e
      rw [bindC_get ndP hp hu (by show scope.names.lookup y ≠ _; rw [k]; decide)] at q
      exact q
  · exact e0.hok.fresh (Nat.le_of_lt (x.above y c (PySem.mem_of_lookup h)))
  · unfold start
    show _ = N.length
    rw [List.length_append, List.length_map, List.length_replicate]
    omega

/-- THE RULE: a def (or a method) of the text, by its body. The body's reading t is chosen for each entry; it is run at the parameters' values -/
theorem fn_of {CX : CXT} {P : Program} {w : World} {K : PySem.W.Frag} {mg : Str → Option Value} {base : Heap} {k : Nat} {f : Addr} {name qual : Str} {params : Arguments} {body : List Stmt} {scope : Scope} {dV kV doc pm cdv ct oc : Value} {an od : Option Addr}
    {osl : Array (Option Value)} {N ps : List Str} {sp : Sp} (lk : K.lookup f = some ⟨oc, od, .func (PySem.W.fnOf name qual params body scope dV kV doc pm an cdv ct), osl⟩) (hcd : PySem.W.codeIn K cdv qual = true) (S : FnScope N ps scope)
    (len : ∀ vs H Q E, sp vs H Q E → vs.length = ps.length)
    (hbody : ∀ (A : Around) (outer : List Env) (s : Shared) (H : Hp) (vs : List V) (Q : VK) (E : XK), Room k (A.deeper (envOfC qual scope s.heap.objs.size f cdv)) → sp vs H Q E →
      ∃ t, PSs (cxOf CX P w K mg base N qual scope f cdv A outer s H E) body t ∧ t { nx := fun _ H' => Q .non H', rt := Q } (start N vs) H) :
    FnOk P w K mg base CX (k + 1) f (PySem.W.fnOf name qual params body scope dV kV doc pm an cdv ct) ps sp := by
  refine ⟨len, fun A outer s H args us vs Q E hr e0 hb r hsp => ?_⟩
  have hl := len _ _ _ _ hsp
  have KX : K.In s.heap := e0.mod.kin.keeps fun b o e => (e0.bs b o e).1
  have lim : s.heap.NoLimit := e0.mod.nolimit.keeps fun b o e => (e0.bs b o e).1
  have hkind : ∀ y ∈ ps.zip us, scope.names.lookup y.1 = some .local ∨ (scope.names.lookup y.1 = some .cell ∧ ((cellsFrom (s.heap.objs.size + 1) scope.names []).lookup y.1).isSome = true) := fun ⟨n, v⟩ hy => by
    rcases S.par n (List.of_mem_zip hy).1 with q | q
    · exact .inl q
    · exact .inr ⟨q, PySem.W.cellsFrom_some _ _ _ (.inl q)⟩
  refine codeAny_call_function hr.depth (KX _ _ lk) rfl S.co S.gen rfl (PySem.W.codeRec_of KX hcd) (hb _ _ _ _ ?_)
  refine wpAny_newFunctionEnv_cells S.kind hkind fun env he s1 x => ?_
  subst he
  refine ⟨lim.keeps x.toInCall.keep, codeAny_func ?_⟩
  obtain ⟨t, ht, hq⟩ := hbody A outer s H vs Q E (hr.deeper _) hsp
  have I : Inv (cxOf CX P w K mg base N qual scope f cdv A outer s H E) [] (start N vs) H s1 := inv_start S hr.hd e0 hl r x
  refine wpAny_mono (ht [] s1 (start N vs) H _ I hq) (fun fl s' hs => ?_) fun e s' hs => hs
  have fin : ∀ {σ' : St} {H' : Hp} {v : V} {u : Value}, Inv (cxOf CX P w K mg base N qual scope f cdv A outer s H E) [] σ' H' s' → RelV v u → Q v H' → CE outer P w H s Q u s' :=
    fun {σ' H' v u} J rv q => ⟨v, H', J.os, J.bare, J.base, J.hok, rv, q⟩
  cases fl with
  | ret u =>
    obtain ⟨v, σ', H', J, rv, q⟩ := hs
    exact fin J rv q
  | next =>
    obtain ⟨σ', H', J, q⟩ := hs
    exact fin (v := V.non) (u := Value.none) J rfl q
  | brk =>
    obtain ⟨_, _, _, q⟩ := hs
    exact False.elim q
  | cont =>
    obtain ⟨_, _, _, q⟩ := hs
    exact False.elim q
end L2

namespace L2
open PySem PySem.Spec PyProof.Rows
section
variable {X : Cx} {x : Str} {p pos : Pos} {e : Expr} {es : List Expr} {t : TA} {id T : String} {r : List V → Hp → VK → Prop}

def tCB (r : List V → Hp → VK → Prop) (t : TA) : TE := fun σ H Q => t σ H fun vs H1 => r vs H1 Q
/-- f(e, ..), f a built-in function -/
theorem pe_callB (hc : CallR X (.builtin id) r) (hg : Gl X x) (hm : X.mg x = none) (hv : bootBuiltins x = some (.builtin id)) (ha : PA X (e :: es) t) (hn : x ≠ "__name__" := by decide) (hdb : (x == ("__debug__" : Str)) = false := by decide)
    (he : starEach (e :: es) X.env = (false, eval e X.env) :: starEach es X.env := by rfl) (hpl : (backTo pos (starEach es X.env)).any (·.1) = false := by rfl) : PE X (.Call (.Name x p) (e :: es) [] pos) (tCB r t) := by
  intro pins s σ H Q I h
  refine wpAny_Call_Name_kw (ld_blt I hg hm hv ?_ hn hdb)
  exact PyProof.Rows.callWith_builtin1 (thn (ha pos pins s σ H _ I h) fun us s1 ⟨vs, H1, I1, r1, q1⟩ => hc pins s1 σ H1 vs us Q I1 r1 q1) he hpl
/-- T(e, ..), T a built-in type -/
theorem pe_callTy (hc : CallR X (.type T) r) (hg : Gl X x) (hm : X.mg x = none) (hv : bootBuiltins x = some (.type T)) (ha : PA X (e :: es) t) (hn : x ≠ "__name__" := by decide) (hdb : (x == ("__debug__" : Str)) = false := by decide)
    (he : starEach (e :: es) X.env = (false, eval e X.env) :: starEach es X.env := by rfl) (hpl : (backTo pos (starEach es X.env)).any (·.1) = false := by rfl) : PE X (.Call (.Name x p) (e :: es) [] pos) (tCB r t) := by
  intro pins s σ H Q I h
  refine wpAny_Call_Name_kw (ld_blt I hg hm hv ?_ hn hdb)
  exact PyProof.Rows.callWith_type1 (thn (ha pos pins s σ H _ I h) fun us s1 ⟨vs, H1, I1, r1, q1⟩ => hc pins s1 σ H1 vs us Q I1 r1 q1) he hpl
end
end L2

namespace HT
open PySem PyProof.Rows

/-- t < u of tuples of ints -/
def lexLt : List Int → List Int → Bool
  | [], [] => false
  | [], _ :: _ => true
  | _ :: _, [] => false
  | x :: xs, y :: ys => if x = y then lexLt xs ys else decide (x < y)
section
open PySem.SeqAt
open PySem.AutoSeq1 (wpAny_loadPart')
open PySem.MeetsSeq PySem.MeetsSeq2 PySem.MeetsSeq3

end

section
variable {prog : Program} {w : World} {A : Around} {E : Value → Shared → Prop} {s : Shared}

/-- t + u, t not empty -/
theorem cat_tup {t b : Addr} {vs ws : List Value} {Q : Value → Shared → Prop} (ht : IsTup s.heap t vs.toArray) (hb : IsTup s.heap b ws.toArray) (hv : vs ≠ [])
    (h1 : ws = [] → Q (.ref t) s) (h2 : ws ≠ [] → Q (.ref s.heap.objs.size) { s with heap := s.heap.push { cls := .type "tuple", data := .seq (vs ++ ws).toArray } })
    (hsz : vs.length + ws.length ≤ sizeLine) : wpAny (model prog w) A (binaryOp .Add (.ref t) (.ref b)) Q E s := by
  obtain ⟨⟨cls, dd, data, sl⟩, ho, hc, n, hd⟩ := id ht
  obtain ⟨⟨cls2, dd2, data2, sl2⟩, ho2, hc2, n2, hd2⟩ := id hb
  simp only at hc hd hc2 hd2
  subst hc hd hc2 hd2
  have e : vs.toArray ++ ws.toArray = (vs ++ ws).toArray := by simp
  by_cases hw : ws = []
  · exact concat_meets ⟨_, ho, rfl⟩ ⟨_, ho2, rfl⟩ noFill_tuple_add seq_tuple_add PySem.F.slot_tuple_add PySem.F.entry_tuple_add (PySem.F.args_tuple_add_2 _ _)
      (tuple_addW1 t b vs.toArray ws.toArray n n2 dd dd2 sl sl2 (by simpa using hv) (by simp [hw])) ⟨ho, ho2, h1 hw⟩
  · refine concat_meets ⟨_, ho, rfl⟩ ⟨_, ho2, rfl⟩ noFill_tuple_add seq_tuple_add PySem.F.slot_tuple_add PySem.F.entry_tuple_add (PySem.F.args_tuple_add_2 _ _)
      (tuple_addW2 t b vs.toArray ws.toArray n n2 dd dd2 sl sl2 (by simpa using hv) (by simpa using hw) (by rw [List.size_toArray, List.size_toArray]; exact hsz)) ⟨ho, ho2, ?_⟩
    rw [e]
    exact h2 hw

/-! ### t[a:b], not the whole -/
/-- a slice's bound as a place among n (d where it is left out) -/
def sIx (n d : Nat) : Option Int → Nat
  | none => d
  | some v => if v < 0 then (v + (n : Int)).toNat else min v.toNat n
theorem sIx_none (n d : Nat) : sIx n d none = d := rfl
theorem sIx_nat (n d k : Nat) : sIx n d (some (k : Int)) = min k n := by
  show (if (k : Int) < 0 then ((k : Int) + (n : Int)).toNat else min (k : Int).toNat n) = min k n
  rw [if_neg (by omega), Int.toNat_natCast]
theorem sIx_le (n d : Nat) (hd : d ≤ n) (o : Option Int) : sIx n d o ≤ n := by
  cases o with
  | none => exact hd
  | some v =>
    show (if v < 0 then (v + (n : Int)).toNat else min v.toNat n) ≤ n
    by_cases hv : v < 0
    · rw [if_pos hv]; omega
    · rw [if_neg hv]; exact Nat.min_le_right _ _
theorem clip_eq (v : Int) (n d : Nat) : (if v < 0 then max (v + (n : Int)) 0 else min v (n : Int)) = ((sIx n d (some v) : Nat) : Int) := by
  show (if v < 0 then max (v + (n : Int)) 0 else min v (n : Int)) = (((if v < 0 then (v + (n : Int)).toNat else min v.toNat n) : Nat) : Int)
  by_cases hv : v < 0
  · simp only [if_pos hv]; omega
  · simp only [if_neg hv]; omega
theorem adjust_gen (lo hi : Option Int) (n : Nat) : Builtin.Slice.sliceAdjust lo hi 1 (n : Int) = (((sIx n 0 lo : Nat) : Int), ((sIx n n hi : Nat) : Int)) := by
  have h1 : ¬ ((1 : Int) < 0) := by omega
  unfold Builtin.Slice.sliceAdjust
  simp only [h1, if_false]
  refine Prod.ext ?_ ?_
  · cases lo with
    | none => rfl
    | some v => exact clip_eq v n 0
  · cases hi with
    | none => rfl
    | some v => exact clip_eq v n n
theorem places_gen (i j : Nat) : Builtin.Slice.slicePlaces (i : Int) (j : Int) 1 = j - i := by
  unfold Builtin.Slice.slicePlaces
  have h1 : (1 : Int) > 0 := by omega
  simp only [h1, if_true, Int.ediv_one]
  split <;> omega
theorem slicePart_ {v : Value} {o : Option Int} {Q : Option Int → Shared → Prop} (p : IsPart v o) (h : Q o s) : wpAny (model prog w) A (Builtin.Slice.slicePartIndex v) Q E s := by
  cases p with
  | none => exact slicePart_none h
  | int i t => exact slicePart_int h
theorem sliceApplied_gen {sl : Addr} {vl vu : Value} {lo hi : Option Int} {n : Nat} {Q : Int × Int × Nat → Shared → Prop} (hs : s.heap.IsSliceOf sl vl vu .none) (pl : IsPart vl lo) (pu : IsPart vu hi)
    (h : Q (((sIx n 0 lo : Nat) : Int), 1, sIx n n hi - sIx n 0 lo) s) : wpAny (model prog w) A (Builtin.Slice.sliceApplied (.ref sl) (pure (n : Int))) Q E s := by
  obtain ⟨os, hos, hcs, hds⟩ := id hs
  unfold Builtin.Slice.sliceApplied Builtin.Slice.sliceFields
  refine wpAny_bind (wpAny_bind (wpAny_field hos hds (x := vl) rfl (wpAny_bind (wpAny_field hos hds (x := vu) rfl (wpAny_bind (wpAny_field hos hds (x := .none) rfl (wpAny_pure ?_)))))))
  refine wpAny_bind (slicePart_none ?_)
  show wpAny _ _ (if ((1 : Int) == 0) = true then _ else _) _ _ s
  rw [if_neg (by decide)]
  refine wpAny_bind (slicePart_ pl (wpAny_bind (slicePart_ pu (wpAny_bind (wpAny_pure ?_)))))
  show wpAny _ _ (match Builtin.Slice.sliceAdjust lo hi 1 (n : Int) with | (lo, hi) => pure (lo, (1 : Int), Builtin.Slice.slicePlaces lo hi 1)) _ _ s
  rw [adjust_gen lo hi n]
  show wpAny _ _ (pure (((sIx n 0 lo : Nat) : Int), (1 : Int), Builtin.Slice.slicePlaces ((sIx n 0 lo : Nat) : Int) ((sIx n n hi : Nat) : Int) 1)) _ _ s
  rw [places_gen]
  exact wpAny_pure h
theorem pick_gen (xs : Array Value) (i k : Nat) : ((List.range k).filterMap fun (m : Nat) => xs[((i : Int) + (m : Int) * 1).toNat]?).toArray = ((xs.toList.drop i).take k).toArray := by
  have e : (fun (m : Nat) => xs[((i : Int) + (m : Int) * 1).toNat]?) = fun m => xs[i + m]? := by
    funext m
    have : ((i : Int) + (m : Int) * 1).toNat = i + m := by omega
    rw [this]
  rw [e]
  have := pick_run xs i k
  rw [List.filterMap_map] at this
  have e2 : ((fun x => xs[x]?) ∘ fun x => i + x) = fun m => xs[i + m]? := rfl
  rw [e2] at this
  rw [this]

theorem getItem_tuple_cut {t sl : Addr} {items : Array Value} {vl vu : Value} {lo hi : Option Int} {Q : Value → Shared → Prop} (ht : IsTup s.heap t items) (hs : s.heap.IsSliceOf sl vl vu .none) (pl : IsPart vl lo) (pu : IsPart vu hi)
    (hw : ¬ (sIx items.size 0 lo = 0 ∧ sIx items.size items.size hi = items.size))
    (h : Q (.ref s.heap.objs.size) { s with heap := s.heap.push { cls := .type "tuple", data := .seq ((items.toList.drop (sIx items.size 0 lo)).take (sIx items.size items.size hi - sIx items.size 0 lo)).toArray } })
    (hsz : items.size ≤ sizeLine) : wpAny (model prog w) A (getItem (.ref t) (.ref sl)) Q E s := by
  have htake : sizeOk (.seq ((items.toList.drop (sIx items.size 0 lo)).take (sIx items.size items.size hi - sIx items.size 0 lo)).toArray) := by
    show ((items.toList.drop (sIx items.size 0 lo)).take (sIx items.size items.size hi - sIx items.size 0 lo)).toArray.size ≤ sizeLine
    rw [List.size_toArray, List.length_take, List.length_drop, Array.length_toList]
    omega
  have hj : sIx items.size items.size hi ≤ items.size := sIx_le _ _ (Nat.le_refl _) hi
  obtain ⟨os, hos, hcs, hds⟩ := id hs
  have hTs : s.TypeIs (.ref sl) "slice" := ⟨os, hos, hcs⟩
  unfold getItem
  try with_reducible refine wpAny_holding ?_
  first | refine wpAny_bind (wpAny_pure ?_) | skip
  refine wpAny_bind (wpAny_sequenceKey ht.typeIs (by decide) ?_)
  refine wpAny_bind (wpAny_callSpecial?_slot (name := Str.ofString "__getitem__") ht.typeIs PyProof.Rows.slot_tuple_getitem
    (wpAny_call_entry PyProof.Rows.slot_tuple_getitem ht.typeIs entry_tuple_getitem ?_ (args_tuple_getitem _ _)))
  show wpAny _ _ (Builtin.Tuple.tupleItemsOf (.ref t) >>= _) _ _ s
  refine wpAny_bind (tupleItemsOf_ ht ?_)
  refine wpAny_bind (wpAny_typeOf hTs ?_)
  rw [if_pos (by decide)]
  refine wpAny_bind (sliceApplied_gen hs pl pu ?_)
  have hno : ¬ ((((sIx items.size 0 lo : Nat) : Int) == 0 && (1 : Int) == 1 && (sIx items.size items.size hi - sIx items.size 0 lo) == items.size) = true) := by
    intro q
    rw [Bool.and_eq_true, Bool.and_eq_true] at q
    have q1 : ((sIx items.size 0 lo : Nat) : Int) = 0 := eq_of_beq q.1.1
    have q2 : sIx items.size items.size hi - sIx items.size 0 lo = items.size := eq_of_beq q.2
    exact hw ⟨by omega, by omega⟩
  show wpAny _ _ (if (((sIx items.size 0 lo : Nat) : Int) == 0 && (1 : Int) == 1 && (sIx items.size items.size hi - sIx items.size 0 lo) == items.size) = true then _ else _) _ _ s
  rw [if_neg hno, pick_gen]
  first
    | exact wpAny_bind (m := Builtin.Tuple.tupleExact _) (wpAny_newObj_type (wpAny_pure ⟨_, rfl, wpAny_pure h⟩) htake)
    | exact wpAny_bind (m := Builtin.Tuple.tupleExact _) (wpAny_newObj_type (wpAny_bind (wpAny_pure (wpAny_pure ⟨_, rfl, wpAny_pure h⟩))) htake)
    | exact wpAny_bind (wpAny_bind (m := Builtin.Tuple.tupleExact _) (wpAny_newObj_type (wpAny_pure (wpAny_pure ⟨_, rfl, wpAny_pure h⟩)) htake))
    | exact wpAny_bind (wpAny_bind (m := Builtin.Tuple.tupleExact _) (wpAny_newObj_type (wpAny_pure ⟨_, rfl, wpAny_pure h⟩) htake))
end
end HT

namespace L2
open PySem PySem.Spec PyProof.Rows

/-! ### the parts of a slice -/
abbrev TO := St → Hp → (Option Int → Hp → Prop) → Prop
/-- a slice's part (left out, or an int) -/
def PO (X : Cx) (e : Option Expr) (t : TO) : Prop :=
  ∀ (pins : List (Addr × Obj)) (s : Shared) (σ : St) (H : Hp) (Q : Option Int → Hp → Prop), Inv X pins σ H s → t σ H Q →
    wpAny (model X.prog X.w) X.A (evalPart e X.env) (fun u s' => ∃ o H', Inv X pins σ H' s' ∧ IsPart u o ∧ Q o H') X.xe s
def tNoPart : TO := fun _ H Q => Q none H
def tPart (t : TE) : TO := fun σ H Q => t σ H fun x H1 => ∃ i, x = .int i ∧ Q (some i) H1

section
variable {X : Cx} {e : Expr} {te : TE} {lo hi : Option Expr} {tl th : TO} {pos p2 : Pos}

theorem po_none : PO X none tNoPart := by
  intro pins s σ H Q I h
  rw [evalPart_none]
  exact wpAny_pure ⟨none, H, I, .none, h⟩
theorem po_some (h : PE X e te) : PO X (some e) (tPart te) := by
  intro pins s σ H Q I hw
  rw [evalPart_some]
  refine thn (h pins s σ H _ I hw) fun u s1 ⟨x, H1, I1, r1, q1⟩ => ?_
  obtain ⟨i, rfl, q⟩ := q1
  obtain ⟨t, rfl⟩ := r1
  exact ⟨some i, H1, I1, .int i t, q⟩

/-- what a slice of a value is, by values: the slice object stands at sl -/
def SlR (X : Cx) (r : V → Option Int → Option Int → Hp → VK → Prop) : Prop :=
  ∀ (pins : List (Addr × Obj)) (s : Shared) (σ : St) (H : Hp) (x : V) (v vl vu : Value) (lo hi : Option Int) (sl : Addr) (Q : VK), Inv X pins σ H s → RelV x v → s.heap.IsSliceOf sl vl vu .none → IsPart vl lo → IsPart vu hi → r x lo hi H Q →
    ∃ T id, typeLookup (.type T) "__getitem__" = pure (some (.builtin id)) ∧ s.TypeIs v T ∧ wpAny (model X.prog X.w) X.A (getItem v (.ref sl)) (EP X pins σ Q) X.xe s
theorem SlR.or {r r' : V → Option Int → Option Int → Hp → VK → Prop} (h : SlR X r) (h' : SlR X r') : SlR X (fun x lo hi H Q => r x lo hi H Q ∨ r' x lo hi H Q) := by
  intro pins s σ H x v vl vu lo hi sl Q I rx hs pl pu q
  rcases q with q | q
  · exact h pins s σ H x v vl vu lo hi sl Q I rx hs pl pu q
  · exact h' pins s σ H x v vl vu lo hi sl Q I rx hs pl pu q
def tSl (r : V → Option Int → Option Int → Hp → VK → Prop) (te : TE) (tl th : TO) : TE := fun σ H Q => te σ H fun x H1 => tl σ H1 fun l H2 => th σ H2 fun u H3 => r x l u H3 Q
/-- a[lo:hi], any a -/
theorem pe_slice {r : V → Option Int → Option Int → Hp → VK → Prop} (hr : SlR X r) (he : PE X e te) (hl : PO X lo tl) (hu : PO X hi th) : PE X (.Subscript e (.Slice lo hi none p2) pos) (tSl r te tl th) := by
  intro pins s σ H Q I h
  refine Subscript_ (thn (he pins s σ H _ I h) fun v s1 ⟨x, H1, I1, r1, q1⟩ => ?_)
  refine wpAny_Slice (thn (hl pins s1 σ H1 _ I1 q1) fun vl s2 ⟨l, H2, I2, pl, q2⟩ => thn (hu pins s2 σ H2 _ I2 q2) fun vu s3 ⟨u, H3, I3, pu, q3⟩ => ?_)
  rw [evalPart_none]
  refine wpAny_pure ?_
  have I4 : Inv X pins σ H3 { s3 with heap := s3.heap.push { cls := .type "slice", data := .fields #[vl, vu, .none] } } := I3.kept (t' := s3.toks) fun b ob q => Heap.get?_push_of_some _ q
  obtain ⟨T, id, hT, ht, hg⟩ := hr pins { s3 with heap := s3.heap.push { cls := .type "slice", data := .fields #[vl, vu, .none] } } σ H3 x v vl vu l u s3.heap.objs.size Q I4 r1 (Heap.IsSliceOf.new ..) pl pu q3
  show wpAny (model X.prog X.w) X.A (subscriptTail e (.Slice lo hi none p2) v (.ref s3.heap.objs.size)) (EP X pins σ Q) X.xe { s3 with heap := s3.heap.push { cls := .type "slice", data := .fields #[vl, vu, .none] } }
  exact tail_any (ops := [.ref s3.heap.objs.size, v]) ht hT hg (by with_unfolding_all rfl)

/-- the items of xs[lo:hi] -/
def cutV (xs : List V) (lo hi : Option Int) : List V := (xs.drop (HT.sIx xs.length 0 lo)).take (HT.sIx xs.length xs.length hi - HT.sIx xs.length 0 lo)
theorem cutV_length (xs : List V) (lo hi : Option Int) : (cutV xs lo hi).length ≤ xs.length := by
  unfold cutV
  rw [List.length_take, List.length_drop]
  omega
/-- t[lo:hi], not the whole of it (the whole would be t itself) -/
def rSlT (K : PySem.W.Frag) : V → Option Int → Option Int → Hp → VK → Prop := fun x lo hi H Q => ∃ a xs, x = .ref a ∧ SqT K H a xs ∧
  ¬ (HT.sIx xs.length 0 lo = 0 ∧ HT.sIx xs.length xs.length hi = xs.length) ∧ ∀ p, H p = none → Q (.ref p) (upd H p (.tup (cutV xs lo hi)))
theorem sl_tup : SlR X (rSlT X.K) := by
  intro pins s σ H x v vl vu lo hi sl Q I rx hs pl pu h
  obtain ⟨a, xs, rfl, hx, hw, q⟩ := h
  cases rx
  obtain ⟨its, r, ht, hz⟩ := I.tuple hx
  have hlen : its.toArray.size = xs.length := by rw [List.size_toArray]; exact r.length.symm
  refine ⟨"tuple", _, PyProof.Rows.slot_tuple_getitem.lookup, ht.typeIs, ?_⟩
  refine HT.getItem_tuple_cut ht hs pl pu (by rw [hlen]; exact hw) ?_ (by rw [hlen]; exact hz)
  rw [hlen]
  refine ⟨.ref s.heap.objs.size, _, I.laid (t' := s.toks) (o := .tup (cutV xs lo hi)) (fun b ob q => Heap.get?_push_of_some _ q) (Nat.le_refl _) ?_, rfl, q _ (I.hok.fresh (Nat.le_refl _))⟩
  exact ⟨Nat.le_trans (cutV_length xs lo hi) hz, _, (r.drop (HT.sIx xs.length 0 lo)).take (HT.sIx xs.length xs.length hi - HT.sIx xs.length 0 lo), IsTup.new _ _⟩

/-! ### t < u, t + u -/
def rLtT (K : PySem.W.Frag) : R2 := fun x y H Q => ∃ a b ns ms, x = .ref a ∧ y = .ref b ∧ SqT K H a (ns.map V.int) ∧ SqT K H b (ms.map V.int) ∧ Q (.bl (HT.lexLt ns ms)) H
/-- t + u, t not empty: u empty gives t itself -/
def rCatT (K : PySem.W.Frag) : R2 := fun x y H Q => ∃ a b xs ys, x = .ref a ∧ y = .ref b ∧ SqT K H a xs ∧ SqT K H b ys ∧ xs ≠ [] ∧ xs.length + ys.length ≤ sizeLine ∧
  (ys = [] → Q (.ref a) H) ∧ (ys ≠ [] → ∀ p, H p = none → Q (.ref p) (upd H p (.tup (xs ++ ys))))
theorem Vals.nil_iff {xs : List V} {us : List Value} (r : Vals xs us) : us = [] ↔ xs = [] := by
  cases r with
  | nil => simp
  | cons _ _ => simp
theorem op_catT : OpR X (binaryOp .Add) (rCatT X.K) := by
  intro pins s σ H x y v u Q I rx ry h
  obtain ⟨a, b, xs, ys, rfl, rfl, ha, hb, hx, hz, q1, q2⟩ := h
  cases rx
  cases ry
  obtain ⟨its, r1, p1, _⟩ := I.tuple ha
  obtain ⟨its2, r2, p2, _⟩ := I.tuple hb
  refine HT.cat_tup p1 p2 (fun z => hx (r1.nil_iff.mp z)) (fun z => ⟨.ref a, H, I, rfl, q1 (r2.nil_iff.mp z)⟩) (fun z => ?_) (by rw [← r1.length, ← r2.length]; exact hz)
  refine ⟨.ref s.heap.objs.size, _, I.laid (t' := s.toks) (o := .tup (xs ++ ys)) (fun b ob q => Heap.get?_push_of_some _ q) (Nat.le_refl _) ?_, rfl, q2 (fun w => z (r2.nil_iff.mpr w)) _ (I.hok.fresh (Nat.le_refl _))⟩
  exact ⟨by rw [List.length_append]; exact hz, _, r1.append r2, IsTup.new _ _⟩
end
end L2

namespace L2
open PySem PySem.Spec PyProof.Rows

/-! ### places -/
/-- the place that an index of any sign means -/
def ixN (n : Nat) (i : Int) : Option Nat := if 0 ≤ i then (if i < n then some i.toNat else none) else if -(n : Int) ≤ i then some (i + n).toNat else none
def atI {α : Type} (xs : List α) (i : Int) : Option α := (ixN xs.length i).bind fun j => xs[j]?
theorem ixN_seq {n : Nat} {i : Int} {j : Nat} (h : ixN n i = some j) : seqIndex? i n = some j ∧ j < n ∧ -(n : Int) ≤ i ∧ i < n := by
  unfold ixN at h
  by_cases h0 : 0 ≤ i
  · rw [if_pos h0] at h
    by_cases h1 : i < n
    · rw [if_pos h1] at h
      have e : i.toNat = j := Option.some.inj h
      exact ⟨by rw [seqIndex_of h0 h1, e], by omega, by omega, h1⟩
    · rw [if_neg h1] at h; cases h
  · rw [if_neg h0] at h
    by_cases h1 : -(n : Int) ≤ i
    · rw [if_pos h1] at h
      have e : (i + n).toNat = j := Option.some.inj h
      exact ⟨by rw [seqIndex_neg (by omega) h1, e], by omega, h1, by omega⟩
    · rw [if_neg h1] at h; cases h
theorem atI_get {α : Type} {xs : List α} {i : Int} {v : α} (h : atI xs i = some v) : ∃ j, seqIndex? i xs.length = some j ∧ xs[j]? = some v ∧ j < xs.length ∧ -(xs.length : Int) ≤ i ∧ i < xs.length := by
  unfold atI at h
  cases e : ixN xs.length i with
  | none => rw [e] at h; cases h
  | some j =>
    rw [e] at h
    obtain ⟨h1, h2, h3, h4⟩ := ixN_seq e
    exact ⟨j, h1, h, h2, h3, h4⟩
theorem atI_nat {α : Type} {xs : List α} {j : Nat} {v : α} (h : xs[j]? = some v) : atI xs (j : Int) = some v := by
  have hj : j < xs.length := (List.getElem?_eq_some_iff.mp h).1
  have e : ixN xs.length (j : Int) = some j := by
    unfold ixN
    rw [if_pos (by omega), if_pos (by omega)]; simp
  unfold atI; rw [e]; exact h
theorem atI_last {α : Type} (xs : List α) (v : α) : atI (xs ++ [v]) (-1) = some v := by
  have hl : (xs ++ [v]).length = xs.length + 1 := by simp
  have e : ixN (xs ++ [v]).length (-1) = some xs.length := by
    unfold ixN
    rw [hl, if_neg (by decide), if_pos (by omega)]
    congr 1
    omega
  unfold atI
  rw [e]
  show (xs ++ [v])[xs.length]? = some v
  simp

/-! ### what may be subscripted -/
/-- what stands as an index of a plain subscript -/
def PlainIx (b : Expr) : Prop := ∀ o i, subscripted b false o i = operate [o, i] (getItem o i)
/-- a subscript by values -/
def IxR (X : Cx) (r : R2) : Prop :=
  ∀ (value slice : Expr) (pins : List (Addr × Obj)) (s : Shared) (σ : St) (H : Hp) (x y : V) (v u : Value) (Q : VK), Inv X pins σ H s → RelV x v → RelV y u → r x y H Q →
    subscripted slice false v u = operate [v, u] (getItem v u) → wpAny (model X.prog X.w) X.A (subscriptTail value slice v u) (EP X pins σ Q) X.xe s
/-- a call of a builtin's method by values: the receiver, the arguments -/
def MtR (X : Cx) (id : String) (r : V → List V → Hp → VK → Prop) : Prop :=
  ∀ (pins : List (Addr × Obj)) (s : Shared) (σ : St) (H : Hp) (x : V) (xs : List V) (v : Value) (us : List Value) (Q : VK), Inv X pins σ H s → RelV x v → Vals xs us → r x xs H Q →
    wpAny (model X.prog X.w) X.A (call (.builtin id) (v :: us)) (EP X pins σ Q) X.xe s
section
variable {X : Cx} {a b : Expr} {ta tb : TE} {pos : Pos}
theorem IxR.or {r r' : R2} (h : IxR X r) (h' : IxR X r') : IxR X (fun x y H Q => r x y H Q ∨ r' x y H Q) := by
  intro value slice pins s σ H x y v u Q I rx ry q hs
  rcases q with q | q
  · exact h value slice pins s σ H x y v u Q I rx ry q hs
  · exact h' value slice pins s σ H x y v u Q I rx ry q hs
theorem MtR.or {id : String} {r r' : V → List V → Hp → VK → Prop} (h : MtR X id r) (h' : MtR X id r') : MtR X id (fun x xs H Q => r x xs H Q ∨ r' x xs H Q) := by
  intro pins s σ H x xs v us Q I rx rs q
  rcases q with q | q
  · exact h pins s σ H x xs v us Q I rx rs q
  · exact h' pins s σ H x xs v us Q I rx rs q
/-- a[b] -/
theorem pe_ix {r : R2} (hr : IxR X r) (ha : PE X a ta) (hb : PE X b tb) (hs : PlainIx b) : PE X (.Subscript a b pos) (tOp r ta tb) := by
  intro pins s σ H Q I h
  exact Subscript_ (binT ha hb I h fun v u s2 x y H2 I2 rx ry q => hr a b pins s2 σ H2 x y v u Q I2 rx ry q (hs _ _))

def rIxL (K : PySem.W.Frag) : R2 := fun x y H Q => ∃ p xs i v, x = .ref p ∧ y = .int i ∧ SqL K H p xs ∧ atI xs i = some v ∧ Q v H
def rIxT (K : PySem.W.Frag) : R2 := fun x y H Q => ∃ p xs i v, x = .ref p ∧ y = .int i ∧ SqT K H p xs ∧ atI xs i = some v ∧ Q v H
def rIxS : R2 := fun x y H Q => ∃ z i c, x = .str z ∧ y = .int i ∧ z.length ≤ sizeLine ∧ atI z.cps.toList i = some c ∧ Q (.str ⟨#[c]⟩) H
theorem ix_list : IxR X (rIxL X.K) := by
  intro value slice pins s σ H x y v u Q I rx ry h hs
  obtain ⟨p, xs, i, z, rfl, rfl, hq, he, q⟩ := h
  cases rx
  obtain ⟨t, rfl⟩ := ry
  obtain ⟨its, r, pl, hz⟩ := I.list hq
  obtain ⟨j, h1, h2, h3, h4, h5⟩ := atI_get he
  obtain ⟨w, ew, rw'⟩ := r.get h2
  have hl := r.length
  have hn := line63
  have fin : EP X pins σ Q w s := ⟨z, H, I, rw', q⟩
  by_cases h0 : 0 ≤ i
  · have hj : i.toNat = j := by
      rw [seqIndex_of h0 h5] at h1
      exact Option.some.inj h1
    exact item_listR pl.isList h0 (by omega) (by rw [hj]; simpa using ew) fin hs
  · have hj : (i + (its.toArray.size : Int)).toNat = j := by
      rw [seqIndex_neg (by omega) h4] at h1
      rw [List.size_toArray, ← hl]
      exact Option.some.inj h1
    exact subscriptTail_builtinR (x := w) pl.isList.typeIs slot_list_getitem.lookup
      (wpAny_getItem_list_neg (Q := fun r s' => r = w ∧ EP X pins σ Q r s') pl.isList (by omega) (by rw [List.size_toArray] <;> omega) (by omega) (by rw [hj]; simpa using ew) ⟨rfl, fin⟩) hs
theorem ix_tup : IxR X (rIxT X.K) := by
  intro value slice pins s σ H x y v u Q I rx ry h hs
  obtain ⟨p, xs, i, z, rfl, rfl, hq, he, q⟩ := h
  cases rx
  obtain ⟨t, rfl⟩ := ry
  obtain ⟨its, r, pl, hz⟩ := I.tuple hq
  obtain ⟨j, h1, h2, h3, h4, h5⟩ := atI_get he
  obtain ⟨w, ew, rw'⟩ := r.get h2
  have hl := r.length
  have hn := line63
  have fin : EP X pins σ Q w s := ⟨z, H, I, rw', q⟩
  exact subscriptTail_builtinR (x := w) pl.typeIs slot_tuple_getitem.lookup
    (getItem_tuple (j := j) (Q := fun r s' => r = w ∧ EP X pins σ Q r s') pl (by omega) (by omega) (by rw [List.size_toArray, ← hl]; exact h1) (by simpa using ew) ⟨rfl, fin⟩) hs
theorem ix_str : IxR X rIxS := by
  intro value slice pins s σ H x y v u Q I rx ry h hs
  obtain ⟨z, i, c, rfl, rfl, hz, he, q⟩ := h
  obtain ⟨t, rfl⟩ := rx
  obtain ⟨t', rfl⟩ := ry
  obtain ⟨j, h1, h2, h3, h4, h5⟩ := atI_get he
  have hl : z.cps.toList.length = z.length := by simp [Str.length]
  rw [hl] at h1 h4 h5
  have hn := line63
  exact tail_any (typeIs_str s z t) slot_str_getitem.lookup (getItem_str (c := c) (by
    have e1 : decide (i < -(2 ^ 63 : Int)) = false := decide_eq_false (by omega)
    have e2 : decide (i ≥ 2 ^ 63) = false := decide_eq_false (by omega)
    rw [e1, e2, Bool.or_false]) (by rw [h1]; simpa using h2) ⟨.str ⟨#[c]⟩, H, I.tok _, ⟨_, rfl⟩, q⟩) hs
/-- list, tuple or str -/
def rIx (K : PySem.W.Frag) : R2 := fun x y H Q => rIxL K x y H Q ∨ rIxT K x y H Q ∨ rIxS x y H Q
theorem ix_seq : IxR X (rIx X.K) := ix_list.or (ix_tup.or ix_str)

/-! ### xs[i] = v, any sign -/
theorem Inv.lst {pins : List (Addr × Obj)} {σ : St} {H : Hp} {s : Shared} {p : Addr} {xs : List V} (I : Inv X pins σ H s) (h : H p = some (.lst xs)) :
    ∃ (its : List Value) (n : Nat), Vals xs its ∧ s.heap.get? p = some { cls := .type "list", data := .seq its.toArray n } ∧ xs.length ≤ sizeLine := by
  obtain ⟨z, its, n, r, e⟩ := I.hok p _ h
  exact ⟨its, n, r, e, z⟩
/-- the list at p is written by an update of its object -/
theorem Inv.lstUpd {pins : List (Addr × Obj)} {σ : St} {H : Hp} {s : Shared} {p : Addr} {xs ys : List V} {its its' : List Value} {n n' : Nat} {f : Obj → Obj} (I : Inv X pins σ H s) (h : H p = some (.lst xs))
    (ho : s.heap.get? p = some { cls := .type "list", data := .seq its.toArray n }) (hf : f { cls := .type "list", data := .seq its.toArray n } = { cls := .type "list", data := .seq its'.toArray n' }) (r : Vals ys its') (hz : ys.length ≤ sizeLine) (t : Nat) :
    Inv X pins σ (upd H p (.lst ys)) { s with heap := s.heap.update p f, toks := t } := by
  have e : (s.heap.update p f).get? p = some { cls := .type "list", data := .seq its'.toArray n' } := by
    rw [Heap.get?_update_self f ho (by rw [hf] <;> rfl), hf]
  refine I.write (x := p) (e := p) (by rw [h]; trivial) (.inl rfl) (fun b u hb q => (Heap.get?_update_other _ _ (Ne.symm hb)).trans q) ⟨_, e⟩ ?_
  exact ⟨hz, its', n', r, e⟩
def rSetL : V → V → V → Hp → (Hp → Prop) → Prop := fun o i v H Q => ∃ p xs k j, o = .ref p ∧ i = .int k ∧ H p = some (.lst xs) ∧ ixN xs.length k = some j ∧ Q (upd H p (.lst (xs.set j v)))
/-! ### slices -/
theorem slice_bounds (lo hi : Option Int) (n : Nat) : (sliceBounds lo hi none n).1 = ((HT.sIx n 0 lo : Nat) : Int) ∧ (sliceBounds lo hi none n).2.1 = ((HT.sIx n n hi : Nat) : Int) ∧ (sliceBounds lo hi none n).2.2 = 1 := by
  refine ⟨?_, ?_, rfl⟩
  · cases lo with
    | none => simp [sliceBounds, HT.sIx]
    | some i =>
      simp only [sliceBounds, HT.sIx, Option.getD_none, show (1 : Int) > 0 by decide, if_true]
      by_cases h : i < 0
      · simp only [h, if_true] <;> omega
      · simp only [h, if_false] <;> omega
  · cases hi with
    | none => simp [sliceBounds, HT.sIx]
    | some i =>
      simp only [sliceBounds, HT.sIx, Option.getD_none, show (1 : Int) > 0 by decide, if_true]
      by_cases h : i < 0
      · simp only [h, if_true] <;> omega
      · simp only [h, if_false] <;> omega
theorem slicePick_cut (its : List Value) (lo hi : Option Int) : slicePick its.toArray lo hi none = ((its.drop (HT.sIx its.length 0 lo)).take (HT.sIx its.length its.length hi - HT.sIx its.length 0 lo)).toArray := by
  obtain ⟨h1, h2, h3⟩ := slice_bounds lo hi its.toArray.size
  unfold slicePick
  rw [h1, h2, h3]
  simp only [sliceRange_one, pick_run, List.size_toArray] <;> rfl
/-- xs[lo:hi] of a list: a new list -/
def rSlL (K : PySem.W.Frag) : V → Option Int → Option Int → Hp → VK → Prop := fun x lo hi H Q => ∃ a xs, x = .ref a ∧ SqL K H a xs ∧ ∀ p, H p = none → Q (.ref p) (upd H p (.lst (cutV xs lo hi)))
theorem sl_list : SlR X (rSlL X.K) := by
  intro pins s σ H x v vl vu lo hi sl Q I rx hs pl pu h
  obtain ⟨a, xs, rfl, hx, q⟩ := h
  cases rx
  obtain ⟨its, r, ht, hz⟩ := I.list hx
  have hlen := r.length
  refine ⟨"list", _, slot_list_getitem.lookup, ht.isList.typeIs, ?_⟩
  refine wpAny_getItem_list_slice ht.isList hs pl pu .none (by simp) ?_ (by rw [List.size_toArray] <;> omega)
  rw [slicePick_cut, ← hlen]
  refine ⟨.ref s.heap.objs.size, _, I.laid (t' := s.toks) (o := .lst (cutV xs lo hi)) (fun b ob q => Heap.get?_push_of_some _ q) (Nat.le_refl _) ?_, rfl, q _ (I.hok.fresh (Nat.le_refl _))⟩
  exact ⟨Nat.le_trans (cutV_length xs lo hi) hz, _, 0, (r.drop (HT.sIx xs.length 0 lo)).take (HT.sIx xs.length xs.length hi - HT.sIx xs.length 0 lo), Heap.get?_push_size _ rfl⟩

/-! ### in, not in: flat items -/
def flatV : V → Bool
  | .non => true
  | .bl _ => true
  | .int _ => true
  | .str _ => true
  | _ => false
/-- == of flat values -/
def eqV : V → V → Bool
  | .non, .non => true
  | .bl a, .bl b => a == b
  | .bl a, .int b => (if a then 1 else 0) == b
  | .int a, .bl b => a == (if b then 1 else 0)
  | .int a, .int b => a == b
  | .str a, .str b => a == b
  | _, _ => false
/-- the items' answers, read off the values (a value's own answer does not lean on its token) -/
def eqU (x : V) (u : Value) : Bool := match u with
  | .none => eqV .non x
  | .bool b => eqV (.bl b) x
  | .int i _ => eqV (.int i) x
  | .str z _ => eqV (.str z) x
  | _ => false
def inV (x : V) (xs : List V) : Bool := xs.any fun y => eqV y x
/-- x in a list or tuple of flat items -/
def rIn (K : PySem.W.Frag) (neg : Bool) : R2 := fun x y H Q => ∃ p xs, y = .ref p ∧ (SqL K H p xs ∨ SqT K H p xs) ∧ flatV x = true ∧ xs.all flatV = true ∧ Q (.bl (if neg then !inV x xs else inV x xs)) H
/-! ### len, list(x), tuple(x) of any list or tuple that is read -/
theorem call_len_seq : CallR X (.builtin "len") (fun xs H Q => ∃ p ys, xs = [.ref p] ∧ (SqL X.K H p ys ∨ SqT X.K H p ys) ∧ Q (.int ys.length) H) := by
  intro pins s σ H xs us Q I r h
  obtain ⟨p, ys, rfl, hq, q⟩ := h
  obtain ⟨u, rfl, rx⟩ := vals1 r
  cases rx
  have hn := line63
  rcases hq with hq | hq
  · obtain ⟨its, r', pl, hz⟩ := I.list hq
    have hlen := r'.length
    exact Calls.call_len_list pl.isList (by simp only [List.size_toArray] <;> omega) ⟨.int ys.length, H, I.tok _, ⟨s.toks + 1, by rw [List.size_toArray, hlen]⟩, q⟩
  · obtain ⟨its, r', pl, hz⟩ := I.tuple hq
    have hlen := r'.length
    exact len_tuple pl (by simp only [List.size_toArray] <;> omega) ⟨.int ys.length, H, I.tok _, ⟨s.toks + 1, by rw [List.size_toArray, hlen]⟩, q⟩
theorem call_len_str : CallR X (.builtin "len") (fun xs H Q => ∃ z, xs = [.str z] ∧ z.length ≤ sizeLine ∧ Q (.int z.length) H) := by
  intro pins s σ H xs us Q I r h
  obtain ⟨z, rfl, hz, q⟩ := h
  obtain ⟨u, rfl, t, rfl⟩ := vals1 r
  have hn := line63
  exact len_str (by omega) ⟨.int z.length, H, I.tok _, ⟨_, rfl⟩, q⟩
theorem CallR.or {f : Value} {r r' : List V → Hp → VK → Prop} (h : CallR X f r) (h' : CallR X f r') : CallR X f (fun xs H Q => r xs H Q ∨ r' xs H Q) := by
  intro pins s σ H xs us Q I rs q
  rcases q with q | q
  · exact h pins s σ H xs us Q I rs q
  · exact h' pins s σ H xs us Q I rs q
theorem call_list_of : CallR X (.type "list") (fun xs H Q => ∃ p ys, xs = [.ref p] ∧ (SqL X.K H p ys ∨ SqT X.K H p ys) ∧ ∀ l, H l = none → Q (.ref l) (upd H l (.lst ys))) := by
  intro pins s σ H xs us Q I r h
  obtain ⟨p, ys, rfl, hq, q⟩ := h
  obtain ⟨u, rfl, rx⟩ := vals1 r
  cases rx
  have fin : ∀ (its : List Value), Vals ys its → ys.length ≤ sizeLine → ∀ (h' : Heap) (c' : Nat), (∀ b o', s.heap.get? b = some o' → h'.get? b = some o') →
      h'.get? s.heap.objs.size = some { cls := .type "list", dict := none, data := .seq its.toArray c', slots := #[] } → EP X pins σ Q (.ref s.heap.objs.size) { s with heap := h' } := fun its r' hz h' c' kp e =>
    ⟨.ref s.heap.objs.size, _, I.laid (t' := s.toks) kp (Nat.le_refl _) (show ObjOk X.prog X.w _ h' _ (.lst ys) from ⟨hz, its, c', r', e⟩), rfl, q _ (I.hok.fresh (Nat.le_refl _))⟩
  rcases hq with hq | hq
  · obtain ⟨its, r', pl, hz⟩ := I.list hq
    have hlen := r'.length
    obtain ⟨o, ho, hc, n, hd⟩ := pl.isList
    exact call_list_seq p (.inl rfl) ho hc hd (fun h' c' kp e => fin its r' hz h' c' kp e) (by simp only [List.size_toArray] <;> omega)
  · obtain ⟨its, r', pl, hz⟩ := I.tuple hq
    have hlen := r'.length
    obtain ⟨o, ho, hc, n, hd⟩ := pl
    exact call_list_seq p (.inr rfl) ho hc hd (fun h' c' kp e => fin its r' hz h' c' kp e) (by simp only [List.size_toArray] <;> omega)
/-! ### the call of a builtin's method: o.m(..) -/
/-- the value is of that builtin type -/
def tyV (K : PySem.W.Frag) (T : String) (x : V) (H : Hp) : Prop := match x with
  | .str _ => T = "str"
  | .int _ => T = "int"
  | .ref p => (T = "list" ∧ ∃ xs, SqL K H p xs) ∨ (T = "tuple" ∧ ∃ o, K.lookup p = some o ∧ o.cls = .type "tuple" ∧ o.dict = none) ∨
      (T = "dict" ∧ ((∃ kvs, H p = some (.dK kvs)) ∨ ∃ kvs, H p = some (.dT kvs))) ∨ (T = "set" ∧ ∃ S n, H p = some (.set S n))
  | _ => False
theorem tyV_is {pins : List (Addr × Obj)} {σ : St} {H : Hp} {s : Shared} {T : String} {x : V} {v : Value} (I : Inv X pins σ H s) (r : RelV x v) (ty : tyV X.K T x H) :
    s.TypeIs v T ∧ ∀ a, v = .ref a → ∃ ob, s.heap.get? a = some ob ∧ ob.dict = none := by
  cases x with
  | str z =>
    obtain ⟨t, rfl⟩ := r
    cases (show T = "str" from ty)
    exact ⟨typeIs_str s z t, fun _ e => nomatch e⟩
  | int i =>
    obtain ⟨t, rfl⟩ := r
    cases (show T = "int" from ty)
    exact ⟨typeIs_int s i t, fun _ e => nomatch e⟩
  | ref p =>
    cases r
    rcases ty with ⟨rfl, xs, hq⟩ | ⟨rfl, o, hk, hc, hd⟩ | ⟨rfl, hk⟩ | ⟨rfl, S, n, hk⟩
    · obtain ⟨its, _, pl, _⟩ := I.list hq
      refine ⟨pl.isList.typeIs, fun a e => ?_⟩
      cases e
      obtain ⟨o, n, e, c, hd, _⟩ := pl
      exact ⟨o, e, hd⟩
    · refine ⟨⟨o, I.kIn p o hk, hc⟩, fun a e => ?_⟩
      cases e
      exact ⟨o, I.kIn _ o hk, hd⟩
    · have z : ∃ o, s.heap.get? p = some o ∧ o.ExactDict := by
        rcases hk with ⟨kvs, hk⟩ | ⟨kvs, hk⟩
        · obtain ⟨_, _, _, _, o, _, _, e, ex, _⟩ := I.hok p _ hk
          exact ⟨o, e, ex⟩
        · obtain ⟨_, _, _, _, o, _, _, e, ex, _⟩ := I.hok p _ hk
          exact ⟨o, e, ex⟩
      obtain ⟨o, e, ex⟩ := z
      refine ⟨⟨o, e, ex.1⟩, fun a e2 => ?_⟩
      cases e2
      exact ⟨o, e, ex.2.1⟩
    · obtain ⟨o, _, _, _, e, ex, _⟩ := I.hok p _ hk
      refine ⟨⟨o, e, ex.1⟩, fun a e2 => ?_⟩
      cases e2
      exact ⟨o, e, ex.2.1⟩
  | _ => exact False.elim ty
def tBM0 (K : PySem.W.Frag) (T : String) (r : V → List V → Hp → VK → Prop) (to : TE) : TE := fun σ H Q => to σ H fun x H1 => tyV K T x H1 ∧ r x [] H1 Q
def tBM (K : PySem.W.Frag) (T : String) (r : V → List V → Hp → VK → Prop) (to : TE) (t : TA) : TE := fun σ H Q => to σ H fun x H1 => tyV K T x H1 ∧ t σ H1 fun xs H2 => r x xs H2 Q
variable {o e : Expr} {es : List Expr} {to : TE} {t : TA} {name : Str} {apos cpos : Pos} {T id : String} {r : V → List V → Hp → VK → Prop}
theorem pe_bm (pa : PlainAttrs T) (slot : Slot T name id) (hty : typeOf (.builtin id) = pure (.type "method_descriptor")) (hm : MtR X id r) (ho : PE X o to) (ha : PA X (e :: es) t)
    (hbase : attributeBase o name X.env (eval o X.env) = eval o X.env := by rfl)
    (hfew : ((backTo cpos (starEach (e :: es) X.env)).all (fun x => !x.1) && (backToKw cpos (keywordEach [] X.env)).all (fun x => x.1.isSome)
      && decide ((e :: es).length + ([] : List Keyword).length + (if ([] : List Keyword).isEmpty then 0 else 1) < 30)) = true := by rfl)
    (hline : (apos.endLine == cpos.line) = true := by rfl) (hs : starEach (e :: es) X.env = (false, eval e X.env) :: starEach es X.env := by rfl) (hplain : (backTo cpos (starEach es X.env)).any (·.1) = false := by rfl) :
    PE X (.Call (.Attribute o name apos) (e :: es) [] cpos) (tBM X.K T r to t) := by
  intro pins s σ H Q I h
  refine wpAny_Call_method_late hbase hfew hline rfl (thn (ho pins s σ H _ I h) fun v s1 ⟨x, H1, I1, r1, ty, q1⟩ => ?_)
  obtain ⟨h1, h2⟩ := tyV_is I1 r1 ty
  refine ⟨T, id, pa, slot, hty, h1, h2, ?_⟩
  have hA := ha cpos pins s1 σ H1 _ I1 q1
  rw [hs] at hA ⊢
  refine Calls.callWith_builtin (by show (false || (backTo cpos (starEach es X.env)).any (·.1)) = false; rw [hplain] <;> rfl) (Calls.evalArgs_plain ?_)
  exact thn hA fun us s2 ⟨vs, H2, I2, r2, q2⟩ => hm pins s2 σ H2 x vs v us Q I2 r1 r2 q2
/- xs.append(e), list.index on a module's tuple .. are MtR facts of 06m -/
end
end L2

namespace L2
open PySem PySem.Spec PyProof.Rows

def MtM (X : Cx) (id : String) (r : V → List V → Hp → VK → Prop) : Prop :=
  ∀ (pins : List (Addr × Obj)) (s : Shared) (σ : St) (H : Hp) (x : V) (xs : List V) (v : Value) (us : List Value) (Q : VK), Inv X pins σ H s → RelV x v → Vals xs us → r x xs H Q →
    wpAny (model X.prog X.w) X.A (call (.builtin id) (v :: us)) (EP X pins σ Q) X.xe s

/-! ### lists of values -/
theorem Vals.one : ∀ {x : V} {us : List Value}, Vals [x] us → ∃ u, us = [u] ∧ RelV x u
  | _, _, .cons r .nil => ⟨_, rfl, r⟩
theorem Vals.two : ∀ {x y : V} {us : List Value}, Vals [x, y] us → ∃ u v, us = [u, v] ∧ RelV x u ∧ RelV y v
  | _, _, _, .cons r (.cons q .nil) => ⟨_, _, rfl, r, q⟩
theorem Vals.zero : ∀ {us : List Value}, Vals [] us → us = []
  | _, .nil => rfl
theorem Vals.dropLast {xs : List V} {us : List Value} (h : Vals xs us) : Vals xs.dropLast us.dropLast := by
  induction h with
  | nil => exact .nil
  | cons r t ih =>
    cases t with
    | nil => exact .nil
    | cons q t' => exact .cons r ih
theorem Vals.eraseIdx : ∀ {xs : List V} {us : List Value} (i : Nat), Vals xs us → Vals (xs.eraseIdx i) (us.eraseIdx i)
  | _, _, _, .nil => .nil
  | _, _, 0, .cons _ t => t
  | _, _, i + 1, .cons r t => .cons r (Vals.eraseIdx i t)
theorem Vals.reverse {xs : List V} {us : List Value} (h : Vals xs us) : Vals xs.reverse us.reverse := by
  induction h with
  | nil => exact .nil
  | cons r t ih => rw [List.reverse_cons, List.reverse_cons]; exact Vals.append ih (.cons r .nil)
theorem Vals.rep {xs : List V} {us : List Value} (h : Vals xs us) : ∀ k : Nat, Vals (List.replicate k xs).flatten (List.replicate k us).flatten
  | 0 => .nil
  | k + 1 => by
    rw [List.replicate_succ, List.replicate_succ, List.flatten_cons, List.flatten_cons]
    exact Vals.append h (Vals.rep h k)
section
variable {X : Cx} {pins : List (Addr × Obj)} {σ : St} {H : Hp} {s : Shared} {l b : Addr} {xs ys zs : List V}

/-! ### the two steps: a tracked list is rewritten, a new list is laid -/
theorem Inv.lset {its its' : List Value} {n : Nat} {f : Array Value → Array Value} {t' : Nat} (I : Inv X pins σ H s) (hH : H l = some (.lst xs))
    (e : s.heap.get? l = some { cls := .type "list", data := .seq its.toArray n }) (hf : f its.toArray = its'.toArray) (hv : Vals ys its') (hz : ys.length ≤ sizeLine) :
    Inv X pins σ (upd H l (.lst ys)) { s with heap := s.heap.update l (Obj.mapSeq f), toks := t' } := by
  have q := PySem.IsL.update e f
  rw [hf] at q
  refine I.write (x := l) (e := l) (by rw [hH]; exact trivial) (.inl rfl) (fun b' u hb hu => (Heap.get?_update_other s.heap (Obj.mapSeq f) (Ne.symm hb)).trans hu) ⟨_, q⟩ ?_
  exact ⟨hz, its', _, hv, q⟩
theorem Inv.lnew {its : List Value} {t' : Nat} (I : Inv X pins σ H s) (hv : Vals ys its) (hz : ys.length ≤ sizeLine) :
    Inv X pins σ (upd H s.heap.objs.size (.lst ys)) { s with heap := s.heap.push { cls := .type "list", data := .seq its.toArray }, toks := t' } :=
  I.laid (fun _ _ q => Heap.get?_push_of_some _ q) (Nat.le_refl _) ⟨hz, its, 0, hv, Heap.get?_push_size _ rfl⟩
theorem Inv.fresh (I : Inv X pins σ H s) : H s.heap.objs.size = none := I.hok.fresh (Nat.le_refl _)
theorem Inv.lstM (I : Inv X pins σ H s) (hH : H l = some (.lst xs)) : xs.length ≤ sizeLine ∧ ∃ (its : List Value) (n : Nat), Vals xs its ∧ xs.length = its.length ∧ s.heap.get? l = some { cls := .type "list", data := .seq its.toArray n } := by
  obtain ⟨z, its, n, r, e⟩ := I.hok l _ hH
  exact ⟨z, its, n, r, r.length, e⟩

end

section
variable {X : Cx}

/-! ### methods -/
def rAppend : V → List V → Hp → VK → Prop := fun x vs H Q => ∃ l xs y, x = .ref l ∧ vs = [y] ∧ H l = some (.lst xs) ∧ xs.length < sizeLine ∧ Q .non (upd H l (.lst (xs ++ [y])))
theorem mt_append : MtM X "list.append" rAppend := by
  intro pins s σ H x vs v us Q I rx rv h
  obtain ⟨l, xs, y, rfl, rfl, hH, hz, q⟩ := h
  cases rx
  obtain ⟨u, rfl, ru⟩ := rv.one
  obtain ⟨z, its, n, r, hl, e⟩ := I.lstM hH
  refine call_meets F.slot_list_append ⟨_, e, rfl⟩ F.entry_list_append (F.args_list_append_2 _ _) (PySem.list_append l its.toArray n u (by rw [List.size_toArray]; omega)) ⟨e, ?_⟩
  refine ⟨.non, _, I.lset (its' := its ++ [u]) hH e (by simp) (r.append (.cons ru .nil)) ?_, rfl, q⟩
  rw [List.length_append, List.length_singleton]
  omega

def rExtend : V → List V → Hp → VK → Prop := fun x vs H Q => ∃ l b xs zs, x = .ref l ∧ vs = [.ref b] ∧ H l = some (.lst xs) ∧ H b = some (.lst zs) ∧ xs.length + zs.length ≤ sizeLine ∧ Q .non (upd H l (.lst (xs ++ zs)))
def rPop : V → List V → Hp → VK → Prop := fun x vs H Q => ∃ l xs y, x = .ref l ∧ vs = [] ∧ H l = some (.lst xs) ∧ xs[xs.length - 1]? = some y ∧ Q y (upd H l (.lst xs.dropLast))
def rPopAt : V → List V → Hp → VK → Prop := fun x vs H Q => ∃ l xs i k y, x = .ref l ∧ vs = [.int i] ∧ H l = some (.lst xs) ∧ -(2 ^ 63) ≤ i ∧ i < 2 ^ 63 ∧ seqIndex? i xs.length = some k ∧ xs[k]? = some y ∧ Q y (upd H l (.lst (xs.eraseIdx k)))
def rReverse : V → List V → Hp → VK → Prop := fun x vs H Q => ∃ l xs, x = .ref l ∧ vs = [] ∧ H l = some (.lst xs) ∧ Q .non (upd H l (.lst xs.reverse))
def rClear : V → List V → Hp → VK → Prop := fun x vs H Q => ∃ l xs, x = .ref l ∧ vs = [] ∧ H l = some (.lst xs) ∧ Q .non (upd H l (.lst []))
/-! ### list + list, list += list, list * int -/
def rCat : R2 := fun x y H Q => ∃ l b xs zs, x = .ref l ∧ y = .ref b ∧ H l = some (.lst xs) ∧ H b = some (.lst zs) ∧ xs.length + zs.length ≤ sizeLine ∧ ∀ p, H p = none → Q (.ref p) (upd H p (.lst (xs ++ zs)))
/-- a list times an int (a negative one is nothing) -/
def rRep : R2 := fun x y H Q => ∃ l k xs, x = .ref l ∧ y = .int k ∧ H l = some (.lst xs) ∧ -(2 ^ 63) ≤ k ∧ k < 2 ^ 63 ∧ xs.length * k.toNat ≤ sizeLine ∧
  ∀ p, H p = none → Q (.ref p) (upd H p (.lst (List.replicate k.toNat xs).flatten))
/-! ### del xs[i] -/
end

/-! ### xs[a:b] = ys -/
section
variable {prog : Program} {w : World} {A : Around} {E : Value → Shared → Prop} {s : Shared}
end

section
variable {X : Cx}
end
end L2

namespace Att
open PySem PySem.W PySem.Calls PyProof.Rows

/-! ### the script -/
theorem ints_of_wellAll {P : Params} {h : Heap} : ∀ (ns : List Int) (vs : List Value), WellAll P h vs (ns.map WData.int) → IntsAre vs ns := by
  intro ns
  induction ns with
  | nil =>
    intro vs w
    rw [List.map_nil] at w
    cases w
    exact .nil
  | cons n ns ih =>
    intro vs w
    rw [List.map_cons] at w
    cases w with
    | cons a b =>
      cases a
      exact .cons _ _ (ih _ b)

theorem script_of {l : OpenLaw} {n : Nat} (hn : l.most = some n) {P : Params} {h : Heap} {args : List WData} {vals : List Value}
    (hpre : l.row.toRowW.claim.pre args = true) (hwl : WellAll P h vals args) :
    ∃ a vs ns, vals = [Value.ref a] ∧ args = [WData.list (ns.map WData.int)] ∧ h.get? a = some { cls := .type "list", data := .seq vs.toArray } ∧ IntsAre vs ns ∧ ns.length ≤ n := by
  have hsh : WShape.hasAll [] args [.list .int] = true := (pre_splitW hpre).1
  have hc : l.pre.holds [] { args := args } = true := (pre_splitW hpre).2
  obtain ⟨d, r, rfl, h1, h2⟩ := hasAllW_cons hsh
  obtain rfl := hasAllW_nil h2
  obtain ⟨xs, rfl, h3⟩ := hasW_list h1
  obtain ⟨ns, rfl⟩ := items_int h3
  have hlen : ns.length ≤ n := by
    unfold OpenLaw.pre at hc
    have h4 : (WTm.not (.lt (.lit (.int (n : Int))) (.len (.arg 0)))).holds [] { args := [.list (ns.map .int)] } = true := by
      have h4 := (holds_andW hc).1
      rw [hn] at h4
      exact h4
    have h5 := condW_of h4 (w_not (w_lt w_lit (w_len_list (w_arg rfl))))
    rw [List.length_map] at h5
    refine Nat.le_of_not_lt fun q => ?_
    have q' : (n : Int) < ((ns.length : Nat) : Int) := by omega
    first
      | (rw [decide_eq_true q'] at h5; exact absurd h5 (by decide))
      | (simp at h5; omega)
  cases hwl with
  | cons w1 w2 =>
    cases w2
    cases w1 with
    | list ho hall => exact ⟨_, _, ns, rfl, rfl, ho, ints_of_wellAll ns _ hall, hlen⟩

theorem post_true (l : OpenLaw) (args : List WData) : l.row.toRowW.claim.post args (.bool true) args = true :=
  postW_of (r := l.row.toRowW) (X := (true == true))
    (show WShape.has [] (.bool true) .bool = true by first | rfl | decide | simp [WShape.has, WShape.arms, WShape.armsAll])
    (show (WTm.eq .res (.lit (.bool true))).value [] { args := args, res := some (.bool true), after := args } = some (.bool (true == true)) from w_eq_bool (w_res rfl) w_lit) rfl

/-! ### the attachment: holds_open's last premise (the goal 'hc' behind k_head) from a wpAny of the law's body -/
/-- the same from a codeAny of the CALL (for a layer whose function contracts speak of calls) -/
theorem attach_call {l : OpenLaw} {n : Nat} {q : Program} {loose : List Str} {XP : (Str → Option Value) → Heap → Prop} {YP : World → Heap → Prop} {d : DefRec}
    (hn : l.most = some n) (hdf : d.params.defaults = [])
    (call : ∀ (w : World) (s₀ s₁ : Shared) (mg mb : Str → Option Value) (fa : Addr) (o : Obj) (pm cd doc : Value) (a : Addr) (vs : List Value) (ns : List Int),
      Ground q loose [] XP w s₀ mg mb s₁.heap → YP w s₁.heap →
      s₁.heap.get? fa = some o → o.data = .func (docDef d.name d.params d.body d.scope pm cd doc) → s₁.heap.CodeRec cd d.name → mg d.name = some (.ref fa) →
      s₁.heap.get? a = some { cls := .type "list", data := .seq vs.toArray } → IntsAre vs ns → ns.length ≤ n → s₁.gens = #[] →
      codeAny (model l.prog w) callerA (.call (.ref fa) ⟨[.ref a], []⟩) (fun r s' => r = .ok (.ret (.bool true)) ∧ OldK s₁.heap s'.heap ∧ s'.os = s₁.os ∧ AllBare s'.gens) s₁) :
    WalkO q loose XP YP l.row.toRowW d [] (fun f vs => PySem.call f vs) := by
  intro w s₀ s₁ mg mb G Y fa o pm cd doc dV kV ho hd hcd hD hmg hg args vals as hpre hlay hrd hwl hlo
  obtain rfl : dV = .none := Dflts.none hD hdf
  obtain rfl : kV = .none := Dflts.noKw hD
  obtain ⟨a, vs, ns, rfl, rfl, hobj, hints, hlen⟩ := script_of hn hpre hwl
  refine enter_call (codeAny_mono (call w s₀ s₁ mg mb fa o pm cd doc a vs ns G Y ho (fd_plain hd) hcd hmg hobj hints hlen hg) fun r s' hq => ?_)
  obtain ⟨rfl, h2, h3, h4⟩ := hq
  exact ⟨.inl ⟨.bool true, .bool true, [], rfl, fun _ => rfl, .bool true, post_true l _, fun _ => ⟨List.Pairwise.nil, fun _ hm => (nomatch hm)⟩⟩, h2, h3, h4⟩

/-! ### rules over ANY heap (no ledger) from facts about the written part K: the library's own take a ledger (News) for what they write -/
section
variable {prog : Program} {w : World} {A : Around} {E : Value → Shared → Prop} {s : Shared} {K : Frag}

/-- x.name where the instance's dict holds the name and the class does not -/
theorem get_field {x C : Addr} {ox : Obj} {es : List DictEntry} {n : Nat} {name : Str} {expr : Bool} {v : Value} {Q : Value → Shared → Prop}
    (X : K.In s.heap) (I : PySem.W.InstAt s.heap x ox C (some (dictOf es n))) (hg : plainGet K C name = true) (hh : hasDictIn K C = true) (ha : findIn K (.ref C) name = some none)
    (hl : getL name es = some (some v)) (hv : handedIn v = true) (h : Q v { s with toks := s.toks + 1 }) : wpAny (model prog w) A (getAttr (.ref x) name expr) Q E s :=
  get_value X I (plainGet_of hg).1 (findObj_own hh ha rfl hl) hv h

/-! the whole heap as the ledger: makes every rule that writes through a ledger a rule over any heap -/
def noObjs (h : Heap) : Heap := { h with objs := #[] }
theorem noObjs_get (h : Heap) (b : Addr) : (noObjs h).get? b = none := by
  cases e : (noObjs h).get? b with
  | none => rfl
  | some o => exact absurd (Heap.lt_size e) (Nat.not_lt_zero _)
def ledger (h : Heap) (L d : Addr) : List (Addr × Obj) := (List.range h.objs.size).filterMap fun a => if a = L ∨ a = d then none else (h.get? a).map fun o => (a, o)
theorem mem_ledger {h : Heap} {L d a : Addr} {o : Obj} : (a, o) ∈ ledger h L d ↔ a ≠ L ∧ a ≠ d ∧ h.get? a = some o := by
  unfold ledger
  rw [List.mem_filterMap]
  constructor
  · rintro ⟨b, _, e⟩
    split at e
    · cases e
    · rename_i hb
      obtain ⟨o', ho, e'⟩ := Option.map_eq_some_iff.mp e
      cases e'
      exact ⟨fun q => hb (.inl q), fun q => hb (.inr q), ho⟩
  · rintro ⟨n1, n2, ho⟩
    refine ⟨a, List.mem_range.mpr (Heap.lt_size ho), ?_⟩
    rw [if_neg (show ¬ (a = L ∨ a = d) from fun q => q.elim n1 n2), ho] <;> rfl
theorem news_ledger {h : Heap} {L d : Addr} {od : Obj} (hne : d ≠ L) (ho : h.get? d = some od) : News (noObjs h) L h ([] ++ (d, od) :: ledger h L d) := by
  rintro ⟨a, o⟩ hp
  rcases List.mem_cons.mp hp with e | hp
  · cases e
    exact ⟨ho, hne, noObjs_get _ _⟩
  · obtain ⟨n1, n2, e⟩ := mem_ledger.mp hp
    exact ⟨e, n1, noObjs_get _ _⟩
theorem fr_all {h : Heap} {L : Addr} {m : Str → Option Value} (n : h.Ns L m) : Fr (noObjs h) L h m :=
  ⟨n, fun b o e => (by rw [noObjs_get] at e; cases e), Nat.zero_le _⟩
/-- x.name = v over any heap: L is any namespace of the heap (the frame's, say): its map stays, its object is not told; all else but the dict stays -/
theorem set_field {x C dx L : Addr} {ox : Obj} {m : Str → Option Value} {es es' : List DictEntry} {n n' : Nat} {name : Str} {v : Value} {Q : Unit → Shared → Prop}
    (X : K.In s.heap) (I : PySem.W.InstAt s.heap x ox C (some (dictOf es n))) (hd : ox.dict = some dx) (hL : s.heap.Ns L m) (hne : dx ≠ L)
    (hs : findIn K (.ref C) "__setattr__" = some (some (.builtin "object.__setattr__"))) (hp : plainOver K C = true) (ht : takerIn K C name = some none) (hh : hasDictIn K C = true) (hl : (getL name es).isSome = true)
    (e : (putL name (PyData.keyHash w.params name) (.str name (s.toks + 1)) v es, putN name es n) = (es', n')) (hz : es'.length ≤ 1000)
    (h : ∀ h' : Heap, h'.Ns L m → h'.get? dx = some (dictOf es' n') → (∀ b o, b ≠ dx → b ≠ L → s.heap.get? b = some o → h'.get? b = some o) → Q () { s with heap := h', toks := s.toks + 2 }) :
    wpAny (model prog w) A (setAttr (.ref x) name v) Q E s := by
  obtain ⟨e1, e2⟩ := Prod.mk.inj e
  have hdx : s.heap.get? dx = some (dictOf es n) := by
    have := I.dict
    rw [hd] at this
    exact this
  refine set_plain X I hs (osa_dict (s := { s with toks := s.toks + 1 }) (h₀ := noObjs s.heap) (L := L) (m := m) (od := dictOf es n) (od' := dictOf es' n') (es := es') (n := n') (pre := []) (post := ledger s.heap L dx)
    (fr_all hL) (news_ledger hne hdx) X I hd hp ht hh hl (fun _ q => nomatch q) (fun ⟨_, _⟩ q => (mem_ledger.mp q).2.1) (by rw [putName_dict, e1, e2]) rfl hz fun h' F' N' => ?_)
  exact h h' F'.ns (N'.get (List.Mem.head _)) fun b o n1 n2 ho => N'.get (List.Mem.tail _ (mem_ledger.mpr ⟨n2, n1, ho⟩))
end
end Att

namespace L2
open PySem PySem.Spec PyProof.Rows

theorem vals_ints : ∀ {vs : List Value} {ns : List Int}, IntsAre vs ns → Vals (ns.map V.int) vs
  | _, _, .nil => .nil
  | _, _, .cons n t h => .cons ⟨t, rfl⟩ (vals_ints h)

/-- nothing is tracked but the script, known to the object (or it is an object of the module) -/
def Only (H : Hp) : Prop := ∀ b, H b = none ∨ ∃ o xs, H b = some (.frz o (.lst xs))

/-- THE HEAD: the law's promise, at the heap behind the top. F, the promise of the law's def, may use that base is part of the heap (so K.In base, base.Ns mainGlobals mg stand in Mod) -/
theorem law_call {P : Program} {w : World} {K : PySem.W.Frag} {mg mb : Str → Option Value} {CX : CXT} {k : Nat} {fa a : Addr} {fd : FuncData} {x : Str} {sp : Sp} {s₁ : Shared} {vs : List Value} {ns : List Int}
    (KX : K.In s₁.heap) (hns : s₁.heap.Ns mainGlobals mg) (hb : s₁.heap.Ns builtinsNs mb) (hbb : ∀ x : Str, x ≠ "__name__" → mb x = bootBuiltins x) (hlim : s₁.heap.NoLimit) (hg : s₁.gens = #[])
    (ha : s₁.heap.get? a = some { cls := .type "list", data := .seq vs.toArray }) (hi : IntsAre vs ns) (hl : ns.length ≤ sizeLine) (hr : Room k callerA)
    (F : ∀ base : Heap, K.In base → base.Ns mainGlobals mg → FnOk P w K mg base CX k fa fd [x] sp) (hbind : ∀ (s : Shared) (u : Value), BindsTo s fd ⟨[u], []⟩ [(x, u)])
    (hsp : ∀ H : Hp, Only H → SqL K H a (ns.map V.int) → sp [.ref a] H (fun v _ => v = .bl true) fun _ _ _ => False)
    (hCX : ∀ H e s', CX [] H s₁ (fun _ _ _ => False) e s' → False) :
    codeAny (model P w) callerA (.call (.ref fa) ⟨[.ref a], []⟩) (fun r s' => r = .ok (.ret (.bool true)) ∧ OldK s₁.heap s'.heap ∧ s'.os = s₁.os ∧ AllBare s'.gens) s₁ := by
  have rv := vals_ints hi
  have lenV := hi.length
  -- from an abstract heap in which nothing but the script may be tracked
  have core : ∀ H : Hp, Only H → SqL K H a (ns.map V.int) → HOk P w H s₁.heap → (∀ b, H b ≠ none → b = a) → (H a ≠ none → K.lookup a = none) →
      codeAny (model P w) callerA (.call (.ref fa) ⟨[.ref a], []⟩) (fun r s' => r = .ok (.ret (.bool true)) ∧ OldK s₁.heap s'.heap ∧ s'.os = s₁.os ∧ AllBare s'.gens) s₁ := by
    intro H hO hS hok hA hK
    have base_of : ∀ {b : Addr} {o : Obj}, s₁.heap.get? b = some o → H b = none → (hidT s₁.heap H).get? b = some o := fun e n => hidT_get e n
    have noA : ∀ {b : Addr} {o : Obj} {es : Array DictEntry} {ep : Nat}, s₁.heap.get? b = some o → o.data = .dict es ep → H b = none := fun {b o es ep} e d => by
      cases q : H b with
      | none => rfl
      | some u =>
        have e' : b = a := hA b (by rw [q]; simp)
        subst e'
        rw [ha] at e; cases e
        have d' : Data.seq vs.toArray _ = Data.dict es ep := d
        cases d'
    have nsK : ∀ {b : Addr} {m : Str → Option Value}, s₁.heap.Ns b m → (hidT s₁.heap H).Ns b m := fun {b m} ⟨o, es, ep, e, d, r⟩ => ⟨o, es, ep, base_of e (noA e d), d, r⟩
    have hKb : K.In (hidT s₁.heap H) := fun b o e => base_of (KX b o e) (by
      cases q : H b with
      | none => rfl
      | some u =>
        have e' : b = a := hA b (by rw [q]; simp)
        subst e'
        rw [hK (by rw [q]; simp)] at e; cases e)
    have hM : Mod K mg (hidT s₁.heap H) := ⟨hKb, nsK hns, ⟨mb, nsK hb, hbb⟩, let ⟨mc, h1, h2⟩ := hlim; ⟨mc, nsK h1, h2⟩⟩
    have e0 : Env0 P w K mg (hidT s₁.heap H) callerA [] s₁ H := ⟨rfl, hM, fun b o e => of_hidT e, Nat.le_of_eq (hidT_size _ _), trivial, fun b hb => absurd (show b ∈ ([] : List Addr) from hb) (by simp), hok, .of_eq hg⟩
    refine codeAny_mono ((F _ hKb (nsK hns)).run callerA [] s₁ H ⟨[.ref a], []⟩ [.ref a] [.ref a] _ _ hr e0 (hbind s₁ (.ref a)) (.cons rfl .nil) (hsp H hO hS)) fun r s' h => ?_
    cases r with
    | error e => exact (hCX H e s' h).elim
    | ok fl =>
      cases fl with
      | next => exact False.elim h
      | brk => exact False.elim h
      | cont => exact False.elim h
      | ret u =>
        obtain ⟨v, H', os, bare, un, hok', r', q⟩ := h
        have q' : v = .bl true := q
        subst q'
        obtain rfl : u = Value.bool true := r'
        refine ⟨rfl, OldK.of_keep fun b o e => ?_, os, bare⟩
        cases q : H b with
        | none => exact un.keep b o e q (by intro z; exact absurd (show b ∈ ([] : List Addr) from z) (by simp)) (by simp)
        | some u =>
          rcases hO b with z | ⟨ob, xs, z⟩
          · rw [q] at z; cases z
          · have z2 := un.frzs b ob _ z
            obtain ⟨e1, _⟩ := hok b _ z
            obtain ⟨e2, _⟩ := hok' b _ z2
            rw [e] at e1; cases e1
            exact e2
  cases hk : K.lookup a with
  | some o =>
    -- the script is one of the module's own objects
    have e := KX a o hk
    rw [ha] at e
    cases e
    refine core (fun _ => none) (fun _ => .inl rfl) (.inr ⟨_, vs.toArray, _, hk, rfl, rfl, rfl, by rw [List.size_toArray, lenV]; exact hl, by simpa using rv⟩) (fun b u z => by have z' : (none : Option HO) = some u := z; cases z') (fun b z => absurd rfl z) fun z => absurd rfl z
  | none =>
    refine core (fun b => if b = a then some (.frz { cls := .type "list", data := .seq vs.toArray } (.lst (ns.map V.int))) else none) (fun b => ?_) (.inl (.inr ⟨{ cls := .type "list", data := .seq vs.toArray }, if_pos rfl⟩)) (fun b u z => ?_) (fun b z => ?_) fun _ => hk
    · by_cases hb : b = a
      · exact .inr ⟨_, _, if_pos hb⟩
      · exact .inl (if_neg hb)
    · by_cases hb : b = a
      · have z' := (if_pos hb).symm.trans z
        cases z'
        subst hb
        exact ⟨ha, by rw [List.length_map]; exact hl, vs, _, rv, ha⟩
      · have z' := (if_neg hb).symm.trans z
        cases z'
    · by_cases hb : b = a
      · exact hb
      · exact absurd (if_neg hb) z
end L2

namespace L2
open PySem PySem.Spec PyProof.Rows

abbrev KOf {K : PySem.W.Frag} {h : Heap} (_ : K.In h) : PySem.W.Frag := K

/-- the goal that k_head leaves (case hc), from the law's promise. F gives the function object fd (K's own) once, then the promise over every base -/
theorem walk_of {l : PySem.W.OpenLaw} {n k : Nat} {q : Program} {loose : List Str} {XP : (Str → Option Value) → Heap → Prop} {YP : World → Heap → Prop} {d : DefRec} {K : Params → PySem.W.Frag} {CX : World → CXT} {sp : World → Sp} {x : Str}
    (hn : l.most = some n) (hn2 : n ≤ sizeLine) (hdf : d.params.defaults = []) (hr : Room k callerA)
    (hY : ∀ (w : World) (h : Heap), YP w h → (K w.params).In h)
    (F : ∀ (w : World) (mg : Str → Option Value) (fa : Addr) (h : Heap), (K w.params).In h → h.Ns mainGlobals mg → mg d.name = some (.ref fa) →
      ∃ fd : FuncData, (∀ (s : Shared) (u : Value), BindsTo s fd ⟨[u], []⟩ [(x, u)]) ∧
        ∀ base : Heap, (K w.params).In base → base.Ns mainGlobals mg → FnOk l.prog w (K w.params) mg base (CX w) k fa fd [x] (sp w))
    (hsp : ∀ (w : World) (H : Hp) (a : Addr) (ns : List Int), ns.length ≤ n → Only H → SqL (K w.params) H a (ns.map V.int) → sp w [.ref a] H (fun v _ => v = .bl true) fun _ _ _ => False)
    (hCX : ∀ (w : World) (H : Hp) (s : Shared) (e : Value) (s' : Shared), CX w [] H s (fun _ _ _ => False) e s' → False) :
    PySem.W.WalkO q loose XP YP l.row.toRowW d [] (fun f vs => PySem.call f vs) := by
  refine Att.attach_call hn hdf fun w s₀ s₁ mg mb fa o pm cd doc a vs ns G Y ho hd hcd hmg hobj hints hlen hg => ?_
  have KX := hY w _ Y
  obtain ⟨fd, hb, hF⟩ := F w mg fa _ KX G.T.g hmg
  exact law_call KX G.T.g G.T.b G.T.builtins G.T.nolimit hg hobj hints (Nat.le_trans hlen hn2) hr hF hb (fun H hO hS => hsp w H a ns hlen hO hS) fun H e s' => hCX w H s₁ e s'
end L2

/- THE LAST THEOREM (shape; LID, My.* are yours):
   My.Adr: a structure of the addresses that your layer names (classes, functions); My.Txt K t: a structure (Prop) of the equations over K;
   My.txt_mk : {K} {implicit addresses ..} (e1 : nsIn K mainGlobals "law" = some (some (.ref f))) (e2 : K.lookup f = some ⟨oc, od, .func (fnOf "law" "law" params body scope dV kV doc pm an cdv ct), sl⟩) (e3 : codeIn K cdv "law" = true) .. : ∃ t, My.Txt K t

theorem PySem.Challenge.cw_LID_holds : PySem.Challenge.rw_LID.Holds := by
  w_on; o_law; k_head; (case hw => w_witness2)
  k_fill
  refine L2.walk_of (l := PySem.Challenge.rw_LID) (n := 63) (k := 40) (x := "script") (CX := fun w => ..) (sp := fun _ => My.sp_law) rfl (by decide) rfl ⟨rfl, by decide, by decide⟩ (fun w h Y => PySem.W.kIn_of Y) ?F ?S ?C
  case F =>
    intro w mg fa h KX G hmg
    have T : ∃ t, My.Txt (L2.KOf KX) t := by
      dsimp only [L2.KOf]                          -- K must stand as «<heap const> w.params» for k_is
      refine' My.txt_mk ?e1 ?e2 ?e3 ..
      (case e1 => PySem.W.k_is)                    -- in the order: a name -> its address -> its object -> its parts
      (case e2 => PySem.W.k_is)
      ..
    obtain ⟨t, T⟩ := T
    have e0 := hmg.symm.trans (PySem.W.mg_of KX G T.law)
    cases e0                                       -- fa is the law's own address
    exact ⟨_, fun s u => .of_eq rfl, fun base kb nb => My.law_fn T kb nb⟩     -- if «.of_eq rfl» comes too early: refine' ⟨_, ?b, fun base kb nb => My.law_fn T kb nb⟩; exact fun s u => .of_eq rfl
  case S => exact fun w H a ns hl hO hS => ..
  case C => exact ..
(the tactic k_is has no namespace: write k_is) -/

/-! SHORT WORDS over the layer: a def of the text, its body, what a loop and a test want. -/
namespace L2
open PySem PySem.Spec PyProof.Rows

/-! ### the text by places -/
/-- the j-th statement of a class's body -/
def inClass (s : Stmt) (j : Nat) : Stmt := match s with
  | .ClassDef _ _ _ body _ _ _ _ _ _ _ => body.getD j (.Pass ⟨0, 0, 0, 0⟩)
  | _ => .Pass ⟨0, 0, 0, 0⟩
def defArgs (s : Stmt) : Arguments := match s with
  | .FunctionDef _ a _ _ _ _ _ _ _ _ => a
  | _ => { posonlyargs := [], args := [], vararg := none, kwonlyargs := [], kw_defaults := [], kwarg := none, defaults := [] }
def defBody (s : Stmt) : List Stmt := match s with
  | .FunctionDef _ _ b _ _ _ _ _ _ _ => b
  | _ => []
def defScope (s : Stmt) : Scope := match s with
  | .FunctionDef _ _ _ _ _ _ sc _ _ _ => sc
  | _ => { kind := .function, names := [], isGenerator := false, isCoroutine := false }

/-! ### no exception leaves a def -/
abbrev CX0 : CXT := fun _ _ _ _ _ _ => False
abbrev E0 : XK := fun _ _ _ => False
theorem pass0 {X : Cx} : Passes CX0 X E0 := fun _ _ _ _ _ _ _ h => h.elim

/-! ### a def (or method) of the text as it stands behind the top -/
structure Fun (K : PySem.W.Frag) (x qual : Str) (st : Stmt) (f : Addr) (fd : FuncData) : Prop where
  ex : ∃ (oc : Value) (od : Option Addr) (kV doc pm : Value) (an : Option Addr) (cdv ct : Value) (osl : Array (Option Value)),
    fd = PySem.W.fnOf x qual (defArgs st) (defBody st) (defScope st) .none kV doc pm an cdv ct ∧ K.lookup f = some ⟨oc, od, .func fd, osl⟩ ∧ PySem.W.codeIn K cdv qual = true
  kp : PySem.W.keepIn K (.ref f) = true
section
variable {P : Program} {w : World} {K : PySem.W.Frag} {mg : Str → Option Value} {base : Heap}
/-- THE RULE for a def: its body as a term of rules, and the reading of that term -/
theorem Fun.ok {x qual : Str} {st : Stmt} {f : Addr} {fd : FuncData} {N ps : List Str} {k : Nat} {sp : Sp} (F : Fun K x qual st f fd) (S : FnScope N ps (defScope st)) (len : ∀ vs H Q E, sp vs H Q E → vs.length = ps.length)
    (hbody : ∀ (cdv : Value) (A : Around) (outer : List Env) (s : Shared) (H : Hp) (vs : List V) (Q : VK) (E : XK), Room k (A.deeper (envOfC qual (defScope st) s.heap.objs.size f cdv)) → sp vs H Q E →
      ∃ t, PSs (cxOf CX0 P w K mg base N qual (defScope st) f cdv A outer s H E).nox (defBody st) t ∧ t { nx := fun _ H' => Q .non H', rt := Q } (start N vs) H) : FnOk P w K mg base CX0 (k + 1) f fd ps sp := by
  obtain ⟨oc, od, kV, doc, pm, an, cdv, ct, osl, rfl, lk, hcd⟩ := F.ex
  refine fn_of lk hcd S len fun A outer s H vs Q E hr hsp => ?_
  obtain ⟨t, h, q⟩ := hbody cdv A outer s H vs Q E hr hsp
  exact ⟨t, h.nox, q⟩
/-- how its arguments bind (no defaults): h is «fun _ _ _ _ _ _ us hl => match us, hl with | [_, _], _ => rfl», one _ a parameter -/
theorem Fun.binds {x qual : Str} {st : Stmt} {f : Addr} {fd : FuncData} {ps : List Str} (F : Fun K x qual st f fd)
    (h : ∀ (kV doc pm : Value) (an : Option Addr) (cdv ct : Value) (us : List Value), us.length = ps.length → bindArgs (PySem.W.fnOf x qual (defArgs st) (defBody st) (defScope st) .none kV doc pm an cdv ct) ⟨us, []⟩ = pure (ps.zip us)) : Binds K fd ps [] := by
  obtain ⟨oc, od, kV, doc, pm, an, cdv, ct, osl, rfl, lk, hcd⟩ := F.ex
  exact .all (h kV doc pm an cdv ct)
theorem fun_mk {x qual : Str} {st : Stmt} {f : Addr} {oc : Value} {od an : Option Addr} {osl : Array (Option Value)} {kV doc pm cdv ct : Value} (l : K.lookup f = some ⟨oc, od, .func (PySem.W.fnOf x qual (defArgs st) (defBody st) (defScope st) .none kV doc pm an cdv ct), osl⟩)
    (c : PySem.W.codeIn K cdv qual = true) (k : PySem.W.keepIn K (.ref f) = true) : Fun K x qual st f (PySem.W.fnOf x qual (defArgs st) (defBody st) (defScope st) .none kV doc pm an cdv ct) := ⟨⟨oc, od, kV, doc, pm, an, cdv, ct, osl, rfl, l, c⟩, k⟩
end
/-! ### expressions in short: the name that stands in the i-th slot -/
section
variable {X : Cx}
theorem pv (i : Nat) {x : Str} {pos : Pos} (hN : X.N[i]? = some x := by rfl) (hv : Vis X.env.scope x := by first | exact Or.inl rfl | exact Or.inr (Or.inl rfl) | exact Or.inr (Or.inr rfl)) (hd : (x == ("__debug__" : Str)) = false := by decide)
    (hcd : (x == ("__classdict__" : Str)) = false := by decide) : PE X (.Name x pos) (tVar i) := pe_var hN hv hd hcd
end

/-! ### tests -/
/-! ### heaps -/
/-- all that was tracked is as it was -/
def Same (H H' : Hp) : Prop := ∀ b o, H b = some o → H' b = some o
theorem Same.refl (H : Hp) : Same H H := fun _ _ h => h
theorem Same.trans {H H1 H2 : Hp} (a : Same H H1) (b : Same H1 H2) : Same H H2 := fun c o h => b c o (a c o h)
theorem Same.free {H H' : Hp} (e : Same H H') {l : Addr} (h : H' l = Option.none) : H l = Option.none := by
  cases q : H l with
  | none => rfl
  | some o =>
    rw [e l o q] at h
    cases h
theorem Same.seq {K : PySem.W.Frag} {H H' : Hp} {a : Addr} {xs : List V} (e : Same H H') (h : SqL K H a xs) : SqL K H' a xs := by
  rcases h with (h | ⟨o, h⟩) | h
  · exact .inl (.inl (e _ _ h))
  · exact .inl (.inr ⟨o, e _ _ h⟩)
  · exact .inr h

end L2
/-! THE DATA LAYER: what a def does, as a function over plain data (no heap), above the hand layer's judgements. -/
namespace DL
open PySem PySem.Spec PyProof.Rows L2

abbrev D := PyData
abbrev St := L2.St
/-- an own exception: its class by its name, what its fields hold -/
structure XD where
  cls : Str
  flds : List (Str × D)
/-- a result: no claim, a value, an exception -/
abbrev M (α : Type) := Option (Except XD α)
def M.ret {α : Type} (a : α) : M α := some (.ok a)
def M.thn {α β : Type} (r : M α) (f : α → M β) : M β := match r with
  | none => none
  | some (.ok a) => f a
  | some (.error x) => some (.error x)
def M.lift {α : Type} (r : Option α) : M α := match r with
  | none => none
  | some a => some (.ok a)
/-- r is a value with k, or an exception with G -/
def ok {α : Type} (G : XD → Prop) (r : M α) (k : α → Prop) : Prop := match r with
  | none => False
  | some (.ok a) => k a
  | some (.error x) => G x
/-- an exception's wish at every later heap -/
def GS (G : XD → Hp → Prop) (Hr : Hp) (x : XD) : Prop := ∀ H', Same Hr H' → G x H'
theorem ok_mono {α : Type} {G : XD → Prop} {r : M α} {k k' : α → Prop} (h : ok G r k) (f : ∀ a, k a → k' a) : ok G r k' := by
  match r, h with
  | some (.ok a), h => exact f a h
  | some (.error x), h => exact h
theorem ok_thn {α β : Type} {G : XD → Prop} {r : M α} {f : α → M β} {k : β → Prop} (h : ok G (r.thn f) k) : ok G r (fun a => ok G (f a) k) := by
  match r, h with
  | some (.ok a), h => exact h
  | some (.error x), h => exact h
theorem ok_lift {α : Type} {G : XD → Prop} {r : Option α} {k : α → Prop} (h : ok G (M.lift r) k) : ∃ a, r = some a ∧ k a := by
  match r, h with
  | some a, h => exact ⟨a, rfl, h⟩
theorem thn_ret {α β : Type} (a : α) (f : α → M β) : (M.ret a).thn f = f a := rfl
theorem thn_some {α β : Type} (a : α) (f : α → M β) : M.thn (some (.ok a)) f = f a := rfl
theorem lift_some {α : Type} (a : α) : M.lift (some a) = M.ret a := rfl

/-! ### data in the heap: O, the lists that are being built (owned): nothing else leans on them -/
/-- a list of the text's own -/
def KL (K : PySem.W.Frag) (a : Addr) (xs : List V) : Prop :=
  ∃ (o : Obj) (its : Array Value) (n : Nat), K.lookup a = some o ∧ o.cls = .type "list" ∧ o.dict = none ∧ o.data = .seq its n ∧ its.size ≤ sizeLine ∧ Vals xs its.toList
/-- a key as data -/
def keyD : Key → D
  | .inl i => .int i
  | .inr x => .str x
/-- an instance as data: its class, its attributes -/
abbrev insD (nm : Str) (es : List (Str × D)) : D := .dict [(.none, .tuple (.str nm :: es.map fun e => .tuple [.str e.1, e.2]))]
/-- what can be owned: a list, a dict -/
def Mu (H : Hp) (l : Addr) : Prop := (∃ xs, H l = some (.lst xs)) ∨ ∃ kvs, H l = some (.dK kvs)
mutual
inductive Rep (K : PySem.W.Frag) (O : List Addr) (H : Hp) : V → D → Prop
  | non : Rep K O H .non .none
  | bl (b : Bool) : Rep K O H (.bl b) (.bool b)
  | int (i : Int) : Rep K O H (.int i) (.int i)
  | str (x : Str) : Rep K O H (.str x) (.str x)
  | tup {a : Addr} {xs : List V} {ds : List D} (h : SqT K H a xs) (r : Reps K O H xs ds) : Rep K O H (.ref a) (.tuple ds)
  | lst {a : Addr} {xs : List V} {ds : List D} (h : Rd H a (.lst xs)) (n : a ∉ O) (r : Reps K O H xs ds) : Rep K O H (.ref a) (.list ds)
  | lstK {a : Addr} {xs : List V} {ds : List D} (h : KL K a xs) (r : Reps K O H xs ds) : Rep K O H (.ref a) (.list ds)
  | dct {a : Addr} {kvs : List (Key × V)} {es : List (Key × D)} (h : Rd H a (.dK kvs)) (n : a ∉ O) (hk : kvs.map (·.1) = es.map (·.1)) (r : Reps K O H (kvs.map (·.2)) (es.map (·.2))) : Rep K O H (.ref a) (.dict (es.map fun e => (keyD e.1, e.2)))
  /-- an instance of a class of the text -/
  | ins {a C dx : Addr} {nm : Str} {fs : List (Str × V)} {es : List (Str × D)} (hN : PySem.W.nsIn K mainGlobals nm = some (some (.ref C))) (h : H a = some (.ins C dx fs)) (n : a ∉ O) (hk : fs.map (·.1) = es.map (·.1)) (r : Reps K O H (fs.map (·.2)) (es.map (·.2))) : Rep K O H (.ref a) (insD nm es)
inductive Reps (K : PySem.W.Frag) (O : List Addr) (H : Hp) : List V → List D → Prop
  | nil : Reps K O H [] []
  | cons {v : V} {d : D} {vs : List V} {ds : List D} (r : Rep K O H v d) (rs : Reps K O H vs ds) : Reps K O H (v :: vs) (d :: ds)
end

/-- how a heap goes over into another one: tuples stay, and lists that are not owned -/
structure To (O O' : List Addr) (H H' : Hp) : Prop where
  t : ∀ b xs, Rd H b (.tup xs) → Rd H' b (.tup xs)
  l : ∀ b xs, b ∉ O → Rd H b (.lst xs) → b ∉ O' ∧ Rd H' b (.lst xs)
  d : ∀ b xs, b ∉ O → Rd H b (.dK xs) → b ∉ O' ∧ Rd H' b (.dK xs)
  i : ∀ b C dx fs, b ∉ O → H b = some (.ins C dx fs) → b ∉ O' ∧ H' b = some (.ins C dx fs)
section
variable {K : PySem.W.Frag} {O O' : List Addr} {H H' : Hp}
theorem To.sqT (k : To O O' H H') {a : Addr} {xs : List V} (h : SqT K H a xs) : SqT K H' a xs := by
  rcases h with h | h
  · exact .inl (k.t a xs h)
  · exact .inr h
mutual
theorem Rep.to (k : To O O' H H') : ∀ {v : V} {d : D}, Rep K O H v d → Rep K O' H' v d
  | _, _, .non => .non
  | _, _, .bl b => .bl b
  | _, _, .int i => .int i
  | _, _, .str x => .str x
  | _, _, .tup h r => .tup (k.sqT h) (Reps.to k r)
  | _, _, .lst h n r => .lst (k.l _ _ n h).2 (k.l _ _ n h).1 (Reps.to k r)
  | _, _, .lstK h r => .lstK h (Reps.to k r)
  | _, _, .dct h n hk r => .dct (k.d _ _ n h).2 (k.d _ _ n h).1 hk (Reps.to k r)
  | _, _, .ins hN h n hk r => .ins hN (k.i _ _ _ _ n h).2 (k.i _ _ _ _ n h).1 hk (Reps.to k r)
theorem Reps.to (k : To O O' H H') : ∀ {vs : List V} {ds : List D}, Reps K O H vs ds → Reps K O' H' vs ds
  | _, _, .nil => .nil
  | _, _, .cons r rs => .cons (Rep.to k r) (Reps.to k rs)
end
theorem Same.rd (s : Same H H') {b : Addr} {o : HO} (h : Rd H b o) : Rd H' b o := by
  rcases h with h | ⟨u, h⟩
  · exact .inl (s _ _ h)
  · exact .inr ⟨u, s _ _ h⟩
theorem To.same (s : Same H H') : To O O H H' := ⟨fun b xs h => Same.rd s h, fun b xs n h => ⟨n, Same.rd s h⟩, fun b xs n h => ⟨n, Same.rd s h⟩, fun b C dx fs n h => ⟨n, s _ _ h⟩⟩
theorem To.less (s : ∀ b, b ∈ O' → b ∈ O) : To O O' H H := ⟨fun b xs h => h, fun b xs n h => ⟨fun z => n (s b z), h⟩, fun b xs n h => ⟨fun z => n (s b z), h⟩, fun b C dx fs n h => ⟨fun z => n (s b z), h⟩⟩
theorem Rep.same (s : Same H H') {v : V} {d : D} (r : Rep K O H v d) : Rep K O H' v d := r.to (.same s)
theorem Reps.same (s : Same H H') {v : List V} {d : List D} (r : Reps K O H v d) : Reps K O H' v d := r.to (.same s)
theorem Rd.ne_new {b l : Addr} {o : HO} (h : Rd H b o) (hl : H l = none) : b ≠ l := by
  rcases h with h | ⟨u, h⟩
  · exact ne_of_none h hl
  · exact ne_of_none h hl
theorem same_new {l : Addr} {o : HO} (hl : H l = none) : Same H (upd H l o) := fun b u e => by
  rw [upd_ne (ne_of_none e hl)]
  exact e
/-- a new list that is owned from now on -/
theorem To.own {l : Addr} {o : HO} (hl : H l = none) : To O (l :: O) H (upd H l o) :=
  ⟨fun b xs h => Same.rd (same_new hl) h, fun b xs n h => ⟨fun z => by
    rcases List.mem_cons.mp z with z | z
    · exact Rd.ne_new h hl z
    · exact n z, Same.rd (same_new hl) h⟩, fun b xs n h => ⟨fun z => by
    rcases List.mem_cons.mp z with z | z
    · exact Rd.ne_new h hl z
    · exact n z, Same.rd (same_new hl) h⟩, fun b C dx fs n h => ⟨fun z => by
    rcases List.mem_cons.mp z with z | z
    · exact ne_of_none h hl z
    · exact n z, same_new hl _ _ h⟩⟩
/-- an owned list is changed -/
theorem To.set {l : Addr} {xs ys : List V} (hl : H l = some (.lst xs)) (ho : l ∈ O) : To O O H (upd H l (.lst ys)) := by
  have keep : ∀ {b : Addr} {o : HO}, b ≠ l → Rd H b o → Rd (upd H l (.lst ys)) b o := fun {b o} hb h => by
    rcases h with h | ⟨u, h⟩
    · exact .inl (by rw [upd_ne hb]; exact h)
    · exact .inr ⟨u, by rw [upd_ne hb]; exact h⟩
  refine ⟨fun b zs h => keep ?_ h, fun b zs n h => ⟨n, keep (fun z => n (z ▸ ho)) h⟩, fun b zs n h => ⟨n, keep (fun z => n (z ▸ ho)) h⟩, fun b C dx fs n h => ⟨n, by rw [upd_ne (show b ≠ l from fun z => n (z ▸ ho))]; exact h⟩⟩
  rintro rfl
  rcases h with h | ⟨u, h⟩
  · rw [hl] at h; cases h
  · rw [hl] at h; cases h
/-- an owned dict is changed -/
theorem To.setD {l : Addr} {xs : List (Key × V)} {o : HO} (hl : H l = some (.dK xs)) (ho : l ∈ O) : To O O H (upd H l o) := by
  have keep : ∀ {b : Addr} {u : HO}, b ≠ l → Rd H b u → Rd (upd H l o) b u := fun {b u} hb h => by
    rcases h with h | ⟨u, h⟩
    · exact .inl (by rw [upd_ne hb]; exact h)
    · exact .inr ⟨u, by rw [upd_ne hb]; exact h⟩
  refine ⟨fun b zs h => keep ?_ h, fun b zs n h => ⟨n, keep (fun z => n (z ▸ ho)) h⟩, fun b zs n h => ⟨n, keep (fun z => n (z ▸ ho)) h⟩, fun b C dx fs n h => ⟨n, by rw [upd_ne (show b ≠ l from fun z => n (z ▸ ho))]; exact h⟩⟩
  rintro rfl
  rcases h with h | ⟨u, h⟩
  · rw [hl] at h; cases h
  · rw [hl] at h; cases h
/-! inversions -/
theorem Rep.int_inv {v : V} {i : Int} (r : Rep K O H v (.int i)) : v = .int i := by cases r; rfl
theorem Rep.bool_inv {v : V} {i : Bool} (r : Rep K O H v (.bool i)) : v = .bl i := by cases r; rfl
theorem Rep.str_inv {v : V} {i : Str} (r : Rep K O H v (.str i)) : v = .str i := by cases r; rfl
theorem Rep.none_inv {v : V} (r : Rep K O H v .none) : v = .non := by cases r; rfl
theorem Rep.tup_inv {v : V} {ds : List D} (r : Rep K O H v (.tuple ds)) : ∃ a xs, v = .ref a ∧ SqT K H a xs ∧ Reps K O H xs ds := by
  cases r with
  | tup h r => exact ⟨_, _, rfl, h, r⟩
theorem Rep.lst_inv {v : V} {ds : List D} (r : Rep K O H v (.list ds)) : ∃ a xs, v = .ref a ∧ SqL K H a xs ∧ Reps K O H xs ds := by
  cases r with
  | lst h n r => exact ⟨_, _, rfl, .inl h, r⟩
  | lstK h r => exact ⟨_, _, rfl, .inr h, r⟩
/-- no instance -/
def noIns : D → Bool
  | .dict [(.none, _)] => false
  | _ => true
theorem Rep.dct_inv {v : V} {X : List (D × D)} (r : Rep K O H v (.dict X)) (hi : noIns (.dict X) = true) : ∃ (a : Addr) (kvs : List (Key × V)) (es : List (Key × D)), v = .ref a ∧ X = es.map (fun e => (keyD e.1, e.2)) ∧ Rd H a (.dK kvs) ∧ a ∉ O ∧ kvs.map (·.1) = es.map (·.1) ∧ Reps K O H (kvs.map (·.2)) (es.map (·.2)) := by
  generalize hd : PyData.dict X = d at r
  cases r with
  | dct h n hk r =>
    cases hd
    exact ⟨_, _, _, rfl, rfl, h, n, hk, r⟩
  | ins hN h n hk r =>
    rw [hd] at hi
    cases hi
  | _ => cases hd
theorem Rep.ins_inv {v : V} {nm : Str} {es : List (Str × D)} (r : Rep K O H v (insD nm es)) : ∃ (a C dx : Addr) (fs : List (Str × V)), v = .ref a ∧ PySem.W.nsIn K mainGlobals nm = some (some (.ref C)) ∧ H a = some (.ins C dx fs) ∧ a ∉ O ∧ fs.map (·.1) = es.map (·.1) ∧ Reps K O H (fs.map (·.2)) (es.map (·.2)) := by
  generalize hd : insD nm es = d at r
  cases r with
  | dct h n hk r =>
    rename_i a kvs es2
    cases es2 with
    | nil => cases hd
    | cons e es2 =>
      obtain ⟨k, x⟩ := e
      unfold insD at hd
      rw [List.map_cons] at hd
      injection hd with hd
      injection hd with hd _
      have := congrArg Prod.fst hd
      cases k <;> cases this
  | ins hN h n hk r =>
    rename_i a C dx nm2 fs es2
    unfold insD at hd
    injection hd with hd
    injection hd with hd _
    have hd := congrArg Prod.snd hd
    injection hd with hd
    injection hd with h1 h2
    injection h1 with h1
    subst h1
    have : es = es2 := by
      clear hk r h n hN
      induction es generalizing es2 with
      | nil =>
        cases es2 with
        | nil => rfl
        | cons => cases h2
      | cons e es ih =>
        cases es2 with
        | nil => cases h2
        | cons e2 es2 =>
          rw [List.map_cons, List.map_cons] at h2
          injection h2 with q1 q2
          injection q1 with q1
          injection q1 with q3 q4
          injection q3 with q3
          injection q4 with q4 _
          rw [ih q2 (by rw [q2])]
          congr 1
          exact Prod.ext q3 q4
    subst this
    exact ⟨_, _, _, _, rfl, hN, h, n, hk, r⟩
  | _ => cases hd
theorem Reps.length : ∀ {vs : List V} {ds : List D}, Reps K O H vs ds → vs.length = ds.length
  | _, _, .nil => rfl
  | _, _, .cons _ rs => congrArg (· + 1) (Reps.length rs)
theorem Reps.get : ∀ {vs : List V} {ds : List D} {i : Nat} {d : D}, Reps K O H vs ds → ds[i]? = some d → ∃ v, vs[i]? = some v ∧ Rep K O H v d
  | _, _, _, _, .nil, e => by simp at e
  | _, _, 0, _, .cons r _, e => by simp at e; subst e; exact ⟨_, rfl, r⟩
  | _, _, i + 1, d, .cons _ rs, e => by
    obtain ⟨u, h1, h2⟩ := Reps.get (i := i) (d := d) rs (by simpa using e)
    exact ⟨u, by simpa using h1, h2⟩
theorem Reps.getV : ∀ {vs : List V} {ds : List D} {i : Nat} {v : V}, Reps K O H vs ds → vs[i]? = some v → ∃ d, ds[i]? = some d ∧ Rep K O H v d
  | _, _, _, _, .nil, e => by simp at e
  | _, _, 0, _, .cons r _, e => by simp at e; subst e; exact ⟨_, rfl, r⟩
  | _, _, i + 1, v, .cons _ rs, e => by
    obtain ⟨u, h1, h2⟩ := Reps.getV (i := i) (v := v) rs (by simpa using e)
    exact ⟨u, by simpa using h1, h2⟩
theorem Reps.append : ∀ {xs ys : List V} {ds es : List D}, Reps K O H xs ds → Reps K O H ys es → Reps K O H (xs ++ ys) (ds ++ es)
  | _, _, _, _, .nil, s => s
  | _, _, _, _, .cons r t, s => .cons r (Reps.append t s)
theorem Reps.take : ∀ {xs : List V} {ds : List D} (n : Nat), Reps K O H xs ds → Reps K O H (xs.take n) (ds.take n)
  | _, _, 0, _ => .nil
  | _, _, _ + 1, .nil => .nil
  | _, _, n + 1, .cons r t => .cons r (Reps.take n t)
theorem Reps.drop : ∀ {xs : List V} {ds : List D} (n : Nat), Reps K O H xs ds → Reps K O H (xs.drop n) (ds.drop n)
  | _, _, 0, r => r
  | _, _, _ + 1, .nil => .nil
  | _, _, n + 1, .cons _ t => Reps.drop n t
theorem Reps.ints (ns : List Int) : Reps K O H (ns.map V.int) (ns.map PyData.int) := by
  induction ns with
  | nil => exact .nil
  | cons n ns ih => exact .cons (.int n) ih
theorem Reps.atI {vs : List V} {ds : List D} {i : Int} {d : D} (r : Reps K O H vs ds) (h : L2.atI ds i = some d) : ∃ v, L2.atI vs i = some v ∧ Rep K O H v d := by
  unfold L2.atI at h ⊢
  rw [r.length]
  cases e : ixN ds.length i with
  | none => rw [e] at h; cases h
  | some j =>
    rw [e] at h
    exact r.get h
end

/-! ### a def's names: unset, a value, a list that is being built -/
inductive Sl where
  | un
  | vl (d : D)
  | ow (ds : List D)
  /-- a dict of one's own -/
  | od (es : List (Key × D))
  /-- an exception that is held -/
  | ex (a : Addr)
abbrev DS := List Sl
def SlOk (K : PySem.W.Frag) (O : List Addr) (H : Hp) (o : Option (Option V)) : Sl → Prop
  | .un => True
  | .vl d => ∃ v, o = some (some v) ∧ Rep K O H v d
  | .ow ds => ∃ l xs, o = some (some (.ref l)) ∧ l ∈ O ∧ H l = some (.lst xs) ∧ Reps K O H xs ds
  | .od es => ∃ l kvs, o = some (some (.ref l)) ∧ l ∈ O ∧ H l = some (.dK kvs) ∧ kvs.map (·.1) = es.map (·.1) ∧ Reps K O H (kvs.map (·.2)) (es.map (·.2))
  | .ex a => o = some (some (.ref a))
/-- a slot of one's own -/
def Sl.own : Sl → Prop
  | .ow _ => True
  | .od _ => True
  | _ => False
theorem Mu.same {H H' : Hp} {l : Addr} (s : Same H H') (h : Mu H l) : Mu H' l := by
  rcases h with ⟨xs, h⟩ | ⟨xs, h⟩
  · exact .inl ⟨xs, s _ _ h⟩
  · exact .inr ⟨xs, s _ _ h⟩
theorem Mu.upd_ne {H : Hp} {a l : Addr} {o : HO} (n : a ≠ l) (h : Mu H a) : Mu (upd H l o) a := by
  rcases h with ⟨xs, h⟩ | ⟨xs, h⟩
  · exact .inl ⟨xs, by rw [L2.upd_ne n]; exact h⟩
  · exact .inr ⟨xs, by rw [L2.upd_ne n]; exact h⟩
theorem Mu.new {H : Hp} {a l : Addr} {o : HO} (hl : H l = none) (h : Mu H a) : Mu (upd H l o) a := h.same (same_new hl)
theorem Mu.lst {H : Hp} {l : Addr} {xs : List V} (h : H l = some (.lst xs)) : Mu H l := .inl ⟨xs, h⟩
theorem Mu.some {H : Hp} {l : Addr} (h : Mu H l) : ∃ o, H l = some o := by
  rcases h with ⟨xs, h⟩ | ⟨xs, h⟩
  · exact ⟨_, h⟩
  · exact ⟨_, h⟩
structure Ev (K : PySem.W.Frag) (Hr : Hp) (O : List Addr) (H : Hp) (σ : St) (δ : DS) : Prop where
  root : Same Hr H
  oo : ∀ l ∈ O, Mu H l
  len : σ.length = δ.length
  at_ : ∀ (i : Nat) (s : Sl), δ[i]? = some s → SlOk K O H σ[i]? s
  dis : ∀ (i j : Nat) (l : Addr) (ds es : List D), i ≠ j → δ[i]? = some (.ow ds) → δ[j]? = some (.ow es) → σ[i]? = some (some (.ref l)) → σ[j]? ≠ some (some (.ref l))
section
variable {K : PySem.W.Frag} {Hr : Hp} {O : List Addr} {H H' : Hp} {σ : St} {δ : DS}
theorem Ev.same (s : Same H H') (e : Ev K Hr O H σ δ) : Ev K Hr O H' σ δ := by
  refine ⟨e.root.trans s, fun l hl => (e.oo l hl).same s, e.len, fun i sl h => ?_, e.dis⟩
  have q := e.at_ i sl h
  cases sl with
  | un => trivial
  | ex a => exact q
  | vl d =>
    obtain ⟨v, h1, r⟩ := q
    exact ⟨v, h1, r.same s⟩
  | ow ds =>
    obtain ⟨l, xs, h1, h2, h3, r⟩ := q
    exact ⟨l, xs, h1, h2, s _ _ h3, r.same s⟩
  | od es =>
    obtain ⟨l, kvs, h1, h2, h3, hk, r⟩ := q
    exact ⟨l, kvs, h1, h2, s _ _ h3, hk, r.same s⟩
theorem Ev.val {i : Nat} {d : D} (e : Ev K Hr O H σ δ) (h : δ[i]? = some (.vl d)) : ∃ v, σ[i]? = some (some v) ∧ Rep K O H v d := e.at_ i _ h
theorem get_set {α : Type} {l : List α} {i j : Nat} {a : α} : (l.set i a)[j]? = if i = j then (if i < l.length then some a else none) else l[j]? := by
  rw [List.getElem?_set]
theorem Ev.set {i : Nat} {v : V} {d : D} (e : Ev K Hr O H σ δ) (r : Rep K O H v d) : Ev K Hr O H (σ.set i (some v)) (δ.set i (.vl d)) := by
  refine ⟨e.root, e.oo, by rw [List.length_set, List.length_set]; exact e.len, fun j sl h => ?_, fun j k l ds es hjk h1 h2 h3 h4 => ?_⟩
  · rw [get_set] at h ⊢
    by_cases hij : i = j
    · rw [if_pos hij] at h ⊢
      by_cases hl : i < δ.length
      · rw [if_pos hl] at h
        rw [if_pos (by rw [e.len]; exact hl)]
        cases h
        exact ⟨v, rfl, r⟩
      · rw [if_neg hl] at h; cases h
    · rw [if_neg hij] at h ⊢
      exact e.at_ j sl h
  · rw [get_set] at h1 h2 h3 h4
    by_cases hij : i = j
    · rw [if_pos hij] at h1
      split at h1 <;> cases h1
    · by_cases hik : i = k
      · rw [if_pos hik] at h2
        split at h2 <;> cases h2
      · rw [if_neg hij] at h1 h3
        rw [if_neg hik] at h2 h4
        exact e.dis j k l ds es hjk h1 h2 h3 h4
end
end DL
namespace DL
open PySem PySem.Spec PyProof.Rows L2

/-! ### judgements -/
/-- an expression's value -/
def PD (X : Cx) (G : XD → Hp → Prop) (e : Expr) (f : DS → M D) : Prop :=
  ∃ t, PE X e t ∧ ∀ {Hr : Hp} (δ : DS) (O : List Addr) (σ : St) (H : Hp) (Q : VK), Ev X.K Hr O H σ δ → ok (GS G Hr) (f δ) (fun d => ∀ v H', Same H H' → Rep X.K O H' v d → Q v H') → t σ H Q
/-- a test -/
def PDT (X : Cx) (G : XD → Hp → Prop) (e : Expr) (f : DS → M Bool) : Prop :=
  ∃ t, PT X e t ∧ ∀ {Hr : Hp} (δ : DS) (O : List Addr) (σ : St) (H : Hp) (Q : Bool → Hp → Prop), Ev X.K Hr O H σ δ → ok (GS G Hr) (f δ) (fun b => ∀ H', Same H H' → Q b H') → t σ H Q
def PDW (X : Cx) (G : XD → Hp → Prop) (e : Expr) (f : DS → M Bool) : Prop :=
  ∃ t, PW X e t ∧ ∀ {Hr : Hp} (δ : DS) (O : List Addr) (σ : St) (H : Hp) (Q : Bool → Hp → Prop), Ev X.K Hr O H σ δ → ok (GS G Hr) (f δ) (fun b => ∀ H', Same H H' → Q b H') → t σ H Q
/-- arguments -/
def PDA (X : Cx) (G : XD → Hp → Prop) (es : List Expr) (f : DS → M (List D)) : Prop :=
  (∀ δ ds, f δ = some (.ok ds) → ds.length = es.length) ∧ ∃ t, PA X es t ∧ ∀ {Hr : Hp} (δ : DS) (O : List Addr) (σ : St) (H : Hp) (Q : List V → Hp → Prop), Ev X.K Hr O H σ δ → ok (GS G Hr) (f δ) (fun ds => ∀ vs H', Same H H' → Reps X.K O H' vs ds → Q vs H') → t σ H Q

section
variable {X : Cx} {G : XD → Hp → Prop} {a b c e : Expr} {es rest : List Expr} {f g h : DS → M D} {fb gb : DS → M Bool} {fa : DS → M (List D)} {pos : Pos}

/-! ### names, constants -/
def dVar (i : Nat) : DS → M D := fun δ => match δ[i]? with
  | some (.vl d) => M.ret d
  | _ => none
theorem pd_var {i : Nat} (h : PE X e (tVar i)) : PD X G e (dVar i) := by
  refine ⟨_, h, fun δ O σ H Q E k => ?_⟩
  unfold dVar at k
  split at k
  · rename_i d hd
    obtain ⟨v, e1, r⟩ := E.val hd
    exact ⟨v, e1, k v H (Same.refl H) r⟩
  · exact k.elim
def dC (d : D) : DS → M D := fun _ => M.ret d
theorem pd_int {i j pos} : PD X G (.Constant (.int i) j pos) (dC (.int i)) := ⟨_, pe_int, fun _ _ _ H Q _ k => k _ H (Same.refl H) (.int i)⟩
theorem pd_bl {i j pos} : PD X G (.Constant (.bool i) j pos) (dC (.bool i)) := ⟨_, pe_bl, fun _ _ _ H Q _ k => k _ H (Same.refl H) (.bl i)⟩
theorem pd_non {j pos} : PD X G (.Constant .none j pos) (dC .none) := ⟨_, pe_non, fun _ _ _ H Q _ k => k _ H (Same.refl H) .non⟩
theorem pd_str {x j pos} : PD X G (.Constant (.str x) j pos) (dC (.str x)) := ⟨_, pe_str, fun _ _ _ H Q _ k => k _ H (Same.refl H) (.str x)⟩

/-! ### two operands -/
/-- an operation on two values -/
def DOp (X : Cx) (sem : Value → Value → Sem Value) (h : D → D → Option D) : Prop :=
  ∃ r : R2, OpR X sem r ∧ ∀ (O : List Addr) (H : Hp) (x y d : D) (v u : V) (Q : VK), (∀ l ∈ O, Mu H l) → Rep X.K O H v x → Rep X.K O H u y → h x y = some d → (∀ v' H', Same H H' → Rep X.K O H' v' d → Q v' H') → r v u H Q
def d2 (h : D → D → Option D) (f g : DS → M D) : DS → M D := fun δ => (f δ).thn fun x => (g δ).thn fun y => M.lift (h x y)
theorem pd_two {r : R2} {h : D → D → Option D} {ta tb : TE}
    (ho : ∀ (O : List Addr) (H : Hp) (x y d : D) (v u : V) (Q : VK), (∀ l ∈ O, Mu H l) → Rep X.K O H v x → Rep X.K O H u y → h x y = some d → (∀ v' H', Same H H' → Rep X.K O H' v' d → Q v' H') → r v u H Q)
    (ha : ∀ {Hr : Hp} (δ : DS) (O : List Addr) (σ : St) (H : Hp) (Q : VK), Ev X.K Hr O H σ δ → ok (GS G Hr) (f δ) (fun d => ∀ v H', Same H H' → Rep X.K O H' v d → Q v H') → ta σ H Q)
    (hb : ∀ {Hr : Hp} (δ : DS) (O : List Addr) (σ : St) (H : Hp) (Q : VK), Ev X.K Hr O H σ δ → ok (GS G Hr) (g δ) (fun d => ∀ v H', Same H H' → Rep X.K O H' v d → Q v H') → tb σ H Q)
    {Hr : Hp} (δ : DS) (O : List Addr) (σ : St) (H : Hp) (Q : VK) (E : Ev X.K Hr O H σ δ) (k : ok (GS G Hr) (d2 h f g δ) (fun d => ∀ v H', Same H H' → Rep X.K O H' v d → Q v H')) : tOp r ta tb σ H Q := by
  refine ha δ O σ H _ E (ok_mono (ok_thn k) fun x kx v H1 s1 rx => ?_)
  refine hb δ O σ H1 _ (E.same s1) (ok_mono (ok_thn kx) fun y ky u H2 s2 ry => ?_)
  obtain ⟨d, hd, kd⟩ := ok_lift ky
  exact ho O H2 x y d v u Q (E.same (s1.trans s2)).oo (rx.same s2) ry hd fun v' H3 s3 r3 => kd v' H3 ((s1.trans s2).trans s3) r3
theorem pd_op {op : Operator} {h : D → D → Option D} (ho : DOp X (binaryOp op) h) (ha : PD X G a f) (hb : PD X G b g) : PD X G (.BinOp a op b pos) (d2 h f g) := by
  obtain ⟨r, hr, ho⟩ := ho
  obtain ⟨ta, pa, ha⟩ := ha
  obtain ⟨tb, pb, hb⟩ := hb
  exact ⟨_, pe_op hr pa pb, pd_two ho ha hb⟩
theorem pd_cmp {op : CmpOp} {h : D → D → Option D} (ho : DOp X (compareOp op) h) (ha : PD X G a f) (hb : PD X G b g) (hm : behindInMarks op b = false) : PD X G (.Compare a [op] [b] pos) (d2 h f g) := by
  obtain ⟨r, hr, ho⟩ := ho
  obtain ⟨ta, pa, ha⟩ := ha
  obtain ⟨tb, pb, hb⟩ := hb
  exact ⟨_, pe_cmpR hr pa pb hm, pd_two ho ha hb⟩
/-- the truth of what is a bool -/
def dB (f : DS → M D) : DS → M Bool := fun δ => (f δ).thn fun d => match d with
  | .bool b => M.ret b
  | _ => none
theorem ok_dB {Hr : Hp} {δ : DS} {k : Bool → Prop} (q : ok (GS G Hr) (dB f δ) k) : ok (GS G Hr) (f δ) (fun d => ∃ b, d = .bool b ∧ k b) := by
  refine ok_mono (ok_thn q) fun d z => ?_
  cases d with
  | bool b => exact ⟨b, rfl, z⟩
  | _ => exact z.elim
theorem pdt_cmp {op : CmpOp} {h : D → D → Option D} (ho : DOp X (compareOp op) h) (ha : PD X G a f) (hb : PD X G b g) (hm : behindInMarks op b = false) : PDT X G (.Compare a [op] [b] pos) (dB (d2 h f g)) := by
  obtain ⟨r, hr, ho⟩ := ho
  obtain ⟨ta, pa, ha⟩ := ha
  obtain ⟨tb, pb, hb⟩ := hb
  refine ⟨_, pt_cmpR hr pa pb hm, fun δ O σ H Q E k => ?_⟩
  refine pd_two ho ha hb δ O σ H _ E (ok_mono (ok_dB k) fun d z v H' s r => ?_)
  obtain ⟨b, rfl, z⟩ := z
  exact ⟨b, r.bool_inv, z H' s⟩
theorem pdt_val (he : PD X G e f) (h1 : ∀ whole, isTrue e X.env whole = (do let v ← whole; standAt e.pos; holding [v] (truthy v)) := by intro _; rfl) : PDT X G e (dB f) := by
  obtain ⟨t, p, he⟩ := he
  refine ⟨_, pt_val p h1, fun δ O σ H Q E k => ?_⟩
  refine he δ O σ H _ E (ok_mono (ok_dB k) fun d z v H' s r => ?_)
  obtain ⟨b, rfl, z⟩ := z
  exact ⟨b, r.bool_inv, z H' s⟩

/-! ### and, or, not, if -/
def dAnd (fb gb : DS → M Bool) : DS → M Bool := fun δ => (fb δ).thn fun c => if c = true then gb δ else M.ret false
def dOr (fb gb : DS → M Bool) : DS → M Bool := fun δ => (fb δ).thn fun c => if c = true then M.ret true else gb δ
def dNot (fb : DS → M Bool) : DS → M Bool := fun δ => (fb δ).thn fun c => M.ret (!c)
theorem pdw_and1 (ha : PDT X G a fb) : PDW X G (.BoolOp .And [a] pos) fb := by
  obtain ⟨t, p, ha⟩ := ha
  exact ⟨_, pw_and1 p, ha⟩
theorem pdw_or1 (ha : PDT X G a fb) : PDW X G (.BoolOp .Or [a] pos) fb := by
  obtain ⟨t, p, ha⟩ := ha
  exact ⟨_, pw_or1 p, ha⟩
theorem pdw_and (ha : PDT X G a fb) (hb : PDW X G (.BoolOp .And (b :: rest) pos) gb) : PDW X G (.BoolOp .And (a :: b :: rest) pos) (dAnd fb gb) := by
  obtain ⟨t, p, ha⟩ := ha
  obtain ⟨u, q, hb⟩ := hb
  refine ⟨_, pw_and p q, fun δ O σ H Q E k => ?_⟩
  refine ha δ O σ H _ E (ok_mono (ok_thn k) fun c z H1 s1 => ?_)
  cases c with
  | true =>
    rw [if_pos rfl] at z ⊢
    exact hb δ O σ H1 Q (E.same s1) (ok_mono z fun b y H2 s2 => y H2 (s1.trans s2))
  | false =>
    rw [if_neg Bool.false_ne_true] at z ⊢
    exact z H1 s1
theorem pdw_or (ha : PDT X G a fb) (hb : PDW X G (.BoolOp .Or (b :: rest) pos) gb) : PDW X G (.BoolOp .Or (a :: b :: rest) pos) (dOr fb gb) := by
  obtain ⟨t, p, ha⟩ := ha
  obtain ⟨u, q, hb⟩ := hb
  refine ⟨_, pw_or p q, fun δ O σ H Q E k => ?_⟩
  refine ha δ O σ H _ E (ok_mono (ok_thn k) fun c z H1 s1 => ?_)
  cases c with
  | true =>
    rw [if_pos rfl] at z ⊢
    exact z H1 s1
  | false =>
    rw [if_neg Bool.false_ne_true] at z ⊢
    exact hb δ O σ H1 Q (E.same s1) (ok_mono z fun b y H2 s2 => y H2 (s1.trans s2))
theorem PDW.t (h : PDW X G e fb) : PDT X G e fb := by
  obtain ⟨t, p, h⟩ := h
  exact ⟨_, p.pt, h⟩
theorem pdt_not (ha : PDT X G a fb) : PDT X G (.UnaryOp .Not a pos) (dNot fb) := by
  obtain ⟨t, p, ha⟩ := ha
  refine ⟨_, pt_not p, fun δ O σ H Q E k => ?_⟩
  exact ha δ O σ H _ E (ok_mono (ok_thn k) fun c z H1 s1 => z H1 s1)
/-- .. as values (of bools) -/
def dAndV (f g : DS → M D) : DS → M D := fun δ => (dB f δ).thn fun c => if c = true then g δ else M.ret (.bool false)
def dOrV (f g : DS → M D) : DS → M D := fun δ => (dB f δ).thn fun c => if c = true then M.ret (.bool true) else g δ
def dNotV (f : DS → M D) : DS → M D := fun δ => (dB f δ).thn fun c => M.ret (.bool (!c))
theorem pd_one {op} (ha : PD X G a f) : PD X G (.BoolOp op [a] pos) f := by
  obtain ⟨t, p, ha⟩ := ha
  exact ⟨_, pe_one p, ha⟩
theorem pd_and (ha : PD X G a f) (hb : PD X G (.BoolOp .And (b :: rest) pos) g) : PD X G (.BoolOp .And (a :: b :: rest) pos) (dAndV f g) := by
  obtain ⟨t, p, ha⟩ := ha
  obtain ⟨u, q, hb⟩ := hb
  refine ⟨_, pe_and p q, fun δ O σ H Q E k => ?_⟩
  refine ha δ O σ H _ E (ok_mono (ok_dB (ok_thn k)) fun d z v H1 s1 r => ?_)
  obtain ⟨c, rfl, z⟩ := z
  refine ⟨c, r.bool_inv, ?_⟩
  cases c with
  | true =>
    rw [if_pos rfl] at z ⊢
    exact hb δ O σ H1 Q (E.same s1) (ok_mono z fun b y v H2 s2 => y v H2 (s1.trans s2))
  | false =>
    rw [if_neg Bool.false_ne_true] at z ⊢
    exact z _ H1 s1 (.bl false)
theorem pd_not (ha : PD X G a f) : PD X G (.UnaryOp .Not a pos) (dNotV f) := by
  obtain ⟨t, p, ha⟩ := ha
  refine ⟨_, pe_not p, fun δ O σ H Q E k => ?_⟩
  refine ha δ O σ H _ E (ok_mono (ok_dB (ok_thn k)) fun d z v H1 s1 r => ?_)
  obtain ⟨c, rfl, z⟩ := z
  exact ⟨c, r.bool_inv, z _ H1 s1 (.bl _)⟩
def dIf (c : DS → M Bool) (f g : DS → M D) : DS → M D := fun δ => (c δ).thn fun b => if b = true then f δ else g δ
/-! ### arguments, displays -/
def dNil : DS → M (List D) := fun _ => M.ret []
def dCons (f : DS → M D) (g : DS → M (List D)) : DS → M (List D) := fun δ => (f δ).thn fun x => (g δ).thn fun xs => M.ret (x :: xs)
theorem pda_nil : PDA X G [] dNil := ⟨fun δ ds h => by cases h; rfl, _, pa_nil, fun _ _ _ H Q _ k => k [] H (Same.refl H) .nil⟩
theorem pda_cons (ha : PD X G e f) (hr : PDA X G es fa) (hs : starEach (e :: es) X.env = (false, eval e X.env) :: starEach es X.env := by rfl) : PDA X G (e :: es) (dCons f fa) := by
  obtain ⟨t, p, ha⟩ := ha
  obtain ⟨hl, u, q, hr⟩ := hr
  refine ⟨fun δ ds h => ?_, _, pa_cons p q hs, fun δ O σ H Q E k => ?_⟩
  · unfold dCons at h
    cases e1 : f δ with
    | none => rw [e1] at h; cases h
    | some r =>
      rw [e1] at h
      cases r with
      | error x => cases h
      | ok x =>
        cases e2 : fa δ with
        | none => rw [thn_some, e2] at h; cases h
        | some r2 =>
          rw [thn_some, e2] at h
          cases r2 with
          | error x => cases h
          | ok xs =>
            cases h
            rw [List.length_cons, List.length_cons, hl δ xs e2]
  · refine ha δ O σ H _ E (ok_mono (ok_thn k) fun d z v H1 s1 r => ?_)
    refine hr δ O σ H1 _ (E.same s1) (ok_mono (ok_thn z) fun ds y vs H2 s2 rs => ?_)
    exact y (v :: vs) H2 (s1.trans s2) (.cons (r.same s2) rs)
def small (n : Nat) : Bool := decide (n ≤ 16000000)
theorem small_le {n : Nat} (h : small n = true) : n ≤ sizeLine := by
  have := of_decide_eq_true h
  rw [sizeLine_eq]
  omega
def dTup (fa : DS → M (List D)) : DS → M D := fun δ => (fa δ).thn fun ds => if small ds.length then M.ret (.tuple ds) else none
def dLst (fa : DS → M (List D)) : DS → M D := fun δ => (fa δ).thn fun ds => if small ds.length then M.ret (.list ds) else none
theorem rep_newT {K : PySem.W.Frag} {O : List Addr} {H : Hp} {p : Addr} {vs : List V} {ds : List D} (hp : H p = none) (r : Reps K O H vs ds) : Rep K O (upd H p (.tup vs)) (.ref p) (.tuple ds) :=
  .tup (SqT.of upd_same) (r.same (same_new hp))
theorem pd_tup {x1} (h : PDA X G es fa) : PD X G (.Tuple es x1 pos) (dTup fa) := by
  obtain ⟨_, t, p, h⟩ := h
  refine ⟨_, pe_tup p, fun δ O σ H Q E k => ?_⟩
  refine h δ O σ H _ E (ok_mono (ok_thn k) fun ds z vs H1 s1 rs => ?_)
  by_cases hz : small ds.length = true
  · rw [if_pos hz] at z
    exact ⟨by rw [rs.length]; exact small_le hz, fun p hp => z _ _ (s1.trans (same_new hp)) (rep_newT hp rs)⟩
  · rw [if_neg hz] at z
    exact z.elim
end
end DL
namespace DL
open PySem PySem.Spec PyProof.Rows L2

section
variable {X : Cx} {G : XD → Hp → Prop} {a b c e : Expr} {es rest : List Expr} {f g h : DS → M D} {fb gb : DS → M Bool} {fa : DS → M (List D)} {pos : Pos}
/-! ### ints -/
def ii (h : Int → Int → Option D) : D → D → Option D
  | .int i, .int j => h i j
  | _, _ => none
theorem ii_some {h : Int → Int → Option D} {x y d : D} (e : ii h x y = some d) : ∃ i j, x = .int i ∧ y = .int j ∧ h i j = some d := by
  unfold ii at e
  split at e
  · exact ⟨_, _, rfl, rfl, e⟩
  · cases e
theorem dop_I0 {sem : Value → Value → Sem Value} {g : Int → Int → V} {gd : Int → Int → D} (h : OpR X sem (rI0 g)) (hg : ∀ O H i j, Rep X.K O H (g i j) (gd i j)) : DOp X sem (ii fun i j => some (gd i j)) := by
  refine ⟨_, h, fun O H x y d v u Q oo rx ry e k => ?_⟩
  obtain ⟨i, j, rfl, rfl, e⟩ := ii_some e
  cases e
  exact ⟨i, j, rx.int_inv, ry.int_inv, k _ H (Same.refl H) (hg O H i j)⟩
theorem dop_IC {sem : Value → Value → Sem Value} {C : Int → Int → Prop} {B : Int → Int → Bool} {g : Int → Int → V} {gd : Int → Int → D} (h : OpR X sem (rI C g)) (hC : ∀ i j, B i j = true → C i j) (hg : ∀ O H i j, Rep X.K O H (g i j) (gd i j)) :
    DOp X sem (ii fun i j => if B i j = true then some (gd i j) else none) := by
  refine ⟨_, h, fun O H x y d v u Q oo rx ry e k => ?_⟩
  obtain ⟨i, j, rfl, rfl, e1⟩ := ii_some e
  by_cases hb : B i j = true
  · rw [if_pos hb] at e1
    cases e1
    exact ⟨i, j, rx.int_inv, ry.int_inv, hC i j hb, k _ H (Same.refl H) (hg O H i j)⟩
  · rw [if_neg hb] at e1; cases e1
abbrev oSub : D → D → Option D := ii fun i j => some (.int (i - j))
def bMul (i j : Int) : Bool := decide ((-18446744073709551616 < i ∧ i < 18446744073709551616) ∨ (-18446744073709551616 < j ∧ j < 18446744073709551616))
abbrev oMul : D → D → Option D := ii fun i j => if bMul i j = true then some (.int (i * j)) else none
def bDiv (j : Int) : Bool := decide (0 < j ∧ j < 1267650600228229401496703205376)
abbrev oDiv : D → D → Option D := ii fun i j => if bDiv j = true then some (.int (i / j)) else none
abbrev oMod : D → D → Option D := ii fun i j => if decide (0 < j) = true then some (.int (i % j)) else none
def bPow (i j : Int) : Bool := decide (0 ≤ j ∧ j ≤ 1000000 ∧ i.natAbs < 18446744073709551616)
abbrev oPow : D → D → Option D := ii fun i j => if bPow i j = true then some (.int (i ^ j.toNat)) else none
theorem dop_sub : DOp X (binaryOp .Sub) oSub := dop_I0 op_sub fun _ _ _ _ => .int _
theorem dop_mul : DOp X (binaryOp .Mult) oMul := dop_IC op_mul (fun i j h => by
  have h := of_decide_eq_true h
  unfold CMul
  have e : (2 : Int) ^ 64 = 18446744073709551616 := by decide
  rw [e]
  exact h) fun _ _ _ _ => .int _
theorem natAbs_log2 {j : Int} (h : 0 < j ∧ j < 1267650600228229401496703205376) : j.natAbs.log2 < 9000 := by
  have h2 : j.natAbs < 2 ^ 100 := by
    have e : (2 : Nat) ^ 100 = 1267650600228229401496703205376 := by decide
    omega
  exact Nat.lt_trans ((Nat.log2_lt (by omega)).mpr h2) (by decide)
theorem op_fdivW : OpR X (binaryOp .FloorDiv) (rI (fun _ j => 0 < j ∧ j < 1267650600228229401496703205376) fun i j => .int (i / j)) := opI fun i j _ _ _ _ _ hc q => by
  rw [← Int.fdiv_eq_ediv_of_nonneg _ (Int.le_of_lt hc.1)] at q
  exact floordiv_int (by omega) q (.inl (PyProof.noPylong_of_log2 (natAbs_log2 hc)))
theorem dop_div : DOp X (binaryOp .FloorDiv) oDiv := dop_IC op_fdivW (fun i j h => of_decide_eq_true h) fun _ _ _ _ => .int _
theorem dop_mod : DOp X (binaryOp .Mod) oMod := dop_IC op_mod (fun i j h => of_decide_eq_true h) fun _ _ _ _ => .int _
abbrev oLt : D → D → Option D := ii fun i j => some (.bool (decide (i < j)))
abbrev oLe : D → D → Option D := ii fun i j => some (.bool (decide (i ≤ j)))
abbrev oGt : D → D → Option D := ii fun i j => some (.bool (decide (j < i)))
abbrev oGe : D → D → Option D := ii fun i j => some (.bool (decide (j ≤ i)))
theorem dop_lt : DOp X (compareOp .Lt) oLt := dop_I0 op_lt fun _ _ _ _ => .bl _
/-! ### x + y: ints, texts, tuples, lists -/
theorem nin {O : List Addr} {H : Hp} (oo : ∀ l ∈ O, Mu H l) {p : Addr} (hp : H p = none) : p ∉ O := fun z => by
  obtain ⟨o, ho⟩ := (oo p z).some
  rw [hp] at ho; cases ho
theorem rep_newL {K : PySem.W.Frag} {O : List Addr} {H : Hp} {p : Addr} {vs : List V} {ds : List D} (oo : ∀ l ∈ O, Mu H l) (hp : H p = none) (r : Reps K O H vs ds) : Rep K O (upd H p (.lst vs)) (.ref p) (.list ds) :=
  .lst (.inl upd_same) (nin oo hp) (r.same (same_new hp))
/-- () + t -/
theorem op_cat0 : OpR X (binaryOp .Add) (fun x y H Q => ∃ a b ys, x = .ref a ∧ y = .ref b ∧ SqT X.K H a [] ∧ SqT X.K H b ys ∧ Q (.ref b) H) := by
  intro pins s σ H x y v u Q I rx ry h
  obtain ⟨a, b, ys, rfl, rfl, ha, hb, q⟩ := h
  cases rx
  cases ry
  obtain ⟨its, r1, p1, _⟩ := I.tuple ha
  obtain ⟨its2, r2, p2, _⟩ := I.tuple hb
  cases r1
  obtain ⟨⟨cls, dd, data, sl⟩, ho, hc, n, hd⟩ := id p1
  obtain ⟨⟨cls2, dd2, data2, sl2⟩, ho2, hc2, n2, hd2⟩ := id p2
  simp only at hc hd hc2 hd2
  subst hc hd hc2 hd2
  exact concat_meets ⟨_, ho, rfl⟩ ⟨_, ho2, rfl⟩ noFill_tuple_add seq_tuple_add PySem.F.slot_tuple_add PySem.F.entry_tuple_add (PySem.F.args_tuple_add_2 _ _)
    (tuple_addW0 a b _ its2.toArray n n2 dd dd2 sl sl2 rfl) ⟨ho, ho2, ⟨.ref b, H, I, rfl, q⟩⟩
/-- lists, whoever holds them -/
theorem op_catS : OpR X (binaryOp .Add) (fun x y H Q => ∃ l b xs zs, x = .ref l ∧ y = .ref b ∧ SqL X.K H l xs ∧ SqL X.K H b zs ∧ xs.length + zs.length ≤ sizeLine ∧ ∀ p, H p = none → Q (.ref p) (upd H p (.lst (xs ++ zs)))) := by
  intro pins s σ H x y v u Q I rx ry h
  obtain ⟨l, b, xs, zs, rfl, rfl, hH, hB, hz, q⟩ := h
  cases rx
  cases ry
  obtain ⟨its, r, ⟨⟨cls, dd, data, sl⟩, n, e, hc, hdd, hd⟩, z⟩ := I.list hH
  obtain ⟨its2, r2, ⟨⟨cls2, dd2, data2, sl2⟩, n2, e2, hc2, hdd2, hd2⟩, z2⟩ := I.list hB
  have hl := r.length
  have hl2 := r2.length
  simp only at hc hd hc2 hd2 hdd hdd2
  subst hc hd hc2 hd2 hdd hdd2
  have ea : its.toArray ++ its2.toArray = (its ++ its2).toArray := by simp
  refine concat_meets ⟨_, e, rfl⟩ ⟨_, e2, rfl⟩ noFill_list_add seq_list_add PySem.F.slot_list_add PySem.F.entry_list_add (PySem.F.args_list_add_2 _ _) (list_addW l b its.toArray its2.toArray n n2 none none sl sl2 (by rw [List.size_toArray, List.size_toArray]; omega)) ⟨e, e2, ?_⟩
  rw [ea]
  exact ⟨.ref _, _, I.lnew (t' := s.toks) (r.append r2) (by rw [List.length_append]; omega), rfl, q _ I.fresh⟩
def oAdd : D → D → Option D
  | .int i, .int j => some (.int (i + j))
  | .str i, .str j => if small (i.length + j.length) then some (.str (i ++ j)) else none
  | .tuple xs, .tuple ys => if small (xs.length + ys.length) then some (.tuple (xs ++ ys)) else none
  | .list xs, .list ys => if small (xs.length + ys.length) then some (.list (xs ++ ys)) else none
  | _, _ => none
theorem dop_add : DOp X (binaryOp .Add) oAdd := by
  refine ⟨_, op_add.or (op_add_str.or (op_catT.or (op_cat0.or op_catS))), fun O H x y d v u Q oo rx ry e k => ?_⟩
  unfold oAdd at e
  split at e
  · rename_i i j
    cases e
    exact .inl ⟨i, j, rx.int_inv, ry.int_inv, k _ H (Same.refl H) (.int _)⟩
  · rename_i i j
    by_cases hz : small (i.length + j.length) = true
    · rw [if_pos hz] at e
      cases e
      exact .inr (.inl ⟨i, j, rx.str_inv, ry.str_inv, small_le hz, k _ H (Same.refl H) (.str _)⟩)
    · rw [if_neg hz] at e; cases e
  · rename_i xs ys
    by_cases hz : small (xs.length + ys.length) = true
    · rw [if_pos hz] at e
      cases e
      obtain ⟨p, vs, rfl, h1, r1⟩ := rx.tup_inv
      obtain ⟨q, ws, rfl, h2, r2⟩ := ry.tup_inv
      by_cases hx : xs = []
      · subst hx
        cases r1
        exact .inr (.inr (.inr (.inl ⟨p, q, ws, rfl, rfl, h1, h2, k _ H (Same.refl H) (.tup h2 r2)⟩)))
      · refine .inr (.inr (.inl ⟨p, q, vs, ws, rfl, rfl, h1, h2, fun z => ?_, by rw [r1.length, r2.length]; exact small_le hz, fun z => ?_, fun z l hl => ?_⟩))
        · subst z
          cases r1
          exact hx rfl
        · subst z
          have z2 := r2
          cases z2
          refine k _ H (Same.refl H) ?_
          rw [List.append_nil]
          exact .tup h1 r1
        · exact k _ _ (same_new hl) (rep_newT hl (r1.append r2))
    · rw [if_neg hz] at e; cases e
  · rename_i xs ys
    by_cases hz : small (xs.length + ys.length) = true
    · rw [if_pos hz] at e
      cases e
      obtain ⟨p, vs, rfl, h1, r1⟩ := rx.lst_inv
      obtain ⟨q, ws, rfl, h2, r2⟩ := ry.lst_inv
      exact .inr (.inr (.inr (.inr ⟨p, q, vs, ws, rfl, rfl, h1, h2, by rw [r1.length, r2.length]; exact small_le hz, fun l hl => k _ _ (same_new hl) (rep_newL oo hl (r1.append r2))⟩)))
    · rw [if_neg hz] at e; cases e
  · cases e

/-! ### == and != over data -/
mutual
theorem Rep.reads {pins : List (Addr × Obj)} {σ : St} {H : Hp} {s : Shared} {O : List Addr} (I : Inv X pins σ H s) : ∀ {v : V} {d : D} {u : Value}, d.canLay0 = true → Rep X.K O H v d → RelV v u → ∃ as, Reads s.heap u d as
  | _, _, u, _, .non, q => by cases (show u = Value.none from q); exact ⟨_, .none⟩
  | _, _, u, _, .bl b, q => by cases (show u = Value.bool b from q); exact ⟨_, .bool b⟩
  | _, _, u, _, .int i, q => by obtain ⟨t, rfl⟩ := (show ∃ t, u = Value.int i t from q); exact ⟨_, .int i t⟩
  | _, _, u, _, .str x, q => by obtain ⟨t, rfl⟩ := (show ∃ t, u = Value.str x t from q); exact ⟨_, .str x t⟩
  | .ref a, _, u, hc, .tup h r, q => by
    cases (show u = Value.ref a from q)
    obtain ⟨its, rv, ⟨o, h1, h2, n, h3⟩, _⟩ := I.tuple h
    obtain ⟨as, ra⟩ := Reps.reads I (by simpa [PyData.canLay0] using hc) r rv
    exact ⟨_, .tuple h1 h2 h3 ra⟩
  | .ref a, _, u, hc, .lst h n r, q => by
    cases (show u = Value.ref a from q)
    obtain ⟨its, rv, ⟨o, n, h1, h2, _, h3⟩, _⟩ := I.list (.inl h)
    obtain ⟨as, ra⟩ := Reps.reads I (by simpa [PyData.canLay0] using hc) r rv
    exact ⟨_, .list h1 h2 h3 ra⟩
  | .ref a, _, u, hc, .lstK h r, q => by
    cases (show u = Value.ref a from q)
    obtain ⟨its, rv, ⟨o, n, h1, h2, _, h3⟩, _⟩ := I.list (.inr h)
    obtain ⟨as, ra⟩ := Reps.reads I (by simpa [PyData.canLay0] using hc) r rv
    exact ⟨_, .list h1 h2 h3 ra⟩
  | .ref a, _, u, hc, .dct _ _ _ _, q => by simp [PyData.canLay0] at hc
  | .ref a, _, u, hc, .ins _ _ _ _ _, q => by simp [PyData.canLay0, insD] at hc
theorem Reps.reads {pins : List (Addr × Obj)} {σ : St} {H : Hp} {s : Shared} {O : List Addr} (I : Inv X pins σ H s) : ∀ {vs : List V} {ds : List D} {us : List Value}, PyData.canLayAll0 ds = true → Reps X.K O H vs ds → Vals vs us → ∃ as, ReadsAll s.heap us ds as
  | _, _, _, _, .nil, q => by cases q; exact ⟨_, .nil⟩
  | _, _, _, hc, .cons r rs, q => by
    rw [PyData.canLayAll0, Bool.and_eq_true] at hc
    cases q with
    | cons p ps =>
      obtain ⟨as, h1⟩ := Rep.reads I hc.1 r p
      obtain ⟨bs, h2⟩ := Reps.reads I hc.2 rs ps
      exact ⟨_, .cons h1 h2⟩
end
def flat (x y : D) : Bool := x.canLay0 && y.canLay0 && decide (min x.depth y.depth ≤ 60)
def oEq (x y : D) : Option D := if flat x y = true then some (.bool (PyData.eqv x y)) else none
def oNe (x y : D) : Option D := if flat x y = true then some (.bool (!PyData.eqv x y)) else none
def rDat (X : Cx) (p : D → D → Bool) : R2 := fun v u H Q => ∃ O x y, Rep X.K O H v x ∧ Rep X.K O H u y ∧ flat x y = true ∧ Q (.bl (p x y)) H
theorem flat_of {x y : D} (h : flat x y = true) : x.canLay0 = true ∧ y.canLay0 = true ∧ min x.depth y.depth ≤ 60 := by
  unfold flat at h
  rw [Bool.and_eq_true, Bool.and_eq_true] at h
  exact ⟨h.1.1, h.1.2, of_decide_eq_true h.2⟩
theorem op_eqD (hu : X.A.units + 64 < cLine) : OpR X (compareOp .Eq) (rDat X PyData.eqv) := by
  intro pins s σ H v u v' u' Q I rv ru h
  obtain ⟨O, x, y, rx, ry, hf, q⟩ := h
  obtain ⟨h1, h2, h3⟩ := flat_of hf
  obtain ⟨as, r1⟩ := rx.reads I h1 rv
  obtain ⟨bs, r2⟩ := ry.reads I h2 ru
  exact SeqAt.compareEq_reads r1 r2 h1 h2 (by omega) ⟨.bl _, H, I, rfl, q⟩
theorem op_neD (hu : X.A.units + 64 < cLine) : OpR X (compareOp .NotEq) (rDat X fun x y => !PyData.eqv x y) := by
  intro pins s σ H v u v' u' Q I rv ru h
  obtain ⟨O, x, y, rx, ry, hf, q⟩ := h
  obtain ⟨h1, h2, h3⟩ := flat_of hf
  obtain ⟨as, r1⟩ := rx.reads I h1 rv
  obtain ⟨bs, r2⟩ := ry.reads I h2 ru
  exact SeqAt.compareNe_reads r1 r2 h1 h2 (by omega) ⟨.bl _, H, I, rfl, q⟩
theorem dop_eq (hu : X.A.units + 64 < cLine) : DOp X (compareOp .Eq) oEq := by
  refine ⟨_, op_eqD hu, fun O H x y d v u Q oo rx ry e k => ?_⟩
  unfold oEq at e
  by_cases hf : flat x y = true
  · rw [if_pos hf] at e
    cases e
    exact ⟨O, x, y, rx, ry, hf, k _ H (Same.refl H) (.bl _)⟩
  · rw [if_neg hf] at e; cases e
theorem dop_ne (hu : X.A.units + 64 < cLine) : DOp X (compareOp .NotEq) oNe := by
  refine ⟨_, op_neD hu, fun O H x y d v u Q oo rx ry e k => ?_⟩
  unfold oNe at e
  by_cases hf : flat x y = true
  · rw [if_pos hf] at e
    cases e
    exact ⟨O, x, y, rx, ry, hf, k _ H (Same.refl H) (.bl _)⟩
  · rw [if_neg hf] at e; cases e

/-! ### o[i] -/
def oIx : D → D → Option D
  | .tuple ds, .int i => L2.atI ds i
  | .list ds, .int i => L2.atI ds i
  | .str z, .int i => if small z.length then (L2.atI z.cps.toList i).map (fun c => .str ⟨#[c]⟩) else none
  | _, _ => none
theorem pd_ix (ha : PD X G a f) (hb : PD X G b g) (hs : PlainIx b) : PD X G (.Subscript a b pos) (d2 oIx f g) := by
  obtain ⟨ta, pa, ha⟩ := ha
  obtain ⟨tb, pb, hb⟩ := hb
  refine ⟨_, pe_ix ix_seq pa pb hs, pd_two (fun O H x y d v u Q oo rx ry e k => ?_) ha hb⟩
  unfold oIx at e
  split at e
  · rename_i ds i
    obtain ⟨p, vs, rfl, h1, r1⟩ := rx.tup_inv
    obtain ⟨w, hw, rw'⟩ := r1.atI e
    exact .inr (.inl ⟨p, vs, i, w, rfl, ry.int_inv, h1, hw, k w H (Same.refl H) rw'⟩)
  · rename_i ds i
    obtain ⟨p, vs, rfl, h1, r1⟩ := rx.lst_inv
    obtain ⟨w, hw, rw'⟩ := r1.atI e
    exact .inl ⟨p, vs, i, w, rfl, ry.int_inv, h1, hw, k w H (Same.refl H) rw'⟩
  · rename_i z i
    by_cases hz : small z.length = true
    · rw [if_pos hz] at e
      cases e2 : L2.atI z.cps.toList i with
      | none => rw [e2] at e; cases e
      | some c =>
        rw [e2] at e
        cases e
        exact .inr (.inr ⟨z, i, c, rx.str_inv, ry.int_inv, small_le hz, e2, k _ H (Same.refl H) (.str _)⟩)
    · rw [if_neg hz] at e; cases e
  · cases e
end
end DL
namespace DL
open PySem PySem.Spec PyProof.Rows L2

section
variable {X : Cx} {G : XD → Hp → Prop} {a b c e : Expr} {es rest : List Expr} {f g h : DS → M D} {fb gb : DS → M Bool} {fa : DS → M (List D)} {pos : Pos}
/-! ### o[lo:hi] -/
def PDO (X : Cx) (G : XD → Hp → Prop) (e : Option Expr) (f : DS → M (Option Int)) : Prop :=
  ∃ t, PO X e t ∧ ∀ {Hr : Hp} (δ : DS) (O : List Addr) (σ : St) (H : Hp) (Q : Option Int → Hp → Prop), Ev X.K Hr O H σ δ → ok (GS G Hr) (f δ) (fun d => ∀ H', Same H H' → Q d H') → t σ H Q
def dNoPart : DS → M (Option Int) := fun _ => M.ret none
def dPart (f : DS → M D) : DS → M (Option Int) := fun δ => (f δ).thn fun d => match d with
  | .int i => M.ret (some i)
  | _ => none
theorem pdo_none : PDO X G none dNoPart := ⟨_, po_none, fun _ _ _ H Q _ k => k H (Same.refl H)⟩
theorem pdo_some (he : PD X G e f) : PDO X G (some e) (dPart f) := by
  obtain ⟨t, p, he⟩ := he
  refine ⟨_, po_some p, fun δ O σ H Q E k => ?_⟩
  refine he δ O σ H _ E (ok_mono (ok_thn k) fun d z v H1 s1 r => ?_)
  cases d with
  | int i => exact ⟨i, r.int_inv, z H1 s1⟩
  | _ => exact z.elim
def cutD {α : Type} (xs : List α) (lo hi : Option Int) : List α := (xs.drop (HT.sIx xs.length 0 lo)).take (HT.sIx xs.length xs.length hi - HT.sIx xs.length 0 lo)
theorem Reps.cut {K : PySem.W.Frag} {O : List Addr} {H : Hp} {xs : List V} {ds : List D} (r : Reps K O H xs ds) (lo hi : Option Int) : Reps K O H (cutV xs lo hi) (cutD ds lo hi) := by
  unfold cutV cutD
  rw [r.length]
  exact (r.drop _).take _
/-- what slicing makes (of a tuple: not the whole of it) -/
def oCut (lo hi : Option Int) : D → Option D
  | .list ds => some (.list (cutD ds lo hi))
  | .tuple ds => if HT.sIx ds.length 0 lo = 0 ∧ HT.sIx ds.length ds.length hi = ds.length then none else some (.tuple (cutD ds lo hi))
  | _ => none
variable {lo hi : Option Expr} {fl fh : DS → M (Option Int)} {p2 : Pos}
def dCut (f : DS → M D) (fl fh : DS → M (Option Int)) : DS → M D := fun δ => (f δ).thn fun x => (fl δ).thn fun l => (fh δ).thn fun u => M.lift (oCut l u x)
theorem pd_lst (h : PDA X G es fa) : PD X G (.List es pos) (dLst fa) := by
  obtain ⟨_, t, p, h⟩ := h
  refine ⟨_, pe_lst p, fun δ O σ H Q E k => ?_⟩
  refine h δ O σ H _ E (ok_mono (ok_thn k) fun ds z vs H1 s1 rs => ?_)
  by_cases hz : small ds.length = true
  · rw [if_pos hz] at z
    exact ⟨by rw [rs.length]; exact small_le hz, fun p hp => z _ _ (s1.trans (same_new hp)) (rep_newL (E.same s1).oo hp rs)⟩
  · rw [if_neg hz] at z
    exact z.elim

/-! ### calls of built-ins -/
def DCall (X : Cx) (fn : Value) (h : List D → Option D) : Prop :=
  ∃ r, CallR X fn r ∧ ∀ (O : List Addr) (H : Hp) (ds : List D) (d : D) (vs : List V) (Q : VK), (∀ l ∈ O, Mu H l) → Reps X.K O H vs ds → h ds = some d → (∀ v' H', Same H H' → Rep X.K O H' v' d → Q v' H') → r vs H Q
def dCB (h : List D → Option D) (fa : DS → M (List D)) : DS → M D := fun δ => (fa δ).thn fun ds => M.lift (h ds)
theorem pd_callB {x : Str} {p : Pos} {id : String} {h : List D → Option D} (hc : DCall X (.builtin id) h) (hg : Gl X x) (hm : X.mg x = none) (hv : bootBuiltins x = some (.builtin id)) (ha : PDA X G (e :: es) fa) (hn : x ≠ "__name__" := by decide) (hdb : (x == ("__debug__" : Str)) = false := by decide)
    (he : starEach (e :: es) X.env = (false, eval e X.env) :: starEach es X.env := by rfl) (hpl : (backTo pos (starEach es X.env)).any (·.1) = false := by rfl) : PD X G (.Call (.Name x p) (e :: es) [] pos) (dCB h fa) := by
  obtain ⟨r, hr, hc⟩ := hc
  obtain ⟨_, t, pa, ha⟩ := ha
  refine ⟨_, pe_callB hr hg hm hv pa hn hdb he hpl, fun δ O σ H Q E k => ?_⟩
  refine ha δ O σ H _ E (ok_mono (ok_thn k) fun ds z vs H1 s1 rs => ?_)
  obtain ⟨d, hd, z⟩ := ok_lift z
  exact hc O H1 ds d vs Q (E.same s1).oo rs hd fun v' H2 s2 r2 => z v' H2 (s1.trans s2) r2
theorem pd_callTy {x : Str} {p : Pos} {id : String} {h : List D → Option D} (hc : DCall X (.type id) h) (hg : Gl X x) (hm : X.mg x = none) (hv : bootBuiltins x = some (.type id)) (ha : PDA X G (e :: es) fa) (hn : x ≠ "__name__" := by decide) (hdb : (x == ("__debug__" : Str)) = false := by decide)
    (he : starEach (e :: es) X.env = (false, eval e X.env) :: starEach es X.env := by rfl) (hpl : (backTo pos (starEach es X.env)).any (·.1) = false := by rfl) : PD X G (.Call (.Name x p) (e :: es) [] pos) (dCB h fa) := by
  obtain ⟨r, hr, hc⟩ := hc
  obtain ⟨_, t, pa, ha⟩ := ha
  refine ⟨_, pe_callTy hr hg hm hv pa hn hdb he hpl, fun δ O σ H Q E k => ?_⟩
  refine ha δ O σ H _ E (ok_mono (ok_thn k) fun ds z vs H1 s1 rs => ?_)
  obtain ⟨d, hd, z⟩ := ok_lift z
  exact hc O H1 ds d vs Q (E.same s1).oo rs hd fun v' H2 s2 r2 => z v' H2 (s1.trans s2) r2
theorem reps1 {K : PySem.W.Frag} {O : List Addr} {H : Hp} {vs : List V} {d : D} (r : Reps K O H vs [d]) : ∃ v, vs = [v] ∧ Rep K O H v d := by
  cases r with
  | cons r rs => cases rs; exact ⟨_, rfl, r⟩
theorem reps2 {K : PySem.W.Frag} {O : List Addr} {H : Hp} {vs : List V} {d d' : D} (r : Reps K O H vs [d, d']) : ∃ v v', vs = [v, v'] ∧ Rep K O H v d ∧ Rep K O H v' d' := by
  cases r with
  | cons r rs =>
    obtain ⟨v', rfl, r'⟩ := reps1 rs
    exact ⟨_, _, rfl, r, r'⟩
def oLen : List D → Option D
  | [.list ds] => some (.int ds.length)
  | [.tuple ds] => some (.int ds.length)
  | [.str z] => if small z.length then some (.int z.length) else none
  | _ => none
theorem dcall_len : DCall X (.builtin "len") oLen := by
  refine ⟨_, call_len_seq.or call_len_str, fun O H ds d vs Q oo rs e k => ?_⟩
  unfold oLen at e
  split at e
  · rename_i es
    cases e
    obtain ⟨v, rfl, r⟩ := reps1 rs
    obtain ⟨p, xs, rfl, h1, rx⟩ := r.lst_inv
    refine .inl ⟨p, xs, rfl, .inl h1, k _ H (Same.refl H) ?_⟩
    rw [rx.length]
    exact .int _
  · rename_i es
    cases e
    obtain ⟨v, rfl, r⟩ := reps1 rs
    obtain ⟨p, xs, rfl, h1, rx⟩ := r.tup_inv
    refine .inl ⟨p, xs, rfl, .inr h1, k _ H (Same.refl H) ?_⟩
    rw [rx.length]
    exact .int _
  · rename_i z
    by_cases hz : small z.length = true
    · rw [if_pos hz] at e
      cases e
      obtain ⟨v, rfl, r⟩ := reps1 rs
      refine .inr ⟨z, by rw [r.str_inv], small_le hz, k _ H (Same.refl H) (.int _)⟩
    · rw [if_neg hz] at e; cases e
  · cases e
def oMin : List D → Option D
  | [.int i, .int j] => some (.int (min i j))
  | _ => none
def oMax : List D → Option D
  | [.int i, .int j] => some (.int (max i j))
  | _ => none
/-- list(x): a new one -/
def oListOf : List D → Option D
  | [.list ds] => some (.list ds)
  | [.tuple ds] => some (.list ds)
  | _ => none
theorem dcall_list : DCall X (.type "list") oListOf := by
  refine ⟨_, call_list_of, fun O H ds d vs Q oo rs e k => ?_⟩
  unfold oListOf at e
  split at e
  · cases e
    obtain ⟨v, rfl, r⟩ := reps1 rs
    obtain ⟨p, xs, rfl, h1, rx⟩ := r.lst_inv
    exact ⟨p, xs, rfl, .inl h1, fun l hl => k _ _ (same_new hl) (rep_newL oo hl rx)⟩
  · cases e
    obtain ⟨v, rfl, r⟩ := reps1 rs
    obtain ⟨p, xs, rfl, h1, rx⟩ := r.tup_inv
    exact ⟨p, xs, rfl, .inr h1, fun l hl => k _ _ (same_new hl) (rep_newL oo hl rx)⟩
  · cases e

/-! ### isinstance(x, T), T a built-in type -/
def tyD : D → String
  | .none => "NoneType"
  | .bool _ => "bool"
  | .int _ => "int"
  | .str _ => "str"
  | .list _ => "list"
  | .tuple _ => "tuple"
  | .dict _ => "dict"
def isD (T : String) (d : D) : Bool := tyD d == T || (T == "int" && tyD d == "bool")
/-- the types that the rule knows -/
def tys : List String := ["int", "bool", "str", "list", "tuple"]
def KitAll (K : PySem.W.Frag) (T : String) : Prop := ∀ d : D, PySem.W.kitOne K (.type (tyD d)) (.type T) = some (isD T d)
theorem kit_int (K : PySem.W.Frag) : KitAll K "int" := fun d => by cases d <;> kernel_rfl
theorem kit_bool (K : PySem.W.Frag) : KitAll K "bool" := fun d => by cases d <;> kernel_rfl
theorem kit_list (K : PySem.W.Frag) : KitAll K "list" := fun d => by cases d <;> kernel_rfl
theorem kit_tuple (K : PySem.W.Frag) : KitAll K "tuple" := fun d => by cases d <;> kernel_rfl
theorem call_isinst {T : String} (hk : KitAll X.K T) : CallR X (.builtin "isinstance") (fun xs H Q => ∃ v O d, xs = [v, .ty T] ∧ Rep X.K O H v d ∧ noIns d = true ∧ Q (.bl (isD T d)) H) := by
  intro pins s σ H xs us Q I r h
  obtain ⟨v, O, d, rfl, rd, hi, q⟩ := h
  obtain ⟨u, w', rfl, r1, r2⟩ := vals2 r
  cases (show w' = Value.type T from r2)
  have fin : ∀ tk, EP X pins σ Q (.bool (isD T d)) { s with toks := tk } := fun tk => ⟨.bl _, H, I.tok _, rfl, q⟩
  have e := hk d
  cases rd with
  | non => cases (show u = Value.none from r1); exact PySem.W.kia_one PySem.W.kitx_none I.kIn True.intro e (fun z => nomatch z) fin
  | bl y => cases (show u = Value.bool y from r1); exact PySem.W.kia_one PySem.W.kitx_bool I.kIn True.intro e (fun z => nomatch z) fin
  | int i => obtain ⟨t, q⟩ := (show ∃ t, u = Value.int i t from r1); cases q; exact PySem.W.kia_one PySem.W.kitx_int I.kIn True.intro e (fun z => nomatch z) fin
  | str y => obtain ⟨t, q⟩ := (show ∃ t, u = Value.str y t from r1); cases q; exact PySem.W.kia_one PySem.W.kitx_str I.kIn True.intro e (fun z => nomatch z) fin
  | @tup a ys ds h rr =>
    cases (show u = Value.ref a from r1)
    obtain ⟨its, rv, ⟨o, h1, h2, _⟩, _⟩ := I.tuple h
    exact PySem.W.kia_one PySem.W.kitx_tuple I.kIn ⟨o, h1, h2⟩ e (fun z => nomatch z) fin
  | @lst a ys ds h n rr =>
    cases (show u = Value.ref a from r1)
    obtain ⟨its, rv, ⟨o, n, h1, h2, _⟩, _⟩ := I.list (.inl h)
    exact PySem.W.kia_one PySem.W.kitx_list I.kIn ⟨o, h1, h2⟩ e (fun z => nomatch z) fin
  | @lstK a ys ds h rr =>
    cases (show u = Value.ref a from r1)
    obtain ⟨its, rv, ⟨o, n, h1, h2, _⟩, _⟩ := I.list (.inr h)
    exact PySem.W.kia_one PySem.W.kitx_list I.kIn ⟨o, h1, h2⟩ e (fun z => nomatch z) fin
  | @dct a kvs es h n hk rr =>
    cases (show u = Value.ref a from r1)
    obtain ⟨_, _, _, _, o, _, _, h1, h2, _⟩ := h.ok I.hok
    exact PySem.W.kia_one PySem.W.kitx_dict I.kIn ⟨o, h1, h2.1⟩ e (fun z => nomatch z) fin
  | ins hN h n hk rr => cases hi
def dIs (T : String) (f : DS → M D) : DS → M D := fun δ => (f δ).thn fun d => if noIns d = true then M.ret (.bool (isD T d)) else none
theorem pd_isinst {T : String} {x y : Str} {p p2 : Pos} (hx : x = "isinstance") (hk : KitAll X.K T) (hg : Gl X x) (hm : X.mg x = none) (hg2 : Gl X y) (hm2 : X.mg y = none) (hb2 : bootBuiltins y = some (.type T)) (he : PD X G e f)
    (hn2 : y ≠ "__name__" := by decide) (hd2 : (y == ("__debug__" : Str)) = false := by decide)
    (hs1 : starEach [e, .Name y p2] X.env = (false, eval e X.env) :: starEach [.Name y p2] X.env := by rfl) (hs2 : starEach [.Name y p2] X.env = (false, eval (.Name y p2) X.env) :: starEach [] X.env := by rfl)
    (hpl : (backTo pos (starEach [.Name y p2] X.env)).any (·.1) = false := by rfl) : PD X G (.Call (.Name x p) [e, .Name y p2] [] pos) (dIs T f) := by
  subst hx
  obtain ⟨t, pe, he⟩ := he
  refine ⟨_, pe_callB (call_isinst hk) hg hm boot_isinstance (pa_cons pe (pa_cons (pe_bltn (v := .ty T) hg2 hm2 hb2 rfl hn2 hd2) pa_nil hs2) hs1) (by decide) (by decide) hs1 hpl, fun δ O σ H Q E k => ?_⟩
  refine he δ O σ H _ E (ok_mono (ok_thn k) fun d z v H1 s1 r => ?_)
  by_cases hi : noIns d = true
  · rw [if_pos hi] at z
    exact ⟨v, O, d, rfl, r, hi, z _ H1 s1 (.bl _)⟩
  · rw [if_neg hi] at z
    exact z.elim
end
end DL
namespace DL
open PySem PySem.Spec PyProof.Rows L2

/-! ### -x -/
def d1 (h : D → Option D) (f : DS → M D) : DS → M D := fun δ => (f δ).thn fun x => M.lift (h x)
def oNeg : D → Option D
  | .int i => some (.int (-i))
  | _ => none
theorem pd_neg {X : Cx} {G : XD → Hp → Prop} {a : Expr} {f : DS → M D} {pos : Pos} (ha : PD X G a f) : PD X G (.UnaryOp .USub a pos) (d1 oNeg f) := by
  obtain ⟨t, p, ha⟩ := ha
  refine ⟨_, pe_un un_neg p, fun δ O σ H Q E k => ?_⟩
  refine ha δ O σ H _ E (ok_mono (ok_thn k) fun d z v H1 s1 r => ?_)
  obtain ⟨y, hy, z⟩ := ok_lift z
  cases d with
  | int i => cases hy; exact ⟨i, r.int_inv, z _ H1 s1 (.int _)⟩
  | _ => cases hy

/-! ### statements -/
inductive Out where
  | nx (δ : DS)
  | rt (d : D)
  | bk (δ : DS)
  | ct (δ : DS)
/-- the state in a def's body: R0, the callers' owned lists; P0, what may be changed of what stood in H0 -/
structure EI (K : PySem.W.Frag) (Hr : Hp) (R0 : List Addr) (P0 : Addr → Prop) (H0 : Hp) (O : List Addr) (H : Hp) (σ : St) (δ : DS) : Prop where
  ev : Ev K Hr O H σ δ
  omr : ∀ l ∈ O, l ∈ R0 ∨ Hr l = none
  keep : ∀ b o, ¬ P0 b → H0 b = some o → H b = some o
  om : ∀ l ∈ O, l ∈ R0 ∨ P0 l ∨ H0 l = none
  nr1 : ∀ (i : Nat) (s : Sl) (l : Addr), δ[i]? = some s → s.own → σ[i]? = some (some (.ref l)) → l ∉ R0
  sub : ∀ l ∈ R0, l ∈ O
theorem EI.nr {K : PySem.W.Frag} {Hr : Hp} {R0 : List Addr} {P0 : Addr → Prop} {H0 : Hp} {O : List Addr} {H : Hp} {σ : St} {δ : DS} (E : EI K Hr R0 P0 H0 O H σ δ) : ∀ (i : Nat) (ds : List D) (l : Addr), δ[i]? = some (.ow ds) → σ[i]? = some (some (.ref l)) → l ∉ R0 := fun i ds l h1 h2 => E.nr1 i _ l h1 trivial h2
def Fin (K : PySem.W.Frag) (Hr : Hp) (R0 : List Addr) (P0 : Addr → Prop) (H0 : Hp) (Dn : Ends) : Out → Prop
  | .nx δ => ∀ O σ H, EI K Hr R0 P0 H0 O H σ δ → Dn.nx σ H
  | .rt d => ∀ v H, (∀ b o, ¬ P0 b → H0 b = some o → H b = some o) → Rep K R0 H v d → Dn.rt v H
  | .bk δ => ∀ O σ H, EI K Hr R0 P0 H0 O H σ δ → Dn.bk σ H
  | .ct δ => ∀ O σ H, EI K Hr R0 P0 H0 O H σ δ → Dn.ct σ H
def PDS (X : Cx) (G : XD → Hp → Prop) (st : Stmt) (g : DS → M Out) : Prop :=
  ∃ t, PS X st t ∧ ∀ {Hr : Hp} (R0 : List Addr) (P0 : Addr → Prop) (H0 : Hp) (δ : DS) (O : List Addr) (σ : St) (H : Hp) (Dn : Ends), EI X.K Hr R0 P0 H0 O H σ δ → ok (GS G Hr) (g δ) (Fin X.K Hr R0 P0 H0 Dn) → t Dn σ H
def PDSs (X : Cx) (G : XD → Hp → Prop) (st : List Stmt) (g : DS → M Out) : Prop :=
  ∃ t, PSs X st t ∧ ∀ {Hr : Hp} (R0 : List Addr) (P0 : Addr → Prop) (H0 : Hp) (δ : DS) (O : List Addr) (σ : St) (H : Hp) (Dn : Ends), EI X.K Hr R0 P0 H0 O H σ δ → ok (GS G Hr) (g δ) (Fin X.K Hr R0 P0 H0 Dn) → t Dn σ H

section
variable {X : Cx} {G : XD → Hp → Prop} {a b c e : Expr} {es rest : List Expr} {f g h : DS → M D} {fb gb : DS → M Bool} {fa : DS → M (List D)} {pos : Pos} {st : Stmt} {sts st1 st2 : List Stmt} {gs gt gu : DS → M Out}
variable {K : PySem.W.Frag} {Hr : Hp} {R0 : List Addr} {P0 : Addr → Prop} {H0 H H' : Hp} {O : List Addr} {σ : St} {δ : DS}
theorem EI.same (E : EI K Hr R0 P0 H0 O H σ δ) (s : Same H H') : EI K Hr R0 P0 H0 O H' σ δ := ⟨E.ev.same s, E.omr, fun b o n h => s _ _ (E.keep b o n h), E.om, E.nr1, E.sub⟩
theorem EI.set {i : Nat} {v : V} {d : D} (E : EI K Hr R0 P0 H0 O H σ δ) (r : Rep K O H v d) : EI K Hr R0 P0 H0 O H (σ.set i (some v)) (δ.set i (.vl d)) := by
  refine ⟨E.ev.set r, E.omr, E.keep, E.om, fun j ds l h1 ho h2 => ?_, E.sub⟩
  rw [get_set] at h1 h2
  by_cases hij : i = j
  · rw [if_pos hij] at h1
    split at h1
    · cases h1; exact ho.elim
    · cases h1
  · rw [if_neg hij] at h1 h2
    exact E.nr1 j ds l h1 ho h2
theorem EI.less (E : EI K Hr R0 P0 H0 O H σ δ) {v : V} {d : D} (r : Rep K O H v d) : Rep K R0 H v d := r.to (.less E.sub)

def gNext : DS → M Out := fun δ => M.ret (.nx δ)
def gSeq (g h : DS → M Out) : DS → M Out := fun δ => (g δ).thn fun o => match o with
  | .nx δ' => h δ'
  | o => M.ret o
theorem pds_nil : PDSs X G [] gNext := ⟨_, pss_nil, fun R0 P0 H0 δ O σ H Dn E k => k O σ H E⟩
theorem pds_one (h1 : PDS X G st gs) : PDSs X G [st] gs := by
  obtain ⟨t, p, h1⟩ := h1
  exact ⟨_, pss_one p, h1⟩
theorem pds_cons (h1 : PDS X G st gs) (h2 : PDSs X G sts gt) : PDSs X G (st :: sts) (gSeq gs gt) := by
  obtain ⟨t, p, h1⟩ := h1
  obtain ⟨u, q, h2⟩ := h2
  refine ⟨_, pss_cons p q, fun R0 P0 H0 δ O σ H Dn E k => ?_⟩
  refine h1 R0 P0 H0 δ O σ H _ E (ok_mono (ok_thn k) fun o z => ?_)
  cases o with
  | nx δ' => exact fun O' σ' H' E' => h2 R0 P0 H0 δ' O' σ' H' Dn E' z
  | rt d => exact z
  | bk δ' => exact z
  | ct δ' => exact z
def gBreak : DS → M Out := fun δ => M.ret (.bk δ)
def gCont : DS → M Out := fun δ => M.ret (.ct δ)
theorem pd_break : PDS X G (.Break pos) gBreak := ⟨_, ps_break, fun R0 P0 H0 δ O σ H Dn E k => k O σ H E⟩
def gRet (f : DS → M D) : DS → M Out := fun δ => (f δ).thn fun d => M.ret (.rt d)
theorem pd_ret (he : PD X G e f) : PDS X G (.Return (some e) pos) (gRet f) := by
  obtain ⟨t, p, he⟩ := he
  refine ⟨_, ps_ret p, fun R0 P0 H0 δ O σ H Dn E k => ?_⟩
  exact he δ O σ H _ E.ev (ok_mono (ok_thn k) fun d z v H1 s1 r => z v H1 (fun b o n q => s1 _ _ (E.keep b o n q)) ((E.same s1).less r))
def gRetN : DS → M Out := fun δ => M.ret (.rt .none)
def gDrop (f : DS → M D) : DS → M Out := fun δ => (f δ).thn fun _ => M.ret (.nx δ)
theorem pd_expr (he : PD X G e f) (hs : swapsWith e none pos.line X.env = pure false := by rfl) : PDS X G (.Expr e pos) (gDrop f) := by
  obtain ⟨t, p, he⟩ := he
  refine ⟨_, ps_expr p hs, fun R0 P0 H0 δ O σ H Dn E k => ?_⟩
  exact he δ O σ H _ E.ev (ok_mono (ok_thn k) fun d z v H1 s1 r => z O σ H1 (E.same s1))
def gIf (c : DS → M Bool) (g h : DS → M Out) : DS → M Out := fun δ => (c δ).thn fun b => if b = true then g δ else h δ
theorem pd_ifS (hc : PDT X G c fb) (h1 : PDSs X G st1 gs) (h2 : PDSs X G st2 gt) : PDS X G (.If c st1 st2 pos) (gIf fb gs gt) := by
  obtain ⟨t, p, hc⟩ := hc
  obtain ⟨u, q, h1⟩ := h1
  obtain ⟨w, r, h2⟩ := h2
  refine ⟨_, ps_if p q r, fun R0 P0 H0 δ O σ H Dn E k => ?_⟩
  refine hc δ O σ H _ E.ev (ok_mono (ok_thn k) fun d z H1 s1 => ?_)
  cases d with
  | true =>
    rw [if_pos rfl] at z ⊢
    exact h1 R0 P0 H0 δ O σ H1 Dn (E.same s1) z
  | false =>
    rw [if_neg Bool.false_ne_true] at z ⊢
    exact h2 R0 P0 H0 δ O σ H1 Dn (E.same s1) z
/-- code that is not come to -/
def gNever : DS → M Out := fun _ => none
/-! ### targets -/
def PDG (X : Cx) (target : Expr) (g : D → DS → Option DS) : Prop :=
  ∃ t, PG X target t ∧ ∀ {Hr : Hp} (R0 : List Addr) (P0 : Addr → Prop) (H0 : Hp) (δ δ' : DS) (d : D) (v : V) (O : List Addr) (σ : St) (H : Hp) (Q : St → Hp → Prop), EI X.K Hr R0 P0 H0 O H σ δ → Rep X.K O H v d → g d δ = some δ' →
    (∀ σ' H', EI X.K Hr R0 P0 H0 O H' σ' δ' → Same H H' → Q σ' H') → t v σ H Q
def PDGs (X : Cx) (ts : List Expr) (g : List D → DS → Option DS) : Prop :=
  ∃ t, PGs X ts t ∧ ∀ {Hr : Hp} (R0 : List Addr) (P0 : Addr → Prop) (H0 : Hp) (δ δ' : DS) (ds : List D) (vs : List V) (O : List Addr) (σ : St) (H : Hp) (Q : St → Hp → Prop), EI X.K Hr R0 P0 H0 O H σ δ → Reps X.K O H vs ds → g ds δ = some δ' →
    (∀ σ' H', EI X.K Hr R0 P0 H0 O H' σ' δ' → Same H H' → Q σ' H') → t vs σ H Q
def tgN (i : Nat) : D → DS → Option DS := fun d δ => some (δ.set i (.vl d))
theorem pdg_name {i : Nat} (h : PG X e (gName i)) : PDG X e (tgN i) := by
  refine ⟨_, h, fun R0 P0 H0 δ δ' d v O σ H Q E r e k => ?_⟩
  cases e
  exact k _ H (E.set r) (Same.refl H)
def tgNil : List D → DS → Option DS := fun ds δ => match ds with
  | [] => some δ
  | _ => none
def tgCons (t : D → DS → Option DS) (u : List D → DS → Option DS) : List D → DS → Option DS := fun ds δ => match ds with
  | d :: r => (t d δ).bind (u r)
  | [] => none
theorem pdgs_nil : PDGs X [] tgNil := by
  refine ⟨_, pgs_nil, fun R0 P0 H0 δ δ' ds vs O σ H Q E r e k => ?_⟩
  cases ds with
  | nil => cases r; cases e; exact ⟨rfl, k σ H E (Same.refl H)⟩
  | cons d ds => cases e
theorem pdgs_cons {t : D → DS → Option DS} {u : List D → DS → Option DS} (h1 : PDG X e t) (h2 : PDGs X es u)
    (hs : (assignEach (e :: es) X.env).map (·.2) = assign e X.env :: (assignEach es X.env).map (·.2) := by rfl) : PDGs X (e :: es) (tgCons t u) := by
  obtain ⟨t1, p1, h1⟩ := h1
  obtain ⟨t2, p2, h2⟩ := h2
  refine ⟨_, pgs_cons p1 p2 hs, fun R0 P0 H0 δ δ' ds vs O σ H Q E r e k => ?_⟩
  cases ds with
  | nil => cases e
  | cons d ds =>
    cases r with
    | @cons v _ vs _ r rs =>
      have e : (t d δ).bind (u ds) = some δ' := e
      cases e1 : t d δ with
      | none => rw [e1] at e; cases e
      | some δ1 =>
        rw [e1] at e
        refine ⟨v, vs, rfl, h1 R0 P0 H0 δ δ1 d v O σ H _ E r e1 fun σ1 H1 E1 s1 => ?_⟩
        exact h2 R0 P0 H0 δ1 δ' ds vs O σ1 H1 Q E1 (rs.same s1) e fun σ2 H2 E2 s2 => k σ2 H2 E2 (s1.trans s2)
def tgTup (n : Nat) (u : List D → DS → Option DS) : D → DS → Option DS := fun d δ => match d with
  | .tuple ds => if ds.length = n then u ds δ else none
  | _ => none
theorem pdg_tup {k : Nat} {u : List D → DS → Option DS} {n : Nat} (hc : X.calm = true) (h : PDGs X es u)
    (hn : (assignEach es X.env).length = n := by rfl) (hst : (assignEach es X.env).findIdx? (·.1) = none := by rfl) : PDG X (.Tuple es k pos) (tgTup n u) := by
  obtain ⟨t, p, h⟩ := h
  refine ⟨_, pg_tup hc p hn hst, fun R0 P0 H0 δ δ' d v O σ H Q E r e k => ?_⟩
  cases d with
  | tuple ds =>
    have e : (if ds.length = n then u ds δ else none) = some δ' := e
    by_cases hl : ds.length = n
    · rw [if_pos hl] at e
      obtain ⟨a, xs, rfl, h1, rs⟩ := r.tup_inv
      exact ⟨a, xs, rfl, h1, by rw [rs.length]; exact hl, h R0 P0 H0 δ δ' ds xs O σ H Q E rs e k⟩
    · rw [if_neg hl] at e; cases e
  | _ => cases e
/-- target = value -/
def gAsg (f : DS → M D) (g : D → DS → Option DS) : DS → M Out := fun δ => (f δ).thn fun d => (M.lift (g d δ)).thn fun δ' => M.ret (.nx δ')
theorem pd_asg {tg : Expr} {g : D → DS → Option DS} (he : PD X G e f) (hg : PDG X tg g) (hs : swapsWithSole [tg] e pos.line X.env = pure false := by rfl) (hw : swappedStores [tg] e X.env = pure none := by rfl)
    (h1 : (assignEach [tg] X.env).map (·.2) = [assign tg X.env] := by rfl) : PDS X G (.Assign [tg] e pos) (gAsg f g) := by
  obtain ⟨t, p, he⟩ := he
  obtain ⟨u, q, hg⟩ := hg
  refine ⟨_, ps_asg p q hs hw h1, fun R0 P0 H0 δ O σ H Dn E k => ?_⟩
  refine he δ O σ H _ E.ev (ok_mono (ok_thn k) fun d z v H1 s1 r => ?_)
  obtain ⟨δ', hd, z⟩ := ok_lift (ok_thn z)
  exact hg R0 P0 H0 δ δ' d v O σ H1 _ (E.same s1) r hd fun σ' H' E' _ => z O σ' H' E'
/-- name = value -/
theorem pd_set {i : Nat} {x : Str} {pos' : Pos} (hN : X.N.Nodup) (hi : X.N[i]? = some x) (hx : Loc X.env.scope x) (he : PD X G e f) (hs : swapsWith e (some (.Name x pos')) pos.line X.env = pure false := by rfl) (hf : X.fn x = true ∨ X.env.scope.names.lookup x = some .local := by first | exact .inl rfl | exact .inr rfl | assumption) :
    PDS X G (.Assign [.Name x pos'] e pos) (gAsg f (tgN i)) := by
  obtain ⟨t, p, he⟩ := he
  refine ⟨_, ps_set hN hi hx p hs hf, fun R0 P0 H0 δ O σ H Dn E k => ?_⟩
  refine he δ O σ H _ E.ev (ok_mono (ok_thn k) fun d z v H1 s1 r => ?_)
  obtain ⟨δ', hd, z⟩ := ok_lift (ok_thn z)
  cases hd
  exact z O _ H1 ((E.same s1).set r)

/-! ### for -/
def forD (body : D → DS → M Out) : List D → DS → M Out
  | [], δ => M.ret (.nx δ)
  | x :: xs, δ => (body x δ).thn fun o => match o with
    | .nx δ' => forD body xs δ'
    | .ct δ' => forD body xs δ'
    | .bk δ' => M.ret (.nx δ')
    | .rt d => M.ret (.rt d)
def bodyD (t : D → DS → Option DS) (g : DS → M Out) : D → DS → M Out := fun d δ => (M.lift (t d δ)).thn g
/-- the list or tuple that a loop walks -/
def seqD : D → Option (List D)
  | .list ds => some ds
  | .tuple ds => some ds
  | _ => none
def gFor (f : DS → M D) (t : D → DS → Option DS) (g : DS → M Out) : DS → M Out := fun δ => (f δ).thn fun d => (M.lift (seqD d)).thn fun ds => forD (bodyD t g) ds δ
def iSeq (K : PySem.W.Frag) (tl : TE) : TI := fun σ H R => tl σ H fun x H1 => ∃ a, x = .ref a ∧ (((∃ xs, SqL K H1 a xs) ∧ R (Itl K a) H1) ∨ ((∃ xs, SqT K H1 a xs) ∧ R (Itt K a) H1))
theorem pi_seq {tg l : Expr} {tl : TE} (hl : PE X l tl) : PI X tg l (iSeq X.K tl) := by
  intro pins s σ H R I h
  refine thn (hl pins s σ H _ I h) fun v s1 ⟨x, H1, I1, r1, q1⟩ => ?_
  obtain ⟨a, e, q⟩ := q1
  subst e
  cases r1
  rcases q with ⟨⟨xs, hq⟩, q⟩ | ⟨⟨xs, hq⟩, q⟩
  · obtain ⟨its, rv, p, hz⟩ := I1.list hq
    refine wpAny_pyIter_list p.isList ?_
    refine ⟨s1.heap.objs.size, [s1.heap.objs.size], _, _, H1, rfl, I1.kept (t' := s1.toks) fun b o e => Heap.get?_push_of_some _ e, turn_list a _, ⟨_, Heap.get?_push_size _ rfl, rfl, rfl⟩, fun b hb => ?_, q⟩
    have e : b = s1.heap.objs.size := by simpa using hb
    subst e
    exact I1.fpOk (Nat.le_refl _) (I1.hok.fresh (Nat.le_refl _))
  · obtain ⟨its, rv, p, hz⟩ := I1.tuple hq
    refine wpAny_pyIter_tuple (show s1.heap.IsTuple a its.toArray from p) ?_
    refine ⟨s1.heap.objs.size, [s1.heap.objs.size], _, _, H1, rfl, I1.kept (t' := s1.toks) fun b o e => Heap.get?_push_of_some _ e, turn_tuple a _, ⟨_, Heap.get?_push_size _ rfl, rfl, rfl⟩, fun b hb => ?_, q⟩
    have e : b = s1.heap.objs.size := by simpa using hb
    subst e
    exact I1.fpOk (Nat.le_refl _) (I1.hok.fresh (Nat.le_refl _))

/-- what a loop may change -/
def Ch (O R0 : List Addr) (l : Addr) : Prop := l ∈ O ∧ l ∉ R0
theorem EI.noCh (E : EI K Hr R0 P0 H0 O H σ δ) {b : Addr} {o : HO} (n : ¬ P0 b) (h : H0 b = some o) : ¬ Ch O R0 b := fun ⟨z1, z2⟩ => by
  rcases E.om b z1 with q | q | q
  · exact z2 q
  · exact n q
  · rw [h] at q; cases q
theorem EI.inner (E : EI K Hr R0 P0 H0 O H σ δ) : EI K Hr R0 (Ch O R0) H O H σ δ :=
  ⟨E.ev, E.omr, fun b o _ h => h, fun l hl => (Classical.em (l ∈ R0)).elim .inl fun n => .inr (.inl ⟨hl, n⟩), E.nr1, E.sub⟩
theorem EI.outer {O1 : List Addr} {H1 : Hp} {σ1 : St} {δ1 : DS} (E : EI K Hr R0 P0 H0 O H σ δ) (E1 : EI K Hr R0 (Ch O R0) H O1 H1 σ1 δ1) : EI K Hr R0 P0 H0 O1 H1 σ1 δ1 := by
  refine ⟨E1.ev, E1.omr, fun b o n h => E1.keep b o (E.noCh n h) (E.keep b o n h), fun l hl => ?_, E1.nr1, E1.sub⟩
  rcases E1.om l hl with q | q | q
  · exact .inl q
  · exact E.om l q.1
  · refine .inr ?_
    by_cases hp : P0 l
    · exact .inl hp
    · cases e : H0 l with
      | none => exact .inr rfl
      | some o =>
        rw [E.keep l o hp e] at q
        cases q
theorem Fin.outer {Dn : Ends} (E : EI K Hr R0 P0 H0 O H σ δ) {o : Out} (h : Fin K Hr R0 P0 H0 Dn o) : Fin K Hr R0 (Ch O R0) H Dn o := by
  cases o with
  | nx δ1 => exact fun O1 σ1 H1 E1 => h O1 σ1 H1 (E.outer E1)
  | bk δ1 => exact fun O1 σ1 H1 E1 => h O1 σ1 H1 (E.outer E1)
  | ct δ1 => exact fun O1 σ1 H1 E1 => h O1 σ1 H1 (E.outer E1)
  | rt d => exact fun v H1 kp r => h v H1 (fun b o n q => kp b o (E.noCh n q) (E.keep b o n q)) r
/-- what the loop walks stays as it is -/
theorem EI.to {O1 : List Addr} {H1 : Hp} {σ1 : St} {δ1 : DS} (E : EI K Hr R0 P0 H0 O H σ δ) (E1 : EI K Hr R0 (Ch O R0) H O1 H1 σ1 δ1) : To O O1 H H1 := by
  have nt : ∀ {b : Addr} {o : HO}, (∀ xs, o ≠ .lst xs) → (∀ xs, o ≠ .dK xs) → H b = some o → ¬ Ch O R0 b := fun {b o} ho ho2 h z => by
    rcases E.ev.oo b z.1 with ⟨ys, hl⟩ | ⟨ys, hl⟩
    · rw [h] at hl
      exact ho _ (Option.some.inj hl)
    · rw [h] at hl
      exact ho2 _ (Option.some.inj hl)
  have kp : ∀ {b : Addr} {o : HO}, b ∉ O → Rd H b o → b ∉ O1 ∧ Rd H1 b o := fun {b o} n h => by
    refine ⟨fun z => ?_, ?_⟩
    · rcases E1.om b z with q | q | q
      · exact n (E.sub b q)
      · exact n q.1
      · rcases h with h | ⟨u, h⟩
        · rw [h] at q; cases q
        · rw [h] at q; cases q
    · rcases h with h | ⟨u, h⟩
      · exact .inl (E1.keep _ _ (fun z => n z.1) h)
      · exact .inr ⟨u, E1.keep _ _ (fun z => n z.1) h⟩
  refine ⟨fun b xs h => ?_, fun b xs n h => kp n h, fun b xs n h => kp n h, fun b C dx fs n h => ⟨(kp n (.inl h)).1, E1.keep _ _ (fun z => n z.1) h⟩⟩
  · rcases h with h | ⟨u, h⟩
    · exact .inl (E1.keep _ _ (nt (fun _ z => by cases z) (fun _ z => by cases z) h) h)
    · exact .inr ⟨u, E1.keep _ _ (nt (fun _ z => by cases z) (fun _ z => by cases z) h) h⟩
theorem drop_get {ds : List D} {i : Nat} {d : D} (h : ds[i]? = some d) : ds.drop i = d :: ds.drop (i + 1) := by
  obtain ⟨hl, e⟩ := List.getElem?_eq_some_iff.mp h
  rw [List.drop_eq_getElem_cons hl, e]
/-- for over range(n), range(a, b) -/
def rngD (lo : Int) (n : Nat) : List D := (List.range n).map fun (i : Nat) => PyData.int (lo + (i : Int))
def b62 (j : Int) : Bool := decide (-4611686018427387904 ≤ j ∧ j < 4611686018427387904)
def rng1 : List D → Option (List D)
  | [.int j] => if b62 j = true then some (rngD 0 j.toNat) else none
  | _ => none
def rng2 : List D → Option (List D)
  | [.int i, .int j] => if (b62 i && b62 j) = true then some (rngD i (j - i).toNat) else none
  | _ => none
def gForR (rng : List D → Option (List D)) (fa : DS → M (List D)) (t : D → DS → Option DS) (g : DS → M Out) : DS → M Out := fun δ => (fa δ).thn fun ds => (M.lift (rng ds)).thn fun xs => forD (bodyD t g) xs δ
theorem b62_of {j : Int} (h : b62 j = true) : -(2 ^ 62) ≤ j ∧ j < 2 ^ 62 := by
  have e62 : (2 : Int) ^ 62 = 4611686018427387904 := by decide
  rw [e62]
  exact of_decide_eq_true h
end

/-! ### defs -/
/-- a def does what F says -/
def spD (K : PySem.W.Frag) (n : Nat) (F : List D → M D) : Sp := fun vs H Q _ => ∃ O ds, vs.length = n ∧ (∀ l ∈ O, Mu H l) ∧ Reps K O H vs ds ∧ ok (fun _ => False) (F ds) (fun d => ∀ v H', Same H H' → Rep K O H' v d → Q v H')
structure Def (P : Program) (w : World) (K : PySem.W.Frag) (mg : Str → Option Value) (base : Heap) (k : Nat) (x : Str) (n : Nat) (F : List D → M D) : Prop where
  ex : ∃ (f : Addr) (fd : FuncData) (ps : List Str), FnOk P w K mg base CX0 k f fd ps (spD K n F) ∧ mg x = some (.ref f) ∧ PySem.W.keepIn K (.ref f) = true ∧ Binds K fd ps []
def dCall (F : List D → M D) (fa : DS → M (List D)) : DS → M D := fun δ => (fa δ).thn F
section
variable {X : Cx} {G : XD → Hp → Prop} {a b c e : Expr} {es rest : List Expr} {f g h : DS → M D} {fb gb : DS → M Bool} {fa : DS → M (List D)} {pos : Pos}
theorem ok_false {α : Type} {G : XD → Prop} {r : M α} {k : α → Prop} (h : ok (fun _ => False) r k) : ok G r k := by
  match r, h with
  | some (.ok a), h => exact h
/-- no exception comes out of the call -/
def noX {α : Type} (r : M α) : M α := match r with
  | some (.error _) => none
  | r => r
theorem ok_noX {α : Type} {G : XD → Prop} {r : M α} {k : α → Prop} (h : ok G (noX r) k) : ok (fun _ => False) r k := by
  match r, h with
  | some (.ok a), h => exact h
theorem pd_call {k n : Nat} {x : Str} {p : Pos} {F : List D → M D} (h : Def X.prog X.w X.K X.mg X.base k x n F) (hr : Room k X.A) (hg : Gl X x) (hn : (e :: es).length = n) (ha : PDA X G (e :: es) fa)
    (hdb : (x == ("__debug__" : Str)) = false := by decide) (he : starEach (e :: es) X.env = (false, eval e X.env) :: starEach es X.env := by rfl) (hpl : (backTo pos (starEach es X.env)).any (·.1) = false := by rfl) :
    PD X G (.Call (.Name x p) (e :: es) [] pos) (dCall (fun ds => noX (F ds)) fa) := by
  obtain ⟨f, fd, ps, F1, hm, hk, hb⟩ := h.ex
  obtain ⟨hl, t, pa, ha⟩ := ha
  refine ⟨_, pe_call F1 hr hg hm hk hb .nil pass0 pa hdb he hpl, fun δ O σ H Q E k => ?_⟩
  have k1 := ok_thn k
  refine ha δ O σ H _ E ?_
  cases e1 : fa δ with
  | none => rw [e1] at k1; exact k1.elim
  | some r =>
    rw [e1] at k1
    cases r with
    | error x => exact k1
    | ok ds =>
      refine fun vs H1 s1 rs => ?_
      refine ⟨O, ds, ?_, (E.same s1).oo, ?_, ok_mono (ok_noX k1) fun d z v H2 s2 r => z v H2 (s1.trans s2) r⟩
      · rw [List.append_nil, rs.length, hl δ ds e1]
        exact hn
      · rw [List.append_nil]
        exact rs
end
/-- a def's run: its names at the entry, its end -/
def startD (n : Nat) (ds : List D) : DS := ds.map Sl.vl ++ List.replicate (n - ds.length) Sl.un
def endD (o : Out) : M D := match o with
  | .rt d => M.ret d
  | .nx _ => M.ret .none
  | _ => none
def run (n : Nat) (g : DS → M Out) (ds : List D) : M D := (g (startD n ds)).thn endD
section
variable {P : Program} {w : World} {K : PySem.W.Frag} {mg : Str → Option Value} {base : Heap}
theorem start_no {n i : Nat} {ds : List D} {s : Sl} (h1 : (startD n ds)[i]? = some s) (ho : s.own) : False := by
  unfold startD at h1
  by_cases hi : i < ds.length
  · rw [List.getElem?_append_left (by simpa using hi), List.getElem?_map] at h1
    cases e : ds[i]? with
    | none => rw [e] at h1; cases h1
    | some d => rw [e] at h1; cases h1; exact ho
  · rw [List.getElem?_append_right (by simpa using hi), List.getElem?_replicate] at h1
    split at h1
    · cases h1; exact ho
    · cases h1
theorem ev_start {O : List Addr} {H : Hp} {vs : List V} {ds : List D} (N : List Str) (oo : ∀ l ∈ O, Mu H l) (r : Reps K O H vs ds) : Ev K H O H (L2.start N vs) (startD N.length ds) := by
  have get : ∀ (i : Nat) (s : Sl), (startD N.length ds)[i]? = some s → (∃ d, ds[i]? = some d ∧ s = .vl d) ∨ s = .un := fun i s h => by
    unfold startD at h
    by_cases hi : i < ds.length
    · rw [List.getElem?_append_left (by simpa using hi), List.getElem?_map] at h
      cases e : ds[i]? with
      | none => rw [e] at h; cases h
      | some d => rw [e] at h; cases h; exact .inl ⟨d, rfl, rfl⟩
    · rw [List.getElem?_append_right (by simpa using hi), List.getElem?_replicate] at h
      split at h
      · cases h; exact .inr rfl
      · cases h
  refine ⟨Same.refl H, oo, ?_, fun i s h => ?_, fun i j l es fs hij h1 h2 h3 => ?_⟩
  · unfold L2.start startD
    simp [r.length]
  · rcases get i s h with ⟨d, hd, rfl⟩ | rfl
    · obtain ⟨v, hv, rd⟩ := r.get hd
      refine ⟨v, ?_, rd⟩
      unfold L2.start
      have hi : i < vs.length := (List.getElem?_eq_some_iff.mp hv).1
      rw [List.getElem?_append_left (by simpa using hi), List.getElem?_map, hv]
      rfl
    · trivial
  · rcases get i _ h1 with ⟨d, _, z⟩ | z <;> cases z
theorem fn_ofD {x qual : Str} {st : Stmt} {f : Addr} {fd : FuncData} {N ps : List Str} {k : Nat} {g : DS → M Out} (F0 : Fun K x qual st f fd) (S : FnScope N ps (defScope st))
    (hbody : ∀ (cdv : Value) (A : Around) (outer : List Env) (s : Shared) (H : Hp) (E : XK), Room k (A.deeper (envOfC qual (defScope st) s.heap.objs.size f cdv)) →
      PDSs (cxOf CX0 P w K mg base N qual (defScope st) f cdv A outer s H E).nox (fun _ _ => False) (defBody st) g) : FnOk P w K mg base CX0 (k + 1) f fd ps (spD K ps.length (run N.length g)) := by
  refine F0.ok S (fun vs H Q E h => ?_) (fun cdv A outer s H vs Q E hr h => ?_)
  · obtain ⟨O, ds, hl, _⟩ := h
    exact hl
  · obtain ⟨O, ds, hl, oo, r, q⟩ := h
    obtain ⟨t, p, hB⟩ := hbody cdv A outer s H E hr
    refine ⟨t, p, hB O (fun _ => False) H (startD N.length ds) O (L2.start N vs) H _ ⟨ev_start N oo r, fun l hl => .inl hl, fun b o _ h => h, fun l hl => .inl hl, fun i es l h1 ho h2 => ?_, fun l hl => hl⟩ (ok_mono (ok_false (ok_thn q)) fun o z => ?_)⟩
    · exact (start_no h1 ho).elim
    · cases o with
      | rt d => exact fun v H' kp r => z v H' (fun b o h => kp b o (fun w => w) h) r
      | nx δ => exact fun O' σ' H' E' => z .non H' (fun b o h => E'.keep b o (fun w => w) h) .non
      | bk δ => exact z.elim
      | ct δ => exact z.elim
theorem def_of {x qual : Str} {st : Stmt} {f : Addr} {fd : FuncData} {N ps : List Str} {k : Nat} {g : DS → M Out} (F0 : Fun K x qual st f fd) (S : FnScope N ps (defScope st)) (hm : mg x = some (.ref f)) (hb : Binds K fd ps [])
    (hbody : ∀ (cdv : Value) (A : Around) (outer : List Env) (s : Shared) (H : Hp) (E : XK), Room k (A.deeper (envOfC qual (defScope st) s.heap.objs.size f cdv)) →
      PDSs (cxOf CX0 P w K mg base N qual (defScope st) f cdv A outer s H E).nox (fun _ _ => False) (defBody st) g) : Def P w K mg base (k + 1) x ps.length (run N.length g) :=
  ⟨f, fd, ps, fn_ofD F0 S hbody, hm, F0.kp, hb⟩
/-- the law's promise from its run -/
def spLaw (K : PySem.W.Frag) : Sp := fun vs H Q _ => ∃ (a : Addr) (ns : List Int), vs = [.ref a] ∧ SqL K H a (ns.map V.int) ∧ ns.length ≤ 63 ∧ ∀ H', Q (.bl true) H'
theorem law_sp {F : List D → M D} (hF : ∀ ns : List Int, ns.length ≤ 63 → F [.list (ns.map PyData.int)] = M.ret (.bool true)) (vs : List V) (H : Hp) (Q : VK) (E : XK) (h : spLaw K vs H Q E) : spD K 1 F vs H Q E := by
  obtain ⟨a, ns, rfl, hS, hl, k⟩ := h
  refine ⟨[], [.list (ns.map PyData.int)], rfl, (fun l z => nomatch z), .cons ?_ .nil, ?_⟩
  · rcases hS with hS | hS
    · exact .lst hS (fun z => nomatch z) (Reps.ints ns)
    · exact .lstK hS (Reps.ints ns)
  · rw [hF ns hl]
    intro v H' s r
    rw [r.bool_inv]
    exact k H'
theorem walk {l : PySem.W.OpenLaw} {q : Program} {loose : List Str} {XP : (Str → Option Value) → Heap → Prop} {YP : World → Heap → Prop} {d : DefRec} {K : Params → PySem.W.Frag} {k : Nat} {F : List D → M D} {x : Str} (hn : l.most = some 63) (hdf : d.params.defaults = [])
    (hF : ∀ ns : List Int, ns.length ≤ 63 → F [.list (ns.map PyData.int)] = M.ret (.bool true)) (hr : Room k callerA)
    (hY : ∀ (w : World) (h : Heap), YP w h → (K w.params).In h)
    (T : ∀ (w : World) (mg : Str → Option Value) (fa : Addr) (h : Heap), (K w.params).In h → h.Ns mainGlobals mg → mg d.name = some (.ref fa) →
      ∃ fd : FuncData, (∀ (s : Shared) (u : Value), BindsTo s fd ⟨[u], []⟩ [(x, u)]) ∧ ∀ base : Heap, (K w.params).In base → base.Ns mainGlobals mg → FnOk l.prog w (K w.params) mg base CX0 k fa fd [x] (spD (K w.params) 1 F)) :
    PySem.W.WalkO q loose XP YP l.row.toRowW d [] (fun f vs => PySem.call f vs) :=
  L2.walk_of (n := 63) (k := k) (x := x) (CX := fun _ => CX0) (sp := fun w => spD (K w.params) 1 F) hn (by decide) hdf hr hY T (fun w H a ns hl _ hS => law_sp hF _ _ _ _ ⟨a, ns, rfl, hS, hl, fun _ => rfl⟩) fun _ _ _ _ _ z => z
end
end DL
/-! EVALUATION of runs: one lemma a form, applied from the outside -/
namespace DL
open PySem PySem.Spec L2
section
variable {δ δ' : DS} {f g : DS → M D} {fb gb : DS → M Bool} {fa : DS → M (List D)} {gs gt g1 g2 : DS → M Out} {d x y : D} {b b1 b2 : Bool} {ds xs : List D} {i j : Int} {r : M Out} {o : Out}
theorem ev_var {n : Nat} (h : δ[n]? = some (.vl d)) : dVar n δ = M.ret d := by unfold dVar; rw [h]
theorem ev_c : dC d δ = M.ret d := rfl
theorem ev_2 {h : D → D → Option D} (h1 : f δ = M.ret x) (h2 : g δ = M.ret y) (h3 : h x y = some d) : d2 h f g δ = M.ret d := by
  unfold d2; rw [h1, thn_ret, h2, thn_ret, h3]; rfl
theorem ev_1 {h : D → Option D} (h1 : f δ = M.ret x) (h3 : h x = some d) : d1 h f δ = M.ret d := by
  unfold d1; rw [h1, thn_ret, h3]; rfl
theorem o_add : oAdd (.int i) (.int j) = some (.int (i + j)) := rfl
theorem o_sub : oSub (.int i) (.int j) = some (.int (i - j)) := rfl
theorem o_mul (h : bMul i j = true) : oMul (.int i) (.int j) = some (.int (i * j)) := if_pos h
theorem o_div (h : bDiv j = true) : oDiv (.int i) (.int j) = some (.int (i / j)) := if_pos h
theorem o_mod (h : 0 < j) : oMod (.int i) (.int j) = some (.int (i % j)) := if_pos (decide_eq_true h)
theorem o_lt : oLt (.int i) (.int j) = some (.bool (decide (i < j))) := rfl
theorem o_le : oLe (.int i) (.int j) = some (.bool (decide (i ≤ j))) := rfl
theorem o_gt : oGt (.int i) (.int j) = some (.bool (decide (j < i))) := rfl
theorem o_ge : oGe (.int i) (.int j) = some (.bool (decide (j ≤ i))) := rfl
theorem o_pow18 : oPow (.int 10) (.int 18) = some (.int 1000000000000000000) := rfl
theorem o_pow15 : oPow (.int 10) (.int 15) = some (.int 1000000000000000) := rfl
theorem o_pow9 : oPow (.int 10) (.int 9) = some (.int 1000000000) := rfl
theorem o_pow6 : oPow (.int 10) (.int 6) = some (.int 1000000) := rfl
theorem o_max : oMax [.int i, .int j] = some (.int (max i j)) := rfl
theorem o_min : oMin [.int i, .int j] = some (.int (min i j)) := rfl
theorem o_lenL : oLen [.list ds] = some (.int ds.length) := rfl
theorem o_lenT : oLen [.tuple ds] = some (.int ds.length) := rfl
theorem o_eq : oEq (.int i) (.int j) = some (.bool (decide (i = j))) := by
  show some (PyData.bool (i == j)) = _
  rw [Bool.beq_eq_decide_eq]
theorem o_ne : oNe (.int i) (.int j) = some (.bool (!decide (i = j))) := by
  show some (PyData.bool (!(i == j))) = _
  rw [Bool.beq_eq_decide_eq]
theorem bMul_l (h1 : -18446744073709551616 < i) (h2 : i < 18446744073709551616) : bMul i j = true := decide_eq_true (.inl ⟨h1, h2⟩)
theorem bMul_r (h1 : -18446744073709551616 < j) (h2 : j < 18446744073709551616) : bMul i j = true := decide_eq_true (.inr ⟨h1, h2⟩)
theorem bDiv_of (h1 : 0 < j) (h2 : j < 1267650600228229401496703205376) : bDiv j = true := decide_eq_true ⟨h1, h2⟩
theorem ev_b (h : f δ = M.ret (.bool b)) : dB f δ = M.ret b := by unfold dB; rw [h]; rfl
theorem ev_not (h : fb δ = M.ret b) : dNot fb δ = M.ret (!b) := by unfold dNot; rw [h]; rfl
theorem ev_and (h1 : fb δ = M.ret b1) (h2 : gb δ = M.ret b2) : dAnd fb gb δ = M.ret (b1 && b2) := by
  unfold dAnd; rw [h1, thn_ret, h2]; cases b1 <;> rfl
theorem ev_or (h1 : fb δ = M.ret b1) (h2 : gb δ = M.ret b2) : dOr fb gb δ = M.ret (b1 || b2) := by
  unfold dOr; rw [h1, thn_ret, h2]; cases b1 <;> rfl
theorem ev_or_t (h1 : fb δ = M.ret true) : dOr fb gb δ = M.ret true := by unfold dOr; rw [h1]; rfl
theorem ev_or_f (h1 : fb δ = M.ret false) (h2 : gb δ = M.ret b) : dOr fb gb δ = M.ret b := by unfold dOr; rw [h1, thn_ret, if_neg Bool.false_ne_true]; exact h2
theorem ev_and_f (h1 : fb δ = M.ret false) : dAnd fb gb δ = M.ret false := by unfold dAnd; rw [h1]; rfl
theorem ev_and_t (h1 : fb δ = M.ret true) (h2 : gb δ = M.ret b) : dAnd fb gb δ = M.ret b := by unfold dAnd; rw [h1, thn_ret, if_pos rfl]; exact h2
theorem ev_notV (h : f δ = M.ret (.bool b)) : dNotV f δ = M.ret (.bool (!b)) := by unfold dNotV; rw [ev_b h]; rfl
theorem ev_andV (h1 : f δ = M.ret (.bool b1)) (h2 : g δ = M.ret (.bool b2)) : dAndV f g δ = M.ret (.bool (b1 && b2)) := by
  unfold dAndV; rw [ev_b h1, thn_ret, h2]; cases b1 <;> rfl
theorem ev_orV (h1 : f δ = M.ret (.bool b1)) (h2 : g δ = M.ret (.bool b2)) : dOrV f g δ = M.ret (.bool (b1 || b2)) := by
  unfold dOrV; rw [ev_b h1, thn_ret, h2]; cases b1 <;> rfl
theorem ev_andV_t (h1 : f δ = M.ret (.bool true)) (h2 : g δ = M.ret d) : dAndV f g δ = M.ret d := by unfold dAndV; rw [ev_b h1, thn_ret, if_pos rfl]; exact h2
theorem ev_is {T : String} (h : f δ = M.ret d) (hi : noIns d = true := by rfl) : dIs T f δ = M.ret (.bool (isD T d)) := by unfold dIs; rw [h, thn_ret, if_pos hi]
theorem ev_nil : dNil δ = M.ret [] := rfl
theorem ev_cons (h1 : f δ = M.ret x) (h2 : fa δ = M.ret xs) : dCons f fa δ = M.ret (x :: xs) := by unfold dCons; rw [h1, thn_ret, h2]; rfl
theorem ev_tup (h : fa δ = M.ret ds) (hz : small ds.length = true) : dTup fa δ = M.ret (.tuple ds) := by unfold dTup; rw [h, thn_ret, if_pos hz]
theorem ev_lst (h : fa δ = M.ret ds) (hz : small ds.length = true) : dLst fa δ = M.ret (.list ds) := by unfold dLst; rw [h, thn_ret, if_pos hz]
theorem ev_cb {h : List D → Option D} (h1 : fa δ = M.ret ds) (h2 : h ds = some d) : dCB h fa δ = M.ret d := by unfold dCB; rw [h1, thn_ret, h2]; rfl
theorem ev_call {F : List D → M D} (h1 : fa δ = M.ret ds) (h2 : F ds = M.ret d) : dCall (fun ds => noX (F ds)) fa δ = M.ret d := by
  unfold dCall; rw [h1, thn_ret, h2]; rfl
theorem ev_cut {fl fh : DS → M (Option Int)} {lo hi : Option Int} (h1 : f δ = M.ret x) (h2 : fl δ = M.ret lo) (h3 : fh δ = M.ret hi) (h4 : oCut lo hi x = some d) : dCut f fl fh δ = M.ret d := by
  unfold dCut; rw [h1, thn_ret, h2, thn_ret, h3, thn_ret, h4]; rfl
theorem ev_part (h : f δ = M.ret (.int i)) : dPart f δ = M.ret (some i) := by unfold dPart; rw [h]; rfl
theorem ev_nopart : dNoPart δ = M.ret none := rfl
theorem ev_if (h1 : fb δ = M.ret b) {r : M D} (h2 : (if b = true then f δ else g δ) = r) : dIf fb f g δ = r := by unfold dIf; rw [h1]; exact h2
/-! statements -/
theorem ev_seq (h1 : gs δ = M.ret (.nx δ')) (h2 : gt δ' = r) : gSeq gs gt δ = r := by unfold gSeq; rw [h1]; exact h2
theorem ev_seqR (h1 : gs δ = M.ret (.rt d)) : gSeq gs gt δ = M.ret (.rt d) := by unfold gSeq; rw [h1]; rfl
theorem ev_seqIf (h1 : fb δ = M.ret b) (h2 : (if b = true then gSeq g1 gt δ else gSeq g2 gt δ) = r) : gSeq (gIf fb g1 g2) gt δ = r := by
  unfold gSeq gIf; rw [h1, thn_ret]; unfold gSeq at h2; cases b <;> exact h2
theorem ev_ifS (h1 : fb δ = M.ret b) (h2 : (if b = true then g1 δ else g2 δ) = r) : gIf fb g1 g2 δ = r := by unfold gIf; rw [h1]; exact h2
theorem ev_next : gNext δ = M.ret (.nx δ) := rfl
theorem ev_seqN (h : gt δ = r) : gSeq gNext gt δ = r := h
theorem ev_asg {n : Nat} (h : f δ = M.ret d) : gAsg f (tgN n) δ = M.ret (.nx (δ.set n (.vl d))) := by unfold gAsg; rw [h]; rfl
theorem ev_asgT {t : D → DS → Option DS} (h : f δ = M.ret d) (h2 : t d δ = some δ') : gAsg f t δ = M.ret (.nx δ') := by unfold gAsg; rw [h, thn_ret, h2]; rfl
theorem ev_ret (h : f δ = M.ret d) : gRet f δ = M.ret (.rt d) := by unfold gRet; rw [h]; rfl
theorem ev_run {n : Nat} (h : gs (startD n ds) = M.ret (.rt d)) : run n gs ds = M.ret d := by unfold run; rw [h]; rfl
theorem ite_t {α : Type} {p : Prop} [Decidable p] {A B r : α} (h : p) (k : A = r) : (if decide p = true then A else B) = r := by rw [if_pos (decide_eq_true h)]; exact k
theorem ite_f {α : Type} {p : Prop} [Decidable p] {A B r : α} (h : ¬ p) (k : B = r) : (if decide p = true then A else B) = r := by rw [if_neg (by rw [decide_eq_false h]; exact Bool.false_ne_true)]; exact k
theorem ite_T {α : Type} {A B r : α} {b : Bool} (h : b = true) (k : A = r) : (if b = true then A else B) = r := by rw [if_pos h]; exact k
theorem ite_F {α : Type} {A B r : α} {b : Bool} (h : b = false) (k : B = r) : (if b = true then A else B) = r := by rw [h, if_neg Bool.false_ne_true]; exact k
/-- a loop by an invariant of the state: no turn leaves -/
theorem forD_inv {body : D → DS → M Out} (P : DS → Prop) : ∀ (ds : List D) (δ : DS), P δ → (∀ d ∈ ds, ∀ δ, P δ → ∃ δ', body d δ = M.ret (.nx δ') ∧ P δ') → ∃ δ', forD body ds δ = M.ret (.nx δ') ∧ P δ'
  | [], δ, p, _ => ⟨δ, rfl, p⟩
  | d :: ds, δ, p, h => by
    obtain ⟨δ1, h1, p1⟩ := h d List.mem_cons_self δ p
    obtain ⟨δ2, h2, p2⟩ := forD_inv P ds δ1 p1 fun e he => h e (List.mem_cons_of_mem _ he)
    refine ⟨δ2, ?_, p2⟩
    show (body d δ).thn _ = _
    rw [h1]
    exact h2
theorem ev_body {t : D → DS → Option DS} (h1 : t d δ = some δ') (h2 : gs δ' = r) : bodyD t gs d δ = r := by unfold bodyD; rw [h1]; exact h2
/-- an item of a list at a place within -/
theorem ix_in {ds : List D} {i : Int} (h0 : 0 ≤ i) (h1 : i < ds.length) : ∃ d, d ∈ ds ∧ oIx (.list ds) (.int i) = some d := by
  have hl : i.toNat < ds.length := by omega
  refine ⟨ds[i.toNat], List.getElem_mem hl, ?_⟩
  show L2.atI ds i = _
  unfold L2.atI L2.ixN
  rw [if_pos h0, if_pos h1]
  show ds[i.toNat]? = _
  rw [List.getElem?_eq_getElem hl]
end
end DL
/-! A COMPREHENSION of one clause without tests, whose element names no local of the def -/
namespace L2
open PySem PySem.Spec PyProof.Rows
def compEnv (scope : Scope) (C : Addr) (env : Env) : Env := { scope := scope, locals := C, globals := env.globals, cells := [], qual := env.qual, func := none, code := env.code, frame := env.frame, builtins := env.builtins }
/-- the context of a comprehension's block -/
def compCx (X : Cx) (scope : Scope) (x : Str) (C : Addr) (s3 : Shared) (H3 : Hp) (fp : List Addr) : Cx where
  prog := X.prog
  w := X.w
  K := X.K
  mg := X.mg
  base := X.base
  A := X.A
  N := [x]
  s₀ := s3
  H₀ := H3
  env := compEnv scope C X.env
  outer := X.stack
  stack := X.stack
  ex := fp
  fn := fun _ => false
  calm := X.calm
  pn := []
  xe := fun _ _ => False
def tComp (wi : TI) (te : TE) : TE := fun σ H Q => wi σ H fun J H1 => ∀ l, H1 l = none → ∃ W : Nat → Nat → List V → Hp → Prop, (∃ m, W 0 m [] (upd H1 l (.lst []))) ∧
  ∀ i m xs H2, W i m xs H2 → H2 l = some (.lst xs) ∧ ((J.stop i H2 ∧ Q (.ref l) H2) ∨ (J.go i H2 ∧ xs.length < sizeLine ∧ ∀ x H3, J.yld i H2 x H3 → te [some x] H3 fun v H4 => H4 l = some (.lst xs) ∧ ∃ m', m' < m ∧ W (i + 1) m' (xs ++ [v]) (upd H4 l (.lst (xs ++ [v])))))
section
variable {X : Cx}
end
end L2

namespace DL
open PySem PySem.Spec PyProof.Rows L2
/-- the reading that a run asks for -/
def tD (K : PySem.W.Frag) (G : XD → Hp → Prop) (f : DS → M D) : TE := fun σ H Q => ∃ Hr δ O, Ev K Hr O H σ δ ∧ ok (GS G Hr) (f δ) (fun d => ∀ v H', Same H H' → Rep K O H' v d → Q v H')
theorem PD.can {X : Cx} {G : XD → Hp → Prop} {e : Expr} {f : DS → M D} (h : PD X G e f) : PE X e (tD X.K G f) := by
  obtain ⟨t, p, h⟩ := h
  intro pins s σ H Q I hw
  obtain ⟨Hr, δ, O, E, k⟩ := hw
  exact p pins s σ H Q I (h δ O σ H Q E k)
def mapD (f : D → M D) : List D → M (List D)
  | [] => M.ret []
  | x :: xs => (f x).thn fun y => (mapD f xs).thn fun ys => M.ret (y :: ys)
def dComp (fi f : DS → M D) : DS → M D := fun δ => (fi δ).thn fun d => (M.lift (seqD d)).thn fun ds => if small ds.length then (mapD (fun x => noX (f [.vl x])) ds).thn fun ys => M.ret (.list ys) else none
section
variable {K : PySem.W.Frag} {G : XD → Prop} {f : DS → M D}
/-- all but the list at l stays -/
def Kp (l : Addr) (H H' : Hp) : Prop := ∀ b o, b ≠ l → H b = some o → H' b = some o
theorem Kp.to {O : List Addr} {H H' : Hp} {l : Addr} (k : Kp l H H') (hl : H l = none) : To O (l :: O) H H' := by
  have rd : ∀ {b : Addr} {o : HO}, Rd H b o → Rd H' b o := fun {b o} h => by
    have hb := Rd.ne_new h hl
    rcases h with h | ⟨u, h⟩
    · exact .inl (k _ _ hb h)
    · exact .inr ⟨u, k _ _ hb h⟩
  have no : ∀ {b : Addr} {o : HO}, b ∉ O → Rd H b o → b ∉ l :: O := fun {b o} n h z => by
    rcases List.mem_cons.mp z with z | z
    · exact Rd.ne_new h hl z
    · exact n z
  exact ⟨fun b xs h => rd h, fun b xs n h => ⟨no n h, rd h⟩, fun b xs n h => ⟨no n h, rd h⟩, fun b C dx fs n h => ⟨no n (.inl h), k _ _ (ne_of_none h hl) h⟩⟩
theorem Kp.same {H H' : Hp} {l : Addr} (k : Kp l H H') (hl : H l = none) : Same H H' := fun b o e => k b o (ne_of_none e hl) e
end
section
variable {X : Cx} {G : XD → Hp → Prop} {fi f : DS → M D}
/-! ### all, any of a list of bools -/
def bools : List D → Option (List Bool)
  | [] => some []
  | .bool b :: r => (bools r).map (b :: ·)
  | _ => none
theorem bools_get : ∀ {ds : List D} {bs : List Bool}, bools ds = some bs → ds = bs.map PyData.bool
  | [], bs, h => by cases h; rfl
  | .bool b :: r, bs, h => by
    have h : (bools r).map (b :: ·) = some bs := h
    cases e : bools r with
    | none => rw [e] at h; cases h
    | some cs => rw [e] at h; cases h; rw [bools_get e]; rfl
theorem reps_bools {K : PySem.W.Frag} {O : List Addr} {H : Hp} : ∀ {bs : List Bool} {vs : List V}, Reps K O H vs (bs.map PyData.bool) → vs = bs.map V.bl
  | [], _, .nil => rfl
  | b :: bs, _, .cons r rs => by rw [r.bool_inv, reps_bools rs]; rfl
theorem call_allL (hc : X.calm = true) : CallR X (.builtin "all") (fun xs H Q => ∃ (p : Addr) (bs : List Bool), xs = [.ref p] ∧ SqL X.K H p (bs.map V.bl) ∧ Q (.bl (bs.all id)) H) := by
  intro pins s σ H xs us Q I r h
  obtain ⟨l, bs, rfl, hq, q⟩ := h
  obtain ⟨u, rfl, rx⟩ := vals1 r
  cases rx
  obtain ⟨its, rv, pl, hz⟩ := I.list hq
  have hl := pl.isList
  have hlt : l < s.heap.objs.size := by obtain ⟨_, e, _⟩ := hl; exact Heap.lt_size e
  have hlen : its.length = bs.length := by rw [← rv.length, List.length_map]
  refine call_all_walk (wpAny_pyIter_list hl ?_)
  refine ⟨s.heap.objs.size, [s.heap.objs.size, l], [s.heap.objs.size], its.toArray.size, _, _, fun i => (bs[i]?).getD true, rfl, Walks.list (A := X.A.in1) (I.ok.hd hc) _ l (Nat.ne_of_lt hlt) its.toArray,
    ⟨⟨_, Heap.get?_push_size _ rfl, rfl, rfl⟩, hl.push _⟩, fun i v s' Q' E' hP hQ => ?_, fun h' tk hk => ?_⟩
  · have hv : its[i]? = some v := by simpa using hP
    have hi : i < bs.length := by rw [← hlen]; exact (List.getElem?_eq_some_iff.mp hv).1
    obtain ⟨w', e1, e2⟩ := rv.get (i := i) (x := V.bl bs[i]) (by rw [List.getElem?_map, List.getElem?_eq_getElem hi]; rfl)
    rw [hv] at e1
    cases e1
    cases (show v = Value.bool bs[i] from e2)
    dsimp only at hQ
    rw [List.getElem?_eq_getElem hi] at hQ
    exact wpAny_truthy_bool hQ
  · have e : ((List.range its.toArray.size).all fun i => (bs[i]?).getD true) = bs.all id := by
      rw [List.size_toArray, hlen]; exact LSm.range_all bs
    rw [e]
    exact ⟨.bl _, H, I.kept fun b o e => LSm.kept_iter hk b o e, rfl, q⟩
def oAll : List D → Option D
  | [.list ds] => (bools ds).map fun bs => .bool (bs.all id)
  | _ => none
theorem dcall_all (hc : X.calm = true) : DCall X (.builtin "all") oAll := by
  refine ⟨_, call_allL hc, fun O H ds d vs Q oo rs e k => ?_⟩
  unfold oAll at e
  split at e
  · rename_i es
    cases e1 : bools es with
    | none => rw [e1] at e; cases e
    | some bs =>
      rw [e1] at e
      cases e
      obtain ⟨v, rfl, r⟩ := reps1 rs
      obtain ⟨p, xs, rfl, h1, rx⟩ := r.lst_inv
      rw [bools_get e1] at rx
      rw [reps_bools rx] at h1
      exact ⟨p, bs, rfl, h1, k _ H (Same.refl H) (.bl _)⟩
  · cases e
end
section
variable {δ : DS} {fi f : DS → M D} {x y : D} {ds ys : List D}
end
end DL
/-! A COMPREHENSION whose element names locals of the def: fr, their places and names; cl, their cells -/
namespace L2
open PySem PySem.Spec PyProof.Rows
def compCxF (X : Cx) (scope : Scope) (cl : List (Str × Addr)) (fr : List (Nat × Str)) (x : Str) (C : Addr) (s3 : Shared) (H3 : Hp) (fp : List Addr) : Cx where
  prog := X.prog
  w := X.w
  K := X.K
  mg := X.mg
  base := X.base
  A := X.A
  N := x :: fr.map (·.2)
  s₀ := s3
  H₀ := H3
  env := compEnvC scope cl C X.env
  outer := X.stack
  stack := X.stack
  ex := fp
  fn := fun _ => false
  calm := X.calm
  pn := []
  xe := fun _ _ => False
def tCompF (fr : List (Nat × Str)) (wi : TI) (te : TE) : TE := fun σ H Q => wi σ H fun J H1 => ∀ l, H1 l = none → ∃ W : Nat → Nat → List V → Hp → Prop, (∃ m, W 0 m [] (upd H1 l (.lst []))) ∧
  ∀ i m xs H2, W i m xs H2 → H2 l = some (.lst xs) ∧ ((J.stop i H2 ∧ Q (.ref l) H2) ∨ (J.go i H2 ∧ xs.length < sizeLine ∧ ∀ x H3, J.yld i H2 x H3 → te (some x :: fr.map fun p => (σ[p.1]?).join) H3 fun v H4 => H4 l = some (.lst xs) ∧ ∃ m', m' < m ∧ W (i + 1) m' (xs ++ [v]) (upd H4 l (.lst (xs ++ [v])))))
section
variable {X : Cx}
end
end L2

namespace DL
open PySem PySem.Spec PyProof.Rows L2
def slotAt (δ : DS) (j : Nat) : Sl := match δ[j]? with
  | some (.vl d) => .vl d
  | _ => .un
def dCompF (js : List Nat) (fi f : DS → M D) : DS → M D := fun δ => (fi δ).thn fun d => (M.lift (seqD d)).thn fun ds => if small ds.length then (mapD (fun x => noX (f (.vl x :: js.map (slotAt δ)))) ds).thn fun ys => M.ret (.list ys) else none
section
variable {K : PySem.W.Frag} {G : XD → Prop} {f : DS → M D}
end
section
variable {X : Cx} {G : XD → Hp → Prop} {fi f : DS → M D}
end
section
variable {δ : DS} {fi f : DS → M D} {x : D} {ds ys : List D} {js : List Nat}
end
end DL
/-! LISTS that a def builds: x = [], x.append(e), return x; and x read from now on as a value -/
namespace DL
open PySem PySem.Spec PyProof.Rows L2
section
variable {X : Cx} {G : XD → Hp → Prop} {a b c e : Expr} {f : DS → M D} {pos pos' : Pos} {sts : List Stmt} {gs : DS → M Out}
variable {K : PySem.W.Frag} {Hr : Hp} {R0 : List Addr} {P0 : Addr → Prop} {H0 H H' : Hp} {O : List Addr} {σ : St} {δ : DS}
/-- the slots behind a change of the heap that leaves what they lean on -/
theorem SlOk.to {O' : List Addr} {o : Option (Option V)} {s : Sl} (t : To O O' H H') (hd : ∀ l kvs, l ∈ O → H l = some (.dK kvs) → l ∈ O' ∧ H' l = some (.dK kvs)) (hs : ∀ l xs, l ∈ O → H l = some (.lst xs) → o = some (some (.ref l)) → (∃ ds, s = .ow ds) → l ∈ O' ∧ H' l = some (.lst xs)) (h : SlOk K O H o s) : SlOk K O' H' o s := by
  cases s with
  | un => trivial
  | ex a => exact h
  | vl d =>
    obtain ⟨v, h1, r⟩ := h
    exact ⟨v, h1, r.to t⟩
  | ow ds =>
    obtain ⟨l, xs, h1, h2, h3, r⟩ := h
    obtain ⟨q1, q2⟩ := hs l xs h2 h3 h1 ⟨ds, rfl⟩
    exact ⟨l, xs, h1, q1, q2, r.to t⟩
  | od es =>
    obtain ⟨l, kvs, h1, h2, h3, hk, r⟩ := h
    obtain ⟨q1, q2⟩ := hd l kvs h2 h3
    exact ⟨l, kvs, h1, q1, q2, hk, r.to t⟩
theorem hd_new {l : Addr} {o : HO} (hl : H l = none) : ∀ a kvs, a ∈ O → H a = some (.dK kvs) → a ∈ l :: O ∧ upd H l o a = some (.dK kvs) := fun a kvs h1 h2 => ⟨List.mem_cons_of_mem _ h1, by rw [upd_ne (ne_of_none h2 hl)]; exact h2⟩
theorem hd_set {l : Addr} {xs : List V} {o : HO} (hl : H l = some (.lst xs)) : ∀ a kvs, a ∈ O → H a = some (.dK kvs) → a ∈ O ∧ upd H l o a = some (.dK kvs) := fun a kvs h1 h2 => ⟨h1, by rw [upd_ne (ne_of h2 hl (by intro z; cases z))]; exact h2⟩
theorem EI.new {i : Nat} {l : Addr} (E : EI K Hr R0 P0 H0 O H σ δ) (hl : H l = none) : EI K Hr R0 P0 H0 (l :: O) (upd H l (.lst [])) (σ.set i (some (.ref l))) (δ.set i (.ow [])) := by
  have nO : l ∉ O := nin E.ev.oo hl
  have tO : To O (l :: O) H (upd H l (.lst [])) := To.own hl
  refine ⟨⟨fun b o h => by have q := E.ev.root b o h; rw [upd_ne (ne_of_none q hl)]; exact q, fun a ha => ?_, by rw [List.length_set, List.length_set]; exact E.ev.len, fun j s h => ?_, fun j k a ds es hjk h1 h2 h3 h4 => ?_⟩, fun a ha => ?_, fun b o n h => ?_, fun a ha => ?_, fun j ds a h1 ho h2 => ?_, fun a ha => List.mem_cons_of_mem _ (E.sub a ha)⟩
  · rcases List.mem_cons.mp ha with rfl | ha
    · exact .lst upd_same
    · exact (E.ev.oo a ha).new hl
  · rw [get_set] at h ⊢
    by_cases hij : i = j
    · rw [if_pos hij] at h ⊢
      by_cases hz : i < δ.length
      · rw [if_pos hz] at h
        rw [if_pos (by rw [E.ev.len]; exact hz)]
        cases h
        exact ⟨l, [], rfl, List.mem_cons_self, upd_same, .nil⟩
      · rw [if_neg hz] at h; cases h
    · rw [if_neg hij] at h ⊢
      exact (E.ev.at_ j s h).to tO (hd_new hl) fun a xs h1 h2 _ _ => ⟨List.mem_cons_of_mem _ h1, by rw [upd_ne (ne_of_none h2 hl)]; exact h2⟩
  · rw [get_set] at h1 h2 h3 h4
    by_cases hij : i = j
    · rw [if_pos hij] at h1 h3
      have ha : a = l := by
        split at h3
        · cases h3; rfl
        · cases h3
      have hik : ¬ i = k := fun z => hjk (hij.symm.trans z)
      rw [if_neg hik] at h2 h4
      obtain ⟨l', xs, q1, q2, q3, _⟩ := E.ev.at_ k _ h2
      rw [h4] at q1
      cases q1
      rw [ha] at q2
      exact nO q2
    · rw [if_neg hij] at h1 h3
      by_cases hik : i = k
      · rw [if_pos hik] at h4
        have ha : a = l := by
          split at h4
          · cases h4; rfl
          · cases h4
        obtain ⟨l', xs, q1, q2, q3, _⟩ := E.ev.at_ j _ h1
        rw [h3] at q1
        cases q1
        rw [ha] at q2
        exact nO q2
      · rw [if_neg hik] at h2 h4
        exact E.ev.dis j k a ds es hjk h1 h2 h3 h4
  · rcases List.mem_cons.mp ha with rfl | ha
    · refine .inr ?_
      cases q : Hr a with
      | none => rfl
      | some o =>
        rw [E.ev.root a o q] at hl
        cases hl
    · exact E.omr a ha
  · have q := E.keep b o n h
    rw [upd_ne (ne_of_none q hl)]
    exact q
  · rcases List.mem_cons.mp ha with rfl | ha
    · by_cases hp : P0 a
      · exact .inr (.inl hp)
      · refine .inr (.inr ?_)
        cases q : H0 a with
        | none => rfl
        | some o =>
          rw [E.keep a o hp q] at hl
          cases hl
    · exact E.om a ha
  · rw [get_set] at h1 h2
    by_cases hij : i = j
    · rw [if_pos hij] at h2
      have ha : a = l := by
        split at h2
        · cases h2; rfl
        · cases h2
      rw [ha]
      exact fun z => nO (E.sub l z)
    · rw [if_neg hij] at h1 h2
      exact E.nr1 j ds a h1 ho h2
def gNew (i : Nat) : DS → M Out := fun δ => M.ret (.nx (δ.set i (.ow [])))
theorem EI.app {i : Nat} {l : Addr} {xs : List V} {ds : List D} {v : V} {d : D} (E : EI K Hr R0 P0 H0 O H σ δ) (hd : δ[i]? = some (.ow ds)) (hσ : σ[i]? = some (some (.ref l))) (hl : H l = some (.lst xs)) (rx : Reps K O H xs ds) (r : Rep K O H v d) :
    EI K Hr R0 P0 H0 O (upd H l (.lst (xs ++ [v]))) σ (δ.set i (.ow (ds ++ [d]))) := by
  obtain ⟨l', xs', q1, lO, q3, _⟩ := E.ev.at_ i _ hd
  rw [hσ] at q1
  cases q1
  have tO : To O O H (upd H l (.lst (xs ++ [v]))) := To.set hl lO
  refine ⟨⟨fun b o h => ?_, fun a ha => ?_, by rw [List.length_set]; exact E.ev.len, fun j s h => ?_, fun j k a es es' hjk h1 h2 h3 => ?_⟩, E.omr, fun b o n h => ?_, E.om, fun j es a h1 ho h2 => ?_, E.sub⟩
  · have q := E.ev.root b o h
    have hne : b ≠ l := fun z => by
      subst z
      rcases E.omr b lO with w | w
      · exact E.nr i ds b hd hσ w
      · rw [h] at w; cases w
    rw [upd_ne hne]
    exact q
  · by_cases hb : a = l
    · rw [hb]; exact .lst upd_same
    · exact (E.ev.oo a ha).upd_ne hb
  · rw [get_set] at h
    by_cases hij : i = j
    · rw [if_pos hij] at h
      split at h
      · cases h
        rw [← hij, hσ]
        exact ⟨l, _, rfl, lO, upd_same, (rx.to tO).append (.cons (r.to tO) .nil)⟩
      · cases h
    · rw [if_neg hij] at h
      refine (E.ev.at_ j s h).to tO (hd_set hl) fun a ys h1 h2 h3 h4 => ⟨h1, ?_⟩
      obtain ⟨es, rfl⟩ := h4
      have hne : a ≠ l := fun z => by
        subst z
        exact E.ev.dis i j a ds es hij hd h hσ h3
      rw [upd_ne hne]
      exact h2
  · have old : ∀ (j : Nat) (es : List D), (δ.set i (.ow (ds ++ [d])))[j]? = some (.ow es) → ∃ es', δ[j]? = some (.ow es') := fun j es h => by
      rw [get_set] at h
      by_cases hij : i = j
      · rw [← hij]; exact ⟨ds, hd⟩
      · rw [if_neg hij] at h; exact ⟨es, h⟩
    obtain ⟨e1, h1⟩ := old j es h1
    obtain ⟨e2, h2⟩ := old k es' h2
    exact E.ev.dis j k a e1 e2 hjk h1 h2 h3
  · have q := E.keep b o n h
    have hne : b ≠ l := fun z => by
      subst z
      rcases E.om b lO with w | w | w
      · exact E.nr i ds b hd hσ w
      · exact n w
      · rw [h] at w; cases w
    rw [upd_ne hne]
    exact q
  · rw [get_set] at h1
    by_cases hij : i = j
    · exact E.nr i ds a hd (by rw [hij]; exact h2)
    · rw [if_neg hij] at h1
      exact E.nr1 j es a h1 ho h2
def gApp (i : Nat) (f : DS → M D) : DS → M Out := fun δ => match δ[i]? with
  | some (.ow ds) => (f δ).thn fun d => if small (ds.length + 1) then M.ret (.nx (δ.set i (.ow (ds ++ [d])))) else none
  | _ => none
theorem small_lt {n : Nat} (h : small (n + 1) = true) : n < sizeLine := by
  have := small_le h
  omega
theorem pd_app {i : Nat} {x : Str} {xp apos cpos : Pos} (hv : PE X (.Name x xp) (tVar i)) (he : PD X G e f)
    (hst : starEach [e] X.env = (false, eval e X.env) :: starEach [] X.env := by rfl)
    (hbase : attributeBase (.Name x xp) "append" X.env (eval (.Name x xp) X.env) = eval (.Name x xp) X.env := by rfl)
    (hfew : ((backTo cpos (starEach [e] X.env)).all (fun x => !x.1) && (backToKw cpos (keywordEach [] X.env)).all (fun x => x.1.isSome)
      && decide ([e].length + ([] : List Keyword).length + (if ([] : List Keyword).isEmpty then 0 else 1) < 30)) = true := by rfl)
    (hline : (apos.endLine == cpos.line) = true := by rfl) (hplain : (backTo cpos (starEach [] X.env)).any (·.1) = false := by rfl)
    (hs : swapsWith (.Call (.Attribute (.Name x xp) "append" apos) [e] [] cpos) none pos.line X.env = pure false := by rfl) :
    PDS X G (.Expr (.Call (.Attribute (.Name x xp) "append" apos) [e] [] cpos) pos) (gApp i f) := by
  obtain ⟨t, p, he⟩ := he
  refine ⟨_, ps_expr (pe_bm PySem.F.plainAttrs_list PySem.F.slot_list_append PySem.F.type_list_append mt_append hv (pa_cons p pa_nil hst) hbase hfew hline hst hplain) hs, fun R0 P0 H0 δ O σ H Dn E k => ?_⟩
  unfold gApp at k
  split at k
  · rename_i ds hd
    obtain ⟨l, xs, q1, q2, q3, q4⟩ := E.ev.at_ i _ hd
    refine ⟨.ref l, q1, .inl ⟨rfl, xs, .inl (.inl q3)⟩, ?_⟩
    refine he δ O σ H _ E.ev (ok_mono (ok_thn k) fun d z v H1 s1 r => ?_)
    by_cases hz : small (ds.length + 1) = true
    · rw [if_pos hz] at z
      refine ⟨l, xs, v, rfl, rfl, s1 _ _ q3, by rw [q4.length]; exact small_lt hz, ?_⟩
      exact z O σ _ ((E.same s1).app hd q1 (s1 _ _ q3) (q4.same s1) r)
    · rw [if_neg hz] at z
      exact z.elim
  · exact k.elim
def gRetO (i : Nat) : DS → M Out := fun δ => match δ[i]? with
  | some (.ow ds) => M.ret (.rt (.list ds))
  | _ => none
theorem pd_retO {i : Nat} (he : PE X e (tVar i)) : PDS X G (.Return (some e) pos) (gRetO i) := by
  refine ⟨_, ps_ret he, fun R0 P0 H0 δ O σ H Dn E k => ?_⟩
  unfold gRetO at k
  split at k
  · rename_i ds hd
    obtain ⟨l, xs, q1, q2, q3, q4⟩ := E.ev.at_ i _ hd
    exact ⟨.ref l, q1, k _ H E.keep (.lst (.inl q3) (E.nr i ds l hd q1) (q4.to (.less E.sub)))⟩
  · exact k.elim
/-- from now on a value -/
def frz (i : Nat) (δ : DS) : DS := match δ[i]? with
  | some (.ow ds) => δ.set i (.vl (.list ds))
  | _ => δ
theorem EI.frz {i : Nat} (E : EI K Hr R0 P0 H0 O H σ δ) : ∃ O', EI K Hr R0 P0 H0 O' H σ (DL.frz i δ) := by
  unfold DL.frz
  split
  · rename_i ds hd
    obtain ⟨l, xs, q1, q2, q3, q4⟩ := E.ev.at_ i _ hd
    have nr := E.nr i ds l hd q1
    refine ⟨O.filter (fun a => decide (a ≠ l)), ⟨E.ev.root, fun a ha => E.ev.oo a (List.mem_filter.mp ha).1, by rw [List.length_set]; exact E.ev.len, fun j s h => ?_, fun j k a es es' hjk h1 h2 h3 => ?_⟩, fun a ha => E.omr a (List.mem_filter.mp ha).1, E.keep, fun a ha => E.om a (List.mem_filter.mp ha).1, fun j es a h1 ho h2 => ?_, fun a ha => ?_⟩
    · have tl : To O (O.filter (fun a => decide (a ≠ l))) H H := To.less fun b hb => (List.mem_filter.mp hb).1
      rw [get_set] at h
      by_cases hij : i = j
      · rw [if_pos hij] at h
        split at h
        · cases h
          rw [← hij, q1]
          exact ⟨.ref l, rfl, .lst (.inl q3) (fun z => absurd rfl (of_decide_eq_true (List.mem_filter.mp z).2)) (q4.to tl)⟩
        · cases h
      · rw [if_neg hij] at h
        refine (E.ev.at_ j s h).to tl (fun a kvs h1 h2 => ⟨List.mem_filter.mpr ⟨h1, decide_eq_true (ne_of h2 q3 (by intro z; cases z))⟩, h2⟩) fun a ys h1 h2 h3 h4 => ⟨List.mem_filter.mpr ⟨h1, decide_eq_true fun z => ?_⟩, h2⟩
        obtain ⟨es, rfl⟩ := h4
        subst z
        exact E.ev.dis i j a ds es hij hd h q1 h3
    · have old : ∀ (j : Nat) (es : List D), (δ.set i (.vl (.list ds)))[j]? = some (.ow es) → δ[j]? = some (.ow es) := fun j es h => by
        rw [get_set] at h
        by_cases hij : i = j
        · rw [if_pos hij] at h
          split at h <;> cases h
        · rw [if_neg hij] at h; exact h
      exact E.ev.dis j k a es es' hjk (old j es h1) (old k es' h2) h3
    · rw [get_set] at h1
      by_cases hij : i = j
      · rw [if_pos hij] at h1
        split at h1
        · cases h1; exact ho.elim
        · cases h1
      · rw [if_neg hij] at h1
        exact E.nr1 j es a h1 ho h2
    · exact List.mem_filter.mpr ⟨E.sub a ha, decide_eq_true fun z => nr (z ▸ ha)⟩
  · exact ⟨O, E⟩
def gFrz (i : Nat) (g : DS → M Out) : DS → M Out := fun δ => g (frz i δ)
theorem pds_frz (i : Nat) (h : PDSs X G sts gs) : PDSs X G sts (gFrz i gs) := by
  obtain ⟨t, p, h⟩ := h
  refine ⟨t, p, fun R0 P0 H0 δ O σ H Dn E k => ?_⟩
  obtain ⟨O', E'⟩ := E.frz (i := i)
  exact h R0 P0 H0 (frz i δ) O' σ H Dn E' k
end
/-! ### t < u of tuples of ints -/
def intsOf : List D → Option (List Int)
  | [] => some []
  | .int i :: r => (intsOf r).map (i :: ·)
  | _ => none
/-- x < y: ints, tuples of ints -/
def oLtD : D → D → Option D
  | .int i, .int j => some (.bool (decide (i < j)))
  | .tuple xs, .tuple ys => (intsOf xs).bind fun ns => (intsOf ys).map fun ms => .bool (HT.lexLt ns ms)
  | _, _ => none
theorem o_ltD {i j : Int} : oLtD (.int i) (.int j) = some (.bool (decide (i < j))) := rfl
/-! ### the premises of a comprehension that names locals -/
theorem hhas_of {names : List (Str × NameKind)} {cl : List (Str × Addr)} (h : names.all (fun y => !(y.2 == .cell || y.2 == .free) || (cl.lookup y.1).isSome) = true) : ∀ y ∈ names, (y.2 = .cell ∨ y.2 = .free) → ∃ c, cl.lookup y.1 = some c := fun y hy hk => by
  have q := List.all_eq_true.mp h y hy
  have k : (y.2 == NameKind.cell || y.2 == NameKind.free) = true := by
    rcases hk with e | e <;> rw [e] <;> rfl
  rw [k] at q
  exact Option.isSome_iff_exists.mp (by simpa using q)
section
variable {X : Cx} {scope : Scope} {cl : List (Str × Addr)}
theorem fr_nil : ∀ p ∈ ([] : List (Nat × Str)), X.N[p.1]? = some p.2 ∧ X.env.kindOf p.2 = some .cell ∧ (compEnvC scope cl 0 X.env).kindOf p.2 = some .cell ∧ ∃ c, cl.lookup p.2 = some c := fun p hp => nomatch hp
theorem fr_cons {j : Nat} {y : Str} {fr : List (Nat × Str)} (h1 : X.N[j]? = some y) (h2 : X.env.kindOf y = some .cell) (h3 : (compEnvC scope cl 0 X.env).kindOf y = some .cell) (h4 : ∃ c, cl.lookup y = some c)
    (hr : ∀ p ∈ fr, X.N[p.1]? = some p.2 ∧ X.env.kindOf p.2 = some .cell ∧ (compEnvC scope cl 0 X.env).kindOf p.2 = some .cell ∧ ∃ c, cl.lookup p.2 = some c) :
    ∀ p ∈ (j, y) :: fr, X.N[p.1]? = some p.2 ∧ X.env.kindOf p.2 = some .cell ∧ (compEnvC scope cl 0 X.env).kindOf p.2 = some .cell ∧ ∃ c, cl.lookup p.2 = some c := fun p hp => by
  rcases List.mem_cons.mp hp with rfl | hp
  · exact ⟨h1, h2, h3, h4⟩
  · exact hr p hp
end
/-! ### evaluation: built lists, loops by what they have taken -/
section
variable {δ δ' : DS} {f : DS → M D} {d : D} {ds : List D} {r : M Out} {g : DS → M Out}
theorem ev_app {i : Nat} (h : δ[i]? = some (.ow ds)) (h1 : f δ = M.ret d) (hz : small (ds.length + 1) = true) : gApp i f δ = M.ret (.nx (δ.set i (.ow (ds ++ [d])))) := by
  unfold gApp; rw [h, h1]; show (if small (ds.length + 1) = true then _ else _) = _; rw [if_pos hz]
theorem ev_frz {i : Nat} (h : g (frz i δ) = r) : gFrz i g δ = r := h
theorem forD_pre {body : D → DS → M Out} (S : List D → DS → Prop) : ∀ (ds pre : List D) (δ : DS), S pre δ → (∀ p d q δ, pre ++ ds = p ++ d :: q → S p δ → ∃ δ', body d δ = M.ret (.nx δ') ∧ S (p ++ [d]) δ') → ∃ δ', forD body ds δ = M.ret (.nx δ') ∧ S (pre ++ ds) δ'
  | [], pre, δ, h, _ => ⟨δ, rfl, by rw [List.append_nil]; exact h⟩
  | d :: ds, pre, δ, h, hs => by
    obtain ⟨δ1, h1, p1⟩ := hs pre d ds δ rfl h
    obtain ⟨δ2, h2, p2⟩ := forD_pre S ds (pre ++ [d]) δ1 p1 fun p e q δ he => hs p e q δ (by rw [← he]; simp)
    refine ⟨δ2, ?_, by simpa using p2⟩
    show (body d δ).thn _ = _
    rw [h1]
    exact h2
theorem mem_rngD {lo : Int} {n : Nat} {d : D} (h : d ∈ rngD lo n) : ∃ k : Int, d = .int k ∧ lo ≤ k ∧ k < lo + n := by
  obtain ⟨i, hi, e⟩ := List.mem_map.mp h
  have := List.mem_range.mp hi
  exact ⟨lo + i, e.symm, by omega, by omega⟩
theorem ix_nat {ds : List D} {i : Int} {d : D} (h0 : 0 ≤ i) (h : ds[i.toNat]? = some d) : oIx (.list ds) (.int i) = some d := by
  have e := L2.atI_nat h
  rw [Int.toNat_of_nonneg h0] at e
  exact e
theorem small_of {n : Nat} (h : n ≤ 16000000) : small n = true := decide_eq_true h
end
end DL
/-! EXCEPTIONS WITH FIELDS, one: the stations of a flight, with the word that the object keeps its dict -/
namespace XF
open PySem PySem.Spec PyProof.Rows
def DictIs (h : Heap) (e : Addr) (d : Option Addr) : Prop := ∃ o, h.get? e = some o ∧ o.dict = d
theorem mf_dict (o : Obj) (f : Array Value → Array Value) : (Obj.mapFields f o).dict = o.dict := by
  unfold Obj.mapFields
  split <;> rfl
section
variable {M : Model} {A : Around} {E : Value → Shared → Prop} {s : Shared}
/-- a new entry of the traceback is hung onto the object -/
theorem entry {base : Heap} {env : Env} {outer : List Env} {L e : Addr} {oe : Obj} {vs : Array Value} {head a0 : Value} {hadNext : Bool} {Q : Unit → Shared → Prop}
    (hfr : A.frames = some (env :: outer)) (hl : s.heap.FunFrames base (env :: outer)) (hf : env.frame = some L)
    (he : s.heap.get? e = some oe) (hkb : base.StaysIn s.heap) (hen : base.get? e = none) (hd : oe.data = .fields vs) (hsz : 1 < vs.size) (h0 : vs[0]? = some a0)
    (h : ∀ h', Heap.NotedW base (env :: outer) e oe.cls a0 (rawInt L) s.heap h' → DictIs h' e oe.dict → Q () { s with heap := h' }) :
    wpAny M A (do let a ← frameOf env; let pl ← entryPlaceOf L hadNext; let b ← EntryCells.newEntry head a .none (rawInt L) .none pl; setField (.ref e) 1 b) Q E s := by
  have off : e ∉ (env :: outer).filterMap (·.frame) := fun z => by
    obtain ⟨_, o, q, n⟩ := hl.mem z
    rw [he] at q; cases q; exact n vs hd
  refine wpAny_bind (wpAny_frameOf_fun hfr hl hf fun g sl => wpAny_bind (wpAny_entryPlaceOf fun pl hpl => ?_))
  unfold EntryCells.newEntry newFields
  refine wpAny_bind (wpAny_newObj_type ?_ (hpl.sizeOk5 _ _ _ _ _))
  generalize hT : ({ cls := .type "traceback", dict := none, data := .fields ([head, .ref L, .none, rawInt L, .none] ++ (if pl.isEmpty then List.replicate 6 Value.none else pl)).toArray } : Obj) = oT
  have eg : g.get? e = some oe := (sl.2.1 e off).trans he
  have ep := Heap.get?_push_of_some (h := g) oT eg
  have kb : base.StaysIn g := fun b o q => (sl.2.1 b fun z => by rw [(hl.mem z).1] at q; cases q).trans (hkb b o q)
  refine wpAny_setField ep hd hsz (h _ ?_ ?_)
  · have ne : g.objs.size ≠ e := Nat.ne_of_gt (Heap.lt_size eg)
    have fd := Obj.data_mapFields hd (·.setIfInBounds 1 (Value.ref g.objs.size))
    have e3 := Heap.get?_update_self (Obj.mapFields (·.setIfInBounds 1 (Value.ref g.objs.size))) ep (Obj.isFreed_of_fields fd)
    have keep : ∀ {b : Addr} {o : Obj}, b ≠ e → g.get? b = some o → ((g.push oT).update e (Obj.mapFields (·.setIfInBounds 1 (Value.ref g.objs.size)))).get? b = some o := fun {b o} n q => by
      rw [Heap.get?_update_other _ _ (Ne.symm n)]
      exact Heap.get?_push_of_some _ q
    have nr : ∀ {b : Addr} {o : Obj}, s.heap.get? b = some o → (∀ vs, o.data ≠ .fields vs) → b ≠ e := fun {b o} q n z => by
      rw [z, he] at q; cases q; exact n vs hd
    have eT : ((g.push oT).update e (Obj.mapFields (·.setIfInBounds 1 (Value.ref g.objs.size)))).get? g.objs.size = some oT :=
      (Heap.get?_update_other _ _ (Ne.symm ne)).trans (Heap.get?_push_size g (by rw [← hT]; rfl))
    refine ⟨fun b o q => keep (fun z => by rw [z, hen] at q; cases q) (kb b o q), hl.of_keeps fun b o q n => ?_, ?_, fun b o q n => ?_⟩
    · obtain ⟨sl', z⟩ := sl.2.2 b o q
      exact ⟨_, keep (nr q n) z, rfl⟩
    · refine ⟨_, _, g.objs.size, oT, ([head, .ref L, .none, rawInt L, .none] ++ (if pl.isEmpty then List.replicate 6 Value.none else pl)).toArray, e3, ⟨Obj.cls_mapFields _ _, by rw [Array.getElem?_setIfInBounds_ne (by decide)]; exact h0⟩, fd, by simp [hsz], kb.fresh, ne, eT, by rw [← hT], ?_⟩
      first
        | (simp; done)
        | (rcases hpl with rfl | ⟨_, _, _, _, _, _, _, rfl⟩ <;> simp)
    · obtain ⟨sl', z⟩ := sl.2.2 b o q
      exact ⟨sl', keep (nr q n) z⟩
  · exact ⟨_, Heap.get?_update_self _ ep (Obj.isFreed_of_fields (Obj.data_mapFields hd _)), mf_dict _ _⟩
/-- the frame is noted: the first time -/
theorem note0 {base : Heap} {env : Env} {outer : List Env} {L e : Addr} {oe : Obj} {vs : Array Value} {a0 : Value} {Q : Unit → Shared → Prop}
    (hfr : A.frames = some (env :: outer)) (hl : s.heap.FunFrames base (env :: outer)) (hf : env.frame = some L)
    (he : s.heap.get? e = some oe) (hkb : base.StaysIn s.heap) (hen : base.get? e = none) (hd : oe.data = .fields vs) (h1 : vs[1]? = some .none) (h0 : vs[0]? = some a0)
    (h : ∀ h', Heap.NotedW base (env :: outer) e oe.cls a0 (rawInt L) s.heap h' → DictIs h' e oe.dict → Q () { s with heap := h' }) : wpAny M A (noteFrame (.ref e) env) Q E s := by
  unfold noteFrame
  simp only [hf]
  refine wpAny_bind (wpAny_field he hd h1 ?_)
  rw [if_neg (by decide)]
  exact entry hfr hl hf he hkb hen hd (Array.getElem?_eq_some_iff.mp h1).1 h0 h
/-- in flight, whichever frame it flew in last -/
def FlyF (base : Heap) (l : List Env) (e : Addr) (cls a0 fl : Value) (h : Heap) : Prop := base.StaysIn h ∧ base.get? e = none ∧ h.FunFrames base l ∧ h.TracedAtW base e cls a0 fl
theorem FlyF.of {base : Heap} {l : List Env} {e : Addr} {cls a0 : Value} {h : Heap} (x : Heap.FlyingW base l e cls a0 h) : FlyF base l e cls a0 .none h := ⟨x.1, x.2.1, x.2.2.1, x.2.2.2.at⟩
theorem FlyF.first {base h : Heap} {l : List Env} {e : Addr} {cls a0 fl : Value} (x : FlyF base l e cls a0 fl h) : ∃ oe vs, h.get? e = some oe ∧ oe.cls = cls ∧ oe.data = .fields vs ∧ vs[0]? = some a0 :=
  let ⟨_, _, _, oe, vs, _, _, _, he, hc, hd, _⟩ := x; ⟨oe, vs, he, hc.1, hd, hc.2⟩
/-- and on its way -/
theorem note1 {base : Heap} {env : Env} {outer : List Env} {L e : Addr} {cls a0 fl : Value} {d : Option Addr} {Q : Unit → Shared → Prop}
    (hfr : A.frames = some (env :: outer)) (hl : s.heap.FunFrames base (env :: outer)) (hf : env.frame = some L) (ht : s.heap.TracedAtW base e cls a0 fl) (dd : DictIs s.heap e d) (hkb : base.StaysIn s.heap) (hen : base.get? e = none)
    (h : ∀ h', Heap.NotedW base (env :: outer) e cls a0 (rawInt L) s.heap h' → DictIs h' e d → Q () { s with heap := h' }) : wpAny M A (noteFrame (.ref e) env) Q E s := by
  obtain ⟨oe, vs, T, oT, ts, he, ⟨rfl, h0⟩, hd, h1, hnT, hTe, hT, hdT, h3⟩ := id ht
  obtain ⟨o2, he2, rfl⟩ := id dd
  rw [he] at he2; cases he2
  unfold noteFrame
  simp only [hf]
  refine wpAny_bind (wpAny_field he hd h1 ?_)
  rw [if_pos (show (Value.ref T != Value.none) = true from by simp)]
  refine wpAny_bind (wpAny_field hT hdT h3 ?_)
  by_cases hfl : (fl == rawInt L) = true
  · rw [if_pos hfl]
    obtain rfl : fl = rawInt L := beq_iff_eq.mp hfl
    exact wpAny_pure (h s.heap ⟨hkb, hl, ht, fun b o q _ => ⟨o.slots, q⟩⟩ dd)
  rw [if_neg hfl]
  refine wpAny_bind (wpAny_setField hT hdT (Array.getElem?_eq_some_iff.mp h3).1 ?_)
  have ot : ∀ {b : Addr}, b ≠ T → (s.heap.update T (Obj.mapFields (·.setIfInBounds 3 Value.none))).get? b = s.heap.get? b := fun {b} n => Heap.get?_update_other _ _ (Ne.symm n)
  have nr : ∀ {b : Addr} {o : Obj}, s.heap.get? b = some o → (∀ vs, o.data ≠ .fields vs) → b ≠ T := fun {b o} q n z => by
    rw [z, hT] at q; cases q; exact n ts hdT
  exact entry hfr (hl.of_keeps fun b o q n => ⟨o, (ot (nr q n)).trans q, rfl⟩) hf ((ot (Ne.symm hTe)).trans he)
    (fun b o q => (ot fun z => by rw [z, hnT] at q; cases q).trans (hkb b o q)) hen hd (Array.getElem?_eq_some_iff.mp h1).1 h0
    fun h' ⟨x1, x2, x3, x4⟩ y => h h' ⟨x1, x2, x3, fun b o q n => x4 b o ((ot (nr q n)).trans q) n⟩ y
/-- the flight is noted: in a frame, or in none -/
theorem flight {base : Heap} {l : List Env} {e : Addr} {cls a0 fl : Value} {d fr : Option Addr} {Q : Unit → Shared → Prop} (F : FlyF base l e cls a0 fl s.heap) (dd : DictIs s.heap e d)
    (h : ∀ h', FlyF base l e cls a0 (fr.elim Value.none fun f => rawInt f) h' → DictIs h' e d → s.heap.UpToSlots h' → Q () { s with heap := h' }) : wpAny M A (setFlight (.ref e) fr) Q E s := by
  obtain ⟨hkb, hen, hl, oe, vs, T, oT, ts, he, hc, hd, h1, hnT, hTe, hT, hdT, h3⟩ := F
  obtain ⟨o2, he2, rfl⟩ := dd
  rw [he] at he2; cases he2
  have z3 : 3 < ts.size := (Array.getElem?_eq_some_iff.mp h3).1
  have ot : ∀ {b : Addr}, b ≠ T → (s.heap.update T (Obj.mapFields (·.setIfInBounds 3 (fr.elim Value.none fun f => rawInt f)))).get? b = s.heap.get? b := fun {b} n => Heap.get?_update_other _ _ (Ne.symm n)
  have nr : ∀ {b : Addr} {o : Obj}, s.heap.get? b = some o → (∀ vs, o.data ≠ .fields vs) → b ≠ T := fun {b o} q n z => by
    rw [z, hT] at q; cases q; exact n ts hdT
  unfold setFlight
  refine wpAny_bind (wpAny_field he hd h1 ?_)
  rw [if_pos (show (Value.ref T != Value.none) = true from by simp)]
  refine wpAny_setField hT hdT z3 (h _ ⟨fun b o q => (ot fun z => by rw [z, hnT] at q; cases q).trans (hkb b o q), hen, hl.of_keeps fun b o q n => ⟨o, (ot (nr q n)).trans q, rfl⟩, ?_⟩ ⟨oe, (ot (Ne.symm hTe)).trans he, rfl⟩ fun b o q n => ⟨o.slots, (ot (nr q n)).trans q⟩)
  exact ⟨oe, vs, T, _, _, (ot (Ne.symm hTe)).trans he, hc, hd, h1, hnT, hTe, Heap.get?_update_self _ hT (Obj.isFreed_of_fields (Obj.data_mapFields hdT _)), Obj.data_mapFields hdT _, by simp [z3]⟩
/-! ### the stations -/
theorem leaves_made {base : Heap} {env : Env} {outer : List Env} {L e : Addr} {oe : Obj} {vs : Array Value} {a0 : Value} {Q : Unit → Shared → Prop}
    (hfr : A.frames = some (env :: outer)) (hf : env.frame = some L) (hkb : base.StaysIn s.heap) (hl : s.heap.FunFrames base (env :: outer))
    (he : s.heap.get? e = some oe) (hen : base.get? e = none) (hd : oe.data = .fields vs) (h1 : vs[1]? = some .none) (h0 : vs[0]? = some a0)
    (hQ : ∀ h', FlyF base outer e oe.cls a0 .none h' → DictIs h' e oe.dict → s.heap.UpToSlots h' → Q () { s with heap := h' }) : wpAny M A (leaving env (.ref e)) Q E s := by
  unfold leaving
  refine wpAny_bind (note0 hfr hl hf he hkb hen hd h1 h0 fun h1 N dd => ?_)
  obtain ⟨n1, n2, n3, n4⟩ := N
  exact flight (fr := none) (s := { s with heap := h1 }) ⟨n1, hen, n2, n3⟩ dd fun h2 F d2 up => hQ h2 ⟨F.1, F.2.1, F.2.2.1.2.2, F.2.2.2⟩ d2 (Heap.UpToSlots.trans n4 up)
theorem leaves_on {base : Heap} {env : Env} {outer : List Env} {L e : Addr} {cls a0 fl : Value} {d : Option Addr} {Q : Unit → Shared → Prop}
    (hfr : A.frames = some (env :: outer)) (hf : env.frame = some L) (hfl : FlyF base (env :: outer) e cls a0 fl s.heap) (dd : DictIs s.heap e d)
    (hQ : ∀ h', FlyF base outer e cls a0 .none h' → DictIs h' e d → s.heap.UpToSlots h' → Q () { s with heap := h' }) : wpAny M A (leaving env (.ref e)) Q E s := by
  obtain ⟨f1, f2, f3, f4⟩ := hfl
  unfold leaving
  refine wpAny_bind (note1 hfr f3 hf f4 dd f1 f2 fun h1 N dd => ?_)
  obtain ⟨n1, n2, n3, n4⟩ := N
  exact flight (fr := none) (s := { s with heap := h1 }) ⟨n1, f2, n2, n3⟩ dd fun h2 F d2 up => hQ h2 ⟨F.1, F.2.1, F.2.2.1.2.2, F.2.2.2⟩ d2 (Heap.UpToSlots.trans n4 up)
theorem looks_on {base : Heap} {env : Env} {outer : List Env} {L e : Addr} {cls a0 fl : Value} {d : Option Addr} {Q : Unit → Shared → Prop}
    (hfr : A.frames = some (env :: outer)) (hf : env.frame = some L) (hfl : FlyF base (env :: outer) e cls a0 fl s.heap) (dd : DictIs s.heap e d)
    (hQ : ∀ h', FlyF base (env :: outer) e cls a0 (rawInt L) h' → DictIs h' e d → s.heap.UpToSlots h' → Q () { s with heap := h' }) : wpAny M A (noteFrame (.ref e) env) Q E s := by
  obtain ⟨f1, f2, f3, f4⟩ := hfl
  refine note1 hfr f3 hf f4 dd f1 f2 fun h1 N dd => ?_
  obtain ⟨n1, n2, n3, n4⟩ := N
  exact hQ h1 ⟨n1, f2, n2, n3⟩ dd n4
theorem lands {base : Heap} {l : List Env} {e : Addr} {cls a0 fl : Value} {d : Option Addr} {Q : Unit → Shared → Prop} (hh : FlyF base l e cls a0 fl s.heap) (dd : DictIs s.heap e d)
    (hQ : ∀ h', FlyF base l e cls a0 .none h' → DictIs h' e d → s.heap.UpToSlots h' → Q () { s with heap := h' }) : wpAny M A (setFlight (.ref e) none) Q E s := flight (fr := none) hh dd hQ
end
end XF
/-! EXCEPTIONS: an own class without __init__, raised in a def, passed on by its callers -/
namespace L2
open PySem PySem.Spec PyProof.Rows
/-- the class as it stands -/
theorem exc_obj {K : PySem.W.Frag} {h : Heap} {C : Addr} {bmB : List Value} {newId : String} (X : K.In h) (q : PySem.W.excIn K C bmB newId = true) :
    ∃ bm N nm qn bs hdct sn sub ab col dd k0 k1 k2 k3 k5 mN, h.get? C = some (excClassObj nm qn C N bs bm hdct sn sub ab col dd k0 k1 k2 k3 k5 newId) ∧ h.Ns N mN ∧ mN ("__init__" : Str) = none ∧ OwnTail h bmB bm := by
  unfold PySem.W.excIn at q
  split at q
  · rename_i dd cd sl ho
    split at q
    · rename_i C' bm k0 k1 k2 k3 n k5 hm hs
      simp only [Bool.and_eq_true, beq_iff_eq, Bool.not_eq_true'] at q
      obtain ⟨⟨⟨⟨⟨rfl, rfl⟩, hdel⟩, ht⟩, hn⟩, hi⟩ := q
      obtain ⟨nm, bs, mro, ns, qn, hd, sn, sub, ab, col, del⟩ := cd
      dsimp only at hm hdel hn hi
      subst hm hdel
      have hsl : sl = #[k0, k1, k2, k3, some (.builtin n), k5] := by
        cases sl
        simp only at hs
        rw [hs]
      subst hsl
      exact ⟨bm, ns, nm, qn, bs, hd, sn, sub, ab, col, dd, k0, k1, k2, k3, k5, _, X _ _ ho, .of_isNs (PySem.W.isNs_of_in X hn), PySem.W.nsMap_none_of_in X hn hi, PySem.W.tail_of_in X ht⟩
    · cases q
  · cases q
theorem obj_get {P : Program} {w : World} {H : Hp} {h : Heap} {a : Addr} {o : HO} (x : ObjOk P w H h a o) : ∃ ob, h.get? a = some ob := by
  cases o with
  | lst xs => obtain ⟨_, _, _, _, e⟩ := x; exact ⟨_, e⟩
  | tup xs => obtain ⟨_, _, _, ob, e, _⟩ := x; exact ⟨_, e⟩
  | dK kvs => obtain ⟨_, _, _, _, o, _, _, e, _⟩ := x; exact ⟨_, e⟩
  | dT kvs => obtain ⟨_, _, _, _, o, _, _, e, _⟩ := x; exact ⟨_, e⟩
  | set S n => obtain ⟨o, _, _, _, e, _⟩ := x; exact ⟨_, e⟩
  | ins C dx fs => obtain ⟨_, _, _, e, _⟩ := x; exact ⟨_, e⟩
  | own y => obtain ⟨_, e⟩ := x; exact ⟨_, e⟩
  | xd fs => obtain ⟨_, ⟨_, _, _, e, _⟩, _⟩ := x; exact ⟨_, e⟩
  | rng lo hi => obtain ⟨_, _, _, e⟩ := x; exact ⟨_, e⟩
  | frz ob u => obtain ⟨e, _⟩ := x; exact ⟨_, e⟩
  | tbl ps => exact ⟨_, (show h.get? a = some _ from x)⟩
  | met f y => exact ⟨_, (show h.get? a = some _ from x)⟩
  | ext φ => obtain ⟨_, ⟨_, e⟩, _⟩ := x; exact ⟨_, e⟩
/-- how an exception lies behind a call: B, all that stood when it was raised, but the frames -/
structure Fly (P : Program) (w : World) (outer : List Env) (H : Hp) (s : Shared) (E : XK) (ea C t : Addr) (d : Option Addr) (H' : Hp) (B : Heap) (s' : Shared) : Prop where
  fl : ∃ fl, XF.FlyF B outer ea (.ref C) (.ref t) fl s'.heap
  dict : XF.DictIs s'.heap ea d
  os : s'.os = s.os
  bare : AllBare s'.gens
  un : Un (frs outer) [] H H' s.heap s'.heap
  hok : HOk P w H' s'.heap
  old : ∀ b o, s.heap.get? b = some o → b ∉ frs outer → ∃ ob, B.get? b = some ob
  trk : ∀ b o, H' b = some o → ∃ ob, B.get? b = some ob
  wish : E (.ref C) d H'
def CXE (P : Program) (w : World) : CXT := fun outer H s E e s' => ∃ (ea C t : Addr) (d : Option Addr) (H' : Hp) (B : Heap), e = .ref ea ∧ Fly P w outer H s E ea C t d H' B s'
section
variable {P : Program} {w : World} {K : PySem.W.Frag} {mg : Str → Option Value} {base : Heap} {N : List Str} {qual : Str} {scope : Scope} {f : Addr} {cdv : Value} {A : Around} {outer : List Env} {s0 : Shared} {H0 : Hp} {E : XK}
/-- the frame is left: what its callers see -/
theorem fly_out {pins : List (Addr × Obj)} {σ : St} {H : Hp} {s : Shared} {B h' : Heap} {xe : Value → Shared → Prop} (I : Inv ((cxOf (CXE P w) P w K mg base N qual scope f cdv A outer s0 H0 E).wish xe) pins σ H s)
    (hB0 : ∀ b o, s0.heap.get? b = some o → b ∉ frs (envOfC qual scope s0.heap.objs.size f cdv :: outer) → ∃ ob, B.get? b = some ob) (hBH : ∀ b o, H b = some o → ∃ ob, B.get? b = some ob)
    (k1 : B.StaysIn s.heap) (k2 : B.StaysIn h') (up : s.heap.UpToSlots h') : Un (frs outer) [] H0 H s0.heap h' ∧ HOk P w H h' := by
  have ub : Un (frs outer) [] H0 H s0.heap s.heap := I.base
  have nl : ∀ {b : Addr} {o : Obj}, s0.heap.get? b = some o → b ∉ frs outer → b ∉ frs (envOfC qual scope s0.heap.objs.size f cdv :: outer) := fun {b o} e n z => by
    have z : b ∈ s0.heap.objs.size :: frs outer := z
    rcases List.mem_cons.mp z with z | z
    · exact Nat.lt_irrefl _ (z ▸ Heap.lt_size e)
    · exact n z
  have mv : ∀ {b : Addr} {u : Obj}, (∃ ob, B.get? b = some ob) → s.heap.get? b = some u → h'.get? b = some u := fun {b u} hb e => by
    obtain ⟨ob, q⟩ := hb
    have := k1 b ob q
    rw [e] at this
    cases this
    exact k2 b _ q
  have fr : ∀ {b : Addr}, b ∈ frs outer → ∀ {o : Obj}, s.heap.get? b = some o → ∃ sl, h'.get? b = some { o with slots := sl } := fun {b} hb {o} e => by
    obtain ⟨_, o', ho', hd⟩ := I.funs.mem hb
    rw [e] at ho'
    cases ho'
    exact up b _ e hd
  refine ⟨⟨fun b o e n h1 h2 => mv (hB0 b o e (nl e h1)) (ub.keep b o e n h1 h2), fun b o e n h1 h2 => ?_, ub.free, fun b o e h2 => ?_, ub.tups, ub.frzs, ub.tbls⟩, fun a o e => (I.hok a o e).stay (fun b u hb q => mv ?_ q) (fun _ q => q) fun _ _ q => q⟩
  · obtain ⟨sl, e1⟩ := ub.slot b o e n h1 h2
    obtain ⟨sl', e2⟩ := fr h1 e1
    exact ⟨sl', e2⟩
  · obtain ⟨o', e1⟩ := ub.there b o e h2
    by_cases h1 : b ∈ frs outer
    · obtain ⟨sl', e2⟩ := fr h1 e1
      exact ⟨_, e2⟩
    · exact ⟨o', mv (hB0 b o e (nl e h1)) e1⟩
  · rcases hb with rfl | hb
    · exact hBH _ _ e
    · exact hBH _ _ hb
/-- a raise in a def's body -/
def Raises (X : Cx) (C : Addr) (Eh : Hp → Prop) : Prop := ∀ (pins : List (Addr × Obj)) (σ : St) (H : Hp) (s : Shared) (h' : Heap) (e : Addr) (vs : List Value), Inv X pins σ H s → Heap.MadeExcOf s.heap h' e (.ref C) vs → Eh H → X.xe (.ref e) { s with heap := h' }
/-- what stands behind the making of the object: all is left but the frame -/
theorem raises_core {C : Addr} {pins : List (Addr × Obj)} {σ : St} {H H1 : Hp} {s s1 : Shared} {e t : Addr} {oe : Obj} {vs : Array Value} (I : Inv (cxOf (CXE P w) P w K mg base N qual scope f cdv A outer s0 H0 E) pins σ H s) (new : s.heap.get? e = none)
    (I1 : Inv (cxOf (CXE P w) P w K mg base N qual scope f cdv A outer s0 H0 E) pins σ H1 s1) (he : s1.heap.get? e = some oe) (hcl : oe.cls = .ref C) (hd : oe.data = .fields vs) (h0 : vs[0]? = some (.ref t)) (h1 : vs[1]? = some .none) (hn : H1 e = none) (hE : E (.ref C) oe.dict H1) :
    (cxOf (CXE P w) P w K mg base N qual scope f cdv A outer s0 H0 E).xe (.ref e) s1 := by
  have hst : (cxOf (CXE P w) P w K mg base N qual scope f cdv A outer s0 H0 E).A.frames = some (envOfC qual scope s0.heap.objs.size f cdv :: outer) := I.ok.frames
  have hin : ∀ env ∈ (envOfC qual scope s0.heap.objs.size f cdv :: outer), ∀ a, env.frame = some a → a ∈ e :: frs (envOfC qual scope s0.heap.objs.size f cdv :: outer) := fun env hq a ha => List.mem_cons_of_mem _ (List.mem_filterMap.mpr ⟨env, hq, ha⟩)
  have hB : (PySem.W.hideAll s1.heap (e :: frs (envOfC qual scope s0.heap.objs.size f cdv :: outer))).StaysIn s1.heap := fun b o q => PySem.W.of_hideAll _ q
  have inB : ∀ b o, s1.heap.get? b = some o → b ≠ e → b ∉ frs (envOfC qual scope s0.heap.objs.size f cdv :: outer) → ∃ ob, (PySem.W.hideAll s1.heap (e :: frs (envOfC qual scope s0.heap.objs.size f cdv :: outer))).get? b = some ob := fun b o q n1 n2 => ⟨o, PySem.W.hideAll_get _ q fun z => (List.mem_cons.mp z).elim n1 n2⟩
  have hen : (PySem.W.hideAll s1.heap (e :: frs (envOfC qual scope s0.heap.objs.size f cdv :: outer))).get? e = none := PySem.W.hideAll_none _ List.mem_cons_self
  refine XF.leaves_made (base := PySem.W.hideAll s1.heap (e :: frs (envOfC qual scope s0.heap.objs.size f cdv :: outer))) hst rfl hB (PySem.W.funFrames_hide I1.stack hin) he hen hd h1 h0 fun h2 fl dd up => ?_
  have old : ∀ b o, s0.heap.get? b = some o → b ∉ frs (envOfC qual scope s0.heap.objs.size f cdv :: outer) → ∃ ob, (PySem.W.hideAll s1.heap (e :: frs (envOfC qual scope s0.heap.objs.size f cdv :: outer))).get? b = some ob := fun b o q n => by
    obtain ⟨o1, q1⟩ := I.base.there b o q (fun z => nomatch z)
    obtain ⟨o', q'⟩ := I1.base.there b o q (fun z => nomatch z)
    exact inB b o' q' (fun z => by rw [z] at q1; have q1 : s.heap.get? e = some o1 := q1; rw [new] at q1; cases q1) n
  have trk : ∀ b o, H1 b = some o → ∃ ob, (PySem.W.hideAll s1.heap (e :: frs (envOfC qual scope s0.heap.objs.size f cdv :: outer))).get? b = some ob := fun b o q => by
    have n2 : b ∉ frs (envOfC qual scope s0.heap.objs.size f cdv :: outer) := fun z => by
      have := I1.stkFree b z
      rw [q] at this; cases this
    obtain ⟨ob, hob⟩ := obj_get (I1.hok b o q)
    exact inB b ob hob (ne_of_none q hn) n2
  obtain ⟨un, hok⟩ := fly_out (E := E) (xe := (cxOf (CXE P w) P w K mg base N qual scope f cdv A outer s0 H0 E).xe) (h' := h2) I1 old trk hB fl.1 up
  refine ⟨e, C, t, oe.dict, H1, _, rfl, ⟨.none, hcl ▸ fl⟩, dd, I1.os, I1.bare, un, hok, fun b o q n => old b o q fun z => ?_, trk, hE⟩
  have z : b ∈ s0.heap.objs.size :: frs outer := z
  rcases List.mem_cons.mp z with z | z
  · exact Nat.lt_irrefl _ (z ▸ Heap.lt_size q)
  · exact n z
theorem raises_def {C : Addr} : Raises (cxOf (CXE P w) P w K mg base N qual scope f cdv A outer s0 H0 E) C (fun H => E (.ref C) none H) := by
  intro pins σ H s h' e vs I hx hE
  obtain ⟨t, he, _, _⟩ := hx.there
  have I1 : Inv (cxOf (CXE P w) P w K mg base N qual scope f cdv A outer s0 H0 E) pins σ H { s with heap := h' } := I.call' (ch := []) rfl (Un.kept hx.keeps) (I.hok.kept hx.keeps) I.bare (fun b z => nomatch z)
  refine raises_core I hx.new I1 he rfl rfl rfl rfl ?_ hE
  cases q : H e with
  | none => rfl
  | some o =>
    obtain ⟨ob, hob⟩ := obj_get (I.hok e o q)
    rw [hx.new] at hob; cases hob
/-- an exception of a callee goes through a def's body -/
theorem passes_def : Passes (CXE P w) (cxOf (CXE P w) P w K mg base N qual scope f cdv A outer s0 H0 E) E := by
  intro pins σ H s e s' I h
  obtain ⟨ea, C, t, d, H', B, rfl, F⟩ := h
  have hst : (cxOf (CXE P w) P w K mg base N qual scope f cdv A outer s0 H0 E).A.frames = some (envOfC qual scope s0.heap.objs.size f cdv :: outer) := I.ok.frames
  have I' : Inv (cxOf (CXE P w) P w K mg base N qual scope f cdv A outer s0 H0 E) pins σ H' s' := I.call' (ch := []) F.os F.un F.hok F.bare (fun b z => nomatch z)
  obtain ⟨flv, fl⟩ := (show ∃ fl, XF.FlyF B (envOfC qual scope s0.heap.objs.size f cdv :: outer) ea (.ref C) (.ref t) fl s'.heap from F.fl)
  have old : ∀ b o, s0.heap.get? b = some o → b ∉ frs (envOfC qual scope s0.heap.objs.size f cdv :: outer) → ∃ ob, B.get? b = some ob := fun b o e n => by
    obtain ⟨o', e'⟩ := I.base.there b o e (fun z => nomatch z)
    exact F.old b o' e' n
  refine XF.leaves_on hst rfl fl F.dict fun h2 fl2 dd up => ?_
  obtain ⟨un, hok⟩ := fly_out (E := E) (xe := (cxOf (CXE P w) P w K mg base N qual scope f cdv A outer s0 H0 E).xe) (h' := h2) I' old F.trk fl.1 fl2.1 up
  refine ⟨ea, C, t, d, H', B, rfl, ⟨_, fl2⟩, dd, I'.os, I'.bare, un, hok, fun b o e n => old b o e fun z => ?_, F.trk, F.wish⟩
  have z : b ∈ s0.heap.objs.size :: frs outer := z
  rcases List.mem_cons.mp z with z | z
  · exact Nat.lt_irrefl _ (z ▸ Heap.lt_size e)
  · exact n z
/-- where no exception is wished, none comes -/
theorem passes_never {X : Cx} : Passes (CXE P w) X E0 := fun _ _ _ _ _ _ _ h => by
  obtain ⟨_, _, _, _, _, _, _, F⟩ := h
  exact F.wish.elim
/-- a promise that names no exception is one that might -/
theorem FnOk.cx0 {k : Nat} {fd : FuncData} {ps : List Str} {sp : Sp} (F : FnOk P w K mg base CX0 k f fd ps sp) : FnOk P w K mg base (CXE P w) k f fd ps sp :=
  ⟨F.len, fun A outer s H args us vs Q E hr he hb hv hs => codeAny_mono (F.run A outer s H args us vs Q E hr he hb hv hs) fun r s' q => by
    cases r with
    | error e => exact (show False from q).elim
    | ok fl =>
      cases fl with
      | ret u => exact q
      | next => exact (show False from q).elim
      | brk => exact (show False from q).elim
      | cont => exact (show False from q).elim⟩
end
section
variable {X : Cx}
theorem ps_raise {x : Str} {C : Addr} {Eh : Hp → Prop} {B newId initId : String} {bm : List Value} {np cpos pos : Pos} {e : Expr} {es : List Expr} {t : TA} (hR : Raises X C Eh) (hK : PySem.W.excIn X.K C bm newId = true) (FB : ExcBaseFacts B newId initId bm)
    (hc : X.calm = true) (hg : Gl X x) (hm : X.mg x = some (.ref C)) (ha : PA X (e :: es) t) (hd : (x == ("__debug__" : Str)) = false := by decide)
    (he : starEach (e :: es) X.env = (false, eval e X.env) :: starEach es X.env := by rfl) (hpl : (backTo cpos (starEach es X.env)).any (·.1) = false := by rfl) :
    PS X (.Raise (some (.Call (.Name x np) (e :: es) [] cpos)) none pos) (fun _ σ H => t σ H fun vs H1 => vs.length ≤ sizeLine ∧ Eh H1) := by
  intro pins s σ H D I h
  obtain ⟨tl, N, nm, q, bs, hdct, sn, sub, ab, col, dd, k0, k1, k2, k3, k5, mN, hC, hN, hni, T⟩ := exc_obj I.ok.mod.kin hK
  refine wpAny_Raise_call_subT (C := C) (nm := nm) (q := q) (N := N) (bs := bs) (bm := tl) (hdct := hdct) (sn := sn) (sub := sub) (ab := ab) (col := col) (dd := dd) (k0 := k0) (k1 := k1) (k2 := k2) (k3 := k3) (k5 := k5)
    FB (mN := mN) (T.hasType FB.hasBase) (I.ok.hd hc) (by rw [he]; show (false || (backTo cpos (starEach es X.env)).any (·.1)) = false; rw [hpl]; rfl) hni (ld_glob I hg hm ⟨rfl, ?_⟩ hd)
  have hA := ha cpos pins s σ H _ I h
  rw [he] at hA ⊢
  refine Calls.evalArgs_plain (thn hA fun us s2 ⟨vs, H2, I2, r2, hz, hE⟩ => ⟨rfl, by rw [← r2.length]; exact hz, I2.bk _ _ hC, hN.keeps I2.bk, T.keeps I2.bk, fun h' e hx => hR pins σ H2 s2 h' e us I2 hx hE⟩)
end
end L2
/-! DEFS that raise, over data -/
namespace DL
open PySem PySem.Spec PyProof.Rows L2
/-- the wish about an exception of that name -/
def GX (mg : Str → Option Value) (E : XK) (x : XD) (H : Hp) : Prop := ∀ C, mg x.cls = some (.ref C) → match x.flds with
  | [] => E (.ref C) none H
  | [(f, .int i)] => ∀ a, H a = none → E (.ref C) (some a) (upd H a (.xd [(f, .int i)]))
  | _ => True
/-- a def does what F says, exceptions too -/
def spX (K : PySem.W.Frag) (mg : Str → Option Value) (n : Nat) (F : List D → M D) : Sp := fun vs H Q E => ∃ O ds, vs.length = n ∧ (∀ l ∈ O, Mu H l) ∧ Reps K O H vs ds ∧ ok (GS (GX mg E) H) (F ds) (fun d => ∀ v H', Same H H' → Rep K O H' v d → Q v H')
structure DefX (P : Program) (w : World) (K : PySem.W.Frag) (mg : Str → Option Value) (base : Heap) (k : Nat) (x : Str) (n : Nat) (F : List D → M D) : Prop where
  ex : ∃ (f : Addr) (fd : FuncData) (ps : List Str), FnOk P w K mg base (CXE P w) k f fd ps (spX K mg n F) ∧ mg x = some (.ref f) ∧ PySem.W.keepIn K (.ref f) = true ∧ Binds K fd ps []
section
variable {X : Cx} {G : XD → Hp → Prop} {e : Expr} {es : List Expr} {fa : DS → M (List D)} {pos : Pos}
theorem ok_weak {α : Type} {G G' : XD → Prop} {r : M α} {k : α → Prop} (h : ok G r k) (f : ∀ x, G x → G' x) : ok G' r k := by
  match r, h with
  | some (.ok a), h => exact h
  | some (.error x), h => exact f x h
/-- a call whose exceptions go on to E -/
theorem pd_callX {k n : Nat} {x : Str} {p : Pos} {F : List D → M D} {E : XK} (h : DefX X.prog X.w X.K X.mg X.base k x n F) (hr : Room k X.A) (hx : Passes (CXE X.prog X.w) X E) (hG : ∀ x H, G x H → GX X.mg E x H) (hg : Gl X x) (hn : (e :: es).length = n) (ha : PDA X G (e :: es) fa)
    (hdb : (x == ("__debug__" : Str)) = false := by decide) (he : starEach (e :: es) X.env = (false, eval e X.env) :: starEach es X.env := by rfl) (hpl : (backTo pos (starEach es X.env)).any (·.1) = false := by rfl) :
    PD X G (.Call (.Name x p) (e :: es) [] pos) (dCall F fa) := by
  obtain ⟨f, fd, ps, F1, hm, hk, hb⟩ := h.ex
  obtain ⟨hl, t, pa, ha⟩ := ha
  refine ⟨_, pe_call F1 hr hg hm hk hb .nil hx pa hdb he hpl, @fun Hr δ O σ H Q E0 k => ?_⟩
  have k1 := ok_thn k
  refine ha δ O σ H _ E0 ?_
  cases e1 : fa δ with
  | none => rw [e1] at k1; exact k1.elim
  | some r =>
    rw [e1] at k1
    cases r with
    | error x => exact k1
    | ok ds =>
      refine fun vs H1 s1 rs => ?_
      refine ⟨O, ds, ?_, (E0.same s1).oo, ?_, ok_weak (ok_mono k1 fun d z v H2 s2 r => z v H2 (s1.trans s2) r) fun y q H2 s2 => hG y H2 (q H2 ((E0.same s1).root.trans s2))⟩
      · rw [List.append_nil, rs.length, hl δ ds e1]
        exact hn
      · rw [List.append_nil]
        exact rs
/-- a call out of which no exception comes -/
theorem pd_callN {k n : Nat} {x : Str} {p : Pos} {F : List D → M D} (h : DefX X.prog X.w X.K X.mg X.base k x n F) (hr : Room k X.A) (hg : Gl X x) (hn : (e :: es).length = n) (ha : PDA X G (e :: es) fa)
    (hdb : (x == ("__debug__" : Str)) = false := by decide) (he : starEach (e :: es) X.env = (false, eval e X.env) :: starEach es X.env := by rfl) (hpl : (backTo pos (starEach es X.env)).any (·.1) = false := by rfl) :
    PD X G (.Call (.Name x p) (e :: es) [] pos) (dCall (fun ds => noX (F ds)) fa) := by
  obtain ⟨f, fd, ps, F1, hm, hk, hb⟩ := h.ex
  obtain ⟨hl, t, pa, ha⟩ := ha
  refine ⟨_, pe_call F1 hr hg hm hk hb .nil passes_never pa hdb he hpl, fun δ O σ H Q E0 k => ?_⟩
  have k1 := ok_thn k
  refine ha δ O σ H _ E0 ?_
  cases e1 : fa δ with
  | none => rw [e1] at k1; exact k1.elim
  | some r =>
    rw [e1] at k1
    cases r with
    | error x => exact k1
    | ok ds =>
      refine fun vs H1 s1 rs => ?_
      refine ⟨O, ds, ?_, (E0.same s1).oo, ?_, ok_false (ok_mono (ok_noX k1) fun d z v H2 s2 r => z v H2 (s1.trans s2) r)⟩
      · rw [List.append_nil, rs.length, hl δ ds e1]
        exact hn
      · rw [List.append_nil]
        exact rs
/-- raise C(..) -/
def gRaise (x : Str) (fa : DS → M (List D)) : DS → M Out := fun δ => (fa δ).thn fun ds => if small ds.length then some (.error ⟨x, []⟩) else none
theorem pd_raise {x : Str} {C : Addr} {B newId initId : String} {bm : List Value} {np cpos : Pos} {E : XK} (hR : Raises X C (fun H => E (.ref C) none H)) (hG : ∀ x H, G x H → GX X.mg E x H) (hK : PySem.W.excIn X.K C bm newId = true) (FB : ExcBaseFacts B newId initId bm)
    (hc : X.calm = true) (hg : Gl X x) (hm : X.mg x = some (.ref C)) (ha : PDA X G (e :: es) fa) (hd : (x == ("__debug__" : Str)) = false := by decide)
    (he : starEach (e :: es) X.env = (false, eval e X.env) :: starEach es X.env := by rfl) (hpl : (backTo cpos (starEach es X.env)).any (·.1) = false := by rfl) :
    PDS X G (.Raise (some (.Call (.Name x np) (e :: es) [] cpos)) none pos) (gRaise x fa) := by
  obtain ⟨_, t, pa, ha⟩ := ha
  refine ⟨_, ps_raise hR hK FB hc hg hm pa hd he hpl, @fun Hr R0 P0 H0 δ O σ H Dn E1 k => ?_⟩
  refine ha δ O σ H _ E1.ev (ok_mono (ok_thn k) fun ds z vs H1 s1 rs => ?_)
  by_cases hz : small ds.length = true
  · rw [if_pos hz] at z
    exact ⟨by rw [rs.length]; exact small_le hz, hG _ _ (z H1 (E1.ev.root.trans s1)) C hm⟩
  · rw [if_neg hz] at z
    exact z.elim
end
section
variable {P : Program} {w : World} {K : PySem.W.Frag} {mg : Str → Option Value} {base : Heap}
/-- a def whose exceptions leave it -/
theorem defX_of {x qual : Str} {st : Stmt} {f : Addr} {fd : FuncData} {N ps : List Str} {k : Nat} {g : DS → M Out} (F0 : Fun K x qual st f fd) (S : FnScope N ps (defScope st)) (hm : mg x = some (.ref f)) (hb : Binds K fd ps [])
    (hbody : ∀ (cdv : Value) (A : Around) (outer : List Env) (s : Shared) (H : Hp) (E : XK), Room k (A.deeper (envOfC qual (defScope st) s.heap.objs.size f cdv)) →
      PDSs (cxOf (CXE P w) P w K mg base N qual (defScope st) f cdv A outer s H E) (GX mg E) (defBody st) g) : DefX P w K mg base (k + 1) x ps.length (run N.length g) := by
  refine ⟨f, fd, ps, ?_, hm, F0.kp, hb⟩
  obtain ⟨oc, od, kV, doc, pm, an, cdv, ct, osl, rfl, lk, hcd⟩ := F0.ex
  refine fn_of lk hcd S (fun vs H Q E h => ?_) fun A outer s H vs Q E hr h => ?_
  · obtain ⟨O, ds, hl, _⟩ := h
    exact hl
  · obtain ⟨O, ds, hl, oo, r, q⟩ := h
    obtain ⟨t, p, hB⟩ := hbody cdv A outer s H E hr
    refine ⟨t, p, hB O (fun _ => False) H (startD N.length ds) O (L2.start N vs) H _ ⟨ev_start N oo r, fun l hl => .inl hl, fun b o _ h => h, fun l hl => .inl hl, fun i es l h1 ho h2 => ?_, fun l hl => hl⟩ (ok_mono (ok_thn q) fun o z => ?_)⟩
    · exact (start_no h1 ho).elim
    · cases o with
      | rt d => exact fun v H' kp r => z v H' (fun b o h => kp b o (fun w => w) h) r
      | nx δ => exact fun O' σ' H' E' => z .non H' (fun b o h => E'.keep b o (fun w => w) h) .non
      | bk δ => exact z.elim
      | ct δ => exact z.elim
/-- a def that raises nothing -/
theorem Def.x {k n : Nat} {x : Str} {F : List D → M D} (h : Def P w K mg base k x n F) : DefX P w K mg base k x n (fun ds => noX (F ds)) := by
  obtain ⟨f, fd, ps, F1, hm, hk, hb⟩ := h.ex
  exact ⟨f, fd, ps, F1.cx0.imp fun vs H Q E ⟨O, ds, hl, oo, r, q⟩ => ⟨O, ds, hl, oo, r, ok_noX q⟩, hm, hk, hb⟩
end
end DL
/-! TRY with one clause «except C as n», C the very class that is raised -/
namespace L2
open PySem PySem.Spec PyProof.Rows
section
variable {X : Cx}
/-- from the state ahead of a call to a heap behind a station: the def's state again -/
theorem fly_on {pins : List (Addr × Obj)} {σ : St} {H H' : Hp} {s s' : Shared} {E : XK} {ea C t : Addr} {d : Option Addr} {B h5 : Heap} (I : Inv X pins σ H s) (F : Fly X.prog X.w X.stack H s E ea C t d H' B s') (k5 : B.StaysIn h5) (up : s'.heap.UpToSlots h5) : Inv X pins σ H' { s' with heap := h5 } := by
  have k1 : B.StaysIn s'.heap := let ⟨_, z⟩ := F.fl; z.1
  have mv : ∀ {b : Addr} {u : Obj}, (∃ ob, B.get? b = some ob) → s'.heap.get? b = some u → h5.get? b = some u := fun {b u} hb e => by
    obtain ⟨ob, q⟩ := hb
    have := k1 b ob q
    rw [e] at this
    cases this
    exact k5 b _ q
  have fr : ∀ {b : Addr}, b ∈ frs X.stack → ∀ {o : Obj}, s.heap.get? b = some o → ∃ sl, h5.get? b = some { o with slots := sl } := fun {b} hb {o} e => by
    obtain ⟨_, o', ho', hd⟩ := I.stack.mem hb
    rw [e] at ho'
    cases ho'
    obtain ⟨sl, e1⟩ := F.un.slot b o e (I.stkFree b hb) hb (fun z => nomatch z)
    obtain ⟨sl', e2⟩ := up b _ e1 hd
    exact ⟨sl', e2⟩
  refine I.call' (ch := []) F.os ⟨fun b o e n h1 h2 => mv (F.old b o e h1) (F.un.keep b o e n h1 h2), fun b o e n h1 h2 => fr h1 e, F.un.free, fun b o e h2 => ?_, F.un.tups, F.un.frzs, F.un.tbls⟩ (fun a o e => (F.hok a o e).stay (fun b u hb q => mv ?_ q) (fun _ q => q) fun _ _ q => q) F.bare (fun b z => nomatch z)
  · by_cases h1 : b ∈ frs X.stack
    · obtain ⟨sl, q⟩ := fr h1 e
      exact ⟨_, q⟩
    · obtain ⟨ob, q⟩ := F.old b o e h1
      exact ⟨ob, k5 b ob q⟩
  · rcases hb with rfl | hb
    · exact F.trk _ _ e
    · exact F.trk _ _ hb
/-- the def's own names, changed -/
theorem Inv.names {pins : List (Addr × Obj)} {σ σ' : St} {H : Hp} {s : Shared} {h' : Heap} (I : Inv X pins σ H s) (hs : Heap.SameBut X.env.locals s.heap h') (hl : σ'.length = σ.length)
    (hn : ∃ m, h'.Ns X.env.locals m ∧ ∀ (i : Nat) (x : Str) (v : V), X.N[i]? = some x → σ'[i]? = some (some v) → Vis X.env.scope x → ∃ u, RelV v u ∧ Look X.env h' m x u) : Inv X pins σ' H { s with heap := h' } := by
  have old : ∀ {b : Addr} {o : Obj}, X.s₀.heap.get? b = some o → b ≠ X.env.locals := fun e => Nat.ne_of_lt (Nat.lt_of_lt_of_le (Heap.lt_size e) I.ok.above)
  refine ⟨I.ok, I.os, I.bare, ⟨fun b o e n hb hx => (hs.2 b (old e)).trans (I.base.keep b o e n hb hx), fun b o e n hb hx => ?_, I.base.free, fun b o e hx => ?_, I.base.tups, I.base.frzs, I.base.tbls⟩, hn, fun y c e => ?_, I.free, I.freeC, fun p hp => ?_, fun a o e => ?_, hl.trans I.len⟩
  · obtain ⟨sl, q⟩ := I.base.slot b o e n hb hx
    exact ⟨sl, (hs.2 b (old e)).trans q⟩
  · obtain ⟨o', q⟩ := I.base.there b o e hx
    exact ⟨o', (hs.2 b (old e)).trans q⟩
  · obtain ⟨v, z⟩ := I.cell y c e
    exact ⟨v, z.sameBut hs (I.cne y c e)⟩
  · obtain ⟨e, n, ne, nf, d⟩ := I.pin p hp
    exact ⟨(hs.2 p.1 ne).trans e, n, ne, nf, d⟩
  · refine (I.hok a o e).stay (fun b u hb q => (hs.2 b ?_).trans q) (fun _ q => q) fun _ _ q => q
    rcases hb with rfl | hb
    · exact ne_of_none e I.free
    · exact ne_of_none hb I.free
/-- the body's context: the state's pins are borne by every state in it -/
abbrev Cx.tri (X : Cx) (pn : List (Addr × Obj)) (xe : Value → Shared → Prop) : Cx := { X with pn := pn, xe := xe }
theorem Inv.tri {pins : List (Addr × Obj)} {σ : St} {H : Hp} {s : Shared} (I : Inv X pins σ H s) (xe : Value → Shared → Prop) : Inv (X.tri (X.pn ++ pins) xe) [] σ H s :=
  ⟨⟨I.ok.mod, I.ok.kind, I.ok.glob, I.ok.blt, I.ok.above, I.ok.inj, I.ok.has, I.ok.cab, I.ok.hd, I.ok.frames, I.ok.stk, I.ok.exf, I.ok.bs, I.ok.bsz, I.ok.noex, I.ok.exfs, I.ok.funs, I.ok.frf⟩,
    I.os, I.bare, I.base, I.loc, I.cell, I.free, I.freeC, fun p hp => I.pin p (by simpa using hp), I.hok, I.len⟩
theorem Inv.untri {pins pins' : List (Addr × Obj)} {σ : St} {H : Hp} {s : Shared} {xe : Value → Shared → Prop} (I : Inv (X.tri (X.pn ++ pins) xe) pins' σ H s) : Inv X pins σ H s :=
  ⟨⟨I.ok.mod, I.ok.kind, I.ok.glob, I.ok.blt, I.ok.above, I.ok.inj, I.ok.has, I.ok.cab, I.ok.hd, I.ok.frames, I.ok.stk, I.ok.exf, I.ok.bs, I.ok.bsz, I.ok.noex, I.ok.exfs, I.ok.funs, I.ok.frf⟩,
    I.os, I.bare, I.base, I.loc, I.cell, I.free, I.freeC, fun p hp => I.pin p (List.mem_append_left _ hp), I.hok, I.len⟩
/-- the suite's context: the exception is held -/
abbrev Cx.held (X : Cx) (pn : List (Addr × Obj)) (e : Addr) : Cx := { X with A := X.A.mark (some (.ref e)), calm := false, pn := pn, xe := fun _ _ => False }
theorem Inv.held {pins : List (Addr × Obj)} {σ : St} {H : Hp} {s : Shared} {e : Addr} {oe : Obj} (I : Inv X pins σ H s) (he : s.heap.get? e = some oe ∧ H e = none ∧ e ≠ X.env.locals ∧ e ∉ X.fs ∧ ∀ v, oe.data ≠ .cell v) : Inv (X.held (X.pn ++ pins ++ [(e, oe)]) e) [] σ H s :=
  ⟨⟨I.ok.mod, I.ok.kind, I.ok.glob, I.ok.blt, I.ok.above, I.ok.inj, I.ok.has, I.ok.cab, (fun z => nomatch z), I.ok.frames, I.ok.stk, I.ok.exf, I.ok.bs, I.ok.bsz, I.ok.noex, I.ok.exfs, I.ok.funs, I.ok.frf⟩,
    I.os, I.bare, I.base, I.loc, I.cell, I.free, I.freeC, fun p hp => by
      have hp : p ∈ (X.pn ++ pins ++ [(e, oe)]) ++ [] := hp
      rw [List.append_nil] at hp
      rcases List.mem_append.mp hp with hp | hp
      · exact I.pin p hp
      · rw [List.mem_singleton.mp hp]; exact he, I.hok, I.len⟩
theorem Inv.unheld {pins pins' : List (Addr × Obj)} {σ : St} {H : Hp} {s : Shared} {e : Addr} {oe : Obj} (hd : X.calm = true → X.A.handled = none) (I : Inv (X.held (X.pn ++ pins ++ [(e, oe)]) e) pins' σ H s) : Inv X pins σ H s :=
  ⟨⟨I.ok.mod, I.ok.kind, I.ok.glob, I.ok.blt, I.ok.above, I.ok.inj, I.ok.has, I.ok.cab, hd, I.ok.frames, I.ok.stk, I.ok.exf, I.ok.bs, I.ok.bsz, I.ok.noex, I.ok.exfs, I.ok.funs, I.ok.frf⟩,
    I.os, I.bare, I.base, I.loc, I.cell, I.free, I.freeC, fun p hp => I.pin p (List.mem_append_left _ (List.mem_append_left _ hp)), I.hok, I.len⟩
end
end L2
/-! TRY: the rule -/
namespace L2
open PySem PySem.Spec PyProof.Rows
section
variable {X : Cx}
/-- the widest reading of statements -/
def tCan (X : Cx) (sts : List Stmt) : TS := fun D σ H => ∃ t, PSs X sts t ∧ t D σ H
theorem pss_can {sts : List Stmt} : PSs X sts (tCan X sts) := fun pins s σ H D I ⟨_, p, h⟩ => p pins s σ H D I h
/-- behind the suite its name is gone -/
def Ends.gone (D : Ends) (i : Nat) : Ends := ⟨fun σ H => D.nx (σ.set i none) H, D.rt, fun σ H => D.bk (σ.set i none) H, fun σ H => D.ct (σ.set i none) H⟩
/-- try: .. except C as n: .. ; the suite knows no name but n -/
def tTry (X : Cx) (C : Addr) (i : Nat) (body suite : List Stmt) : TS := fun D σ H => ∃ Ex : XK,
  (∀ pn xe, Passes (CXE X.prog X.w) (X.tri pn xe) Ex → tCan (X.tri pn xe) body D σ H) ∧
  ∀ c d H', Ex c d H' → c = .ref C ∧ ∀ pn ea oe, (ea, oe) ∈ pn → oe.cls = .ref C → tCan (X.held pn ea) suite (D.gone i) ((List.replicate X.N.length none).set i (some (.ref ea))) H'
end
end L2
/-! TRY over data -/
namespace DL
open PySem PySem.Spec PyProof.Rows L2
section
variable {K : PySem.W.Frag} {Hr : Hp} {R0 : List Addr} {P0 : Addr → Prop} {H0 H H' : Hp} {O O' : List Addr} {σ : St} {δ : DS}
/-- the lists that are being built, forgotten -/
def Sl.noOw : Sl → Sl
  | .ow _ => .un
  | .od _ => .un
  | s => s
def noOw (δ : DS) : DS := δ.map Sl.noOw
def Out.gone (i : Nat) : Out → Out
  | .nx δ => .nx (δ.set i .un)
  | .rt d => .rt d
  | .bk δ => .bk (δ.set i .un)
  | .ct δ => .ct (δ.set i .un)
/-- from here on all that stands stays -/
theorem EI.fresh (E : EI K Hr R0 P0 H0 O H σ δ) : EI K H O (fun _ => False) H O H σ (noOw δ) := by
  have no : ∀ {i : Nat} {s : Sl}, (noOw δ)[i]? = some s → s.own → False := fun {i s} h ho => by
    unfold noOw at h
    rw [List.getElem?_map] at h
    cases e : δ[i]? with
    | none => rw [e] at h; cases h
    | some s => rw [e] at h; cases s <;> (cases h; exact ho)
  refine ⟨⟨fun _ _ h => h, E.ev.oo, by unfold noOw; rw [List.length_map]; exact E.ev.len, fun i s h => ?_, fun i j l ds es _ h1 => (no h1 trivial).elim⟩, fun l hl => .inl hl, fun b o _ h => h, fun l hl => .inl hl, fun i ds l h1 ho => (no h1 ho).elim, fun l hl => hl⟩
  unfold noOw at h
  rw [List.getElem?_map] at h
  cases e : δ[i]? with
  | none => rw [e] at h; cases h
  | some s' =>
    rw [e] at h
    have q := E.ev.at_ i s' e
    cases s' <;> cases h
    · trivial
    · exact q
    · trivial
    · trivial
    · exact q
theorem EI.back {σ' : St} {δ' : DS} (E : EI K Hr R0 P0 H0 O H σ δ) (F : EI K H O (fun _ => False) H O' H' σ' δ') : EI K Hr R0 P0 H0 O' H' σ' δ' := by
  refine ⟨⟨E.ev.root.trans F.ev.root, F.ev.oo, F.ev.len, F.ev.at_, F.ev.dis⟩, fun l hl => ?_, fun b o n h => F.keep b o (fun z => z) (E.keep b o n h), fun l hl => ?_, fun i ds l h1 ho h2 h3 => F.nr1 i ds l h1 ho h2 (E.sub l h3), fun l hl => F.sub l (E.sub l hl)⟩
  · rcases F.omr l hl with z | z
    · exact E.omr l z
    · refine .inr ?_
      cases e : Hr l with
      | none => rfl
      | some o => rw [E.ev.root l o e] at z; cases z
  · rcases F.omr l hl with z | z
    · exact E.om l z
    · by_cases hp : P0 l
      · exact .inr (.inl hp)
      · refine .inr (.inr ?_)
        cases e : H0 l with
        | none => rfl
        | some o => rw [E.keep l o hp e] at z; cases z
theorem Fin.fresh {Dn : Ends} {o : Out} (E : EI K Hr R0 P0 H0 O H σ δ) (h : Fin K Hr R0 P0 H0 Dn o) : Fin K H O (fun _ => False) H Dn o := by
  cases o with
  | nx δ' => exact fun O' σ' H' F => h O' σ' H' (E.back F)
  | rt d => exact fun v H' kp r => h v H' (fun b o n q => kp b o (fun z => z) (E.keep b o n q)) (r.to (.less E.sub))
  | bk δ' => exact fun O' σ' H' F => h O' σ' H' (E.back F)
  | ct δ' => exact fun O' σ' H' F => h O' σ' H' (E.back F)
theorem EI.unset {i : Nat} (E : EI K Hr R0 P0 H0 O H σ δ) : EI K Hr R0 P0 H0 O H (σ.set i none) (δ.set i .un) := by
  have ne : ∀ {j : Nat} {ds : List D}, (δ.set i .un)[j]? = some (.ow ds) → i ≠ j ∧ δ[j]? = some (.ow ds) := fun {j ds} h => by
    rw [get_set] at h
    by_cases hij : i = j
    · rw [if_pos hij] at h
      split at h <;> cases h
    · rw [if_neg hij] at h
      exact ⟨hij, h⟩
  refine ⟨⟨E.ev.root, E.ev.oo, by rw [List.length_set, List.length_set]; exact E.ev.len, fun j s h => ?_, fun j k l ds es hjk h1 h2 h3 h4 => ?_⟩, E.omr, E.keep, E.om, fun j ds l h1 ho h2 => ?_, E.sub⟩
  · rw [get_set] at h ⊢
    by_cases hij : i = j
    · rw [if_pos hij] at h
      split at h
      · cases h; trivial
      · cases h
    · rw [if_neg hij] at h ⊢
      exact E.ev.at_ j s h
  · obtain ⟨n1, h1⟩ := ne h1
    obtain ⟨n2, h2⟩ := ne h2
    rw [get_set, if_neg n1] at h3
    rw [get_set, if_neg n2] at h4
    exact E.ev.dis j k l ds es hjk h1 h2 h3 h4
  · rw [get_set] at h1 h2
    by_cases hij : i = j
    · rw [if_pos hij] at h1
      split at h1
      · cases h1; exact ho.elim
      · cases h1
    · rw [if_neg hij] at h1 h2
      exact E.nr1 j ds l h1 ho h2
theorem Fin.gone {Dn : Ends} {i : Nat} {o : Out} (h : Fin K Hr R0 P0 H0 Dn (o.gone i)) : Fin K Hr R0 P0 H0 (Dn.gone i) o := by
  cases o with
  | nx δ' => exact fun O' σ' H' F => h O' _ H' F.unset
  | rt d => exact h
  | bk δ' => exact fun O' σ' H' F => h O' _ H' F.unset
  | ct δ' => exact fun O' σ' H' F => h O' _ H' F.unset
/-- the names in the suite -/
def exS (N i : Nat) (a : Addr) : DS := (List.replicate N Sl.un).set i (.ex a)
theorem ei_exS {N i : Nat} {a : Addr} (E : EI K Hr R0 P0 H0 O H σ δ) (s : Same H H') : EI K H O (fun _ => False) H O H' ((List.replicate N none).set i (some (.ref a))) (exS N i a) := by
  have no : ∀ {j : Nat} {s : Sl}, (exS N i a)[j]? = some s → s.own → False := fun {j s} h ho => by
    unfold exS at h
    rw [get_set, List.getElem?_replicate] at h
    split at h <;> (try split at h) <;> (cases h; try exact ho)
  refine ⟨⟨s, fun l hl => (E.ev.oo l hl).same s, by unfold exS; simp, fun j sl h => ?_, fun j k l ds es _ h1 => (no h1 trivial).elim⟩, fun l hl => .inl hl, fun b o _ h => s _ _ h, fun l hl => .inl hl, fun j ds l h1 ho => (no h1 ho).elim, fun l hl => hl⟩
  unfold exS at h
  rw [get_set, List.getElem?_replicate] at h
  rw [get_set]
  by_cases hij : i = j
  · rw [if_pos hij] at h ⊢
    rw [List.length_replicate] at h ⊢
    split at h
    · rename_i hlt
      rw [if_pos hlt]
      cases h
      rfl
    · cases h
  · rw [if_neg hij] at h
    split at h
    · cases h; trivial
    · cases h
open Classical in
/-- what the suite does, whichever object the exception is -/
noncomputable def trySuite (N i : Nat) (gs : Addr → DS → M Out) : M Out :=
  if h : ∃ r, ∀ a, (noX (gs a (exS N i a))).thn (fun o => M.ret (o.gone i)) = r then choose h else none
theorem trySuite_eq {N i : Nat} {gs : Addr → DS → M Out} {r : M Out} (h : ∀ a, (noX (gs a (exS N i a))).thn (fun o => M.ret (o.gone i)) = r) : trySuite N i gs = r := by
  unfold trySuite
  rw [dif_pos ⟨r, h⟩]
  have q := Classical.choose_spec (p := fun r => ∀ a, (noX (gs a (exS N i a))).thn (fun o => M.ret (o.gone i)) = r) ⟨r, h⟩
  exact (q 0).symm.trans (h 0)
theorem trySuite_at {N i : Nat} {gs : Addr → DS → M Out} {G : XD → Prop} {k : Out → Prop} (h : ok G (trySuite N i gs) k) (a : Addr) : ok G ((noX (gs a (exS N i a))).thn (fun o => M.ret (o.gone i))) k := by
  unfold trySuite at h
  split at h
  · rename_i q
    rw [Classical.choose_spec q a]
    exact h
  · exact h.elim
open Classical in
noncomputable def gTry (x : Str) (N i : Nat) (gb : DS → M Out) (gs : Addr → DS → M Out) : DS → M Out := fun δ => match gb (noOw δ) with
  | none => none
  | some (.ok o) => some (.ok o)
  | some (.error y) => if y.cls = x then trySuite N i gs else none
end
section
variable {X : Cx} {G : XD → Hp → Prop}
end
end DL
/-! ISINSTANCE of a held exception -/
namespace L2
open PySem PySem.Spec PySem.W PySem.Calls PyProof.Rows
open PySem.Builtin.ObjectAttr PySem.Builtin PySem.Builtin.Getset_descriptor
/-- an object of the own exception class D -/
def ExcAt (x D : Addr) (h : Heap) : Prop := ∃ o, h.get? x = some o ∧ o.cls = .ref D
/-- what the class must show for isinstance to end in False -/
def excKit (K : Frag) (D : Addr) : Bool :=
  (clsIn K D).isSome && (findIn K (.ref D) "__getattribute__" == some (some (.builtin "BaseException.__getattribute__"))) && (findIn K (.ref D) "__getattr__" == some none) &&
  (findIn K (.ref D) "__class__" == some (some (.builtin "object.__class__"))) && (specialIn K (.builtin "object.__class__") "__get__" == some (some (.builtin "getset_descriptor.__get__"))) &&
  (takesIn K (.builtin "object.__class__") == some true) && (mroIn K D (.type "object") == some true) && (mroIn K D (.type "BaseException") == some true)
section
variable {prog : Program} {w : World} {A : Around} {E : Value → Shared → Prop} {K : Frag} {x D : Addr} {h : Heap} {g : Array GenState} {d : Drawn} {t : Nat} {os : OsState}
theorem exc_type {M : Model} (p : ExcAt x D h) : Looks M h (typeOf (.ref x)) (.ref D) := by
  obtain ⟨o, h1, h2⟩ := p
  exact h2 ▸ (Looks.ld h1).andThen .now
theorem exc_find {M : Model} {name : Str} {a gv : Value} (X : K.In h) (ha : findIn K (.ref D) name = some (some a)) (hg : specialIn K a "__get__" = some (some gv)) (hd : takesIn K a = some true) : Looks M h (find (.ref x) (.ref D) name) (.bind gv a) := by
  have L1 := looks_findIn (M := M) X ha
  have L2 : Looks M h (getOf (some a)) (some gv) := looks_specialIn X hg
  refine L1.andThen (L2.andThen ?_)
  have L3 := looks_takesIn (M := M) X hd
  exact (show Looks M h (dataDescriptor? (some a) (some gv)) (some (gv, a)) from L3.andThen .now).andThen (Looks.tag .now)
theorem exc_class_get {tp : Value} {R : Result → Shared → Prop} (X : K.In h) (p : ExcAt x D h) (hm : mroIn K D (.type "object") = some true) (hq : R (.ok (.ret (.ref D))) ⟨h, g, d, t, os⟩) :
    codeAny (model prog w) A (.call (.builtin "getset_descriptor.__get__") ⟨[.builtin "object.__class__", .ref x, tp], []⟩) R ⟨h, g, d, t, os⟩ := by
  have L0 := exc_type (M := model prog w) p
  have L1 := looks_mroIn (M := model prog w) X hm
  refine codeAny_call_builtin KF.slot_gs.plain KF.entry_gs (KF.slot_gs.check _ _ _ _ _ _ _ _ KF.type_class (KF.args_gs _ _ _) ?_)
  unfold Builtin.«getset_descriptor.__get__» descrGet
  rw [dga_obj]
  refine wpAny_bind (wpAny_pure ?_)
  unfold descrGetter descrCheckInstance descrNameAndClass isInstance
  simp only [KF.owner_class]
  repeat lk
  refine ⟨Code.quiet_builtin _ (by decide +kernel), codeAny_builtin KF.entry_class ?_⟩
  unfold Builtin.«object.__class__» shownTypeOf
  repeat lk
  exact hq
theorem exc_entry {tk : Tok} {Q : Fin → Shared → Prop} (X : K.In h) (p : ExcAt x D h) (ha : findIn K (.ref D) "__class__" = some (some (.builtin "object.__class__")))
    (hn : specialIn K (.builtin "object.__class__") "__get__" = some (some (.builtin "getset_descriptor.__get__"))) (htk : takesIn K (.builtin "object.__class__") = some true) (hm : mroIn K D (.type "object") = some true)
    (hq : Q (.done (.ret (.ref D))) ⟨h, g, d, t, os⟩) :
    wpAny (model prog w) A (Builtin.«object.__getattribute__» ⟨[.ref x, .str "__class__" tk], []⟩) Q E ⟨h, g, d, t, os⟩ := by
  have L0 := exc_type (M := model prog w) p
  have L1 := exc_find (M := model prog w) (x := x) X ha hn htk
  unfold Builtin.«object.__getattribute__»
  repeat (any_goals (first | with_reducible refine Looks.at (by assumption) ?_ | wp_step))
  refine exc_class_get X p hm ?_
  repeat (any_goals (first | assumption | wp_step))
theorem exc_ga_check {M : Model} {nameV : Value} {Q : Unit → Shared → Prop} (X : K.In h) (p : ExcAt x D h) (hb : mroIn K D (.type "BaseException") = some true) (hq : Q () ⟨h, g, d, t, os⟩) :
    wpAny M A (checkBuiltinCall "BaseException.__getattribute__" ⟨[.ref x, nameV], []⟩) Q E ⟨h, g, d, t, os⟩ := by
  have L0 := exc_type (M := M) p
  have L1 := looks_mroIn (M := M) X hb
  have LI : Looks M h (isInstance (.ref x) (.type "BaseException")) true := L0.andThen L1
  have hk : builtinKind "BaseException.__getattribute__" = some .slot := by decide +kernel
  have hsplit : splitId "BaseException.__getattribute__" = some ("BaseException", "__getattribute__") := by decide +kernel
  have ha := F.args_bexc_ga (.ref x) nameV
  simp only [checkBuiltinCall, hk, hsplit]
  refine wpAny_bind (LI.at ?_)
  repeat (any_goals (first | assumption | wp_step))
theorem exc_class_attr {Q : Option Value → Shared → Prop} (hK : excKit K D = true) (X : K.In h) (p : ExcAt x D h) (hq : Q (some (.ref D)) ⟨h, g, d, t + 1, os⟩) : wpAny (model prog w) A (getAttr? (.ref x) "__class__") Q E ⟨h, g, d, t, os⟩ := by
  unfold excKit at hK
  simp only [Bool.and_eq_true, beq_iff_eq] at hK
  obtain ⟨⟨⟨⟨⟨⟨⟨hc, hga⟩, hgt⟩, ha⟩, hn⟩, htk⟩, hm⟩, hb⟩ := hK
  have L0 := exc_type (M := model prog w) p
  have L1 := looks_findIn (M := model prog w) X hga
  have L2 := looks_findIn (M := model prog w) X hgt
  have f3 : bindSpecial (.builtin "BaseException.__getattribute__") (.ref x) = pure (.builtin "BaseException.__getattribute__", [.ref x]) := F.excAttr_ValueError.ga.bind (.ref x)
  have hx2 : (Value.builtin "BaseException.__getattribute__" == Value.builtin "object.__getattribute__") = false := by decide +kernel
  have hx1 : (onTheHeap (Value.ref D) && Value.builtin "BaseException.__getattribute__" == Value.builtin "object.__getattribute__") = false := by rw [hx2]; rfl
  unfold getAttr? getAttrBy? getAttrBy
  repeat (any_goals (first | with_reducible refine Looks.at (by assumption) ?_ | assumption | wp_step))
  refine codeAny_call_builtin F.excAttr_ValueError.ga.plain F.entry_bexc_ga (exc_ga_check X p hb (exc_entry X p ha hn htk hm ?_))
  repeat (any_goals (first | assumption | wp_step))
theorem kitx_exc (hK : excKit K D = true) : KitX K (.ref x) (.ref D) (ExcAt x D) where
  ty := fun _ _ _ p => exc_type p
  it := fun _ _ X _ => by
    unfold excKit at hK
    simp only [Bool.and_eq_true] at hK
    obtain ⟨⟨⟨⟨⟨⟨⟨hc, _⟩, _⟩, _⟩, _⟩, _⟩, _⟩, _⟩ := hK
    obtain ⟨cdD, hcD⟩ := Option.isSome_iff_exists.mp hc
    unfold clsIn at hcD
    split at hcD
    · rename_i c' d' cd' sl' ho
      intro A' Q' E' s' k q
      unfold isType loadHead
      exact wpAny_bind (wpAny_loadPart (k _ _ (X _ _ ho)) (wpAny_pure q))
    · cases hcD
  ne := fun h tp dd its n sl X htp => by
    unfold excKit at hK
    simp only [Bool.and_eq_true] at hK
    obtain ⟨⟨⟨⟨⟨⟨⟨hc, _⟩, _⟩, _⟩, _⟩, _⟩, _⟩, _⟩ := hK
    obtain ⟨cdD, hcD⟩ := Option.isSome_iff_exists.mp hc
    refine Bool.eq_false_iff.mpr fun q => ?_
    have e : D = tp := Value.ref.inj (beq_iff_eq.mp q)
    subst e
    unfold clsIn at hcD
    split at hcD
    · rename_i c' d' cd' sl' ho
      have z := (X _ _ ho).symm.trans htp
      cases z
    · cases hcD
  ca := fun {_ _ _ _ _ s} X p k => by
    obtain ⟨h, g, d, t, os⟩ := s
    exact exc_class_attr hK X p k
end
end L2
/-! isinstance(e, ..) over data, e a held exception -/
namespace DL
open PySem PySem.Spec PyProof.Rows L2
/-- each part is what k_is shows -/
theorem excKit_mk {K : PySem.W.Frag} {D : Addr} (h1 : PySem.W.findIn K (.ref D) "__getattribute__" = some (some (.builtin "BaseException.__getattribute__"))) (h2 : PySem.W.findIn K (.ref D) "__getattr__" = some none)
    (h3 : PySem.W.findIn K (.ref D) "__class__" = some (some (.builtin "object.__class__"))) (h4 : PySem.W.specialIn K (.builtin "object.__class__") "__get__" = some (some (.builtin "getset_descriptor.__get__"))) (h5 : PySem.W.takesIn K (.builtin "object.__class__") = some true)
    (h6 : PySem.W.mroIn K D (.type "object") = some true) (h7 : PySem.W.mroIn K D (.type "BaseException") = some true) : excKit K D = true := by
  have h0 : (PySem.W.clsIn K D).isSome = true := by
    unfold PySem.W.mroIn at h6
    obtain ⟨cd, a, b⟩ := Option.bind_eq_some_iff.mp h6
    rw [a]; rfl
  unfold excKit
  simp only [h0, h1, h2, h3, h4, h5, h6, h7, beq_self_eq_true, Bool.and_self]
section
variable {X : Cx} {G : XD → Hp → Prop} {pos : Pos}
/-- a class as a value -/
def clsV : V → Option Value
  | .ref a => some (.ref a)
  | .ty n => some (.type n)
  | _ => none
theorem clsV_rel {v : V} {c u : Value} (h : clsV v = some c) (r : RelV v u) : u = c := by
  cases v <;> cases h <;> exact r
/-- classes that are named, as arguments -/
def tV (vs : List V) : TA := fun _ H Q => Q vs H
/-- what e is an instance of -/
theorem call_isx {C ea : Addr} {oe : Obj} {v : V} {c : Value} {b : Bool} (hp : (ea, oe) ∈ X.pn) (hc : oe.cls = .ref C) (hK : excKit X.K C = true) (hv : clsV v = some c) (hk : PySem.W.kitOne X.K (.ref C) c = some b) :
    CallR X (.builtin "isinstance") (fun xs H Q => xs = [.ref ea, v] ∧ Q (.bl b) H) := by
  intro pins s σ H xs us Q I r h
  obtain ⟨rfl, q⟩ := h
  obtain ⟨u, w', rfl, r1, r2⟩ := vals2 r
  cases (show u = Value.ref ea from r1)
  cases clsV_rel hv r2
  exact PySem.W.kia_one (kitx_exc hK) I.kIn ⟨oe, (I.pin _ (List.mem_append_left _ hp)).1, hc⟩ hk (fun z => nomatch z) fun tk => ⟨.bl _, H, I.tok _, rfl, q⟩
def dIsX (a : Addr) (i : Nat) (b : Bool) : DS → M D := fun δ => match δ[i]? with
  | some (.ex a') => if a' = a then M.ret (.bool b) else none
  | _ => none
theorem dIsX_ev {a : Addr} {i : Nat} {b : Bool} {δ : DS} (h : δ[i]? = some (.ex a)) : dIsX a i b δ = M.ret (.bool b) := by unfold dIsX; rw [h]; simp
theorem dIsX_at {K : PySem.W.Frag} {Hr : Hp} {O : List Addr} {H : Hp} {σ : St} {ea : Addr} {i : Nat} {b : Bool} {δ : DS} {G' : XD → Prop} {k : D → Prop} (E : Ev K Hr O H σ δ) (h : ok G' (dIsX ea i b δ) k) : σ[i]? = some (some (.ref ea)) ∧ k (.bool b) := by
  unfold dIsX at h
  split at h
  · rename_i a' e
    split at h
    · rename_i z
      subst z
      exact ⟨E.at_ i _ e, h⟩
    · exact h.elim
  · exact h.elim
theorem pd_isx {C ea : Addr} {oe : Obj} {i : Nat} {x n y : Str} {v : V} {c : Value} {b : Bool} {p p1 p2 : Pos} (hp : (ea, oe) ∈ X.pn) (hc : oe.cls = .ref C) (hK : excKit X.K C = true) (hv : clsV v = some c) (hk : PySem.W.kitOne X.K (.ref C) c = some b)
    (hx : x = "isinstance") (hg : Gl X x) (hm : X.mg x = none) (hN : X.N[i]? = some n) (hvi : Vis X.env.scope n) (hy : PE X (.Name y p2) (tC v))
    (hdb : (n == ("__debug__" : Str)) = false := by decide) (hcd : (n == ("__classdict__" : Str)) = false := by decide) :
    PD X G (.Call (.Name x p) [.Name n p1, .Name y p2] [] pos) (dIsX ea i b) := by
  subst hx
  refine ⟨_, pe_callB (call_isx hp hc hK hv hk) hg hm boot_isinstance (pa_cons (pe_var hN hvi hdb hcd) (pa_cons hy pa_nil)) (by decide) (by decide), fun δ O σ H Q E k => ?_⟩
  obtain ⟨h1, k⟩ := dIsX_at E k
  exact ⟨.ref ea, h1, rfl, k _ _ (fun _ _ h => h) (.bl _)⟩
end
end DL
/-! x is True, x is not False, x is None -/
namespace DL
open PySem PySem.Spec PyProof.Rows L2
section
variable {X : Cx}
/-- what is one object alone -/
def one? : D → Bool
  | .bool _ => true
  | .none => true
  | _ => false
def sameOne : D → D → Bool
  | .bool a, .bool b => a == b
  | .none, .none => true
  | _, _ => false
def oIs (x y : D) : Option D := if one? y then some (.bool (sameOne x y)) else none
def oIsNot (x y : D) : Option D := if one? y then some (.bool (!sameOne x y)) else none
end
end DL
/-! str(n) -/
namespace DL
open PySem PySem.Spec PyProof.Rows L2
section
variable {X : Cx}
/-- str(n) -/
def oStr : List D → Option D
  | [.int i] => if i.natAbs.log2 < 1920 then some (.str (Str.ofString (toString i))) else none
  | _ => none
end
end DL
/-! evaluation: exceptions -/
namespace DL
open PySem PySem.Spec PyProof.Rows L2
section
variable {δ : DS} {y : XD} {x : Str} {N i : Nat} {gb : DS → M Out} {gs : Addr → DS → M Out} {o : Out}
theorem ev_callX {F : List D → M D} {fa : DS → M (List D)} {ds : List D} {d : D} (h1 : fa δ = M.ret ds) (h2 : F ds = M.ret d) : dCall F fa δ = M.ret d := by unfold dCall; rw [h1]; exact h2
theorem er_callX {F : List D → M D} {fa : DS → M (List D)} {ds : List D} (h1 : fa δ = M.ret ds) (h2 : F ds = some (.error y)) : dCall F fa δ = some (.error y) := by unfold dCall; rw [h1]; exact h2
theorem er_run {g : DS → M Out} {ds : List D} (h : g (startD N ds) = some (.error y)) : run N g ds = some (.error y) := by unfold run; rw [h]; rfl
theorem er_seq {g h : DS → M Out} (e : g δ = some (.error y)) : gSeq g h δ = some (.error y) := by unfold gSeq; rw [e]; rfl
theorem er_if_t {c : DS → M Bool} {g h : DS → M Out} (e : c δ = M.ret true) (e2 : g δ = some (.error y)) : gIf c g h δ = some (.error y) := by unfold gIf; rw [e]; exact e2
end
end DL
/-! while; a, b = x, y; int(x) of an int or a bool -/
namespace DL
open PySem PySem.Spec PyProof.Rows L2
section
variable {X : Cx} {G : XD → Hp → Prop} {a b c e : Expr} {es : List Expr} {f : DS → M D} {fb : DS → M Bool} {fa : DS → M (List D)} {pos : Pos} {sts : List Stmt} {gs : DS → M Out}
def whileD (c : DS → M Bool) (g : DS → M Out) : Nat → DS → M Out
  | 0, _ => none
  | n + 1, δ => (c δ).thn fun b => if b = true then (g δ).thn fun o => match o with
      | .nx δ' => whileD c g n δ'
      | .ct δ' => whileD c g n δ'
      | .bk δ' => M.ret (.nx δ')
      | .rt d => M.ret (.rt d)
    else M.ret (.nx δ)
noncomputable def gWhile (c : DS → M Bool) (g : DS → M Out) : DS → M Out := fun δ =>
  open Classical in if h : ∃ n r, whileD c g n δ = some r then whileD c g (Classical.choose h) δ else none
/-! a, b = x, y -/
def gPar (i j : Nat) (fa : DS → M (List D)) : DS → M Out := fun δ => (fa δ).thn fun ds => match ds with
  | [x, y] => M.ret (.nx ((δ.set i (.vl x)).set j (.vl y)))
  | _ => none
end
/-! int(x) -/
section
variable {X : Cx}
def oInt : List D → Option D
  | [.int i] => some (.int i)
  | [.bool b] => some (.int (if b then 1 else 0))
  | _ => none
end
/-! evaluation -/
section
variable {δ δ' : DS} {f : DS → M D} {fb : DS → M Bool} {fa : DS → M (List D)} {gs gt g1 g2 : DS → M Out} {d x y : D} {b : Bool} {ds : List D} {r : M Out} {o : Out}
theorem ev_par {i j : Nat} (h : fa δ = M.ret [x, y]) : gPar i j fa δ = M.ret (.nx ((δ.set i (.vl x)).set j (.vl y))) := by unfold gPar; rw [h]; rfl
theorem o_intI {i : Int} : oInt [.int i] = some (.int i) := rfl
theorem o_intB {b : Bool} : oInt [.bool b] = some (.int (if b then 1 else 0)) := rfl
/-- if c: return ..: not taken -/
theorem ev_pass (h1 : fb δ = M.ret b) (hb : b = false) (h2 : gt δ = r) : gSeq (gIf fb g1 gNext) gt δ = r := by
  subst hb
  unfold gSeq gIf; rw [h1, thn_ret, if_neg Bool.false_ne_true]; exact h2
theorem ev_pass1 (h1 : fb δ = M.ret b) (hb : b = false) : gIf fb g1 gNext δ = M.ret (.nx δ) := by
  subst hb
  unfold gIf; rw [h1, thn_ret, if_neg Bool.false_ne_true]; rfl
theorem o_pow4 : oPow (.int 10) (.int 4) = some (.int 10000) := rfl
theorem o_pow7 : oPow (.int 10) (.int 7) = some (.int 10000000) := rfl
theorem o_pow8 : oPow (.int 10) (.int 8) = some (.int 100000000) := rfl
theorem o_pow10 : oPow (.int 10) (.int 10) = some (.int 10000000000) := rfl
theorem o_pow12 : oPow (.int 10) (.int 12) = some (.int 1000000000000) := rfl
theorem o_pow19 : oPow (.int 10) (.int 19) = some (.int 10000000000000000000) := rfl
theorem o_pow20 : oPow (.int 10) (.int 20) = some (.int 100000000000000000000) := rfl
theorem o_pow24 : oPow (.int 10) (.int 24) = some (.int 1000000000000000000000000) := rfl
theorem o_addL {xs ys : List D} (h : small (xs.length + ys.length) = true) : oAdd (.list xs) (.list ys) = some (.list (xs ++ ys)) := by
  show (if small (xs.length + ys.length) = true then _ else _) = _
  rw [if_pos h]
end
end DL
/-! WALKS over zip(a, b), enumerate(a), a text -/
namespace L2
open PySem PySem.Spec PyProof.Rows
section
variable {X : Cx}
/-- the records of an iterator have turned, and a new object is laid -/
theorem Inv.turnNew {pins : List (Addr × Obj)} {σ : St} {H : Hp} {s : Shared} {h' : Heap} {t' : Nat} {ch : List Addr} {a : Addr} {o : HO} (I : Inv X pins σ H s) (hf : ∀ b ∈ ch, FpOk X pins H b)
    (k : ∀ b u, b ∉ ch → s.heap.get? b = some u → h'.get? b = some u) (hp : s.heap.objs.size ≤ a) (new : ObjOk X.prog X.w (upd H a o) h' a o) : Inv X pins σ (upd H a o) { s with heap := h', toks := t' } := by
  have hn := I.hok.fresh hp
  have nc : ∀ {b : Addr} {u : HO}, H b = some u → b ∉ ch := fun e z => by rw [(hf _ z).1] at e; cases e
  refine I.call (g' := s.gens) (d' := s.drawn) (ch := ch) ⟨fun b u q _ _ hc => k b u hc q, fun b u q _ _ hc => ⟨u.slots, k b u hc q⟩, fun b u q n _ => ?_, fun b u q hc => ⟨u, k b u hc q⟩, fun b xs q => ?_, fun b u xs q => ?_, fun b ps q => ⟨#[], ?_⟩⟩ (fun b u e => ?_) I.bare fun b hb => ?_
  · rw [upd_ne (Nat.ne_of_lt (Nat.lt_of_lt_of_le (Heap.lt_size q) hp))]; exact n
  · rw [upd_ne (ne_of_none q hn)]; exact q
  · rw [upd_ne (ne_of_none q hn)]; exact q
  · rw [upd_ne (ne_of_none q hn), q]; simp
  · by_cases hb : b = a
    · subst hb; rw [upd_same] at e; cases e; exact new
    · rw [upd_ne hb] at e
      refine (I.hok b u e).stay (fun c v hc q => k c v ?_ q) (fun c q => by rw [upd_ne (ne_of_none q hn)]; exact q) fun c xs q => by rw [upd_ne (ne_of_none q hn)]; exact q
      rcases hc with rfl | hc
      · exact nc e
      · exact nc hc
  · obtain ⟨_, f1, _, f3, f4, f5⟩ := hf b hb
    exact ⟨f3, f1, f4, f5⟩
/-- .. and nothing new -/
theorem Inv.turnAll {pins : List (Addr × Obj)} {σ : St} {H : Hp} {s : Shared} {h' : Heap} {t' : Nat} {ch : List Addr} (I : Inv X pins σ H s) (hf : ∀ b ∈ ch, FpOk X pins H b)
    (k : ∀ b u, b ∉ ch → s.heap.get? b = some u → h'.get? b = some u) : Inv X pins σ H { s with heap := h', toks := t' } := by
  have nc : ∀ {b : Addr} {u : HO}, H b = some u → b ∉ ch := fun e z => by rw [(hf _ z).1] at e; cases e
  refine I.call (g' := s.gens) (d' := s.drawn) (ch := ch) ⟨fun b u q _ _ hc => k b u hc q, fun b u q _ _ hc => ⟨u.slots, k b u hc q⟩, fun b u q n _ => n, fun b u q hc => ⟨u, k b u hc q⟩, fun b xs q => q, fun b u xs q => q, fun b ps q => ⟨#[], by rw [q]; simp⟩⟩ (fun b u e => ?_) I.bare fun b hb => ?_
  · refine (I.hok b u e).stay (fun c v hc q => k c v ?_ q) (fun c q => q) fun c xs q => q
    rcases hc with rfl | hc
    · exact nc e
    · exact nc hc
  · obtain ⟨_, f1, _, f3, f4, f5⟩ := hf b hb
    exact ⟨f3, f1, f4, f5⟩
end
/-- two lists beside one another -/
def Itz (K : PySem.W.Frag) (a b : Addr) : It :=
  ⟨fun i H => ∃ xs ys x y, SqL K H a xs ∧ SqL K H b ys ∧ xs[i]? = some x ∧ ys[i]? = some y,
   fun i H v H' => ∃ T, v = .ref T ∧ H T = none ∧ ∀ xs ys x y, SqL K H a xs → SqL K H b ys → xs[i]? = some x → ys[i]? = some y → H' = upd H T (.tup [x, y]),
   fun i H => ∃ xs ys, SqL K H a xs ∧ SqL K H b ys ∧ (xs.length ≤ i ∨ ys.length ≤ i)⟩
/-- a list, numbered -/
def Ite (K : PySem.W.Frag) (a : Addr) : It :=
  ⟨fun i H => ∃ xs x, SqL K H a xs ∧ xs[i]? = some x,
   fun i H v H' => ∃ T, v = .ref T ∧ H T = none ∧ ∀ xs x, SqL K H a xs → xs[i]? = some x → H' = upd H T (.tup [.int i, x]),
   fun i H => ∃ xs, SqL K H a xs ∧ xs.length ≤ i⟩
/-- a text's signs -/
def Its (x : Str) : It := ⟨fun i _ => i < x.length, fun i H v H' => H' = H ∧ ∃ c, x.cps[i]? = some c ∧ v = .str ⟨#[c]⟩, fun i _ => x.length ≤ i⟩
theorem cls_ne {h : Heap} {a b : Addr} {o u : Obj} (e : h.get? a = some o) (e' : h.get? b = some u) (d : o.cls ≠ u.cls) : a ≠ b := fun z => by
  subst z
  rw [e] at e'
  cases e'
  exact d rfl
theorem ty_ne {a b : String} (h : a ≠ b) : Value.type a ≠ Value.type b := fun z => h (Value.type.inj z)
theorem turn_zip {P : Program} {w : World} {K : PySem.W.Frag} {elts : List Expr} {x1 : Nat} {tpos : Pos} (a b z TI TO i1 i2 : Addr)
    (n1 : TI ≠ z) (n2 : TO ≠ z) (n3 : i1 ≠ z) (n4 : i2 ≠ z) (n5 : TI ≠ TO) (n6 : TI ≠ i1) (n7 : TI ≠ i2) (n8 : TO ≠ i1) (n9 : TO ≠ i2) (n10 : i1 ≠ i2) :
    Turn P w K (.Tuple elts x1 tpos) (Itz K a b) [z, TI, TO, i1, i2] z (fun i h => IsZip h z TI TO .none ∧ IsPair h TI (.ref i1) (.ref i2) ∧ (∃ a b, IsPair h TO a b) ∧ h.IsListIter i1 a i ∧ h.IsListIter i2 b i) where
  mem := by simp
  obj := fun i h st c hc => by
    obtain ⟨hz, hTI, ⟨u, v, hTO⟩, ⟨o1, e1, c1, d1⟩, ⟨o2, e2, c2, d2⟩⟩ := st
    simp only [List.mem_cons, List.not_mem_nil, or_false] at hc
    rcases hc with rfl | rfl | rfl | rfl | rfl
    · exact ⟨_, hz, fun v z => by simp at z⟩
    · exact ⟨_, hTI, fun v z => by simp at z⟩
    · exact ⟨_, hTO, fun v z => by simp at z⟩
    · exact ⟨_, e1, fun v z => by rw [d1] at z; cases z⟩
    · exact ⟨_, e2, fun v z => by rw [d2] at z; cases z⟩
  keep := fun i h h' st k => by
    obtain ⟨hz, hTI, ⟨u, v, hTO⟩, h1, h2⟩ := st
    exact ⟨k z (by simp) _ hz, k TI (by simp) _ hTI, ⟨u, v, k TO (by simp) _ hTO⟩, h1.at fun o e => k i1 (by simp) o e, h2.at fun o e => k i2 (by simp) o e⟩
  item := by
    intro X hP hw hK hc i pins s σ H E I hf st hg
    subst hP hw hK
    obtain ⟨hz, hTI, ⟨u, v, hTO⟩, h1, h2⟩ := st
    obtain ⟨xs, ys, x, y, hq, hq2, hx, hy⟩ := hg
    obtain ⟨its, rv, p, _⟩ := I.list hq
    obtain ⟨its2, rv2, p2, _⟩ := I.list hq2
    obtain ⟨ux, hux, rx⟩ := rv.get hx
    obtain ⟨uy, huy, ry⟩ := rv2.get hy
    have L1 := p.isList
    have L2 := p2.isList
    obtain ⟨o1, e1, c1, d1⟩ := id h1
    obtain ⟨o2, e2, c2, d2⟩ := id h2
    obtain ⟨oa, ea, ca, da⟩ := id L1
    obtain ⟨ob, eb, cb, db⟩ := id L2
    have ap : ZipApart z TI TO i1 i2 a b := ⟨n1, n2, n3, n4, n5, n6, n7, n8, n9, n10,
      cls_ne ea hz (by rw [ca]; exact ty_ne (by decide)), cls_ne ea hTO (by rw [ca]; exact ty_ne (by decide)), cls_ne ea e1 (by rw [ca, c1]; exact ty_ne (by decide)), cls_ne ea e2 (by rw [ca, c2]; exact ty_ne (by decide)),
      cls_ne eb hz (by rw [cb]; exact ty_ne (by decide)), cls_ne eb hTO (by rw [cb]; exact ty_ne (by decide)), cls_ne eb e1 (by rw [cb, c1]; exact ty_ne (by decide)), cls_ne eb e2 (by rw [cb, c2]; exact ty_ne (by decide))⟩
    refine wpAny_pyNext_zip_item ap hz hTI hTO h1 h2 L1 L2 (x := ux) (y := uy) (by simpa using hux) (by simpa using huy) fun h' z' TO' h1' h2' T' sz k => ?_
    have fr : H s.heap.objs.size = none := I.hok.fresh (Nat.le_refl _)
    refine ⟨_, rfl, wpAny_letOwnedTupleGo_zip z' fun h2 hz2 sb => ?_⟩
    have ne : ∀ {c : Addr} {o : Obj}, s.heap.get? c = some o → s.heap.objs.size ≠ c := fun e => Nat.ne_of_gt (Heap.lt_size e)
    have k2 : ∀ c o, c ∉ [z, TI, TO, i1, i2] → s.heap.get? c = some o → h2.get? c = some o := fun c o hc e => by
      simp only [List.mem_cons, List.not_mem_nil, or_false, not_or] at hc
      exact sb.extBut _ _ hc.1 (k c o hc.1 hc.2.2.1 hc.2.2.2.1 hc.2.2.2.2 e)
    have T2 : h2.get? s.heap.objs.size = some { cls := .type "tuple", data := .seq #[ux, uy] } := sb.extBut _ _ (ne hz) T'
    have I1 : Inv X pins σ (upd H s.heap.objs.size (.tup [x, y])) { s with heap := h2, toks := s.toks } := by
      refine I.turnNew hf k2 (Nat.le_refl _) ⟨by show 2 ≤ _; rw [sizeLine_eq]; omega, [ux, uy], .cons rx (.cons ry .nil), ?_⟩
      exact ⟨_, T2, rfl, 0, rfl⟩
    refine ⟨.ref s.heap.objs.size, _, I1, rfl, ⟨_, rfl, fr, fun xs' ys' x' y' q1 q2 q3 q4 => ?_⟩, ⟨hz2, ?_, ⟨_, _, sb.extBut _ _ n2 TO'⟩, h1'.extBut sb.extBut n3, h2'.extBut sb.extBut n4⟩, fun c hc => ?_⟩
    · rw [I.list_inj q1 hq] at q3
      rw [I.list_inj q2 hq2] at q4
      rw [hx] at q3
      rw [hy] at q4
      cases q3
      cases q4
      rfl
    · exact sb.extBut _ _ n1 (k _ _ n1 n5 n6 n7 hTI)
    · have hn : c ≠ s.heap.objs.size := by
        simp only [List.mem_cons, List.not_mem_nil, or_false] at hc
        rcases hc with rfl | rfl | rfl | rfl | rfl
        · exact (ne hz).symm
        · exact (ne hTI).symm
        · exact (ne hTO).symm
        · exact (ne e1).symm
        · exact (ne e2).symm
      rw [upd_ne hn]
      exact (hf c hc).1
  done := by
    intro X hP hw hK hc i pins s σ H E I hf st hg
    subst hP hw hK
    obtain ⟨hz, hTI, ⟨u, v, hTO⟩, h1, h2⟩ := st
    obtain ⟨xs, ys, hq, hq2, hx⟩ := hg
    obtain ⟨its, rv, p, _⟩ := I.list hq
    obtain ⟨its2, rv2, p2, _⟩ := I.list hq2
    have L1 := p.isList
    have L2 := p2.isList
    obtain ⟨o1, e1, c1, d1⟩ := id h1
    obtain ⟨o2, e2, c2, d2⟩ := id h2
    obtain ⟨oa, ea, ca, da⟩ := id L1
    obtain ⟨ob, eb, cb, db⟩ := id L2
    have ap : ZipApart z TI TO i1 i2 a b := ⟨n1, n2, n3, n4, n5, n6, n7, n8, n9, n10,
      cls_ne ea hz (by rw [ca]; exact ty_ne (by decide)), cls_ne ea hTO (by rw [ca]; exact ty_ne (by decide)), cls_ne ea e1 (by rw [ca, c1]; exact ty_ne (by decide)), cls_ne ea e2 (by rw [ca, c2]; exact ty_ne (by decide)),
      cls_ne eb hz (by rw [cb]; exact ty_ne (by decide)), cls_ne eb hTO (by rw [cb]; exact ty_ne (by decide)), cls_ne eb e1 (by rw [cb, c1]; exact ty_ne (by decide)), cls_ne eb e2 (by rw [cb, c2]; exact ty_ne (by decide))⟩
    have hl := rv.length
    have hl2 := rv2.length
    refine wpAny_pyNext_zip_end (I.ok.hd hc) ap hz hTI hTO h1 h2 L1 L2 (hx.imp (fun q => by simp; omega) fun q => by simp; omega) fun h' k => ⟨rfl, ?_⟩
    refine I.turnAll (t' := s.toks) hf fun c o hc e => ?_
    simp only [List.mem_cons, List.not_mem_nil, or_false, not_or] at hc
    exact k c o hc.1 hc.2.2.1 hc.2.2.2.1 hc.2.2.2.2 e
  self := fun _ _ _ _ _ st h => wpAny_pyIter_zip st.1 h
theorem turn_enum {P : Program} {w : World} {K : PySem.W.Frag} {elts : List Expr} {x1 : Nat} {tpos : Pos} (a e it : Addr) (n1 : e ≠ it) :
    Turn P w K (.Tuple elts x1 tpos) (Ite K a) [e, it] e (fun i h => (∃ old, IsEnum h e it ((i : Nat) : Int) old) ∧ h.IsListIter it a i) where
  mem := by simp
  obj := fun i h st c hc => by
    obtain ⟨⟨old, he⟩, ⟨o1, e1, c1, d1⟩⟩ := st
    simp only [List.mem_cons, List.not_mem_nil, or_false] at hc
    rcases hc with rfl | rfl
    · exact ⟨_, he, fun v z => by simp at z⟩
    · exact ⟨_, e1, fun v z => by rw [d1] at z; cases z⟩
  keep := fun i h h' st k => by
    obtain ⟨⟨old, he⟩, h1⟩ := st
    exact ⟨⟨old, k e (by simp) _ he⟩, h1.at fun o e => k it (by simp) o e⟩
  item := by
    intro X hP hw hK hc i pins s σ H E I hf st hg
    subst hP hw hK
    obtain ⟨⟨old, he⟩, h1⟩ := st
    obtain ⟨xs, x, hq, hx⟩ := hg
    obtain ⟨its, rv, p, _⟩ := I.list hq
    obtain ⟨ux, hux, rx⟩ := rv.get hx
    obtain ⟨o1, e1, c1, d1⟩ := id h1
    have fr : H s.heap.objs.size = none := I.hok.fresh (Nat.le_refl _)
    have ne : ∀ {c : Addr} {o : Obj}, s.heap.get? c = some o → s.heap.objs.size ≠ c := fun e => Nat.ne_of_gt (Heap.lt_size e)
    obtain ⟨oa, ea, ca, da⟩ := id p.isList
    have ne1 : a ≠ e := cls_ne ea he (by rw [ca]; exact ty_ne (by decide))
    have ne2 : a ≠ it := cls_ne ea e1 (by rw [ca, c1]; exact ty_ne (by decide))
    refine wpAny_pyNext_enum_item he h1 p.isList (x := ux) (by simpa using hux) n1 fun h' e' h1' T' sz k => ?_
    refine ⟨_, rfl, wpAny_letOwnedTupleGo_enum e' fun h2 he2 sb => ?_⟩
    have k2 : ∀ c o, c ∉ [e, it] → s.heap.get? c = some o → h2.get? c = some o := fun c o hc q => by
      simp only [List.mem_cons, List.not_mem_nil, or_false, not_or] at hc
      exact sb.extBut _ _ hc.1 (k c o hc.1 hc.2 q)
    have T2 : h2.get? s.heap.objs.size = some { cls := .type "tuple", data := .seq #[.int i s.toks, ux] } := sb.extBut _ _ (ne he) T'
    have I1 : Inv X pins σ (upd H s.heap.objs.size (.tup [.int i, x])) { s with heap := h2, toks := s.toks + 1 } := by
      refine I.turnNew hf k2 (Nat.le_refl _) ⟨by show 2 ≤ _; rw [sizeLine_eq]; omega, [.int i s.toks, ux], .cons ⟨_, rfl⟩ (.cons rx .nil), ?_⟩
      exact ⟨_, T2, rfl, 0, rfl⟩
    refine ⟨.ref s.heap.objs.size, _, I1, rfl, ⟨_, rfl, fr, fun xs' x' q1 q3 => ?_⟩, ⟨⟨ux, he2⟩, h1'.extBut sb.extBut n1.symm⟩, fun c hc => ?_⟩
    · rw [I.list_inj q1 hq] at q3
      rw [hx] at q3
      cases q3
      rfl
    · have hn : c ≠ s.heap.objs.size := by
        simp only [List.mem_cons, List.not_mem_nil, or_false] at hc
        rcases hc with rfl | rfl
        · exact (ne he).symm
        · exact (ne e1).symm
      rw [upd_ne hn]
      exact (hf c hc).1
  done := by
    intro X hP hw hK hc i pins s σ H E I hf st hg
    subst hP hw hK
    obtain ⟨⟨old, he⟩, h1⟩ := st
    obtain ⟨xs, hq, hx⟩ := hg
    obtain ⟨its, rv, p, _⟩ := I.list hq
    have hl := rv.length
    refine wpAny_pyNext_enum_end (I.ok.hd hc) he h1 p.isList (by simp; omega) fun h' k => ⟨rfl, ?_⟩
    refine I.turnAll (t' := s.toks) hf fun c o hc e => ?_
    simp only [List.mem_cons, List.not_mem_nil, or_false, not_or] at hc
    exact k c o hc.2 e
  self := fun _ _ _ _ _ st h => by
    obtain ⟨⟨old, he⟩, _⟩ := st
    exact wpAny_pyIter_enum he h
/-! ### the expressions -/
section
variable {X : Cx} {elts : List Expr} {x1 : Nat} {tpos : Pos}
def iZip (K : PySem.W.Frag) (ta : TA) : TI := fun σ H R => ta σ H fun vs H1 => ∃ a b, vs = [.ref a, .ref b] ∧ (∃ xs, SqL K H1 a xs) ∧ (∃ ys, SqL K H1 b ys) ∧ R (Itz K a b) H1
def iEnum (K : PySem.W.Frag) (ta : TA) : TI := fun σ H R => ta σ H fun vs H1 => ∃ a, vs = [.ref a] ∧ (∃ xs, SqL K H1 a xs) ∧ R (Ite K a) H1
def iStr (tl : TE) : TI := fun σ H R => tl σ H fun x H1 => ∃ z, x = .str z ∧ R (Its z) H1
theorem pi_zip {a b : Expr} {ta : TA} {p pos : Pos} (hg : Gl X "zip") (hm : X.mg "zip" = none) (ha : PA X [a, b] ta) (hs : starEach [a, b] X.env = [(false, eval a X.env), (false, eval b X.env)] := by rfl) (hs2 : starEach [b] X.env = [(false, eval b X.env)] := by rfl) :
    PI X (.Tuple elts x1 tpos) (.Call (.Name "zip" p) [a, b] [] pos) (iZip X.K ta) := by
  intro pins s σ H R I h
  refine Call_ (ld_blt I hg hm boot_zip (PyProof.Rows.callWith_type1 (thn (ha pos pins s σ H _ I h) fun us s1 ⟨vs, H1, I1, r1, q1⟩ => ?_) (by rw [hs, hs2]) (by rw [hs2]; rfl)))
  obtain ⟨l1, l2, e, ⟨xs, hx⟩, ⟨ys, hy⟩, q⟩ := q1
  subst e
  cases r1 with
  | cons r rr =>
    cases rr with
    | cons r' rr =>
      cases rr
      cases r
      cases r'
      obtain ⟨its, rv, pl, _⟩ := I1.list hx
      obtain ⟨its2, rv2, pl2, _⟩ := I1.list hy
      refine call_zip_2 pl.isList pl2.isList fun h' hz hTI hTO h1 h2 sz k => wpAny_pyIter_zip hz ?_
      refine ⟨s1.heap.objs.size + 4, [s1.heap.objs.size + 4, s1.heap.objs.size + 2, s1.heap.objs.size + 3, s1.heap.objs.size, s1.heap.objs.size + 1], _, _, H1, rfl, I1.kept (t' := s1.toks) k,
        turn_zip l1 l2 (s1.heap.objs.size + 4) (s1.heap.objs.size + 2) (s1.heap.objs.size + 3) s1.heap.objs.size (s1.heap.objs.size + 1) (by show (_ : Nat) ≠ _; omega) (by show (_ : Nat) ≠ _; omega) (by show (_ : Nat) ≠ _; omega) (by show (_ : Nat) ≠ _; omega) (by show (_ : Nat) ≠ _; omega) (by show (_ : Nat) ≠ _; omega) (by show (_ : Nat) ≠ _; omega) (by show (_ : Nat) ≠ _; omega) (by show (_ : Nat) ≠ _; omega) (by show (_ : Nat) ≠ _; omega), ⟨hz, hTI, ⟨_, _, hTO⟩, h1, h2⟩, fun c hc => ?_, q⟩
      have hc' : s1.heap.objs.size ≤ c := by
        simp only [List.mem_cons, List.not_mem_nil, or_false] at hc
        rcases hc with rfl | rfl | rfl | rfl | rfl <;> first | exact Nat.le_add_right _ _ | exact Nat.le_refl _
      exact I1.fpOk hc' (I1.hok.fresh hc')
theorem pi_enum {a : Expr} {ta : TA} {p pos : Pos} (hg : Gl X "enumerate") (hm : X.mg "enumerate" = none) (ha : PA X [a] ta) (hs : starEach [a] X.env = [(false, eval a X.env)] := by rfl) :
    PI X (.Tuple elts x1 tpos) (.Call (.Name "enumerate" p) [a] [] pos) (iEnum X.K ta) := by
  intro pins s σ H R I h
  refine Call_ (ld_blt I hg hm boot_enumerate (PyProof.Rows.callWith_type1 (thn (ha pos pins s σ H _ I h) fun us s1 ⟨vs, H1, I1, r1, q1⟩ => ?_) hs rfl))
  obtain ⟨l1, e, ⟨xs, hx⟩, q⟩ := q1
  subst e
  cases r1 with
  | cons r rr =>
    cases rr
    cases r
    obtain ⟨its, rv, pl, _⟩ := I1.list hx
    refine call_enumerate_list pl.isList fun h' he h1 sz k => wpAny_pyIter_enum he ?_
    refine ⟨s1.heap.objs.size + 1, [s1.heap.objs.size + 1, s1.heap.objs.size], _, _, H1, rfl, I1.kept (t' := s1.toks) k,
      turn_enum l1 (s1.heap.objs.size + 1) s1.heap.objs.size (by show (_ : Nat) ≠ _; omega), ⟨⟨_, he⟩, h1⟩, fun c hc => ?_, q⟩
    have hc' : s1.heap.objs.size ≤ c := by
      simp only [List.mem_cons, List.not_mem_nil, or_false] at hc
      rcases hc with rfl | rfl <;> first | exact Nat.le_add_right _ _ | exact Nat.le_refl _
    exact I1.fpOk hc' (I1.hok.fresh hc')
theorem turn_str_ascii {P : Program} {w : World} {K : PySem.W.Frag} {tg : Expr} (it : Addr) (x : Str) (t : Tok) : Turn P w K tg (Its x) [it] it (fun i h => h.IsStrIter it "str_ascii_iterator" x t i) where
  mem := by simp
  obj := fun i h st b hb => by
    have e : b = it := by simpa using hb
    subst e
    obtain ⟨o, e, c, d⟩ := st
    exact ⟨o, e, fun v z => by rw [d] at z; cases z⟩
  keep := fun i h h' st k => let ⟨o, ho, r⟩ := st; ⟨o, k it (by simp) o ho, r⟩
  item := by
    intro X hP hw hK hc i pins s σ H E I hf st hg
    subst hP hw hK
    obtain ⟨f0, f1, f2, f3, f4, f5⟩ := hf it (by simp)
    have hg : i < x.cps.size := hg
    refine wpAny_pyNext_ascii_item st (c := x.cps[i]) (by simp [hg]) fun h' st' sb => ?_
    have I1 : Inv X pins σ H { s with heap := h', toks := s.toks + 1 } := I.turned (fun b o hb e => (sb.2 b hb).trans e) f0 f1 f3 f4 f5
    obtain ⟨o, e, c1, d1⟩ := id st'
    exact ⟨_, rfl, go_of (s := { s with heap := h', toks := s.toks + 1 }) e c1 d1 (by decide) ⟨.str ⟨#[x.cps[i]]⟩, H, I1, ⟨_, rfl⟩, ⟨rfl, x.cps[i], by simp [hg], rfl⟩, st', fun b hb => (hf b hb).1⟩⟩
  done := by
    intro X hP hw hK hc i pins s σ H E I hf st hg
    subst hP hw hK
    obtain ⟨f0, f1, f2, f3, f4, f5⟩ := hf it (by simp)
    have hg : x.cps.size ≤ i := hg
    exact wpAny_pyNext_ascii_end (I.ok.hd hc) st (by simp; omega) fun h' eb => ⟨rfl, I.turned (t' := s.toks) (fun b o hb e => eb b o hb e) f0 f1 f3 f4 f5⟩
  self := fun _ _ _ _ _ st h => wpAny_pyIter_striter_ascii st h
theorem turn_str_wide {P : Program} {w : World} {K : PySem.W.Frag} {tg : Expr} (it : Addr) (x : Str) (t : Tok) : Turn P w K tg (Its x) [it] it (fun i h => h.IsStrIter it "str_iterator" x t i) where
  mem := by simp
  obj := fun i h st b hb => by
    have e : b = it := by simpa using hb
    subst e
    obtain ⟨o, e, c, d⟩ := st
    exact ⟨o, e, fun v z => by rw [d] at z; cases z⟩
  keep := fun i h h' st k => let ⟨o, ho, r⟩ := st; ⟨o, k it (by simp) o ho, r⟩
  item := by
    intro X hP hw hK hc i pins s σ H E I hf st hg
    subst hP hw hK
    obtain ⟨f0, f1, f2, f3, f4, f5⟩ := hf it (by simp)
    have hg : i < x.cps.size := hg
    refine wpAny_pyNext_wide_item st (c := x.cps[i]) (by simp [hg]) fun h' st' sb => ?_
    have I1 : Inv X pins σ H { s with heap := h', toks := s.toks + 1 } := I.turned (fun b o hb e => (sb.2 b hb).trans e) f0 f1 f3 f4 f5
    obtain ⟨o, e, c1, d1⟩ := id st'
    exact ⟨_, rfl, go_of (s := { s with heap := h', toks := s.toks + 1 }) e c1 d1 (by decide) ⟨.str ⟨#[x.cps[i]]⟩, H, I1, ⟨_, rfl⟩, ⟨rfl, x.cps[i], by simp [hg], rfl⟩, st', fun b hb => (hf b hb).1⟩⟩
  done := by
    intro X hP hw hK hc i pins s σ H E I hf st hg
    subst hP hw hK
    obtain ⟨f0, f1, f2, f3, f4, f5⟩ := hf it (by simp)
    have hg : x.cps.size ≤ i := hg
    exact wpAny_pyNext_wide_end (I.ok.hd hc) st (by simp; omega) fun h' eb => ⟨rfl, I.turned (t' := s.toks) (fun b o hb e => eb b o hb e) f0 f1 f3 f4 f5⟩
  self := fun _ _ _ _ _ st h => wpAny_pyIter_striter_wide st h
theorem pi_str {l : Expr} {tl : TE} {tg : Expr} (hl : PE X l tl) : PI X tg l (iStr tl) := by
  intro pins s σ H R I h
  refine thn (hl pins s σ H _ I h) fun v s1 ⟨x, H1, I1, r1, q1⟩ => ?_
  obtain ⟨z, e, q⟩ := q1
  subst e
  obtain ⟨t, rfl⟩ := r1
  have fp : ∀ b ∈ [s1.heap.objs.size], FpOk X pins H1 b := fun b hb => by
    have e : b = s1.heap.objs.size := by simpa using hb
    subst e
    exact I1.fpOk (Nat.le_refl _) (I1.hok.fresh (Nat.le_refl _))
  cases ha : z.cps.all (· < 128)
  · exact wpAny_pyIter_wide ha ⟨s1.heap.objs.size, [s1.heap.objs.size], _, _, H1, rfl, I1.kept (t' := s1.toks) fun b o e => Heap.get?_push_of_some _ e, turn_str_wide _ z t, ⟨_, Heap.get?_push_size _ rfl, rfl, rfl⟩, fp, q⟩
  · exact wpAny_pyIter_ascii ha ⟨s1.heap.objs.size, [s1.heap.objs.size], _, _, H1, rfl, I1.kept (t' := s1.toks) fun b o e => Heap.get?_push_of_some _ e, turn_str_ascii _ z t, ⟨_, Heap.get?_push_size _ rfl, rfl, rfl⟩, fp, q⟩
end
end L2
/-! COMPREHENSIONS in general: any target, free names, at most one test -/
namespace L2
open PySem PySem.Spec PyProof.Rows
def compCxG (X : Cx) (scope : Scope) (cl : List (Str × Addr)) (fr : List (Nat × Str)) (tn : List Str) (C : Addr) (s3 : Shared) (H3 : Hp) (fp : List Addr) : Cx where
  prog := X.prog
  w := X.w
  K := X.K
  mg := X.mg
  base := X.base
  A := X.A
  N := tn ++ fr.map (·.2)
  s₀ := s3
  H₀ := H3
  env := compEnvC scope cl C X.env
  outer := X.stack
  stack := X.stack
  ex := fp
  fn := fun _ => false
  calm := X.calm
  pn := []
  xe := fun _ _ => False
/-- the state of a comprehension's block -/
def compSt (n : Nat) (fr : List (Nat × Str)) (σ : St) : St := List.replicate n none ++ fr.map fun p => (σ[p.1]?).join
def tCompG (n : Nat) (fr : List (Nat × Str)) (wi : TI) (g : TG) (tc : TT) (te : TE) : TE := fun σ H Q => wi σ H fun J H1 => ∀ l, H1 l = none → ∃ W : Nat → Nat → St → List V → Hp → Prop, (∃ m, W 0 m (compSt n fr σ) [] (upd H1 l (.lst []))) ∧
  ∀ i m τ xs H2, W i m τ xs H2 → H2 l = some (.lst xs) ∧ ((J.stop i H2 ∧ Q (.ref l) H2) ∨ (J.go i H2 ∧ xs.length < sizeLine ∧ ∀ x H3, J.yld i H2 x H3 → g x τ H3 fun τ' H4 => tc τ' H4 fun b H5 => if b = true then te τ' H5 fun v H6 => H6 l = some (.lst xs) ∧ ∃ m', m' < m ∧ W (i + 1) m' τ' (xs ++ [v]) (upd H6 l (.lst (xs ++ [v]))) else ∃ m', m' < m ∧ W (i + 1) m' τ' xs H5))
section
variable {X : Cx}
theorem compG_ok {cl : List (Str × Addr)} {fr : List (Nat × Str)} {scope : Scope} {tn : List Str} {C : Addr} {s3 : Shared} {H3 : Hp} {fp : List Addr} {pins : List (Addr × Obj)} {σ : St} (I : Inv X pins σ H3 s3) (hkind : scope.kind = .function) (hsub : ∀ y c, cl.lookup y = some c → X.env.cells.lookup y = some c) (hhas : ∀ y ∈ (relabel scope X.env).names, (y.2 = .cell ∨ y.2 = .free) → ∃ c, cl.lookup y.1 = some c)
    (hC : s3.heap.objs.size ≤ C) (hf : ∀ b ∈ fp, FpOk X pins H3 b ∧ ∃ o, s3.heap.get? b = some o) (hfs : ∀ b ∈ fp, b ∉ frs X.stack) (hbase : ∀ b ∈ fp, X.base.get? b = none) : (compCxG X scope cl fr tn C s3 H3 fp).Ok where
  mod := I.ok.mod
  kind := hkind
  glob := I.ok.glob
  blt := I.ok.blt
  above := hC
  inj := fun y z c h1 h2 => I.ok.inj y z c (hsub y c h1) (hsub z c h2)
  has := fun y h => by
    rcases h with h | h
    · exact hhas _ (PySem.mem_of_lookup h) (.inl rfl)
    · exact hhas _ (PySem.mem_of_lookup h) (.inr rfl)
  cab := fun y c h => by cases h
  hd := I.ok.hd
  frames := I.ok.frames
  stk := .inl rfl
  exf := fun b hb => ⟨by
    obtain ⟨o, ho⟩ := (hf b hb).2
    exact Nat.ne_of_lt (Nat.lt_of_lt_of_le (Heap.lt_size ho) hC), fun y c h => (hf b hb).1.2.2.2.2.1 y c (hsub y c h)⟩
  bs := I.bs
  bsz := Nat.le_trans I.ok.bsz I.sz
  noex := fun b o e hb => by
    have e1 : X.base.get? b = some o := e
    rw [hbase b hb] at e1; cases e1
  exfs := hfs
  funs := I.stack
  frf := I.stkFree
/-- a comprehension's block is through: the def's state -/
theorem compG_out {cl : List (Str × Addr)} {fr : List (Nat × Str)} {scope : Scope} {tn : List Str} {C : Addr} {s3 s5 : Shared} {H3 H5 : Hp} {fp : List Addr} {pins pins5 : List (Addr × Obj)} {σ σ5 : St} {h' : Heap} (I : Inv X pins σ H3 s3) (hf : ∀ b ∈ fp, FpOk X pins H3 b) (hC : s3.heap.objs.size ≤ C)
    (I5 : Inv (compCxG X scope cl fr tn C s3 H3 fp) pins5 σ5 H5 s5) (hs : Heap.SameBut C s5.heap h') : Inv X pins σ H5 { s5 with heap := h' } := by
  have nC : ∀ {b : Addr} {o : Obj}, s3.heap.get? b = some o → b ≠ C := fun e => Nat.ne_of_lt (Nat.lt_of_lt_of_le (Heap.lt_size e) hC)
  have u : Un (frs X.stack) fp H3 H5 s3.heap s5.heap := I5.base
  refine I.call' (ch := fp) I5.os ⟨fun b o e n h1 h2 => ?_, fun b o e n h1 h2 => ?_, u.free, fun b o e h2 => ?_, u.tups, u.frzs, u.tbls⟩ ?_ I5.bare fun b hb => ?_
  · exact (hs.2 b (nC e)).trans (u.keep b o e n h1 h2)
  · obtain ⟨sl, e1⟩ := u.slot b o e n h1 h2
    exact ⟨sl, (hs.2 b (nC e)).trans e1⟩
  · obtain ⟨o', e1⟩ := u.there b o e h2
    exact ⟨o', (hs.2 b (nC e)).trans e1⟩
  · intro a o e
    have hn : H5 C = none := I5.free
    refine (I5.hok a o e).stay (fun b u hb q => (hs.2 b ?_).trans q) (fun _ q => q) fun _ _ q => q
    rcases hb with rfl | hb
    · exact ne_of_none e hn
    · exact ne_of_none hb hn
  · obtain ⟨_, f1, _, f3, f4, f5⟩ := hf b hb
    exact ⟨f3, f1, f4, f5⟩
/-- the tests: none, or one -/
def PTs (X : Cx) (ifs : List Expr) (t : TT) : Prop :=
  ∀ (pins : List (Addr × Obj)) (s : Shared) (σ : St) (H : Hp) (Q : Bool → Hp → Prop), Inv X pins σ H s → t σ H Q →
    wpAny (model X.prog X.w) X.A (forIn ifs true fun c r => if r = true then do let ok ← isTrue c X.env (eval c X.env); pure (ForInStep.yield ok) else pure (ForInStep.yield r)) (TP X pins σ Q) X.xe s
def tYes : TT := fun _ H Q => Q true H
theorem pts_nil : PTs X [] tYes := fun pins s σ H Q I h => wpAny_tests_nil ⟨H, I, h⟩
theorem pe_compG {cl : List (Str × Addr)} {fr : List (Nat × Str)} {tn : List Str} {elt iter tg : Expr} {ifs : List Expr} {scope : Scope} {pos : Pos} {wi : TI} {g : TG} {tc : TT} {te : TE} (hc : X.calm = true)
    (hkind : scope.kind = .function) (hcell : ∀ y ∈ scope.names, y.2 ≠ .cell) (hclos : closureFor scope X.env = pure cl) (hsub : ∀ y c, cl.lookup y = some c → X.env.cells.lookup y = some c)
    (hhas : ∀ y ∈ (relabel scope X.env).names, (y.2 = .cell ∨ y.2 = .free) → ∃ c, cl.lookup y.1 = some c) (hfr : ∀ p ∈ fr, X.N[p.1]? = some p.2 ∧ X.env.kindOf p.2 = some .cell ∧ (compEnvC scope cl 0 X.env).kindOf p.2 = some .cell ∧ ∃ c, cl.lookup p.2 = some c) (hnames : ∀ y ∈ scope.names, y.2 = .local → scope.names.lookup y.1 = some .local)
    (hi : PI X tg iter wi) (hg : ∀ C s3 H3 fp, PG (compCxG X scope cl fr tn C s3 H3 fp) tg g) (hcs : ∀ C s3 H3 fp, PTs (compCxG X scope cl fr tn C s3 H3 fp) ifs tc) (he : ∀ C s3 H3 fp, PE (compCxG X scope cl fr tn C s3 H3 fp) elt te) (hs : ∀ x, foldedSetIterable iter X.env x = pure x := by intro _; rfl) :
    PE X (.ListComp elt [⟨tg, iter, ifs, 0⟩] scope pos) (tCompG tn.length fr wi g tc te) := by
  intro pins s σ H Q I h
  rw [eval_ListComp]
  refine wpAny_comprehension_free (use := none) rfl hs hclos hkind hnames (thn (hi pins s σ H _ I h) fun v s1 h1 => thn h1 fun itv s2 h2 => ?_)
  obtain ⟨it, fp, tk, J, H2, e, I2, T, st2, f2, R⟩ := h2
  subst e
  have fl : H2 s2.heap.objs.size = none := I2.hok.fresh (Nat.le_refl _)
  obtain ⟨W, ⟨m0, w0⟩, turn⟩ := R s2.heap.objs.size fl
  refine wpAny_newObj_type (wpAny_newFunctionEnv hcell (by intro y hy; simp at hy) (fun h4 hns hsb => ?_) hkind)
  -- the list is laid and tracked
  have I3 : Inv X pins σ (upd H2 s2.heap.objs.size (.lst [])) { s2 with heap := s2.heap.push { cls := .type "list", data := .seq ([] : List Value).toArray } } :=
    I2.laid (t' := s2.toks) (fun b o e => Heap.get?_push_of_some _ e) (Nat.le_refl _) ⟨Nat.zero_le _, [], 0, .nil, Heap.get?_push_size _ rfl⟩
  have ob : ∀ b ∈ fp, ∃ o, s2.heap.get? b = some o := fun b hb => let ⟨o, ho, _⟩ := T.obj 0 _ st2 b hb; ⟨o, ho⟩
  have f3 : ∀ b ∈ fp, FpOk X pins (upd H2 s2.heap.objs.size (.lst [])) b := fun b hb => by
    obtain ⟨g0, g1, g2, g3, g4, g5⟩ := f2 b hb
    obtain ⟨o, ho⟩ := ob b hb
    exact ⟨by rw [upd_ne (Nat.ne_of_lt (Heap.lt_size ho))]; exact g0, g1, g2, g3, g4, g5⟩
  generalize hs3 : ({ s2 with heap := s2.heap.push { cls := .type "list", data := .seq ([] : List Value).toArray } } : Shared) = s3 at I3
  have heap3 : s2.heap.push { cls := .type "list", data := .seq ([] : List Value).toArray } = s3.heap := by rw [← hs3]
  have old3 : ∀ b o, s2.heap.get? b = some o → s3.heap.get? b = some o := fun b o e => by rw [← heap3]; exact Heap.get?_push_of_some _ e
  have ok3 : (compCxG X scope cl fr tn s3.heap.objs.size s3 (upd H2 s2.heap.objs.size (.lst [])) fp).Ok := by
    refine compG_ok I3 hkind hsub hhas (Nat.le_refl _) (fun b hb => ⟨f3 b hb, let ⟨o, ho⟩ := ob b hb; ⟨o, old3 b o ho⟩⟩) (fun b hb z => ?_) fun b hb => ?_
    · obtain ⟨_, g1, g2, _⟩ := f2 b hb
      rcases List.mem_cons.mp (I2.stkSub b z) with q | q
      · exact g1 q
      · exact g2 q
    · obtain ⟨_, _, _, g3, _⟩ := f2 b hb
      rcases g3 with q | q
      · cases e : X.base.get? b with
        | none => rfl
        | some o => exact absurd q (I.ok.noex b o e)
      · exact Heap.get?_none_of_le (Nat.le_trans I.ok.bsz q)
  have hns3 : h4.Ns s3.heap.objs.size (fun y => ([] : List (Str × Value)).reverse.lookup y) := by rw [← heap3]; exact hns
  have keep4 : ∀ b o, s3.heap.get? b = some o → h4.get? b = some o := fun b o e => by
    have e1 : (s2.heap.push { cls := .type "list", data := .seq ([] : List Value).toArray }).get? b = some o := by rw [heap3]; exact e
    exact (hsb.2 b (Nat.ne_of_lt (Heap.lt_size e1))).trans (Heap.get?_push_of_some _ e1)
  have I4 : Inv (compCxG X scope cl fr tn s3.heap.objs.size s3 (upd H2 s2.heap.objs.size (.lst [])) fp) [] (compSt tn.length fr σ) (upd H2 s2.heap.objs.size (.lst [])) { s3 with heap := h4 } := by
    refine ⟨ok3, rfl, I3.bare, Un.kept keep4, ⟨_, hns3, fun i y v e1 e2 e3 => ?_⟩, (fun y c h => let ⟨v, oc, ho, hd⟩ := I3.cell y c (hsub y c h); ⟨v, oc, keep4 _ _ ho, hd⟩), I3.hok.fresh (Nat.le_refl _), (fun y c h => I3.freeC y c (hsub y c h)), (fun p hp => nomatch hp), I3.hok.kept keep4, by simp [compCxG, compSt]⟩
    have e1 : (tn ++ fr.map (·.2))[i]? = some y := e1
    have e2 : (List.replicate tn.length none ++ fr.map fun p => (σ[p.1]?).join)[i]? = some (some v) := e2
    by_cases hlt : i < tn.length
    · rw [List.getElem?_append_left (by simpa using hlt), List.getElem?_replicate] at e2
      split at e2 <;> cases e2
    · rw [List.getElem?_append_right (by omega)] at e1
      rw [List.getElem?_append_right (by simpa using hlt), List.length_replicate] at e2
      rw [List.getElem?_map] at e1 e2
      cases q : fr[i - tn.length]? with
      | none => rw [q] at e1; cases e1
      | some p =>
        rw [q] at e1 e2
        have e1 : p.2 = y := Option.some.inj e1
        have e2 : (σ[p.1]?).join = some v := Option.some.inj e2
        subst e1
        obtain ⟨g1, g2, g3, c, g4⟩ := hfr p (List.mem_of_getElem? q)
        have e4 : σ[p.1]? = some (some v) := by
          cases z : σ[p.1]? with
          | none => rw [z] at e2; cases e2
          | some w' => rw [z] at e2; exact congrArg some e2
        obtain ⟨m, hn, hl⟩ := I3.loc
        obtain ⟨u, ru, lk⟩ := hl p.1 p.2 v g1 e4 (.inr (.inl g2))
        refine ⟨u, ru, .inr ⟨.inl g3, c, g4, ?_⟩⟩
        rcases lk with ⟨k1, _⟩ | ⟨_, c', k2, k3⟩
        · rw [g2] at k1; cases k1
        · rw [hsub _ _ g4] at k2
          cases k2
          obtain ⟨oc, ho, hd⟩ := k3
          exact ⟨oc, keep4 _ _ ho, hd⟩
  have st4 : tk 0 h4 := T.keep 0 _ _ st2 fun b hb o e => keep4 b o (old3 b o e)
  have loop : codeAny (model X.prog X.w) X.A (.compLoop (.ListComp elt [⟨tg, iter, ifs, 0⟩] scope pos) 0 (.ref it) (.ref s2.heap.objs.size) (compEnvC scope cl s3.heap.objs.size X.env))
      (compPost (model X.prog X.w) X.A X.xe none (EP X pins σ Q) (.ref s2.heap.objs.size) s3.heap.objs.size) { s3 with heap := h4 } := by
    refine codeAny_loop rfl (fun n s' => ∃ i σ' xs H', Inv (compCxG X scope cl fr tn s3.heap.objs.size s3 (upd H2 s2.heap.objs.size (.lst [])) fp) [] σ' H' s' ∧ tk i s'.heap ∧ (∀ b ∈ fp, H' b = none) ∧ W i n σ' xs H') (fun n s' hI => ?_) m0
      ⟨0, _, [], _, I4, st4, fun b hb => (f3 b hb).1, w0⟩
    show wpAny _ _ ((compTurn (.ListComp elt [⟨tg, iter, ifs, 0⟩] scope pos) 0 (.ref it) (.ref s2.heap.objs.size) (compEnvC scope cl s3.heap.objs.size X.env)).onRaise (fun x => do noteFrame x _; theTreesLotGoes x)) _ _ s'
    refine wpAny_noted ?_
    rw [compTurn_list]
    obtain ⟨i, σ5, xs, H5, I5, st5, fr5, w5⟩ := hI
    have stat : ∀ {H' : Hp}, (∀ b ∈ fp, H' b = none) → ∀ b ∈ fp, FpOk (compCxG X scope cl fr tn s3.heap.objs.size s3 (upd H2 s2.heap.objs.size (.lst [])) fp) [] H' b := fun hn b hb =>
      ⟨hn b hb, (ok3.exf b hb).1, ok3.exfs b hb, .inl hb, (ok3.exf b hb).2, fun p hp => nomatch hp⟩
    obtain ⟨hl, alt⟩ := turn i n σ5 xs H5 w5
    rcases alt with ⟨stop, qn⟩ | ⟨go, hz, step⟩
    · refine wpAny_bind (wpAny_standAt (wpAny_bind (thn (T.done (compCxG X scope cl fr tn s3.heap.objs.size s3 (upd H2 s2.heap.objs.size (.lst [])) fp) rfl rfl rfl hc i [] s' σ5 H5 _ I5 (stat fr5) st5 stop) fun r s6 ⟨hr, I6⟩ => ?_)))
      subst hr
      refine wpAny_pure ?_
      obtain ⟨m, hn6, _⟩ := I6.loc
      exact ⟨m, hn6, fun h' hs' => ⟨.ref s2.heap.objs.size, H5, compG_out I3 f3 (Nat.le_refl _) I6 hs', rfl, qn⟩⟩
    · refine wpAny_bind (wpAny_standAt (wpAny_bind (thn (T.item (compCxG X scope cl fr tn s3.heap.objs.size s3 (upd H2 s2.heap.objs.size (.lst [])) fp) rfl rfl rfl hc i [] s' σ5 H5 _ I5 (stat fr5) st5 go) fun r s6 ⟨u, hr, h6⟩ => ?_)))
      subst hr
      refine wpAny_bind (thn h6 fun _ s7 ⟨y, H7, I7, r7, y7, st7, fr7⟩ => ?_)
      have I7' := I7.pinned (stat fr7) (T.obj _ _ st7)
      have hP := hg s3.heap.objs.size s3 (upd H2 s2.heap.objs.size (.lst [])) fp _ s7 σ5 H7 y u _ I7' r7 (step y H7 y7)
      refine wpAny_bind (wpAny_mono hP (fun _ s8 ⟨σ8, H8, I8, q8⟩ => ?_) (fun _ _ z => False.elim z))
      refine wpAny_bind (wpAny_mono (hcs s3.heap.objs.size s3 (upd H2 s2.heap.objs.size (.lst [])) fp _ s8 σ8 H8 _ I8 q8) (fun b s9 ⟨H9, I9, q9⟩ => ?_) (fun _ _ z => False.elim z))
      have again : ∀ {σ7 : St} {H7 : Hp} {s7' : Shared} {xs' : List V}, Inv (compCxG X scope cl fr tn s3.heap.objs.size s3 (upd H2 s2.heap.objs.size (.lst [])) fp) ([] ++ pinsAt fp s7.heap) σ7 H7 s7' → (∃ m', m' < n ∧ W (i + 1) m' σ7 xs' H7) →
          ∃ m, m < n ∧ ∃ i σ' xs H', Inv (compCxG X scope cl fr tn s3.heap.objs.size s3 (upd H2 s2.heap.objs.size (.lst [])) fp) [] σ' H' s7' ∧ tk i s7'.heap ∧ (∀ b ∈ fp, H' b = none) ∧ W i m σ' xs H' := fun {σ7 H7 s7' xs'} I7 n7 => by
        obtain ⟨m', hm, w7⟩ := n7
        refine ⟨m', hm, i + 1, σ7, xs', H7, I7.unpinned, T.keep _ _ _ st7 fun b hb o e => (I7.pin (b, o) (List.mem_append_right _ (List.mem_append_right _ (mem_pinsAt hb e)))).1, fun b hb => ?_, w7⟩
        obtain ⟨o, e, d⟩ := T.obj _ _ st7 b hb
        exact (I7.pin (b, o) (List.mem_append_right _ (List.mem_append_right _ (mem_pinsAt hb e)))).2.1
      cases b with
      | false =>
        rw [if_neg Bool.false_ne_true] at q9
        exact wpAny_pure ⟨rfl, again I9 q9⟩
      | true =>
        rw [if_pos rfl] at q9
        refine wpAny_bind (wpAny_bind (wpAny_mono (he _ _ _ _ _ s9 σ8 H9 _ I9 q9) (fun uv s10 ⟨v, H10, I10, r10, hl10, w10⟩ => ?_) fun _ _ z => z.elim))
        refine wpAny_bind (wpAny_mono (mt_append (X := compCxG X scope cl fr tn s3.heap.objs.size s3 (upd H2 s2.heap.objs.size (.lst [])) fp) _ s10 _ H10 (.ref s2.heap.objs.size) [v] (.ref s2.heap.objs.size) [uv] (fun _ H' => H' = upd H10 s2.heap.objs.size (.lst (xs ++ [v]))) I10 rfl (.cons r10 .nil) ⟨_, xs, v, rfl, rfl, hl10, hz, rfl⟩) (fun _ s11 ⟨v11, H11, I11, r11, q11⟩ => ?_) (fun _ _ z => False.elim z))
        subst q11
        exact wpAny_pure (wpAny_pure ⟨rfl, again I11 w10⟩)
  subst hs3
  exact codeAny_compStart_list loop (T.self _ 0 _ _ _ st4 loop)
end
end L2
/-! WHAT IS WALKED, over data: lists, tuples, ranges, zip, enumerate, texts; for and comprehensions over any of them -/
namespace DL
open PySem PySem.Spec PyProof.Rows L2
/-- J tells the data ds one by one, whatever happens to lists that are owned -/
structure Yl (K : PySem.W.Frag) (J : It) (O : List Addr) (H1 : Hp) (ds : List D) : Prop where
  step : ∀ (O2 : List Addr) (H2 : Hp), To O O2 H1 H2 → ∀ (i : Nat) (d : D), ds[i]? = some d → J.go i H2 ∧ ∀ x H3, J.yld i H2 x H3 → Same H2 H3 ∧ Rep K O2 H3 x d
  stop : ∀ (O2 : List Addr) (H2 : Hp), To O O2 H1 H2 → J.stop ds.length H2
def PDI (X : Cx) (G : XD → Hp → Prop) (tg iter : Expr) (fi : DS → M (List D)) : Prop :=
  ∃ wi, PI X tg iter wi ∧ ∀ {Hr : Hp} (δ : DS) (O : List Addr) (σ : St) (H : Hp) (R : It → Hp → Prop), Ev X.K Hr O H σ δ → ok (GS G Hr) (fi δ) (fun ds => ∀ J H1, Same H H1 → Yl X.K J O H1 ds → R J H1) → wi σ H R
section
variable {K : PySem.W.Frag} {O : List Addr} {H1 : Hp}
theorem yl_list {a : Addr} {xs : List V} {ds : List D} (hk : ∀ (O2 : List Addr) (H2 : Hp), To O O2 H1 H2 → SqL K H2 a xs) (rs : Reps K O H1 xs ds) : Yl K (Itl K a) O H1 ds := by
  refine ⟨fun O2 H2 t i d hd => ?_, fun O2 H2 t => ⟨xs, hk O2 H2 t, by rw [rs.length]; exact Nat.le_refl _⟩⟩
  obtain ⟨v, hv, r⟩ := rs.get hd
  refine ⟨⟨xs, v, hk O2 H2 t, hv⟩, fun x H3 y => ?_⟩
  obtain ⟨rfl, y⟩ := y
  have := y xs (hk O2 H3 t)
  rw [hv] at this
  cases this
  exact ⟨Same.refl _, r.to t⟩
theorem yl_tup {a : Addr} {xs : List V} {ds : List D} (hq : SqT K H1 a xs) (rs : Reps K O H1 xs ds) : Yl K (Itt K a) O H1 ds := by
  refine ⟨fun O2 H2 t i d hd => ?_, fun O2 H2 t => ⟨xs, t.sqT hq, by rw [rs.length]; exact Nat.le_refl _⟩⟩
  obtain ⟨v, hv, r⟩ := rs.get hd
  refine ⟨⟨xs, v, t.sqT hq, hv⟩, fun x H3 y => ?_⟩
  obtain ⟨rfl, y⟩ := y
  have := y xs (t.sqT hq)
  rw [hv] at this
  cases this
  exact ⟨Same.refl _, r.to t⟩
theorem yl_range {lo : Int} {n : Nat} : Yl K (Itr lo n) O H1 (rngD lo n) := by
  have hl : (rngD lo n).length = n := by unfold rngD; rw [List.length_map, List.length_range]
  refine ⟨fun O2 H2 t i d hd => ?_, fun O2 H2 t => by rw [hl]; exact Nat.le_refl _⟩
  have hi : i < n := by
    have := (List.getElem?_eq_some_iff.mp hd).1
    omega
  refine ⟨hi, fun x H3 y => ?_⟩
  obtain ⟨rfl, rfl⟩ := y
  unfold rngD at hd
  rw [List.getElem?_map, List.getElem?_range hi] at hd
  cases hd
  exact ⟨Same.refl _, .int _⟩
/-- a list, as the Rep tells it -/
theorem Rep.lstTo {v : V} {ds : List D} (r : Rep K O H1 v (.list ds)) : ∃ a xs, v = .ref a ∧ SqL K H1 a xs ∧ (∀ (O2 : List Addr) (H2 : Hp), To O O2 H1 H2 → SqL K H2 a xs) ∧ Reps K O H1 xs ds := by
  cases r with
  | lst h n rs => exact ⟨_, _, rfl, .inl h, fun O2 H2 t => .inl (t.l _ _ n h).2, rs⟩
  | lstK h rs => exact ⟨_, _, rfl, .inr h, fun _ _ _ => .inr h, rs⟩
def zipD (xs ys : List D) : List D := List.zipWith (fun x y => .tuple [x, y]) xs ys
theorem zipD_get {xs ys : List D} {i : Nat} {d : D} (h : (zipD xs ys)[i]? = some d) : ∃ x y, xs[i]? = some x ∧ ys[i]? = some y ∧ d = .tuple [x, y] := by
  unfold zipD at h
  rw [List.getElem?_zipWith] at h
  split at h
  · rename_i x y hx hy
    cases h
    exact ⟨x, y, hx, hy, rfl⟩
  · cases h
theorem yl_zip {a b : Addr} {xs ys : List V} {ds es : List D} (hk : ∀ (O2 : List Addr) (H2 : Hp), To O O2 H1 H2 → SqL K H2 a xs) (hk2 : ∀ (O2 : List Addr) (H2 : Hp), To O O2 H1 H2 → SqL K H2 b ys) (rs : Reps K O H1 xs ds) (rs2 : Reps K O H1 ys es) : Yl K (Itz K a b) O H1 (zipD ds es) := by
  refine ⟨fun O2 H2 t i d hd => ?_, fun O2 H2 t => ⟨xs, ys, hk O2 H2 t, hk2 O2 H2 t, ?_⟩⟩
  · obtain ⟨x, y, hx, hy, rfl⟩ := zipD_get hd
    obtain ⟨v, hv, r⟩ := rs.get hx
    obtain ⟨u, hu, r2⟩ := rs2.get hy
    refine ⟨⟨xs, ys, v, u, hk O2 H2 t, hk2 O2 H2 t, hv, hu⟩, fun z H3 q => ?_⟩
    obtain ⟨T, rfl, hT, q⟩ := q
    have e := q xs ys v u (hk O2 H2 t) (hk2 O2 H2 t) hv hu
    subst e
    exact ⟨same_new hT, rep_newT hT (.cons (r.to t) (.cons (r2.to t) .nil))⟩
  · unfold zipD
    rw [List.length_zipWith, rs.length, rs2.length]
    omega
def enumD (n : Nat) : List D → List D
  | [] => []
  | x :: xs => .tuple [.int (n : Int), x] :: enumD (n + 1) xs
theorem enumD_len (n : Nat) (xs : List D) : (enumD n xs).length = xs.length := by
  induction xs generalizing n with
  | nil => rfl
  | cons x xs ih => show (enumD (n + 1) xs).length + 1 = _; rw [ih]; rfl
theorem enumD_get {xs : List D} {n i : Nat} {d : D} (h : (enumD n xs)[i]? = some d) : ∃ x, xs[i]? = some x ∧ d = .tuple [.int ((n + i : Nat) : Int), x] := by
  induction xs generalizing n i with
  | nil => cases h
  | cons x xs ih =>
    cases i with
    | zero => cases h; exact ⟨x, rfl, rfl⟩
    | succ i =>
      obtain ⟨y, hy, e⟩ := ih (n := n + 1) (i := i) h
      have : n + 1 + i = n + (i + 1) := by omega
      rw [this] at e
      exact ⟨y, hy, e⟩
theorem yl_enum {a : Addr} {xs : List V} {ds : List D} (hk : ∀ (O2 : List Addr) (H2 : Hp), To O O2 H1 H2 → SqL K H2 a xs) (rs : Reps K O H1 xs ds) : Yl K (Ite K a) O H1 (enumD 0 ds) := by
  refine ⟨fun O2 H2 t i d hd => ?_, fun O2 H2 t => ⟨xs, hk O2 H2 t, ?_⟩⟩
  · obtain ⟨x, hx, rfl⟩ := enumD_get hd
    obtain ⟨v, hv, r⟩ := rs.get hx
    refine ⟨⟨xs, v, hk O2 H2 t, hv⟩, fun z H3 q => ?_⟩
    obtain ⟨T, rfl, hT, q⟩ := q
    have e := q xs v (hk O2 H2 t) hv
    subst e
    rw [Nat.zero_add]
    exact ⟨same_new hT, rep_newT hT (.cons (.int _) (.cons (r.to t) .nil))⟩
  · rw [enumD_len, rs.length]
    exact Nat.le_refl _
/-- a text's signs -/
def signsD (z : Str) : List D := z.cps.toList.map fun c => .str ⟨#[c]⟩
theorem yl_str {z : Str} : Yl K (Its z) O H1 (signsD z) := by
  have hl : (signsD z).length = z.length := by unfold signsD; rw [List.length_map, Array.length_toList]; rfl
  refine ⟨fun O2 H2 t i d hd => ?_, fun O2 H2 t => by rw [hl]; exact Nat.le_refl _⟩
  have hi : i < z.length := by
    have := (List.getElem?_eq_some_iff.mp hd).1
    omega
  refine ⟨hi, fun x H3 y => ?_⟩
  obtain ⟨rfl, c, hc, rfl⟩ := y
  unfold signsD at hd
  rw [List.getElem?_map, Array.getElem?_toList, hc] at hd
  cases hd
  exact ⟨Same.refl _, .str _⟩
end
section
variable {X : Cx} {G : XD → Hp → Prop} {tg iter a b : Expr} {f : DS → M D} {fa : DS → M (List D)} {pos p : Pos} {elts : List Expr} {x1 : Nat} {tpos : Pos}
/-! ### what may be walked -/
def dSeq (f : DS → M D) : DS → M (List D) := fun δ => (f δ).thn fun d => M.lift (seqD d)
theorem pdi_seq (h : PD X G iter f) : PDI X G tg iter (dSeq f) := by
  obtain ⟨t, q, h⟩ := h
  refine ⟨_, pi_seq q, fun δ O σ H R E k => ?_⟩
  refine h δ O σ H _ E (ok_mono (ok_thn k) fun d z v H1 s1 r => ?_)
  obtain ⟨ds, hd, z⟩ := ok_lift z
  cases d with
  | list es =>
    cases hd
    obtain ⟨a, xs, rfl, hq, hk, rs⟩ := r.lstTo
    exact ⟨a, rfl, .inl ⟨⟨xs, hq⟩, z _ H1 s1 (yl_list hk rs)⟩⟩
  | tuple es =>
    cases hd
    obtain ⟨a, xs, rfl, hq, rs⟩ := r.tup_inv
    exact ⟨a, rfl, .inr ⟨⟨xs, hq⟩, z _ H1 s1 (yl_tup hq rs)⟩⟩
  | _ => cases hd
def dRng (rng : List D → Option (List D)) (fa : DS → M (List D)) : DS → M (List D) := fun δ => (fa δ).thn fun ds => M.lift (rng ds)
theorem pdi_rng1 (hgl : Gl X "range") (hm : X.mg "range" = none) (ha : PDA X G [a] fa) (hs1 : starEach [a] X.env = [(false, eval a X.env)] := by rfl) : PDI X G tg (.Call (.Name "range" p) [a] [] pos) (dRng rng1 fa) := by
  obtain ⟨_, ta, pa, ha⟩ := ha
  refine ⟨_, pi_range1 hgl hm pa hs1, fun δ O σ H R E k => ?_⟩
  refine ha δ O σ H _ E (ok_mono (ok_thn k) fun ds z vs H1 s1 rs => ?_)
  obtain ⟨xs, hd, z⟩ := ok_lift z
  unfold rng1 at hd
  split at hd
  · rename_i j
    by_cases hz : b62 j = true
    · rw [if_pos hz] at hd
      cases hd
      obtain ⟨v, rfl, r⟩ := reps1 rs
      obtain ⟨z1, z2⟩ := b62_of hz
      exact ⟨j, by rw [r.int_inv], z1, z2, z _ H1 s1 yl_range⟩
    · rw [if_neg hz] at hd; cases hd
  · cases hd
theorem pdi_rng2 (hgl : Gl X "range") (hm : X.mg "range" = none) (ha : PDA X G [a, b] fa) (hs1 : starEach [a, b] X.env = [(false, eval a X.env), (false, eval b X.env)] := by rfl) (hs2 : starEach [b] X.env = [(false, eval b X.env)] := by rfl) :
    PDI X G tg (.Call (.Name "range" p) [a, b] [] pos) (dRng rng2 fa) := by
  obtain ⟨_, ta, pa, ha⟩ := ha
  refine ⟨_, pi_range2 hgl hm pa hs1 hs2, fun δ O σ H R E k => ?_⟩
  refine ha δ O σ H _ E (ok_mono (ok_thn k) fun ds z vs H1 s1 rs => ?_)
  obtain ⟨xs, hd, z⟩ := ok_lift z
  unfold rng2 at hd
  split at hd
  · rename_i i j
    by_cases hz : (b62 i && b62 j) = true
    · rw [if_pos hz] at hd
      cases hd
      obtain ⟨v, v', rfl, r, r'⟩ := reps2 rs
      obtain ⟨hz1, hz2⟩ := Bool.and_eq_true_iff.mp hz
      obtain ⟨z1, z2⟩ := b62_of hz1
      obtain ⟨z3, z4⟩ := b62_of hz2
      exact ⟨i, j, by rw [r.int_inv, r'.int_inv], ⟨z1, z2, z3, z4⟩, z _ H1 s1 yl_range⟩
    · rw [if_neg hz] at hd; cases hd
  · cases hd
def dZip (fa : DS → M (List D)) : DS → M (List D) := fun δ => (fa δ).thn fun ds => match ds with
  | [.list xs, .list ys] => M.ret (zipD xs ys)
  | _ => none
theorem pdi_zip (hgl : Gl X "zip") (hm : X.mg "zip" = none) (ha : PDA X G [a, b] fa) (hs1 : starEach [a, b] X.env = [(false, eval a X.env), (false, eval b X.env)] := by rfl) (hs2 : starEach [b] X.env = [(false, eval b X.env)] := by rfl) :
    PDI X G (.Tuple elts x1 tpos) (.Call (.Name "zip" p) [a, b] [] pos) (dZip fa) := by
  obtain ⟨_, ta, pa, ha⟩ := ha
  refine ⟨_, pi_zip hgl hm pa hs1 hs2, fun δ O σ H R E k => ?_⟩
  refine ha δ O σ H _ E (ok_mono (ok_thn k) fun ds z vs H1 s1 rs => ?_)
  match ds, z with
  | [.list xs, .list ys], z =>
    obtain ⟨v, v', rfl, r, r'⟩ := reps2 rs
    obtain ⟨a1, us, rfl, hq, hk, r1⟩ := r.lstTo
    obtain ⟨a2, us2, rfl, hq2, hk2, r2⟩ := r'.lstTo
    exact ⟨a1, a2, rfl, ⟨us, hq⟩, ⟨us2, hq2⟩, z _ H1 s1 (yl_zip hk hk2 r1 r2)⟩
def dEnum (fa : DS → M (List D)) : DS → M (List D) := fun δ => (fa δ).thn fun ds => match ds with
  | [.list xs] => M.ret (enumD 0 xs)
  | _ => none
theorem pdi_enum (hgl : Gl X "enumerate") (hm : X.mg "enumerate" = none) (ha : PDA X G [a] fa) (hs1 : starEach [a] X.env = [(false, eval a X.env)] := by rfl) :
    PDI X G (.Tuple elts x1 tpos) (.Call (.Name "enumerate" p) [a] [] pos) (dEnum fa) := by
  obtain ⟨_, ta, pa, ha⟩ := ha
  refine ⟨_, pi_enum hgl hm pa hs1, fun δ O σ H R E k => ?_⟩
  refine ha δ O σ H _ E (ok_mono (ok_thn k) fun ds z vs H1 s1 rs => ?_)
  match ds, z with
  | [.list xs], z =>
    obtain ⟨v, rfl, r⟩ := reps1 rs
    obtain ⟨a1, us, rfl, hq, hk, r1⟩ := r.lstTo
    exact ⟨a1, rfl, ⟨us, hq⟩, z _ H1 s1 (yl_enum hk r1)⟩
def dSigns (f : DS → M D) : DS → M (List D) := fun δ => (f δ).thn fun d => match d with
  | .str z => M.ret (signsD z)
  | _ => none
theorem pdi_str (h : PD X G iter f) : PDI X G tg iter (dSigns f) := by
  obtain ⟨t, q, h⟩ := h
  refine ⟨_, pi_str q, fun δ O σ H R E k => ?_⟩
  refine h δ O σ H _ E (ok_mono (ok_thn k) fun d z v H1 s1 r => ?_)
  match d, z, r with
  | .str w, z, r => exact ⟨w, r.str_inv, z _ H1 s1 yl_str⟩
/-! ### for -/
def gForI (fi : DS → M (List D)) (t : D → DS → Option DS) (g : DS → M Out) : DS → M Out := fun δ => (fi δ).thn fun ds => forD (bodyD t g) ds δ
theorem pd_forI {body : List Stmt} {t : D → DS → Option DS} {fi : DS → M (List D)} {gs : DS → M Out} (hp : PassesOwn (model X.prog X.w) X.A X.env X.xe) (hc : X.calm = true) (hi : PDI X G tg iter fi) (hg : PDG X tg t) (hb : PDSs X G body gs)
    (hs : ∀ x, foldedSetIterable iter X.env x = pure x := by intro _; rfl) : PDS X G (.For tg iter body [] pos) (gForI fi t gs) := by
  obtain ⟨wi, pi, hi⟩ := hi
  obtain ⟨tgt, pt, hg⟩ := hg
  obtain ⟨tb, pb, hb⟩ := hb
  refine ⟨_, ps_for hp hc pi pt pb hs, @fun Hr R0 P0 H0 δ O σ H Dn E k => ?_⟩
  refine hi δ O σ H _ E.ev (ok_mono (ok_thn k) fun ds z J H1 s1 Y => ?_)
  have E1 := E.same s1
  have z1 : ok (GS G Hr) (forD (bodyD t gs) ds δ) (Fin X.K Hr R0 (Ch O R0) H1 Dn) := ok_mono z fun o q => Fin.outer E1 q
  refine ⟨fun i m σ2 H2 => m = ds.length - i ∧ i ≤ ds.length ∧ ∃ δ2 O2, EI X.K Hr R0 (Ch O R0) H1 O2 H2 σ2 δ2 ∧ ok (GS G Hr) (forD (bodyD t gs) (ds.drop i) δ2) (Fin X.K Hr R0 (Ch O R0) H1 Dn), ⟨_, rfl, Nat.zero_le _, δ, O, E1.inner, z1⟩, ?_⟩
  rintro i m σ2 H2 ⟨rfl, hi, δ2, O2, E2, k2⟩
  have T := E1.to E2
  by_cases hlt : i < ds.length
  · right
    have hd : ds[i]? = some ds[i] := List.getElem?_eq_getElem hlt
    obtain ⟨go, yl⟩ := Y.step O2 H2 T i _ hd
    refine ⟨go, fun σ' H' => ∃ δ2 O2, EI X.K Hr R0 (Ch O R0) H1 O2 H' σ' δ2 ∧ ok (GS G Hr) (forD (bodyD t gs) (ds.drop (i + 1)) δ2) (Fin X.K Hr R0 (Ch O R0) H1 Dn), fun σ' H' h => ⟨_, by omega, rfl, hlt, h⟩, fun x H3 y => ?_⟩
    obtain ⟨s3, rx⟩ := yl x H3 y
    rw [drop_get hd] at k2
    have k3 := ok_thn (show ok (GS G Hr) ((bodyD t gs ds[i] δ2).thn _) _ from k2)
    obtain ⟨δ3, h3, k4⟩ := ok_lift (ok_thn (show ok (GS G Hr) ((M.lift (t ds[i] δ2)).thn gs) _ from k3))
    refine hg R0 (Ch O R0) H1 δ2 δ3 ds[i] x O2 σ2 H3 _ (E2.same s3) rx h3 fun σ4 H4 E4 _ => ?_
    refine hb R0 (Ch O R0) H1 δ3 O2 σ4 H4 _ E4 (ok_mono k4 fun o z => ?_)
    cases o with
    | nx δ5 => exact fun O5 σ5 H5 E5 => ⟨δ5, O5, E5, z⟩
    | ct δ5 => exact fun O5 σ5 H5 E5 => ⟨δ5, O5, E5, z⟩
    | bk δ5 => exact fun O5 σ5 H5 E5 => z O5 σ5 H5 E5
    | rt d => exact z
  · left
    have e : i = ds.length := by omega
    subst e
    rw [List.drop_length] at k2
    exact ⟨Y.stop O2 H2 T, k2 O2 σ2 H2 E2⟩
/-! ### comprehensions -/
def compD (t : D → DS → Option DS) (c : DS → M Bool) (f : DS → M D) : List D → DS → M (List D)
  | [], _ => M.ret []
  | d :: ds, δ => (M.lift (t d δ)).thn fun δ' => (c δ').thn fun b => if b = true then (f δ').thn fun y => (compD t c f ds δ').thn fun ys => M.ret (y :: ys) else compD t c f ds δ'
def dYes : DS → M Bool := fun _ => M.ret true
def nX {α : Type} (f : DS → M α) : DS → M α := fun δ => noX (f δ)
def dCompG (n : Nat) (js : List Nat) (t : D → DS → Option DS) (fi : DS → M (List D)) (c : DS → M Bool) (f : DS → M D) : DS → M D := fun δ => (fi δ).thn fun ds => if small ds.length then (compD t (nX c) (nX f) ds (List.replicate n .un ++ js.map (slotAt δ))).thn fun ys => M.ret (.list ys) else none
def PDTs (X : Cx) (ifs : List Expr) (f : DS → M Bool) : Prop :=
  ∃ t, PTs X ifs t ∧ ∀ {Hr : Hp} (δ : DS) (O : List Addr) (σ : St) (H : Hp) (Q : Bool → Hp → Prop), Ev X.K Hr O H σ δ → ok (fun _ => False) (f δ) (fun b => ∀ H', Same H H' → Q b H') → t σ H Q
theorem pdts_nil : PDTs X [] dYes := ⟨_, pts_nil, fun δ O σ H Q E k => k H (Same.refl H)⟩
theorem ok_GS0 {α : Type} {Hr : Hp} {r : M α} {k : α → Prop} (h : ok (fun _ => False) r k) : ok (GS (fun _ _ => False) Hr) r k := ok_false h
end
end DL
/-! COMPREHENSIONS over data -/
namespace DL
open PySem PySem.Spec PyProof.Rows L2
/-- the readings that runs ask for -/
def gD (K : PySem.W.Frag) (t : D → DS → Option DS) : TG := fun v σ H Q => ∃ Hr R0 P0 H0 δ δ' d O, EI K Hr R0 P0 H0 O H σ δ ∧ Rep K O H v d ∧ t d δ = some δ' ∧ ∀ σ' H', EI K Hr R0 P0 H0 O H' σ' δ' → Same H H' → Q σ' H'
theorem PDG.can {X : Cx} {e : Expr} {t : D → DS → Option DS} (h : PDG X e t) : PG X e (gD X.K t) := by
  obtain ⟨g, p, h⟩ := h
  intro pins s σ H v u Q I r hw
  obtain ⟨Hr, R0, P0, H0, δ, δ', d, O, E, rd, ht, k⟩ := hw
  exact p pins s σ H v u Q I r (h R0 P0 H0 δ δ' d v O σ H Q E rd ht k)
def cD (K : PySem.W.Frag) (f : DS → M Bool) : TT := fun σ H Q => ∃ Hr δ O, Ev K Hr O H σ δ ∧ ok (fun _ => False) (f δ) (fun b => ∀ H', Same H H' → Q b H')
theorem PDTs.can {X : Cx} {ifs : List Expr} {f : DS → M Bool} (h : PDTs X ifs f) : PTs X ifs (cD X.K f) := by
  obtain ⟨t, p, h⟩ := h
  intro pins s σ H Q I hw
  obtain ⟨Hr, δ, O, E, k⟩ := hw
  exact p pins s σ H Q I (h δ O σ H Q E k)
section
variable {K : PySem.W.Frag} {O : List Addr} {H1 H H' : Hp} {l : Addr} {τ : St} {δ : DS}
/-- a comprehension's state -/
abbrev EC (K : PySem.W.Frag) (O : List Addr) (H1 : Hp) (l : Addr) (H : Hp) (τ : St) (δ : DS) : Prop := EI K (fun _ => none) (l :: O) (fun b => b = l) H1 (l :: O) H τ δ
theorem EC.put {xs ys : List V} (E : EC K O H1 l H τ δ) (hl : H l = some (.lst xs)) : EC K O H1 l (upd H l (.lst ys)) τ δ := by
  have ts : To (l :: O) (l :: O) H (upd H l (.lst ys)) := To.set hl List.mem_cons_self
  refine ⟨⟨(fun _ _ z => nomatch z), fun a ha => ?_, E.ev.len, fun i s hs => ?_, E.ev.dis⟩, E.omr, fun b o n h => ?_, E.om, E.nr1, E.sub⟩
  · by_cases e : a = l
    · subst e; exact .lst upd_same
    · exact (E.ev.oo a ha).upd_ne e
  · have q := E.ev.at_ i s hs
    cases s with
    | un => trivial
    | ex a => exact q
    | vl d =>
      obtain ⟨v, h1, r⟩ := q
      exact ⟨v, h1, r.to ts⟩
    | ow ds =>
      obtain ⟨a, us, h1, h2, h3, r⟩ := q
      exact absurd h2 (E.nr i ds a hs h1)
    | od es =>
      obtain ⟨a, us, h1, h2, h3, r⟩ := q
      exact absurd h2 (E.nr1 i _ a hs trivial h1)
  · rw [upd_ne n]
    exact E.keep b o n h
theorem slot_of {Hr : Hp} {σ : St} {δ : DS} {fr : List (Nat × Str)} (E : Ev K Hr O H σ δ) (n : Nat) (hl : H l = none) : EC K O H l (upd H l (.lst [])) (compSt n fr σ) (List.replicate n .un ++ (fr.map (·.1)).map (slotAt δ)) := by
  have get : ∀ (i : Nat) (s : Sl), (List.replicate n Sl.un ++ (fr.map (·.1)).map (slotAt δ))[i]? = some s → s = .un ∨ ∃ d v, s = .vl d ∧ (compSt n fr σ)[i]? = some (some v) ∧ Rep K O H v d := fun i s h => by
    by_cases hi : i < n
    · rw [List.getElem?_append_left (by simpa using hi), List.getElem?_replicate] at h
      split at h <;> cases h <;> exact .inl rfl
    · rw [List.getElem?_append_right (by simpa using hi), List.length_replicate, List.getElem?_map, List.getElem?_map] at h
      cases q : fr[i - n]? with
      | none => rw [q] at h; cases h
      | some p =>
        rw [q] at h
        have h : slotAt δ p.1 = s := Option.some.inj h
        unfold slotAt at h
        split at h
        · rename_i d hd
          subst h
          obtain ⟨v, hv, r⟩ := E.val hd
          refine .inr ⟨d, v, rfl, ?_, r⟩
          unfold compSt
          rw [List.getElem?_append_right (by simpa using hi), List.length_replicate, List.getElem?_map, q]
          show some (σ[p.1]?).join = _
          rw [hv]
          rfl
        · exact .inl h.symm
  have to : To O (l :: O) H (upd H l (.lst [])) := To.own hl
  refine ⟨⟨(fun _ _ z => nomatch z), fun a ha => ?_, by simp [compSt], fun i s hs => ?_, fun i j a ds es hij h1 => ?_⟩, fun a ha => .inl ha, fun b o nb h => by rw [upd_ne nb]; exact h, fun a ha => .inl ha, fun i ds a h1 ho => ?_, fun a ha => ha⟩
  · rcases List.mem_cons.mp ha with rfl | ha
    · exact .lst upd_same
    · exact (E.oo a ha).new hl
  · rcases get i s hs with rfl | ⟨d, v, rfl, hv, r⟩
    · trivial
    · exact ⟨v, hv, r.to to⟩
  · rcases get i _ h1 with z | ⟨_, _, z, _⟩ <;> cases z
  · rcases get i _ h1 with z | ⟨_, _, z, _⟩ <;> (cases z; exact ho.elim)
end
section
variable {X : Cx} {G : XD → Hp → Prop} {fi : DS → M (List D)} {c : DS → M Bool} {f : DS → M D} {t : D → DS → Option DS}
theorem ok_nX {α : Type} {g : XD → Prop} {f : DS → M α} {δ : DS} {k : α → Prop} (h : ok g (nX f δ) k) : ok (fun _ => False) (f δ) k := ok_noX h
theorem pd_compG {cl : List (Str × Addr)} {fr : List (Nat × Str)} {tn : List Str} {elt iter tg : Expr} {ifs : List Expr} {scope : Scope} {pos : Pos} (hc : X.calm = true)
    (hkind : scope.kind = .function) (hcell : ∀ y ∈ scope.names, y.2 ≠ .cell) (hclos : closureFor scope X.env = pure cl) (hsub : ∀ y c, cl.lookup y = some c → X.env.cells.lookup y = some c)
    (hhas : ∀ y ∈ (relabel scope X.env).names, (y.2 = .cell ∨ y.2 = .free) → ∃ c, cl.lookup y.1 = some c) (hfr : ∀ p ∈ fr, X.N[p.1]? = some p.2 ∧ X.env.kindOf p.2 = some .cell ∧ (compEnvC scope cl 0 X.env).kindOf p.2 = some .cell ∧ ∃ c, cl.lookup p.2 = some c) (hnames : ∀ y ∈ scope.names, y.2 = .local → scope.names.lookup y.1 = some .local)
    (hi : PDI X G tg iter fi) (hg : ∀ C s3 H3 fp, PDG (compCxG X scope cl fr tn C s3 H3 fp) tg t) (hcs : ∀ C s3 H3 fp, PDTs (compCxG X scope cl fr tn C s3 H3 fp) ifs c) (he : ∀ C s3 H3 fp, PD (compCxG X scope cl fr tn C s3 H3 fp) (fun _ _ => False) elt f) (hs : ∀ x, foldedSetIterable iter X.env x = pure x := by intro _; rfl) :
    PD X G (.ListComp elt [⟨tg, iter, ifs, 0⟩] scope pos) (dCompG tn.length (fr.map (·.1)) t fi c f) := by
  obtain ⟨wi, pi, hi⟩ := hi
  refine ⟨_, pe_compG (g := gD X.K t) (tc := cD X.K c) (te := tD X.K (fun _ _ => False) f) hc hkind hcell hclos hsub hhas hfr hnames pi (fun C s3 H3 fp => (hg C s3 H3 fp).can) (fun C s3 H3 fp => (hcs C s3 H3 fp).can) (fun C s3 H3 fp => (he C s3 H3 fp).can) hs, @fun Hr δ O σ H Q E k => ?_⟩
  refine hi δ O σ H _ E (ok_mono (ok_thn k) fun ds z J H1 s1 Y => ?_)
  by_cases hsz : small ds.length = true
  case neg =>
    rw [if_neg hsz] at z
    exact z.elim
  rw [if_pos hsz] at z
  intro l hl
  have E1 := E.same s1
  have kk := ok_mono (ok_thn z) fun ys (q : ∀ v H', Same H H' → Rep X.K O H' v (.list ys) → Q v H') H2 (kp : Kp l H1 H2) r2 => q (.ref l) H2 (s1.trans (kp.same hl)) r2
  refine ⟨fun i m τ xs H2 => m = ds.length - i ∧ i ≤ ds.length ∧ xs.length ≤ i ∧ H2 l = some (.lst xs) ∧ ∃ δc ys, EC X.K O H1 l H2 τ δc ∧ Reps X.K (l :: O) H2 xs ys ∧
    ok (GS G Hr) (compD t (nX c) (nX f) (ds.drop i) δc) (fun rest => ∀ H3, Kp l H1 H3 → Rep X.K O H3 (.ref l) (.list (ys ++ rest)) → Q (.ref l) H3),
    ⟨_, rfl, Nat.zero_le _, Nat.le_refl _, upd_same, _, [], slot_of E1 tn.length hl, .nil, kk⟩, ?_⟩
  rintro i m τ xs H2 ⟨rfl, hi, hx, h2, δc, ys, Ec, ry, kc⟩
  have kp : Kp l H1 H2 := fun b o hb e => Ec.keep b o hb e
  refine ⟨h2, ?_⟩
  have T : To O (l :: O) H1 H2 := kp.to hl
  by_cases hlt : i < ds.length
  · right
    have hd : ds[i]? = some ds[i] := List.getElem?_eq_getElem hlt
    obtain ⟨go, yl⟩ := Y.step (l :: O) H2 T i _ hd
    refine ⟨go, Nat.lt_of_le_of_lt hx (Nat.lt_of_lt_of_le hlt (small_le hsz)), fun x H3 y => ?_⟩
    obtain ⟨s3, rx⟩ := yl x H3 y
    rw [drop_get hd] at kc
    obtain ⟨δ', ht, kc⟩ := ok_lift (ok_thn (show ok (GS G Hr) ((M.lift (t ds[i] δc)).thn _) _ from kc))
    refine ⟨_, _, _, _, δc, δ', ds[i], l :: O, Ec.same s3, rx, ht, fun τ' H4 E4 s4 => ?_⟩
    refine ⟨_, δ', l :: O, E4.ev, ok_mono (ok_nX (ok_thn kc)) fun b zb H5 s5 => ?_⟩
    have E5 := E4.same s5
    have s25 := (s3.trans s4).trans s5
    dsimp only
    cases b with
    | false =>
      rw [if_neg Bool.false_ne_true] at zb ⊢
      exact ⟨_, by omega, rfl, hlt, by omega, s25 _ _ h2, δ', ys, E5, ry.same s25, zb⟩
    | true =>
      rw [if_pos rfl] at zb ⊢
      refine ⟨_, δ', l :: O, E5.ev, ok_GS0 (ok_mono (ok_nX (ok_thn zb)) fun y kz v H6 s6 rv => ?_)⟩
      have h6 : H6 l = some (.lst xs) := s6 _ _ (s25 _ _ h2)
      have ts : To (l :: O) (l :: O) H6 (upd H6 l (.lst (xs ++ [v]))) := To.set h6 List.mem_cons_self
      refine ⟨h6, ds.length - (i + 1), by omega, rfl, hlt, by rw [List.length_append]; show xs.length + 1 ≤ i + 1; omega, upd_same, δ', ys ++ [y], EC.put (E5.same s6) h6, (((ry.same s25).same s6).to ts).append (.cons (rv.to ts) .nil), ?_⟩
      exact ok_mono (ok_thn kz) fun rest q H7 kp7 r7 => q H7 kp7 (by rw [List.append_assoc] at r7; exact r7)
  · left
    have e : i = ds.length := by omega
    subst e
    rw [List.drop_length] at kc
    refine ⟨Y.stop (l :: O) H2 T, kc H2 kp ?_⟩
    rw [List.append_nil]
    exact .lst (.inl h2) (nin E1.oo hl) (ry.to (.less fun b hb => List.mem_cons_of_mem _ hb))
end
/-! evaluation -/
section
variable {δ δ' : DS} {fi : DS → M (List D)} {c : DS → M Bool} {f : DS → M D} {t : D → DS → Option DS} {fa : DS → M (List D)} {g : DS → M D} {x y d : D} {ds ys xs : List D} {n : Nat} {js : List Nat} {gs gt : DS → M Out} {r : M Out} {z : Str}
theorem ev_compG (h1 : fi δ = M.ret ds) (hz : small ds.length = true) (h3 : compD t (nX c) (nX f) ds (List.replicate n .un ++ js.map (slotAt δ)) = M.ret ys) : dCompG n js t fi c f δ = M.ret (.list ys) := by
  unfold dCompG; rw [h1, thn_ret, if_pos hz, h3]; rfl
theorem ev_compC (h1 : t d δ = some δ') (h2 : f δ' = M.ret y) (h3 : compD t (nX dYes) (nX f) ds δ' = M.ret ys) : compD t (nX dYes) (nX f) (d :: ds) δ = M.ret (y :: ys) := by
  show (M.lift (t d δ)).thn _ = _
  rw [h1, lift_some, thn_ret]
  show (M.ret true).thn _ = _
  rw [thn_ret, if_pos rfl]
  show (noX (f δ')).thn _ = _
  rw [h2]
  show (compD _ _ _ _ _).thn _ = _
  rw [h3]
  rfl
/-- one value for each item, whatever the targets were before: Q tells which states come -/
theorem ev_compM {h : D → D} (Q : DS → Prop) : ∀ (ds : List D) (δ : DS), Q δ → (∀ d ∈ ds, ∀ δ, Q δ → ∃ δ', t d δ = some δ' ∧ f δ' = M.ret (h d) ∧ Q δ') → compD t (nX dYes) (nX f) ds δ = M.ret (ds.map h)
  | [], _, _, _ => rfl
  | d :: ds, δ, q, hs => by
    obtain ⟨δ', h1, h2, q'⟩ := hs d List.mem_cons_self δ q
    exact ev_compC h1 h2 (ev_compM Q ds δ' q' fun e he => hs e (List.mem_cons_of_mem _ he))
theorem ev_rngS {rng : List D → Option (List D)} (h1 : fa δ = M.ret xs) (h2 : rng xs = some ds) : dRng rng fa δ = M.ret ds := by unfold dRng; rw [h1, thn_ret, h2]; rfl
theorem ev_zipS (h1 : fa δ = M.ret [.list xs, .list ys]) : dZip fa δ = M.ret (zipD xs ys) := by unfold dZip; rw [h1]; rfl
theorem ev_enumS (h1 : fa δ = M.ret [.list xs]) : dEnum fa δ = M.ret (enumD 0 xs) := by unfold dEnum; rw [h1]; rfl
theorem ev_forG (h1 : fi δ = M.ret ds) {r : M Out} (h3 : forD (bodyD t gs) ds δ = r) : gForI fi t gs δ = r := by unfold gForI; rw [h1, thn_ret]; exact h3
theorem ev_forGI (P : DS → Prop) (h1 : fi δ = M.ret ds) (h0 : P δ) (hs : ∀ d ∈ ds, ∀ δ, P δ → ∃ δ', bodyD t gs d δ = M.ret (.nx δ') ∧ P δ') (hr : ∀ δ', P δ' → gt δ' = r) : gSeq (gForI fi t gs) gt δ = r := by
  obtain ⟨δ', h3, p⟩ := forD_inv P ds δ h0 hs
  exact ev_seq (ev_forG h1 h3) (hr δ' p)
end
end DL
/-! a list, a tuple or a text -/
namespace DL
open PySem PySem.Spec PyProof.Rows L2
section
variable {X : Cx} {G : XD → Hp → Prop} {tg iter : Expr} {f : DS → M D}
theorem PI.or {w1 w2 : TI} (h1 : PI X tg iter w1) (h2 : PI X tg iter w2) : PI X tg iter (fun σ H R => w1 σ H R ∨ w2 σ H R) := by
  intro pins s σ H R I h
  rcases h with h | h
  · exact h1 pins s σ H R I h
  · exact h2 pins s σ H R I h
def anyD : D → Option (List D)
  | .list ds => some ds
  | .tuple ds => some ds
  | .str z => some (signsD z)
  | _ => none
def dAny (f : DS → M D) : DS → M (List D) := fun δ => (f δ).thn fun d => M.lift (anyD d)
theorem pdi_any (h : PD X G iter f) : PDI X G tg iter (dAny f) := by
  obtain ⟨w1, p1, h1⟩ := pdi_seq (tg := tg) h
  obtain ⟨w2, p2, h2⟩ := pdi_str (tg := tg) h
  refine ⟨_, PI.or p1 p2, fun δ O σ H R E k => ?_⟩
  have d1 : ∀ d, f δ = some (.ok d) → (∀ z, d ≠ .str z) → dSeq f δ = dAny f δ := fun d e n => by
    unfold dSeq dAny
    rw [e]
    show M.lift (seqD d) = M.lift (anyD d)
    cases d with
    | str z => exact absurd rfl (n z)
    | _ => rfl
  match e : f δ with
  | none => unfold dAny at k; rw [e] at k; exact k.elim
  | some (.error x) =>
    refine .inl (h1 δ O σ H R E ?_)
    have e1 : dAny f δ = dSeq f δ := by unfold dAny dSeq; rw [e]; rfl
    rw [← e1]
    exact k
  | some (.ok d) =>
    match d, e with
    | .str z, e =>
      refine .inr (h2 δ O σ H R E ?_)
      have e1 : dAny f δ = dSigns f δ := by unfold dAny dSigns; rw [e]; rfl
      rw [← e1]
      exact k
    | .none, e => exact .inl (h1 δ O σ H R E (by rw [d1 _ e (fun z q => nomatch q)]; exact k))
    | .bool b, e => exact .inl (h1 δ O σ H R E (by rw [d1 _ e (fun z q => nomatch q)]; exact k))
    | .int b, e => exact .inl (h1 δ O σ H R E (by rw [d1 _ e (fun z q => nomatch q)]; exact k))
    | .list b, e => exact .inl (h1 δ O σ H R E (by rw [d1 _ e (fun z q => nomatch q)]; exact k))
    | .tuple b, e => exact .inl (h1 δ O σ H R E (by rw [d1 _ e (fun z q => nomatch q)]; exact k))
    | .dict b, e => exact .inl (h1 δ O σ H R E (by rw [d1 _ e (fun z q => nomatch q)]; exact k))
theorem ev_any {δ : DS} {x : D} {ds : List D} (h1 : f δ = M.ret x) (h2 : anyD x = some ds) : dAny f δ = M.ret ds := by unfold dAny; rw [h1, thn_ret, h2]; rfl
end
end DL
/-! NEW LISTS that a def holds; an owned list lent to an expression that tells no list -/
namespace DL
open PySem PySem.Spec PyProof.Rows L2
section
variable {X : Cx} {G : XD → Hp → Prop} {a b c e : Expr} {es : List Expr} {f : DS → M D} {fa : DS → M (List D)} {pos pos' : Pos} {sts : List Stmt} {gs : DS → M Out}
variable {K : PySem.W.Frag} {Hr : Hp} {R0 : List Addr} {P0 : Addr → Prop} {H0 H H' : Hp} {O : List Addr} {σ : St} {δ : DS}
theorem EI.newL {i : Nat} {l : Addr} {xs : List V} {ds : List D} (E : EI K Hr R0 P0 H0 O H σ δ) (hl : H l = none) (rx : Reps K O H xs ds) : EI K Hr R0 P0 H0 (l :: O) (upd H l (.lst xs)) (σ.set i (some (.ref l))) (δ.set i (.ow ds)) := by
  have nO : l ∉ O := nin E.ev.oo hl
  have tO : To O (l :: O) H (upd H l (.lst xs)) := To.own hl
  refine ⟨⟨fun b o h => by have q := E.ev.root b o h; rw [upd_ne (ne_of_none q hl)]; exact q, fun a ha => ?_, by rw [List.length_set, List.length_set]; exact E.ev.len, fun j s h => ?_, fun j k a ds es hjk h1 h2 h3 h4 => ?_⟩, fun a ha => ?_, fun b o n h => ?_, fun a ha => ?_, fun j ds a h1 ho h2 => ?_, fun a ha => List.mem_cons_of_mem _ (E.sub a ha)⟩
  · rcases List.mem_cons.mp ha with rfl | ha
    · exact .lst upd_same
    · exact (E.ev.oo a ha).new hl
  · rw [get_set] at h ⊢
    by_cases hij : i = j
    · rw [if_pos hij] at h ⊢
      by_cases hz : i < δ.length
      · rw [if_pos hz] at h
        rw [if_pos (by rw [E.ev.len]; exact hz)]
        cases h
        exact ⟨l, xs, rfl, List.mem_cons_self, upd_same, rx.to tO⟩
      · rw [if_neg hz] at h; cases h
    · rw [if_neg hij] at h ⊢
      exact (E.ev.at_ j s h).to tO (hd_new hl) fun a xs h1 h2 _ _ => ⟨List.mem_cons_of_mem _ h1, by rw [upd_ne (ne_of_none h2 hl)]; exact h2⟩
  · rw [get_set] at h1 h2 h3 h4
    by_cases hij : i = j
    · rw [if_pos hij] at h1 h3
      have ha : a = l := by
        split at h3
        · cases h3; rfl
        · cases h3
      have hik : ¬ i = k := fun z => hjk (hij.symm.trans z)
      rw [if_neg hik] at h2 h4
      obtain ⟨l', xs, q1, q2, q3, _⟩ := E.ev.at_ k _ h2
      rw [h4] at q1
      cases q1
      rw [ha] at q2
      exact nO q2
    · rw [if_neg hij] at h1 h3
      by_cases hik : i = k
      · rw [if_pos hik] at h4
        have ha : a = l := by
          split at h4
          · cases h4; rfl
          · cases h4
        obtain ⟨l', xs, q1, q2, q3, _⟩ := E.ev.at_ j _ h1
        rw [h3] at q1
        cases q1
        rw [ha] at q2
        exact nO q2
      · rw [if_neg hik] at h2 h4
        exact E.ev.dis j k a ds es hjk h1 h2 h3 h4
  · rcases List.mem_cons.mp ha with rfl | ha
    · refine .inr ?_
      cases q : Hr a with
      | none => rfl
      | some o =>
        rw [E.ev.root a o q] at hl
        cases hl
    · exact E.omr a ha
  · have q := E.keep b o n h
    rw [upd_ne (ne_of_none q hl)]
    exact q
  · rcases List.mem_cons.mp ha with rfl | ha
    · by_cases hp : P0 a
      · exact .inr (.inl hp)
      · refine .inr (.inr ?_)
        cases q : H0 a with
        | none => rfl
        | some o =>
          rw [E.keep a o hp q] at hl
          cases hl
    · exact E.om a ha
  · rw [get_set] at h1 h2
    by_cases hij : i = j
    · rw [if_pos hij] at h2
      have ha : a = l := by
        split at h2
        · cases h2; rfl
        · cases h2
      rw [ha]
      exact fun z => nO (E.sub l z)
    · rw [if_neg hij] at h1 h2
      exact E.nr1 j ds a h1 ho h2
/-- an expression that makes a new list -/
def PDN (X : Cx) (G : XD → Hp → Prop) (e : Expr) (f : DS → M (List D)) : Prop :=
  ∃ t, PE X e t ∧ ∀ {Hr : Hp} (δ : DS) (O : List Addr) (σ : St) (H : Hp) (Q : VK), Ev X.K Hr O H σ δ → ok (GS G Hr) (f δ) (fun ds => ∀ l xs H1, Same H H1 → H1 l = none → Reps X.K O H1 xs ds → Q (.ref l) (upd H1 l (.lst xs))) → t σ H Q
def nLst (fa : DS → M (List D)) : DS → M (List D) := fun δ => (fa δ).thn fun ds => if small ds.length then M.ret ds else none
theorem pdn_lst (h : PDA X G es fa) : PDN X G (.List es pos) (nLst fa) := by
  obtain ⟨_, t, p, h⟩ := h
  refine ⟨_, pe_lst p, fun δ O σ H Q E k => ?_⟩
  refine h δ O σ H _ E (ok_mono (ok_thn k) fun ds z vs H1 s1 rs => ?_)
  by_cases hz : small ds.length = true
  · rw [if_pos hz] at z
    exact ⟨by rw [rs.length]; exact small_le hz, fun p hp => z p vs H1 s1 hp rs⟩
  · rw [if_neg hz] at z
    exact z.elim
/-- list(x) -/
def nList (fa : DS → M (List D)) : DS → M (List D) := fun δ => (fa δ).thn fun ds => match ds with
  | [.list xs] => M.ret xs
  | [.tuple xs] => M.ret xs
  | _ => none
def gNewL (i : Nat) (f : DS → M (List D)) : DS → M Out := fun δ => (f δ).thn fun ds => M.ret (.nx (δ.set i (.ow ds)))
theorem pd_newL {i : Nat} {x : Str} {f : DS → M (List D)} (hN : X.N.Nodup) (hi : X.N[i]? = some x) (hx : Loc X.env.scope x) (he : PDN X G e f) (hs : swapsWith e (some (.Name x pos')) pos.line X.env = pure false := by rfl) (hf : X.fn x = true ∨ X.env.scope.names.lookup x = some .local := by first | exact .inl rfl | exact .inr rfl | assumption) :
    PDS X G (.Assign [.Name x pos'] e pos) (gNewL i f) := by
  obtain ⟨t, p, he⟩ := he
  refine ⟨_, ps_set hN hi hx p hs hf, fun R0 P0 H0 δ O σ H Dn E k => ?_⟩
  exact he δ O σ H _ E.ev (ok_mono (ok_thn k) fun ds z l xs H1 s1 hl rx => z (l :: O) _ _ ((E.same s1).newL hl rx))
/-! ### lent -/
mutual
/-- data without a list -/
def flatD : D → Bool
  | .tuple ds => flatDs ds
  | .list _ => false
  | .dict _ => false
  | _ => true
def flatDs : List D → Bool
  | [] => true
  | d :: ds => flatD d && flatDs ds
end
mutual
theorem Rep.flat {O' : List Addr} : ∀ {v : V} {d : D}, flatD d = true → Rep K O H v d → Rep K O' H v d
  | _, _, _, .non => .non
  | _, _, _, .bl b => .bl b
  | _, _, _, .int i => .int i
  | _, _, _, .str x => .str x
  | _, _, h, .tup q r => .tup q (Reps.flat (by simpa only [flatD] using h) r)
  | _, _, h, .lst _ _ _ => by simp [flatD] at h
  | _, _, h, .lstK _ _ => by simp [flatD] at h
  | _, _, h, .dct _ _ _ _ => by simp [flatD] at h
  | _, _, h, .ins _ _ _ _ _ => by simp [flatD, insD] at h
theorem Reps.flat {O' : List Addr} : ∀ {vs : List V} {ds : List D}, flatDs ds = true → Reps K O H vs ds → Reps K O' H vs ds
  | _, _, _, .nil => .nil
  | _, _, h, .cons r rs => by
    simp only [flatDs, Bool.and_eq_true] at h
    exact .cons (Rep.flat h.1 r) (Reps.flat h.2 rs)
end
theorem Ev.frz {i : Nat} (E : Ev K Hr O H σ δ) : ∃ O', Ev K Hr O' H σ (DL.frz i δ) := by
  cases q : δ[i]? with
  | none => exact ⟨O, by unfold DL.frz; rw [q]; exact E⟩
  | some s =>
    cases s with
    | un => exact ⟨O, by unfold DL.frz; rw [q]; exact E⟩
    | vl d => exact ⟨O, by unfold DL.frz; rw [q]; exact E⟩
    | ex a => exact ⟨O, by unfold DL.frz; rw [q]; exact E⟩
    | od es => exact ⟨O, by unfold DL.frz; rw [q]; exact E⟩
    | ow ds =>
      have e : DL.frz i δ = δ.set i (.vl (.list ds)) := by unfold DL.frz; rw [q]
      rw [e]
      obtain ⟨l, xs, h1, h2, h3, r⟩ := E.at_ i _ q
      have hi : i < δ.length := (List.getElem?_eq_some_iff.mp q).1
      have tl : To O (O.filter (· ≠ l)) H H := .less fun b hb => (List.mem_filter.mp hb).1
      refine ⟨O.filter (· ≠ l), E.root, fun a ha => E.oo a (List.mem_filter.mp ha).1, by rw [List.length_set]; exact E.len, fun j s h => ?_, fun j k a es es' hjk k1 k2 k3 k4 => ?_⟩
      · rw [get_set] at h
        by_cases hij : i = j
        · rw [if_pos hij, if_pos hi] at h
          cases h
          rw [← hij]
          exact ⟨.ref l, h1, .lst (.inl h3) (fun z => by have := (List.mem_filter.mp z).2; simp at this) (r.to tl)⟩
        · rw [if_neg hij] at h
          refine (E.at_ j s h).to tl (fun a kvs g1 g2 => ⟨List.mem_filter.mpr ⟨g1, by simpa using ne_of g2 h3 (by intro z; cases z)⟩, g2⟩) fun a ys g1 g2 g3 g4 => ⟨?_, g2⟩
          obtain ⟨es, rfl⟩ := g4
          refine List.mem_filter.mpr ⟨g1, ?_⟩
          have hne : a ≠ l := fun z => by
            subst z
            exact E.dis i j a ds es hij q h h1 g3
          simpa using hne
      · rw [get_set] at k1 k2
        by_cases hij : i = j
        · rw [if_pos hij] at k1
          split at k1 <;> cases k1
        · by_cases hik : i = k
          · rw [if_pos hik] at k2
            split at k2 <;> cases k2
          · rw [if_neg hij] at k1
            rw [if_neg hik] at k2
            exact E.dis j k a es es' hjk k1 k2 k3 k4
def dLend (i : Nat) (f : DS → M D) : DS → M D := fun δ => (f (frz i δ)).thn fun d => if flatD d then M.ret d else none
def dLendT (i : Nat) (f : DS → M Bool) : DS → M Bool := fun δ => f (frz i δ)
theorem pdt_lend {fb : DS → M Bool} (i : Nat) (h : PDT X G e fb) : PDT X G e (dLendT i fb) := by
  obtain ⟨t, p, h⟩ := h
  refine ⟨t, p, fun δ O σ H Q E k => ?_⟩
  obtain ⟨O', E'⟩ := E.frz (i := i)
  exact h _ O' σ H Q E' k
end
section
variable {δ : DS} {f : DS → M D} {fb : DS → M Bool} {fn : DS → M (List D)} {d : D} {b : Bool} {ds : List D} {fa : DS → M (List D)} {i : Nat}
theorem ev_lendT (h : fb (frz i δ) = M.ret b) : dLendT i fb δ = M.ret b := h
theorem ev_newL (h : fn δ = M.ret ds) : gNewL i fn δ = M.ret (.nx (δ.set i (.ow ds))) := by unfold gNewL; rw [h]; rfl
theorem ev_nLst (h : fa δ = M.ret ds) (hz : small ds.length = true) : nLst fa δ = M.ret ds := by unfold nLst; rw [h, thn_ret, if_pos hz]
end
end DL
/-! TEXTS: methods, in, chains of comparisons, f-texts, int(text), slices -/
namespace L2
open PySem PySem.Spec PyProof.Rows
section
variable {X : Cx}
theorem vals_strs : ∀ {ts : List Str} {us : List Value}, Vals (ts.map V.str) us → ∃ l : List (Str × Tok), us = strValues l ∧ l.map (·.1) = ts
  | [], _, .nil => ⟨[], rfl, rfl⟩
  | t :: ts, _, .cons r rs => by
    obtain ⟨l, rfl, e⟩ := vals_strs rs
    obtain ⟨k, rfl⟩ := r
    exact ⟨(t, k) :: l, rfl, by rw [List.map_cons, e]⟩
theorem mt_join : MtR X "str.join" (fun x xs H Q => ∃ z p ts, x = .str z ∧ xs = [.ref p] ∧ SqL X.K H p (ts.map V.str) ∧ JoinOk z ts = true ∧ Q (.str (Txt.join z ts)) H) := by
  intro pins s σ H x xs v us Q I rx rs h
  obtain ⟨z, p, ts, rfl, rfl, hq, hj, q⟩ := h
  obtain ⟨t, rfl⟩ := rx
  obtain ⟨u, rfl, r1⟩ := vals1 rs
  cases r1
  obtain ⟨its, rv, pl, _⟩ := I.list hq
  obtain ⟨l, rfl, e⟩ := vals_strs rv
  exact SC.join pl.isList e hj fun t' k => ⟨.str _, H, I.tok k, ⟨t', rfl⟩, q⟩
end
end L2
/-! TEXTS over data -/
namespace L2
open PySem PySem.Spec PyProof.Rows
section
variable {X : Cx}
theorem op_le_str : OpR X (compareOp .LtE) (fun x y H Q => ∃ i j, x = .str i ∧ y = .str j ∧ Q (.bl (!decide (j.cps.toList < i.cps.toList))) H) := by
  intro pins s σ H x y v u Q I rx ry h
  obtain ⟨i, j, rfl, rfl, q⟩ := h
  obtain ⟨t, rfl⟩ := rx
  obtain ⟨t', rfl⟩ := ry
  exact PySem.P.le_str (fin_bl I q rfl)
theorem sl_str : SlR X (fun x lo hi H Q => ∃ z, x = .str z ∧ z.length ≤ sizeLine ∧ Q (.str (Txt.slice z lo hi)) H) := by
  intro pins s σ H x v vl vu lo hi sl Q I rx hs pl pu h
  obtain ⟨z, rfl, hz, q⟩ := h
  obtain ⟨t, rfl⟩ := rx
  refine ⟨"str", _, PySem.F.slot_str_getitem.lookup, typeIs_str _ _ _, ?_⟩
  obtain ⟨l, rfl, rfl⟩ : ∃ l : Option (Int × Tok), vl = partValue l ∧ lo = l.map (·.1) := by
    cases pl with
    | none => exact ⟨none, rfl, rfl⟩
    | int i t => exact ⟨some (i, t), rfl, rfl⟩
  obtain ⟨u, rfl, rfl⟩ : ∃ u : Option (Int × Tok), vu = partValue u ∧ hi = u.map (·.1) := by
    cases pu with
    | none => exact ⟨none, rfl, rfl⟩
    | int i t => exact ⟨some (i, t), rfl, rfl⟩
  refine wpAny_getItem_str_slice (l := l) (u := u) (st := none) ?_ rfl (post_val_or_str ⟨Nat.le_trans (Txt.slice_le z _ _) hz, fun t' k => ⟨.str _, H, I.tok k, ⟨t', rfl⟩, q⟩⟩)
  obtain ⟨o, h1, h2, h3⟩ := hs
  exact ⟨o, h1, h2, h3⟩
def tFV (te : TE) : TE := fun σ H Q => te σ H fun x H1 => (∃ z, x = .str z ∧ z.length ≤ sizeLine ∧ Q (.str z) H1) ∨ ∃ i : Int, x = .int i ∧ i.natAbs.log2 < 1920 ∧ Q (.str (Str.ofString (toString i))) H1
theorem pe_fv {e : Expr} {te : TE} {pos : Pos} (he : PE X e te) : PE X (.FormattedValue e (-1) none pos) (tFV te) := by
  intro pins s σ H Q I h
  refine FormattedValue_plain (thn (he pins s σ H _ I h) fun v s1 ⟨x, H1, I1, r1, q1⟩ => ?_)
  rcases q1 with ⟨z, rfl, hz, q⟩ | ⟨i, rfl, hi, q⟩
  · obtain ⟨t, rfl⟩ := r1
    exact PyProof.Rows.formatField_str (fun t' tk => ⟨.str z, H1, I1.tok tk, ⟨t', rfl⟩, q⟩) hz
  · obtain ⟨t, rfl⟩ := r1
    exact wpAny_formatField_int hi ⟨.str _, H1, I1.tok _, ⟨_, rfl⟩, q⟩
/-- the parts of an f-text, behind out -/
def tJoin : List TE → Str → TE
  | [], out => fun σ H Q => out.length ≤ sizeLine ∧ Q (.str out) H
  | t :: ts, out => fun σ H Q => t σ H fun x H1 => ∃ y, x = .str y ∧ (out ++ y).length ≤ sizeLine ∧ tJoin ts (out ++ y) σ H1 Q
inductive PJ (X : Cx) : List Expr → List TE → Prop
  | nil : PJ X [] []
  | cons {e : Expr} {es : List Expr} {t : TE} {ts : List TE} (h : PE X e t) (hs : PJ X es ts) (he : evalEach (e :: es) X.env = eval e X.env :: evalEach es X.env) : PJ X (e :: es) (t :: ts)
theorem join_ok {es : List Expr} {ts : List TE} (h : PJ X es ts) : ∀ (out : Str) (pins : List (Addr × Obj)) (s : Shared) (σ : St) (H : Hp) (Q : VK), Inv X pins σ H s → tJoin ts out σ H Q → wpAny (model X.prog X.w) X.A (joinParts out (evalEach es X.env)) (EP X pins σ Q) X.xe s := by
  induction h with
  | nil =>
    intro out pins s σ H Q I q
    exact joinParts_nil ⟨.str out, H, I.tok _, ⟨_, rfl⟩, q.2⟩ q.1
  | cons h hs he ih =>
    intro out pins s σ H Q I q
    rw [he]
    refine joinParts_cons (thn (h pins s σ H _ I q) fun v s1 ⟨x, H1, I1, r1, y, e, hz, q1⟩ => ?_)
    subst e
    obtain ⟨t, rfl⟩ := r1
    exact ⟨hz, ih (out ++ y) pins s1 σ H1 Q I1 q1⟩
theorem pe_joined {e1 e2 : Expr} {es : List Expr} {ts : List TE} {pos : Pos} (h : PJ X (e1 :: e2 :: es) ts) : PE X (.JoinedStr (e1 :: e2 :: es) pos) (tJoin ts Str.empty) := by
  intro pins s σ H Q I q
  refine JoinedStr_many ?_
  have := join_ok h Str.empty pins s σ H Q I q
  cases h with
  | cons h hs he =>
    cases hs with
    | cons h' hs' he' =>
      rw [he, he'] at this
      exact this
end
end L2
namespace DL
open PySem PySem.Spec PyProof.Rows L2
section
variable {X : Cx} {G : XD → Hp → Prop} {a b c e o : Expr} {es : List Expr} {f g k : DS → M D} {fa : DS → M (List D)} {pos apos cpos : Pos}
/-! ### methods of texts -/
def DMt (X : Cx) (id : String) (h : Str → List D → Option D) : Prop :=
  ∃ r, MtR X id r ∧ ∀ (O : List Addr) (H : Hp) (z : Str) (xs : List D) (d : D) (vs : List V) (Q : VK), (∀ l ∈ O, Mu H l) → Reps X.K O H vs xs → h z xs = some d → (∀ v' H', Same H H' → Rep X.K O H' v' d → Q v' H') → r (.str z) vs H Q
def dMeth (h : Str → List D → Option D) (f : DS → M D) (fa : DS → M (List D)) : DS → M D := fun δ => (f δ).thn fun d => match d with
  | .str z => (fa δ).thn fun xs => M.lift (h z xs)
  | _ => none
theorem pd_meth {id : String} {name : Str} {h : Str → List D → Option D} (slot : Slot "str" name id) (hty : typeOf (.builtin id) = pure (.type "method_descriptor")) (hm : DMt X id h) (ho : PD X G o f) (ha : PDA X G (e :: es) fa)
    (hbase : attributeBase o name X.env (eval o X.env) = eval o X.env := by rfl)
    (hfew : ((backTo cpos (starEach (e :: es) X.env)).all (fun x => !x.1) && (backToKw cpos (keywordEach [] X.env)).all (fun x => x.1.isSome)
      && decide ((e :: es).length + ([] : List Keyword).length + (if ([] : List Keyword).isEmpty then 0 else 1) < 30)) = true := by rfl)
    (hline : (apos.endLine == cpos.line) = true := by rfl) (hs : starEach (e :: es) X.env = (false, eval e X.env) :: starEach es X.env := by rfl) (hplain : (backTo cpos (starEach es X.env)).any (·.1) = false := by rfl) :
    PD X G (.Call (.Attribute o name apos) (e :: es) [] cpos) (dMeth h f fa) := by
  obtain ⟨r, hr, hm⟩ := hm
  obtain ⟨t, p, ho⟩ := ho
  obtain ⟨_, u, q, ha⟩ := ha
  refine ⟨_, pe_bm PySem.F.plainAttrs_str slot hty hr p q hbase hfew hline hs hplain, fun δ O σ H Q E k => ?_⟩
  refine ho δ O σ H _ E (ok_mono (ok_thn k) fun d z v H1 s1 rd => ?_)
  match d, z, rd with
  | .str w, z, rd =>
    rw [rd.str_inv]
    refine ⟨rfl, ha δ O σ H1 _ (E.same s1) (ok_mono (ok_thn z) fun xs zz vs H2 s2 rs => ?_)⟩
    obtain ⟨y, hy, zz⟩ := ok_lift zz
    exact hm O H2 w xs y vs Q (E.same (s1.trans s2)).oo rs hy fun v' H3 s3 r3 => zz v' H3 ((s1.trans s2).trans s3) r3
def sZfill (z : Str) : List D → Option D
  | [.int i] => if PadOk i then some (.str (Txt.zfill z i)) else none
  | _ => none
def sFind (z : Str) : List D → Option D
  | [.str y] => some (.int (Txt.find z y))
  | _ => none
def sPartition (z : Str) : List D → Option D
  | [.str y] => if ((y.length == 0) == false && small z.length) = true then some (.tuple [.str (Txt.partition z y).1, .str (Txt.partition z y).2.1, .str (Txt.partition z y).2.2]) else none
  | _ => none
def strsOf : List D → Option (List Str)
  | [] => some []
  | .str z :: r => (strsOf r).map (z :: ·)
  | _ => none
theorem strsOf_get : ∀ {ds : List D} {ts : List Str}, strsOf ds = some ts → ds = ts.map PyData.str
  | [], ts, h => by cases h; rfl
  | .str z :: r, ts, h => by
    have h : (strsOf r).map (z :: ·) = some ts := h
    cases e : strsOf r with
    | none => rw [e] at h; cases h
    | some cs => rw [e] at h; cases h; rw [strsOf_get e]; rfl
theorem reps_strs {K : PySem.W.Frag} {O : List Addr} {H : Hp} : ∀ {ts : List Str} {vs : List V}, Reps K O H vs (ts.map PyData.str) → vs = ts.map V.str
  | [], _, .nil => rfl
  | t :: ts, _, .cons r rs => by rw [r.str_inv, reps_strs rs]; rfl
def sJoin (z : Str) : List D → Option D
  | [.list ds] => match strsOf ds with
    | some ts => if JoinOk z ts then some (.str (Txt.join z ts)) else none
    | none => none
  | _ => none
theorem dmt_join : DMt X "str.join" sJoin := by
  refine ⟨_, mt_join, fun O H z xs d vs Q oo rs e k => ?_⟩
  unfold sJoin at e
  split at e
  · rename_i ds
    split at e
    · rename_i ts hts
      by_cases hp : JoinOk z ts = true
      · rw [if_pos hp] at e
        cases e
        obtain ⟨v, rfl, r⟩ := reps1 rs
        obtain ⟨p, us, rfl, h1, rx⟩ := r.lst_inv
        rw [strsOf_get hts] at rx
        rw [reps_strs rx] at h1
        exact ⟨z, p, ts, rfl, rfl, h1, hp, k _ H (Same.refl H) (.str _)⟩
      · rw [if_neg hp] at e; cases e
    · cases e
  · cases e
def splitOk (z y : Str) : Bool := (y.length == 0) == false && small z.length && small (Txt.split z y).length && small (Builtin.Str.partsBetween z (Builtin.Str.occurrences z y 0 z.length (z.length + 1)) y.length).length
def sSplit (z : Str) : List D → Option D
  | [.str y] => if splitOk z y then some (.list ((Txt.split z y).map PyData.str)) else none
  | _ => none
/-! ### int(x), x a text too -/
def oIntS : List D → Option D
  | [.str z] => match PySem.intText? z with
    | some n => if z.length ≤ 640 then some (.int n) else none
    | none => none
  | ds => oInt ds
/-! ### comparisons -/
def oLeD : D → D → Option D
  | .int i, .int j => some (.bool (decide (i ≤ j)))
  | .str i, .str j => some (.bool (!decide (j.cps.toList < i.cps.toList)))
  | _, _ => none
theorem dop_leD : DOp X (compareOp .LtE) oLeD := by
  refine ⟨_, op_le.or op_le_str, fun O H x y d v u Q oo rx ry e k => ?_⟩
  unfold oLeD at e
  split at e
  · cases e
    exact .inl ⟨_, _, rx.int_inv, ry.int_inv, k _ H (Same.refl H) (.bl _)⟩
  · cases e
    exact .inr ⟨_, _, rx.str_inv, ry.str_inv, k _ H (Same.refl H) (.bl _)⟩
  · cases e
def oInS : D → D → Option D
  | .str i, .str j => some (.bool (!(Builtin.Str.occurrences j i 0 j.length 1).isEmpty))
  | _, _ => none
/-- a op b op' c -/
def dChain (h h' : D → D → Option D) (f g k : DS → M D) : DS → M D := fun δ => (f δ).thn fun x => (g δ).thn fun y => (M.lift (h x y)).thn fun z => match z with
  | .bool true => (k δ).thn fun w => M.lift (h' y w)
  | .bool false => M.ret (.bool false)
  | _ => none
/-! ### o[lo:hi], texts too -/
variable {lo hi : Option Expr} {fl fh : DS → M (Option Int)} {p2 : Pos}
def oCutS (lo hi : Option Int) : D → Option D
  | .str z => if small z.length then some (.str (Txt.slice z lo hi)) else none
  | d => oCut lo hi d
def dCutS (f : DS → M D) (fl fh : DS → M (Option Int)) : DS → M D := fun δ => (f δ).thn fun x => (fl δ).thn fun l => (fh δ).thn fun u => M.lift (oCutS l u x)
theorem pd_cutS (he : PD X G e f) (hl : PDO X G lo fl) (hh : PDO X G hi fh) : PD X G (.Subscript e (.Slice lo hi none p2) pos) (dCutS f fl fh) := by
  obtain ⟨t, p, he⟩ := he
  obtain ⟨tl, pl, hl⟩ := hl
  obtain ⟨th, ph, hh⟩ := hh
  refine ⟨_, pe_slice (sl_str.or (sl_list.or sl_tup)) p pl ph, fun δ O σ H Q E k => ?_⟩
  refine he δ O σ H _ E (ok_mono (ok_thn k) fun d z v H1 s1 r => ?_)
  refine hl δ O σ H1 _ (E.same s1) (ok_mono (ok_thn z) fun l z H2 s2 => ?_)
  refine hh δ O σ H2 _ (E.same (s1.trans s2)) (ok_mono (ok_thn z) fun u z H3 s3 => ?_)
  obtain ⟨y, hy, z⟩ := ok_lift z
  have r3 := (r.same s2).same s3
  have s03 := (s1.trans s2).trans s3
  have E3 := E.same s03
  cases d with
  | str w =>
    have hy : (if small w.length = true then some (PyData.str (Txt.slice w l u)) else none) = some y := hy
    by_cases hw : small w.length = true
    · rw [if_pos hw] at hy
      cases hy
      exact .inl ⟨w, r3.str_inv, small_le hw, z _ _ s03 (.str _)⟩
    · rw [if_neg hw] at hy; cases hy
  | list ds =>
    cases hy
    obtain ⟨a, xs, rfl, h1, rs⟩ := r3.lst_inv
    exact .inr (.inl ⟨a, xs, rfl, h1, fun p hp => z _ _ (s03.trans (same_new hp)) (rep_newL E3.oo hp (rs.cut l u))⟩)
  | tuple ds =>
    have hy : (if HT.sIx ds.length 0 l = 0 ∧ HT.sIx ds.length ds.length u = ds.length then none else some (PyData.tuple (cutD ds l u))) = some y := hy
    by_cases hw : HT.sIx ds.length 0 l = 0 ∧ HT.sIx ds.length ds.length u = ds.length
    · rw [if_pos hw] at hy; cases hy
    · rw [if_neg hw] at hy
      cases hy
      obtain ⟨a, xs, rfl, h1, rs⟩ := r3.tup_inv
      exact .inr (.inr ⟨a, xs, rfl, h1, by rw [rs.length]; exact hw, fun p hp => z _ _ (s03.trans (same_new hp)) (rep_newT hp (rs.cut l u))⟩)
  | _ => cases hy
/-! ### f-texts -/
def txtOf : D → Option Str
  | .str z => if small z.length then some z else none
  | .int i => if i.natAbs.log2 < 1920 then some (Str.ofString (toString i)) else none
  | _ => none
def dFV (f : DS → M D) : DS → M D := fun δ => (f δ).thn fun d => match txtOf d with
  | some z => M.ret (.str z)
  | none => none
def joinD : List (DS → M D) → Str → DS → M D
  | [], out => fun _ => if small out.length then M.ret (.str out) else none
  | f :: fs, out => fun δ => (f δ).thn fun d => match d with
    | .str y => if small (out ++ y).length then joinD fs (out ++ y) δ else none
    | _ => none
inductive PDJ (X : Cx) (G : XD → Hp → Prop) : List Expr → List (DS → M D) → Prop
  | nil : PDJ X G [] []
  | cons {e : Expr} {es : List Expr} {f : DS → M D} {fs : List (DS → M D)} (h : PD X G e f) (hs : PDJ X G es fs) (he : evalEach (e :: es) X.env = eval e X.env :: evalEach es X.env := by rfl) : PDJ X G (e :: es) (f :: fs)
/-! ### a name of the file's top -/
end
end DL
/-! name = [a comprehension] -/
namespace L2
open PySem PySem.Spec PyProof.Rows
section
variable {X : Cx}
end
end L2
namespace DL
open PySem PySem.Spec PyProof.Rows L2
section
variable {X : Cx} {G : XD → Hp → Prop} {fi : DS → M (List D)} {c : DS → M Bool} {f : DS → M D} {t : D → DS → Option DS}
end
end DL
/-! min of many whole numbers: handed in one by one, or as a list -/
namespace L2
open PySem PySem.Spec PyProof.Rows
section
variable {prog : Program} {w : World} {A : Around} {E : Value → Shared → Prop} {s : Shared}
/-- the least of some numbers -/
def minL : List Int → Int
  | [] => 0
  | a :: r => r.foldl min a
end
section
variable {X : Cx}
end
end L2
namespace DL
open PySem PySem.Spec PyProof.Rows L2
section
variable {X : Cx}
def oMinM : List D → Option D
  | [.int a, .int b, .int c, .int d] => some (.int (minL [a, b, c, d]))
  | [.list ds] => match intsOf ds with
    | some [] => none
    | some is => some (.int (minL is))
    | none => none
  | _ => none
end
end DL
/-! a text so many times -/
namespace L2
open PySem PySem.Spec PyProof.Rows
section
variable {X : Cx}
end
end L2
namespace DL
open PySem PySem.Spec PyProof.Rows L2
section
variable {X : Cx}
def oMulS : D → D → Option D
  | .str z, .int n => if 0 ≤ n ∧ n ≤ 1000 ∧ z.length ≤ 1000 then some (.str (Txt.mul z n)) else none
  | _, _ => none
end
end DL
/-! sorted(list of whole numbers) -/
namespace L2
open PySem PySem.Spec PyProof.Rows
section
variable {X : Cx}
end
end L2
namespace DL
open PySem PySem.Spec PyProof.Rows L2
section
variable {X : Cx}
def oSorted : List D → Option D
  | [.list ds] => match intsOf ds with
    | some is => if is.length < 64 then some (.list ((PySem.W.sortI is).map PyData.int)) else none
    | none => none
  | _ => none
end
end DL
/-! defs that tell a new list of things without lists: own lists may be lent to them -/
namespace DL
open PySem PySem.Spec PyProof.Rows L2
/-- d is a list of flat things, and k holds of every new one -/
def NewOf (K : PySem.W.Frag) (H : Hp) (k : V → Hp → Prop) (d : D) : Prop := ∃ ds, d = .list ds ∧ flatDs ds = true ∧ ∀ l xs H', Same H H' → H l = none → H' l = some (.lst xs) → Reps K [] H' xs ds → k (.ref l) H'
/-- an expression that makes a new list of flat things -/
def PDF (X : Cx) (G : XD → Hp → Prop) (e : Expr) (f : DS → M D) : Prop :=
  ∃ t, PE X e t ∧ ∀ {Hr : Hp} (δ : DS) (O : List Addr) (σ : St) (H : Hp) (Q : VK), Ev X.K Hr O H σ δ → ok (GS G Hr) (f δ) (NewOf X.K H Q) → t σ H Q
def FinF (K : PySem.W.Frag) (Hr : Hp) (R0 : List Addr) (H0 : Hp) (Dn : Ends) : Out → Prop
  | .rt d => NewOf K H0 Dn.rt d
  | _ => False
def PDSsF (X : Cx) (G : XD → Hp → Prop) (st : List Stmt) (g : DS → M Out) : Prop :=
  ∃ t, PSs X st t ∧ ∀ {Hr : Hp} (R0 : List Addr) (H0 : Hp) (δ : DS) (O : List Addr) (σ : St) (H : Hp) (Dn : Ends), EI X.K Hr R0 (fun _ => False) H0 O H σ δ → ok (GS G Hr) (g δ) (FinF X.K Hr R0 H0 Dn) → t Dn σ H
section
variable {X : Cx} {G : XD → Hp → Prop} {e : Expr} {es : List Expr} {f : DS → M D} {fa : DS → M (List D)} {gt : DS → M Out} {sts : List Stmt} {pos : Pos}
theorem pdsf_ret (he : PDF X G e f) : PDSsF X G [.Return (some e) pos] (gRet f) := by
  obtain ⟨t, p, he⟩ := he
  refine ⟨_, pss_one (ps_ret p), fun R0 H0 δ O σ H Dn E k => ?_⟩
  refine he δ O σ H _ E.ev (ok_mono (ok_thn k) fun d z => ?_)
  obtain ⟨ds, rfl, hf, z⟩ := (show NewOf X.K H0 Dn.rt d from z)
  refine ⟨ds, rfl, hf, fun l xs H' s hl hx rx => z l xs H' (fun b o h => s _ _ (E.keep b o (fun w => w) h)) ?_ hx rx⟩
  cases q : H0 l with
  | none => rfl
  | some o =>
    rw [E.keep l o (fun w => w) q] at hl
    cases hl
theorem pdf_compG {c : DS → M Bool} {fi : DS → M (List D)} {t : D → DS → Option DS} {cl : List (Str × Addr)} {fr : List (Nat × Str)} {tn : List Str} {elt iter tg : Expr} {ifs : List Expr} {scope : Scope} {pos : Pos} (hc : X.calm = true)
    (hkind : scope.kind = .function) (hcell : ∀ y ∈ scope.names, y.2 ≠ .cell) (hclos : closureFor scope X.env = pure cl) (hsub : ∀ y c, cl.lookup y = some c → X.env.cells.lookup y = some c)
    (hhas : ∀ y ∈ (relabel scope X.env).names, (y.2 = .cell ∨ y.2 = .free) → ∃ c, cl.lookup y.1 = some c) (hfr : ∀ p ∈ fr, X.N[p.1]? = some p.2 ∧ X.env.kindOf p.2 = some .cell ∧ (compEnvC scope cl 0 X.env).kindOf p.2 = some .cell ∧ ∃ c, cl.lookup p.2 = some c) (hnames : ∀ y ∈ scope.names, y.2 = .local → scope.names.lookup y.1 = some .local)
    (hi : PDI X G tg iter fi) (hg : ∀ C s3 H3 fp, PDG (compCxG X scope cl fr tn C s3 H3 fp) tg t) (hcs : ∀ C s3 H3 fp, PDTs (compCxG X scope cl fr tn C s3 H3 fp) ifs c) (he : ∀ C s3 H3 fp, PD (compCxG X scope cl fr tn C s3 H3 fp) (fun _ _ => False) elt f) (hs : ∀ x, foldedSetIterable iter X.env x = pure x := by intro _; rfl) :
    PDF X G (.ListComp elt [⟨tg, iter, ifs, 0⟩] scope pos) (dCompG tn.length (fr.map (·.1)) t fi c f) := by
  obtain ⟨wi, pi, hi⟩ := hi
  refine ⟨_, pe_compG (g := gD X.K t) (tc := cD X.K c) (te := tD X.K (fun _ _ => False) f) hc hkind hcell hclos hsub hhas hfr hnames pi (fun C s3 H3 fp => (hg C s3 H3 fp).can) (fun C s3 H3 fp => (hcs C s3 H3 fp).can) (fun C s3 H3 fp => (he C s3 H3 fp).can) hs, @fun Hr δ O σ H Q E k => ?_⟩
  refine hi δ O σ H _ E (ok_mono (ok_thn k) fun ds z J H1 s1 Y => ?_)
  by_cases hsz : small ds.length = true
  case neg =>
    rw [if_neg hsz] at z
    exact z.elim
  rw [if_pos hsz] at z
  intro l hl
  have E1 := E.same s1
  have hl0 : H l = none := by
    cases q : H l with
    | none => rfl
    | some o => rw [s1 l o q] at hl; cases hl
  have kk := ok_mono (ok_thn z) fun ys (q : NewOf X.K H Q (.list ys)) => (show flatDs ys = true ∧ ∀ xs H2, Kp l H1 H2 → H2 l = some (.lst xs) → Reps X.K [] H2 xs ys → Q (.ref l) H2 from by
    obtain ⟨ds', e, hf, q⟩ := q
    cases e
    exact ⟨hf, fun xs H2 kp h2 rx => q l xs H2 (s1.trans (kp.same hl)) hl0 h2 rx⟩)
  refine ⟨fun i m τ xs H2 => m = ds.length - i ∧ i ≤ ds.length ∧ xs.length ≤ i ∧ H2 l = some (.lst xs) ∧ ∃ δc ys, EC X.K O H1 l H2 τ δc ∧ Reps X.K (l :: O) H2 xs ys ∧
    ok (GS G Hr) (compD t (nX c) (nX f) (ds.drop i) δc) (fun rest => flatDs (ys ++ rest) = true ∧ ∀ xs H3, Kp l H1 H3 → H3 l = some (.lst xs) → Reps X.K [] H3 xs (ys ++ rest) → Q (.ref l) H3),
    ⟨_, rfl, Nat.zero_le _, Nat.le_refl _, upd_same, _, [], slot_of E1 tn.length hl, .nil, kk⟩, ?_⟩
  rintro i m τ xs H2 ⟨rfl, hi, hx, h2, δc, ys, Ec, ry, kc⟩
  have kp : Kp l H1 H2 := fun b o hb e => Ec.keep b o hb e
  refine ⟨h2, ?_⟩
  have T : To O (l :: O) H1 H2 := kp.to hl
  by_cases hlt : i < ds.length
  · right
    have hd : ds[i]? = some ds[i] := List.getElem?_eq_getElem hlt
    obtain ⟨go, yl⟩ := Y.step (l :: O) H2 T i _ hd
    refine ⟨go, Nat.lt_of_le_of_lt hx (Nat.lt_of_lt_of_le hlt (small_le hsz)), fun x H3 y => ?_⟩
    obtain ⟨s3, rx⟩ := yl x H3 y
    rw [drop_get hd] at kc
    obtain ⟨δ', ht, kc⟩ := ok_lift (ok_thn (show ok (GS G Hr) ((M.lift (t ds[i] δc)).thn _) _ from kc))
    refine ⟨_, _, _, _, δc, δ', ds[i], l :: O, Ec.same s3, rx, ht, fun τ' H4 E4 s4 => ?_⟩
    refine ⟨_, δ', l :: O, E4.ev, ok_mono (ok_nX (ok_thn kc)) fun b zb H5 s5 => ?_⟩
    have E5 := E4.same s5
    have s25 := (s3.trans s4).trans s5
    dsimp only
    cases b with
    | false =>
      rw [if_neg Bool.false_ne_true] at zb ⊢
      exact ⟨_, by omega, rfl, hlt, by omega, s25 _ _ h2, δ', ys, E5, ry.same s25, zb⟩
    | true =>
      rw [if_pos rfl] at zb ⊢
      refine ⟨_, δ', l :: O, E5.ev, ok_GS0 (ok_mono (ok_nX (ok_thn zb)) fun y kz v H6 s6 rv => ?_)⟩
      have h6 : H6 l = some (.lst xs) := s6 _ _ (s25 _ _ h2)
      have ts : To (l :: O) (l :: O) H6 (upd H6 l (.lst (xs ++ [v]))) := To.set h6 List.mem_cons_self
      refine ⟨h6, ds.length - (i + 1), by omega, rfl, hlt, by rw [List.length_append]; show xs.length + 1 ≤ i + 1; omega, upd_same, δ', ys ++ [y], EC.put (E5.same s6) h6, (((ry.same s25).same s6).to ts).append (.cons (rv.to ts) .nil), ?_⟩
      exact ok_mono (ok_thn kz) fun rest q => ⟨by rw [List.append_assoc]; exact q.1, fun xs7 H7 kp7 h7 r7 => q.2 xs7 H7 kp7 h7 (by rw [List.append_assoc] at r7; exact r7)⟩
  · left
    have e : i = ds.length := by omega
    subst e
    rw [List.drop_length] at kc
    obtain ⟨hf, kc⟩ := (show flatDs (ys ++ []) = true ∧ ∀ xs H3, Kp l H1 H3 → H3 l = some (.lst xs) → Reps X.K [] H3 xs (ys ++ []) → Q (.ref l) H3 from kc)
    refine ⟨Y.stop (l :: O) H2 T, kc xs H2 kp h2 ?_⟩
    rw [List.append_nil] at hf ⊢
    exact ry.flat hf
end
def spDF (K : PySem.W.Frag) (n : Nat) (F : List D → M D) : Sp := fun vs H Q _ => ∃ O ds, vs.length = n ∧ (∀ l ∈ O, Mu H l) ∧ Reps K O H vs ds ∧ ok (fun _ => False) (F ds) (NewOf K H Q)
structure DefF (P : Program) (w : World) (K : PySem.W.Frag) (mg : Str → Option Value) (base : Heap) (k : Nat) (x : Str) (n : Nat) (F : List D → M D) : Prop where
  ex : ∃ (f : Addr) (fd : FuncData) (ps : List Str), FnOk P w K mg base CX0 k f fd ps (spDF K n F) ∧ mg x = some (.ref f) ∧ PySem.W.keepIn K (.ref f) = true ∧ Binds K fd ps []
section
variable {X : Cx} {G : XD → Hp → Prop} {e : Expr} {es : List Expr} {f : DS → M D} {fa : DS → M (List D)} {pos : Pos}
theorem pdf_call {k n : Nat} {x : Str} {p : Pos} {F : List D → M D} (h : DefF X.prog X.w X.K X.mg X.base k x n F) (hr : Room k X.A) (hg : Gl X x) (hn : (e :: es).length = n) (ha : PDA X G (e :: es) fa)
    (hdb : (x == ("__debug__" : Str)) = false := by decide) (he : starEach (e :: es) X.env = (false, eval e X.env) :: starEach es X.env := by rfl) (hpl : (backTo pos (starEach es X.env)).any (·.1) = false := by rfl) :
    PDF X G (.Call (.Name x p) (e :: es) [] pos) (dCall (fun ds => noX (F ds)) fa) := by
  obtain ⟨f, fd, ps, F1, hm, hk, hb⟩ := h.ex
  obtain ⟨hl, t, pa, ha⟩ := ha
  refine ⟨_, pe_call F1 hr hg hm hk hb .nil pass0 pa hdb he hpl, fun δ O σ H Q E k => ?_⟩
  have k1 := ok_thn k
  refine ha δ O σ H _ E ?_
  cases e1 : fa δ with
  | none => rw [e1] at k1; exact k1.elim
  | some r =>
    rw [e1] at k1
    cases r with
    | error x => exact k1
    | ok ds =>
      refine fun vs H1 s1 rs => ?_
      refine ⟨O, ds, ?_, (E.same s1).oo, ?_, ok_mono (ok_noX k1) fun d z => ?_⟩
      · rw [List.append_nil, rs.length, hl δ ds e1]
        exact hn
      · rw [List.append_nil]
        exact rs
      · obtain ⟨ds', rfl, hf, z⟩ := z
        refine ⟨ds', rfl, hf, fun l xs H' s hl hx rx => z l xs H' (s1.trans s) ?_ hx rx⟩
        cases q : H l with
        | none => rfl
        | some o => rw [s1 l o q] at hl; cases hl
/-- own lists lent to what makes a new list -/
def dLendF (i : Nat) (f : DS → M D) : DS → M D := fun δ => (f (frz i δ)).thn fun d => match d with
  | .list ds => if flatDs ds = true then M.ret (.list ds) else none
  | _ => none
end
section
variable {P : Program} {w : World} {K : PySem.W.Frag} {mg : Str → Option Value} {base : Heap}
theorem fn_ofDF {x qual : Str} {st : Stmt} {f : Addr} {fd : FuncData} {N ps : List Str} {k : Nat} {g : DS → M Out} (F0 : Fun K x qual st f fd) (S : FnScope N ps (defScope st))
    (hbody : ∀ (cdv : Value) (A : Around) (outer : List Env) (s : Shared) (H : Hp) (E : XK), Room k (A.deeper (envOfC qual (defScope st) s.heap.objs.size f cdv)) →
      PDSsF (cxOf CX0 P w K mg base N qual (defScope st) f cdv A outer s H E).nox (fun _ _ => False) (defBody st) g) : FnOk P w K mg base CX0 (k + 1) f fd ps (spDF K ps.length (run N.length g)) := by
  refine F0.ok S (fun vs H Q E h => ?_) (fun cdv A outer s H vs Q E hr h => ?_)
  · obtain ⟨O, ds, hl, _⟩ := h
    exact hl
  · obtain ⟨O, ds, hl, oo, r, q⟩ := h
    obtain ⟨t, p, hB⟩ := hbody cdv A outer s H E hr
    refine ⟨t, p, hB O H (startD N.length ds) O (L2.start N vs) H _ ⟨ev_start N oo r, fun l hl => .inl hl, fun b o _ h => h, fun l hl => .inl hl, fun i es l h1 ho h2 => ?_, fun l hl => hl⟩ (ok_mono (ok_false (ok_thn q)) fun o z => ?_)⟩
    · exact (start_no h1 ho).elim
    · cases o with
      | rt d => exact z
      | nx δ =>
        obtain ⟨ds', e, _⟩ := (show NewOf K H Q .none from z)
        cases e
      | bk δ => exact z.elim
      | ct δ => exact z.elim
theorem deff_of {x qual : Str} {st : Stmt} {f : Addr} {fd : FuncData} {N ps : List Str} {k : Nat} {g : DS → M Out} (F0 : Fun K x qual st f fd) (S : FnScope N ps (defScope st)) (hm : mg x = some (.ref f)) (hb : Binds K fd ps [])
    (hbody : ∀ (cdv : Value) (A : Around) (outer : List Env) (s : Shared) (H : Hp) (E : XK), Room k (A.deeper (envOfC qual (defScope st) s.heap.objs.size f cdv)) →
      PDSsF (cxOf CX0 P w K mg base N qual (defScope st) f cdv A outer s H E).nox (fun _ _ => False) (defBody st) g) : DefF P w K mg base (k + 1) x ps.length (run N.length g) :=
  ⟨f, fd, ps, fn_ofDF F0 S hbody, hm, F0.kp, hb⟩
end
end DL
/-! sum and max of a list of whole numbers; in, not in over lists; defs that tell a new list which they built, and what a caller makes of such a list -/
namespace L2
open PySem PySem.Spec PyProof.Rows
section
variable {X : Cx}
/-- the sum and all sums on the way lie within 64 bits -/
def fitsL : Int → List Int → Bool
  | _, [] => true
  | a, i :: r => decide (-2 ^ 63 ≤ i ∧ i < 2 ^ 63) && decide (-2 ^ 63 ≤ a + i ∧ a + i < 2 ^ 63) && fitsL (a + i) r
/-- the greatest of some numbers -/
def maxL : List Int → Int
  | [] => 0
  | a :: r => r.foldl max a
end
end L2
namespace DL
open PySem PySem.Spec PyProof.Rows L2
section
variable {X : Cx}
def oSum : List D → Option D
  | [.list ds] => match intsOf ds with
    | some is => if fitsL 0 is = true then some (.int is.sum) else none
    | none => none
  | _ => none
def oMaxM : List D → Option D
  | [.list ds] => match intsOf ds with
    | some [] => none
    | some is => some (.int (maxL is))
    | none => none
  | _ => none
/-! ### in over lists and tuples of plain things -/
def plainV : D → Option V
  | .none => some .non
  | .bool b => some (.bl b)
  | .int i => some (.int i)
  | .str x => some (.str x)
  | _ => none
def plainVs : List D → Option (List V)
  | [] => some []
  | d :: ds => match plainV d, plainVs ds with
    | some v, some vs => some (v :: vs)
    | _, _ => none
def oInL (neg : Bool) : D → D → Option D
  | x, .list ds => match plainV x, plainVs ds with
    | some v, some vs => some (.bool (if neg then !inV v vs else inV v vs))
    | _, _ => none
  | x, .tuple ds => match plainV x, plainVs ds with
    | some v, some vs => some (.bool (if neg then !inV v vs else inV v vs))
    | _, _ => none
  | _, _ => none
def oNotInS : D → D → Option D
  | .str i, .str j => some (.bool (!(!(Builtin.Str.occurrences j i 0 j.length 1).isEmpty)))
  | _, _ => none
end
/-! ### defs that tell a new list -/
section
variable {X : Cx} {G : XD → Hp → Prop} {e : Expr} {es : List Expr} {f : DS → M D} {fa : DS → M (List D)} {gs gt : DS → M Out} {st : Stmt} {sts : List Stmt} {pos : Pos}
def gRetF (i : Nat) : DS → M Out := fun δ => match δ[i]? with
  | some (.ow ds) => if flatDs ds = true then M.ret (.rt (.list ds)) else none
  | _ => none
theorem EI.sames {K : PySem.W.Frag} {Hr H0 H : Hp} {R0 O : List Addr} {σ : St} {δ : DS} (E : EI K Hr R0 (fun _ => False) H0 O H σ δ) : Same H0 H := fun b o h => E.keep b o (fun w => w) h
theorem pdsf_retO {i : Nat} (he : PE X e (tVar i)) : PDSsF X G [.Return (some e) pos] (gRetF i) := by
  refine ⟨_, pss_one (ps_ret he), fun R0 H0 δ O σ H Dn E k => ?_⟩
  unfold gRetF at k
  split at k
  · rename_i ds hd
    by_cases hf : flatDs ds = true
    · rw [if_pos hf] at k
      obtain ⟨l, xs, q1, q2, q3, q4⟩ := E.ev.at_ i _ hd
      obtain ⟨ds', e1, hf', k⟩ := (show NewOf X.K H0 Dn.rt (.list ds) from k)
      cases e1
      have hl : H0 l = none := by
        rcases E.om l q2 with h | h | h
        · exact absurd h (E.nr i ds l hd q1)
        · exact h.elim
        · exact h
      exact ⟨.ref l, q1, k l xs H E.sames hl q3 (q4.flat hf)⟩
    · rw [if_neg hf] at k
      exact k.elim
  · exact k.elim
/-- a statement that goes on, and the rest -/
def gSeqN (g h : DS → M Out) : DS → M Out := fun δ => (g δ).thn fun o => match o with
  | .nx δ' => h δ'
  | _ => none
theorem pdsf_cons (h1 : PDS X G st gs) (h2 : PDSsF X G sts gt) : PDSsF X G (st :: sts) (gSeqN gs gt) := by
  obtain ⟨t, p, h1⟩ := h1
  obtain ⟨u, q, h2⟩ := h2
  refine ⟨_, pss_cons p q, fun R0 H0 δ O σ H Dn E k => ?_⟩
  refine h1 R0 _ H0 δ O σ H _ E (ok_mono (ok_thn k) fun o z => ?_)
  cases o with
  | nx δ' => exact fun O' σ' H' E' => h2 R0 H0 δ' O' σ' H' Dn E' z
  | rt d => exact z.elim
  | bk δ' => exact z.elim
  | ct δ' => exact z.elim
theorem ev_seqN' {r : M Out} {δ δ' : DS} (h1 : gs δ = M.ret (.nx δ')) (h2 : gt δ' = r) : gSeqN gs gt δ = r := by unfold gSeqN; rw [h1]; exact h2
theorem ev_retF {i : Nat} {δ : DS} {ds : List D} (h : δ[i]? = some (.ow ds)) (hf : flatDs ds = true) : gRetF i δ = M.ret (.rt (.list ds)) := by unfold gRetF; rw [h]; show (if _ then _ else _) = _; rw [if_pos hf]
/-- own lists lent to what makes a new list -/
def dFrzF (i : Nat) (f : DS → M D) : DS → M D := fun δ => f (frz i δ)
/-- what is told, as a value -/
def dFl (f : DS → M D) : DS → M D := fun δ => (f δ).thn fun d => match d with
  | .list ds => if flatDs ds = true then M.ret (.list ds) else none
  | _ => none
/-- what is told, as a list of one's own -/
def nF (f : DS → M D) : DS → M (List D) := fun δ => (f δ).thn fun d => match d with
  | .list ds => if flatDs ds = true then M.ret ds else none
  | _ => none
theorem ev_nF {δ : DS} {ds : List D} (h : f δ = M.ret (.list ds)) (hf : flatDs ds = true) : nF f δ = M.ret ds := by
  unfold nF
  rw [h]
  show (if flatDs ds = true then _ else _) = _
  rw [if_pos hf]
mutual
theorem Rep.flatTo {K : PySem.W.Frag} {O O' : List Addr} {H H' : Hp} (t : ∀ b xs, Rd H b (.tup xs) → Rd H' b (.tup xs)) : ∀ {v : V} {d : D}, flatD d = true → Rep K O H v d → Rep K O' H' v d
  | _, _, _, .non => .non
  | _, _, _, .bl b => .bl b
  | _, _, _, .int i => .int i
  | _, _, _, .str x => .str x
  | _, _, h, .tup q r => .tup (by rcases q with q | q; exact .inl (t _ _ q); exact .inr q) (Reps.flatTo t (by simpa only [flatD] using h) r)
  | _, _, h, .lst _ _ _ => by simp [flatD] at h
  | _, _, h, .lstK _ _ => by simp [flatD] at h
  | _, _, h, .dct _ _ _ _ => by simp [flatD] at h
  | _, _, h, .ins _ _ _ _ _ => by simp [flatD, insD] at h
theorem Reps.flatTo {K : PySem.W.Frag} {O O' : List Addr} {H H' : Hp} (t : ∀ b xs, Rd H b (.tup xs) → Rd H' b (.tup xs)) : ∀ {vs : List V} {ds : List D}, flatDs ds = true → Reps K O H vs ds → Reps K O' H' vs ds
  | _, _, _, .nil => .nil
  | _, _, h, .cons r rs => by
    simp only [flatDs, Bool.and_eq_true] at h
    exact .cons (Rep.flatTo t h.1 r) (Reps.flatTo t h.2 rs)
end
theorem pdn_ofF (h : PDF X G e f) : PDN X G e (nF f) := by
  obtain ⟨t, p, h⟩ := h
  refine ⟨t, p, fun δ O σ H Q E k => ?_⟩
  refine h _ O σ H Q E (ok_mono (ok_thn k) fun d z => ?_)
  match d, z with
  | .list ds, z =>
    by_cases hf : flatDs ds = true
    · have z : ok _ (if flatDs ds = true then M.ret ds else none) _ := z
      rw [if_pos hf] at z
      refine ⟨ds, rfl, hf, fun l xs H' s hl hx rx => ?_⟩
      have z := z l xs (fun b => if b = l then none else H' b) (fun b o hb => ?_) (if_pos rfl) (rx.flatTo (fun b ys q => ?_) hf)
      · have e1 : upd (fun b => if b = l then none else H' b) l (.lst xs) = H' := by
          funext b
          by_cases hb : b = l
          · subst hb; rw [upd_same, hx]
          · rw [upd_ne hb]; exact if_neg hb
        rw [e1] at z
        exact z
      · have hb' : b ≠ l := ne_of_none hb hl
        show (if b = l then none else H' b) = _
        rw [if_neg hb']
        exact s b o hb
      · have hb : b ≠ l := by
          rintro rfl
          rcases q with q | ⟨u, q⟩ <;> rw [hx] at q <;> cases q
        rcases q with q | ⟨u, q⟩
        · exact .inl (by show (if b = l then none else H' b) = _; rw [if_neg hb]; exact q)
        · exact .inr ⟨u, by show (if b = l then none else H' b) = _; rw [if_neg hb]; exact q⟩
    · have z : ok _ (if flatDs ds = true then M.ret ds else none) _ := z
      rw [if_neg hf] at z
      exact z.elim
end
end DL
/-! a loop over an own list whose body only looks and perhaps returns; an own list's item set -/
namespace DL
open PySem PySem.Spec PyProof.Rows L2
/-- statements that look, and go on with nothing changed, or return -/
def PDR (X : Cx) (G : XD → Hp → Prop) (sts : List Stmt) (g : DS → M Out) : Prop :=
  ∃ t, PSs X sts t ∧ ∀ {Hr : Hp} (R0 : List Addr) (P0 : Addr → Prop) (H0 : Hp) (δ : DS) (O : List Addr) (σ : St) (H : Hp) (Dn : Ends), EI X.K Hr R0 P0 H0 O H σ δ →
    ok (GS G Hr) (g δ) (fun o => match o with
      | .nx _ => ∀ H', Same H H' → Dn.nx σ H'
      | .rt d => Fin X.K Hr R0 P0 H0 Dn (.rt d)
      | _ => False) → t Dn σ H
section
variable {X : Cx} {G : XD → Hp → Prop} {c e : Expr} {fb : DS → M Bool} {f : DS → M D} {gs gt : DS → M Out} {st1 body sts : List Stmt} {st : Stmt} {pos : Pos}
def gIfR (fb : DS → M Bool) (gs : DS → M Out) : DS → M Out := fun δ => (fb δ).thn fun b => if b = true then (gs δ).thn fun o => match o with
    | .rt d => M.ret (.rt d)
    | _ => none
  else M.ret (.nx δ)
def loopO (j : Nat) (g : DS → M Out) : List D → DS → M Out
  | [], δ => M.ret (.nx δ)
  | d :: ds, δ => (g (δ.set j (.vl d))).thn fun o => match o with
    | .nx _ => loopO j g ds (δ.set j (.vl d))
    | .rt d => M.ret (.rt d)
    | _ => none
def gForO (i j : Nat) (g : DS → M Out) : DS → M Out := fun δ => match δ[i]? with
  | some (.ow ds) => loopO j g ds δ
  | _ => none
end
end DL
/-! own lists whose items are set; pop; list * n, list + list as new lists; list.index -/
namespace L2
open PySem PySem.Spec PyProof.Rows
section
variable {X : Cx}
/-- the place of the first item that is x -/
def idxV (x : V) : List V → Option Nat
  | [] => none
  | y :: ys => if eqV y x = true then some 0 else (idxV x ys).map (· + 1)
def rIndex (K : PySem.W.Frag) : V → List V → Hp → VK → Prop := fun x vs H Q => ∃ l xs y j, x = .ref l ∧ vs = [y] ∧ SqL K H l xs ∧ flatV y = true ∧ xs.all flatV = true ∧ idxV y xs = some j ∧ Q (.int (j : Nat)) H
end
end L2
namespace DL
open PySem PySem.Spec PyProof.Rows L2
theorem EI.put {K : PySem.W.Frag} {Hr : Hp} {R0 : List Addr} {P0 : Addr → Prop} {H0 H : Hp} {O : List Addr} {σ : St} {δ : DS} {i : Nat} {l : Addr} {xs ys : List V} {ds ds' : List D} (E : EI K Hr R0 P0 H0 O H σ δ) (hd : δ[i]? = some (.ow ds)) (hσ : σ[i]? = some (some (.ref l))) (hl : H l = some (.lst xs)) (ry : Reps K O H ys ds') :
    EI K Hr R0 P0 H0 O (upd H l (.lst ys)) σ (δ.set i (.ow ds')) := by
  obtain ⟨l', xs', q1, lO, q3, _⟩ := E.ev.at_ i _ hd
  rw [hσ] at q1
  cases q1
  have tO : To O O H (upd H l (.lst ys)) := To.set hl lO
  refine ⟨⟨fun b o h => ?_, fun a ha => ?_, by rw [List.length_set]; exact E.ev.len, fun j s h => ?_, fun j k a es es' hjk h1 h2 h3 => ?_⟩, E.omr, fun b o n h => ?_, E.om, fun j es a h1 ho h2 => ?_, E.sub⟩
  · have q := E.ev.root b o h
    have hne : b ≠ l := fun z => by
      subst z
      rcases E.omr b lO with w | w
      · exact E.nr i ds b hd hσ w
      · rw [h] at w; cases w
    rw [upd_ne hne]
    exact q
  · by_cases hb : a = l
    · rw [hb]; exact .lst upd_same
    · exact (E.ev.oo a ha).upd_ne hb
  · rw [get_set] at h
    by_cases hij : i = j
    · rw [if_pos hij] at h
      split at h
      · cases h
        rw [← hij, hσ]
        exact ⟨l, _, rfl, lO, upd_same, ry.to tO⟩
      · cases h
    · rw [if_neg hij] at h
      refine (E.ev.at_ j s h).to tO (hd_set hl) fun a ys h1 h2 h3 h4 => ⟨h1, ?_⟩
      obtain ⟨es, rfl⟩ := h4
      have hne : a ≠ l := fun z => by
        subst z
        exact E.ev.dis i j a ds es hij hd h hσ h3
      rw [upd_ne hne]
      exact h2
  · have old : ∀ (j : Nat) (es : List D), (δ.set i (.ow ds'))[j]? = some (.ow es) → ∃ es', δ[j]? = some (.ow es') := fun j es h => by
      rw [get_set] at h
      by_cases hij : i = j
      · rw [← hij]; exact ⟨ds, hd⟩
      · rw [if_neg hij] at h; exact ⟨es, h⟩
    obtain ⟨e1, h1⟩ := old j es h1
    obtain ⟨e2, h2⟩ := old k es' h2
    exact E.ev.dis j k a e1 e2 hjk h1 h2 h3
  · have q := E.keep b o n h
    have hne : b ≠ l := fun z => by
      subst z
      rcases E.om b lO with w | w | w
      · exact E.nr i ds b hd hσ w
      · exact n w
      · rw [h] at w; cases w
    rw [upd_ne hne]
    exact q
  · rw [get_set] at h1
    by_cases hij : i = j
    · exact E.nr i ds a hd (by rw [hij]; exact h2)
    · rw [if_neg hij] at h1
      exact E.nr1 j es a h1 ho h2
section
variable {X : Cx} {G : XD → Hp → Prop} {a b c e ix : Expr} {es : List Expr} {f g fi : DS → M D} {fa : DS → M (List D)} {fn : DS → M (List D)} {pos tpos : Pos}
theorem Reps.set {K : PySem.W.Frag} {O : List Addr} {H : Hp} : ∀ {xs : List V} {ds : List D} {v : V} {d : D} (j : Nat), Reps K O H xs ds → Rep K O H v d → Reps K O H (xs.set j v) (ds.set j d)
  | _, _, _, _, _, .nil, _ => .nil
  | _, _, _, _, 0, .cons _ t, r => .cons r t
  | _, _, _, _, j + 1, .cons q t, r => .cons q (Reps.set j t r)
theorem Reps.erase {K : PySem.W.Frag} {O : List Addr} {H : Hp} : ∀ {xs : List V} {ds : List D} (j : Nat), Reps K O H xs ds → Reps K O H (xs.eraseIdx j) (ds.eraseIdx j)
  | _, _, _, .nil => .nil
  | _, _, 0, .cons _ t => t
  | _, _, j + 1, .cons q t => .cons q (Reps.erase j t)
/-- x[i] = e, x a list of one's own -/
def gSetO (i : Nat) (fi f : DS → M D) : DS → M Out := fun δ => match δ[i]? with
  | some (.ow ds) => (f δ).thn fun d => (fi δ).thn fun k => match k with
    | .int k => match ixN ds.length k with
      | some j => M.ret (.nx (δ.set i (.ow (ds.set j d))))
      | none => none
    | _ => none
  | _ => none
/-- x[i] += e, x[i] -= e -/
def gAugO (i : Nat) (h : Int → Int → Int) (fi f : DS → M D) : DS → M Out := fun δ => match δ[i]? with
  | some (.ow ds) => (fi δ).thn fun k => match k with
    | .int k => match ixN ds.length k with
      | some j => match ds[j]? with
        | some (.int m) => (f δ).thn fun d => match d with
          | .int n => M.ret (.nx (δ.set i (.ow (ds.set j (.int (h m n))))))
          | _ => none
        | _ => none
      | none => none
    | _ => none
  | _ => none
/-- x.append(y.pop(e)) -/
def gAppPop (i j : Nat) (f : DS → M D) : DS → M Out := fun δ => match δ[i]?, δ[j]? with
  | some (.ow ds), some (.ow es) => (f δ).thn fun k => match k with
    | .int k => match ixN es.length k with
      | some m => match es[m]? with
        | some d => if small (ds.length + 1) && decide (-(2 ^ 63) ≤ k ∧ k < 2 ^ 63) && decide (i ≠ j) then M.ret (.nx ((δ.set j (.ow (es.eraseIdx m))).set i (.ow (ds ++ [d])))) else none
        | none => none
      | none => none
    | _ => none
  | _, _ => none
/-! ### new lists -/
/-- a new list, as a value -/
def dOfN (fn : DS → M (List D)) : DS → M D := fun δ => (fn δ).thn fun ds => M.ret (.list ds)
def nFrz (i : Nat) (fn : DS → M (List D)) : DS → M (List D) := fun δ => (fn (frz i δ)).thn fun ds => if flatDs ds = true then M.ret ds else none
def nCat (f g : DS → M D) : DS → M (List D) := fun δ => (f δ).thn fun x => (g δ).thn fun y => match x, y with
  | .list xs, .list ys => if small (xs.length + ys.length) then M.ret (xs ++ ys) else none
  | _, _ => none
theorem Reps.rep {K : PySem.W.Frag} {O : List Addr} {H : Hp} {xs : List V} {ds : List D} (h : Reps K O H xs ds) : ∀ k : Nat, Reps K O H (List.replicate k xs).flatten (List.replicate k ds).flatten
  | 0 => .nil
  | k + 1 => by
    rw [List.replicate_succ, List.replicate_succ, List.flatten_cons, List.flatten_cons]
    exact h.append (Reps.rep h k)
def nRep (fn : DS → M (List D)) (g : DS → M D) : DS → M (List D) := fun δ => (fn δ).thn fun ds => (g δ).thn fun y => match y with
  | .int k => if small (ds.length * k.toNat) && decide (-(2 ^ 63) ≤ k ∧ k < 2 ^ 63) then M.ret (List.replicate k.toNat ds).flatten else none
  | _ => none
/-! ### list.index -/
def dIndex (f g : DS → M D) : DS → M D := fun δ => (f δ).thn fun x => match x with
  | .list ds => (g δ).thn fun y => match plainV y, plainVs ds with
    | some v, some vs => match idxV v vs with
      | some j => M.ret (.int (j : Nat))
      | none => none
    | _, _ => none
  | _ => none
end
end DL
/-! comprehensions that name several caught names in another order; tuple(list); sum of whole numbers of any size -/
namespace L2
open PySem PySem.Spec PyProof.Rows
end L2
namespace DL
open PySem PySem.Spec PyProof.Rows L2
section
variable {X : Cx}
def oSumG : List D → Option D
  | [.list ds] => (intsOf ds).map fun is => .int is.sum
  | _ => none
/-- tuple(x) of a list -/
def oTupOf : List D → Option D
  | [.list ds] => some (.tuple ds)
  | _ => none
end
end DL
namespace L2
open PySem PySem.Spec PyProof.Rows
section
variable {X : Cx}
/-! ### x.rpartition(y), x.split(y, n) -/
/-! ### try where nothing is raised -/
def tTry0 (X : Cx) (body : List Stmt) : TS := fun D σ H => ∀ pn xe, tCan (X.tri pn xe) body D σ H
theorem ps_try0 {body : List Stmt} {h0 : ExceptHandler} {hs : List ExceptHandler} {pos : Pos} : PS X (.Try body (h0 :: hs) [] [] pos) (tTry0 X body) := by
  intro pins s σ H D I hb
  refine wpAny_Try_except ?_
  have hw := pss_can [] s σ H D (I.tri (fun _ _ => False)) (hb _ _)
  refine wpAny_mono hw (fun f s1 h1 => ?_) (fun e s1 h1 => h1.elim)
  cases f with
  | next =>
    obtain ⟨σ', H', I', q⟩ := h1
    exact wpAny_execs_nil (show SP X pins D .next s1 from ⟨σ', H', I'.untri, q⟩)
  | brk => obtain ⟨σ', H', I', q⟩ := h1; exact ⟨σ', H', I'.untri, q⟩
  | cont => obtain ⟨σ', H', I', q⟩ := h1; exact ⟨σ', H', I'.untri, q⟩
  | ret u => obtain ⟨v, σ', H', I', r, q⟩ := h1; exact ⟨v, σ', H', I'.untri, r, q⟩
end
end L2
namespace DL
open PySem PySem.Spec PyProof.Rows L2
section
variable {X : Cx} {G : XD → Hp → Prop} {a e : Expr} {f : DS → M D} {fa : DS → M (List D)} {p pos kp kpos tpos : Pos} {elts : List Expr} {x1 : Nat} {K : PySem.W.Frag} {O : List Addr} {H1 : Hp}
/-! ### over data -/
def dEnumK (fa : DS → M (List D)) : DS → M (List D) := fun δ => (fa δ).thn fun ds => match ds with
  | [.list xs] => M.ret (enumD 1 xs)
  | _ => none
def sRpartition (z : Str) : List D → Option D
  | [.str y] => if ((y.length == 0) == false && small z.length) = true then some (.tuple [.str (Txt.rpartition z y).1, .str (Txt.rpartition z y).2.1, .str (Txt.rpartition z y).2.2]) else none
  | _ => none
def sSplitN (z : Str) : List D → Option D
  | [.str y, .int n] => if ((y.length == 0) == false && small z.length && small (Txt.splitMax z y n).length && !(decide (n < -(2 ^ 63 : Int)) || decide (n ≥ 2 ^ 63))) = true then some (.list ((Txt.splitMax z y n).map PyData.str)) else none
  | _ => none
/-- the truth of a bool, a text or a list -/
def truD : D → Option Bool
  | .bool b => some b
  | .str z => if small z.length then some ((z.length : Int) != 0) else none
  | .list xs => some (!xs.isEmpty)
  | _ => none
def dTr (f : DS → M D) : DS → M Bool := fun δ => (f δ).thn fun d => M.lift (truD d)
/-- try: .. except ..: .. where nothing is raised -/
def gTry0 (gb : DS → M Out) : DS → M Out := fun δ => noX (gb (noOw δ))
theorem pd_try0 {body : List Stmt} {h0 : ExceptHandler} {hs : List ExceptHandler} {gb : DS → M Out} (hb : ∀ pn xe, PDSs (X.tri pn xe) (fun _ _ => False) body gb) :
    PDS X G (.Try body (h0 :: hs) [] [] pos) (gTry0 gb) := by
  refine ⟨_, ps_try0, @fun Hr R0 P0 H0 δ O σ H Dn E k => fun pn xe => ?_⟩
  obtain ⟨t, p, hB⟩ := hb pn xe
  refine ⟨t, p, hB O (fun _ => False) H (noOw δ) O σ H Dn E.fresh ?_⟩
  exact ok_weak (ok_mono (ok_noX k) fun o q => Fin.fresh E q) fun y z => z.elim
theorem ev_try0 {gb : DS → M Out} {δ : DS} {o : Out} (h : gb (noOw δ) = M.ret o) : gTry0 gb δ = M.ret o := by unfold gTry0; rw [h]; rfl
end
end DL
/-! EXCEPTIONS WITH FIELDS, two: the object's own attributes, read and set; C(..) with an __init__ of its own -/
namespace XF
open PySem PySem.Spec PySem.W PySem.Calls PyProof.Rows L2
open PySem.Builtin.ObjectAttr PySem.Builtin
/-- the built-in classes at the end of a line of classes -/
def strip : List Value → List Value
  | .ref _ :: r => strip r
  | l => l
theorem refuse_strip (self : Value) (what : Str) : ∀ l : List Value, refuseLoop self what l = refuseLoop self what (strip l)
  | [] => rfl
  | .ref c :: r => by
    rw [refuseLoop_ref, refuse_strip self what r]
    rfl
  | .type _ :: _ => rfl
  | .none :: _ => rfl
  | .bool _ :: _ => rfl
  | .int _ _ :: _ => rfl
  | .str _ _ :: _ => rfl
  | .builtin _ :: _ => rfl
  | .bytes _ _ :: _ => rfl
  | .float _ _ :: _ => rfl
  | .ellipsis :: _ => rfl
  | .notImplemented :: _ => rfl
/-- what an own class under ValueError shows: how attributes are read and set -/
structure XCls (K : Frag) (C : Addr) : Prop where
  ga : findIn K (.ref C) "__getattribute__" = some (some (.builtin "BaseException.__getattribute__"))
  gt : findIn K (.ref C) "__getattr__" = some none
  sa : findIn K (.ref C) "__setattr__" = some (some (.builtin "object.__setattr__"))
  hb : mroIn K C (.type "BaseException") = some true
  ho : mroIn K C (.type "object") = some true
  hd : hasDictIn K C = true
  st : ((clsIn K C).any fun cd => strip cd.mro == [.type "ValueError", .type "Exception", .type "BaseException", .type "object"]) = true
section
variable {prog : Program} {w : World} {A : Around} {E : Value → Shared → Prop} {K : Frag} {x C : Addr} {ox : Obj} {h : Heap} {g : Array GenState} {d : Drawn} {t : Nat} {os : OsState} {name : Str} {v : Value}
/-- e.f -/
theorem get_field {od : Option Obj} {expr : Bool} {Q : Value → Shared → Prop} (c : XCls K C) (X : K.In h) (I : InstAt h x ox C od) (hf : findObj K C od name = some (.value v)) (hv : handedIn v = true)
    (hq : Q v ⟨h, g, d, t + 1, os⟩) : wpAny (model prog w) A (getAttr (.ref x) name expr) Q E ⟨h, g, d, t, os⟩ := by
  have p : ExcAt x C h := ⟨ox, I.at_, I.cls⟩
  have L0 := exc_type (M := model prog w) p
  have L1 := looks_findIn (M := model prog w) X c.ga
  have L2 := looks_findIn (M := model prog w) X c.gt
  have L3 := looks_find (M := model prog w) X I hf
  have f3 : bindSpecial (.builtin "BaseException.__getattribute__") (.ref x) = pure (.builtin "BaseException.__getattribute__", [.ref x]) := F.excAttr_ValueError.ga.bind (.ref x)
  have hx0 : (expr && onTheHeap (Value.builtin "BaseException.__getattribute__")) = false := by cases expr <;> rfl
  have hx2 : (Value.builtin "BaseException.__getattribute__" == Value.builtin "object.__getattribute__") = false := by decide +kernel
  have hx1 : (onTheHeap (Value.ref C) && Value.builtin "BaseException.__getattribute__" == Value.builtin "object.__getattribute__") = false := by rw [hx2]; rfl
  unfold getAttr getAttrBy
  repeat (any_goals (first | with_reducible refine Looks.at (by assumption) ?_ | assumption | wp_step))
  refine codeAny_call_builtin F.excAttr_ValueError.ga.plain F.entry_bexc_ga (exc_ga_check X p c.hb ?_)
  unfold Builtin.«object.__getattribute__»
  repeat (any_goals (first | with_reducible refine Looks.at (by assumption) ?_ | assumption | wp_step))
  show wpAny _ _ (handedOut v) _ _ _
  rw [handedOut_of hv]
  exact wpAny_pure hq

/-- e.f = v where the object has no dict yet: it gets one -/
theorem set_field {dt : Data} {sl : Array (Option Value)} {Q : Unit → Shared → Prop} (c : XCls K C) (X : K.In h) (hx : h.get? x = some ⟨.ref C, none, dt, sl⟩) (hdt : ∀ cd, dt ≠ .cls cd) (hfr : (⟨.ref C, some h.objs.size, dt, sl⟩ : Obj).isFreed = false)
    (hn : findIn K (.ref C) name = some none)
    (hq : ∀ h', h'.get? x = some ⟨.ref C, some h.objs.size, dt, sl⟩ → h'.Ns1 h.objs.size (fun y => if y = name then some v else none) → (∀ b o, b ≠ x → h.get? b = some o → h'.get? b = some o) → ∀ t', Q () ⟨h', g, d, t', os⟩) :
    wpAny (model prog w) A (setAttr (.ref x) name v) Q E ⟨h, g, d, t, os⟩ := by
  have I : InstAt h x ⟨.ref C, none, dt, sl⟩ C none := ⟨hx, rfl, by unfold notCls; cases dt <;> first | rfl | exact absurd rfl (hdt _), trivial⟩
  refine set_plain (s := ⟨h, g, d, t, os⟩) X I c.sa ?_
  have SF := PySem.F.store_object
  have SV := PySem.F.store_ValueError
  have sub : Looks (model prog w) h (isInstance (.ref x) (.type "object")) true := I.type.andThen (looks_mroIn X c.ho)
  refine codeAny_call_builtin SF.slot.plain SF.entry (@check_slot (model prog w) _ _ ⟨h, g, d, t + 1, os⟩ "object.__setattr__" "object" "__setattr__" (.ref x) [.str name t, v] [] _ SF.kind SF.split sub (SF.args (.ref x) (.str name t) v) ?_)
  obtain ⟨cd, hc, hs⟩ := any_some c.st
  have hm : Looks (model prog w) h (mroOf (.ref C)) cd.mro := (looks_clsIn X hc).andThen .now
  have L3 : Looks (model prog w) h (storeTaker? none) none := .now
  rw [osa_eq, refuse_eq]
  refine wpAny_bind (wpAny_bind (I.type.here (s := ⟨h, g, d, t + 1, os⟩) (wpAny_bind (hm.here (s := ⟨h, g, d, t + 1, os⟩) ?_))))
  rw [refuse_strip, beq_iff_eq.mp hs, SV.passes]
  refine wpAny_pure (wpAny_bind (I.type.here (s := ⟨h, g, d, t + 1, os⟩) (wpAny_bind ((looks_findIn X hn).here (s := ⟨h, g, d, t + 1, os⟩) (wpAny_bind (L3.here (s := ⟨h, g, d, t + 1, os⟩) ?_))))))
  obtain ⟨cd', hc', hd'⟩ := any_some c.hd
  have hx1 : (h.push { cls := .type "dict", data := .dict #[] }).get? x = some ⟨.ref C, none, dt, sl⟩ := Heap.get?_push_of_some _ hx
  have hxs : x ≠ h.objs.size := Nat.ne_of_lt (Heap.lt_size hx)
  have hgd : ((h.push { cls := .type "dict", data := .dict #[] }).update x fun o => { cls := o.cls, dict := some h.objs.size, data := o.data, slots := o.slots }).get? h.objs.size = some { cls := .type "dict", data := .dict #[] } :=
    (Heap.get?_update_ne _ _ _ _ hxs.symm).trans (Heap.get?_push_at rfl rfl)
  have hnd : ((h.push { cls := .type "dict", data := .dict #[] }).update x fun o => { cls := o.cls, dict := some h.objs.size, data := o.data, slots := o.slots }).Ns h.objs.size (fun _ => none) :=
    ⟨_, #[], _, hgd, rfl, fun e he => absurd he (by simp), fun _ => rfl⟩
  show wpAny _ _ (storeInOwnDict (.ref x) (.ref C) (.str name t) name v false) _ _ _
  unfold storeInOwnDict
  refine wpAny_bind (wpAny_pure (wpAny_bind (wpAny_bind (wpAny_loadPart (s := ⟨h, g, d, t + 1, os⟩) hx (wpAny_bind ((looks_clsIn X hc').here (s := ⟨h, g, d, t + 1, os⟩) ?_))))))
  rw [hd']
  have fin : wpAny (model prog w) A.in1 (storeInDict h.objs.size (.str name t) name v) (fun fin s' => match fin with | .done f => (match (.ok f : Result) with | .ok (.ret _) => Q () s' | .ok _ => False | .error e => E e s') | .again c' => c'.quiet = true ∧ codeAny (model prog w) A c' (fun r s' => match r with | .ok (.ret _) => Q () s' | .ok _ => False | .error e => E e s') s') (fun e s' => E e s')
      ⟨(h.push { cls := .type "dict", data := .dict #[] }).update x fun o => { cls := o.cls, dict := some h.objs.size, data := o.data, slots := o.slots }, g, d, t + 1, os⟩ := by
    unfold storeInDict newKeyGuard
    refine wpAny_bind (wpAny_pure (wpAny_bind (wpAny_nsSet1 (Heap.Ns1.of_empty hnd) fun h' hn' hs' => ?_)))
    obtain ⟨oD, esD, epD, hoD, hdD, hcD⟩ := hn'.count (Within.cons name v Within.nil)
    refine wpAny_bind (wpAny_lookBehind hoD (by rw [hdD]; exact pastItsLine_dict (Nat.le_trans hcD (by rw [List.length_cons, List.length_nil, sizeLine_eq]; omega))) ?_)
    wp_walk
    refine hq h' ?_ hn' (fun b o n q => ?_) _
    · exact (hs'.2 x hxs).trans (Heap.get?_update_self _ hx1 hfr)
    · exact (hs'.2 b (Nat.ne_of_lt (Heap.lt_size q))).trans ((Heap.get?_update_ne _ _ _ _ n).trans (Heap.get?_push_of_some _ q))
  have hnc : typeHasDict (.ref C) = true := rfl
  cases dt with
  | cls cd => exact absurd rfl (hdt cd)
  | _ =>
    show wpAny _ _ (if (!true || !typeHasDict (.ref C)) = true then _ else _) _ _ _
    rw [if_neg (by rw [hnc]; decide)]
    exact wpAny_bind (wpAny_alloc' (wpAny_bind (wpAny_update' hx1 (wpAny_pure fin))))
end
/-- an own class under a built-in exception, whatever its __init__ -/
def excIn1 (K : Frag) (C : Addr) (bmB : List Value) (newId : String) : Bool := match K.lookup C with
  | some ⟨.type "type", _, .cls cd, sl⟩ => (match cd.mro, sl.toList with
    | .ref C' :: bm, [_, _, _, _, some (.builtin n), _] => C' == C && n == newId && !cd.hasDel && tailIn K bmB bm
    | _, _ => false)
  | _ => false
theorem exc_obj1 {K : Frag} {h : Heap} {C : Addr} {bmB : List Value} {newId : String} (X : K.In h) (q : excIn1 K C bmB newId = true) :
    ∃ bm N nm qn bs hdct sn sub ab col dd k0 k1 k2 k3 k5, h.get? C = some (excClassObj nm qn C N bs bm hdct sn sub ab col dd k0 k1 k2 k3 k5 newId) ∧ OwnTail h bmB bm := by
  unfold excIn1 at q
  split at q
  · rename_i dd cd sl ho
    split at q
    · rename_i C' bm k0 k1 k2 k3 n k5 hm hs
      simp only [Bool.and_eq_true, beq_iff_eq, Bool.not_eq_true'] at q
      obtain ⟨⟨⟨rfl, rfl⟩, hdel⟩, ht⟩ := q
      obtain ⟨nm, bs, mro, ns, qn, hd, sn, sub, ab, col, del⟩ := cd
      dsimp only at hm hdel
      subst hm hdel
      have hsl : sl = #[k0, k1, k2, k3, some (.builtin n), k5] := by
        cases sl
        simp only at hs
        rw [hs]
      subst hsl
      exact ⟨bm, ns, nm, qn, bs, hd, sn, sub, ab, col, dd, k0, k1, k2, k3, k5, X _ _ ho, tail_of_in X ht⟩
    · cases q
  · cases q
section
variable {prog : Program} {w : World} {A : Around} {E : Value → Shared → Prop} {K : Frag} {h : Heap} {g : Array GenState} {d : Drawn} {t : Nat} {os : OsState}
variable {nm q : Str} {C N : Addr} {bs bm bmB : List Value} {hdct : Bool} {sn : List Str} {sub : List Value} {ab : Bool} {col : Option Bool} {dd : Option Addr} {k0 k1 k2 k3 k5 : Option Value} {B newId initId : String}
theorem type_call_init (F : ExcBaseFacts B newId initId bmB) (T : OwnTail h bmB bm) (X : K.In h) {rest : List Value} {fI : Addr} {Q : Fin → Shared → Prop}
    (hC : h.get? C = some (excClassObj nm q C N bs bm hdct sn sub ab col dd k0 k1 k2 k3 k5 newId)) (hi : findIn K (.ref C) "__init__" = some (some (.ref fI))) (hf : typeIn K (.ref fI) = some (.type "function")) (hrest : rest.length ≤ sizeLine)
    (hq : ∀ h' e, Heap.MadeExcOf h h' e (.ref C) rest → h.objs.size ≤ e →
      wpAny (model prog w) A (call (.ref fI) (.ref e :: rest)) (fun r s' => r = .none ∧ Q (.done (.ret (.ref e))) s') E ⟨h', g, d, t, os⟩) :
    wpAny (model prog w) A (Builtin.«type.__call__» ⟨.ref C :: rest, []⟩) Q E ⟨h, g, d, t, os⟩ := by
  repeat (first | with_reducible refine wpAny_loadPart_at hC ?_ | with_reducible refine wpAny_madeBy_exc hC ?_ | wp_step)
  refine codeAny_call_builtin_code (Code.quiet_builtin _ F.quiet) (wpAny_check_new_subT F T hC ?_)
  refine codeAny_exc_new_subT F T hC ?_ hrest
  show wpAny _ _ _ _ _ _
  have kp : ∀ b o, h.get? b = some o → ((h.push { cls := .type "tuple", data := .seq rest.toArray }).push { cls := .ref C, data := .fields #[.ref h.objs.size, .none, .none, .none, .bool false, .none] }).get? b = some o :=
    fun b o e => Heap.get?_push_of_some _ (Heap.get?_push_of_some _ e)
  have hC₁ := kp _ _ hC
  have hget : ((h.push { cls := .type "tuple", data := .seq rest.toArray }).push
      { cls := .ref C, data := .fields #[.ref h.objs.size, .none, .none, .none, .bool false, .none] }).get? (h.objs.size + 1) = some
      { cls := .ref C, data := .fields #[.ref h.objs.size, .none, .none, .none, .bool false, .none] } := by heap_get
  have hcC : (Value.ref C :: bm).contains (.ref C) = true := by simp
  unfold isInstance
  repeat (first | with_reducible refine wpAny_loadPart_at hget ?_ | (with_reducible refine wpAny_isSubtype_exc hC₁ ?_; rw [hcC]) | wp_step)
  show wpAny _ _ (typeLookup (.ref C) _) _ _ _
  refine looks_findIn X hi _ _ _ _ kp ?_
  refine wpAny_holding (wpAny_bind (PySem.W.bind_fn X _ hf _ _ _ _ kp ?_))
  refine wpAny_bind (wpAny_mono (hq _ (h.objs.size + 1) ⟨kp, Heap.get?_none_of_le (Nat.le_succ _), h.objs.size, hget, Heap.get?_none_of_le (Nat.le_refl _), ?_⟩ (Nat.le_succ _)) (fun r s' hr => ?_) fun _ _ x => x)
  · exact Heap.get?_push_of_some _ (Heap.get?_push_at rfl rfl)
  · obtain ⟨rfl, hQ⟩ := hr
    wp_walk
    exact hQ
/-- C(..): the object, then its own __init__ -/
theorem call_init (F : ExcBaseFacts B newId initId bmB) (T : OwnTail h bmB bm) (X : K.In h) {rest : List Value} {fI : Addr} {Q : Value → Shared → Prop}
    (hC : h.get? C = some (excClassObj nm q C N bs bm hdct sn sub ab col dd k0 k1 k2 k3 k5 newId)) (hi : findIn K (.ref C) "__init__" = some (some (.ref fI))) (hf : typeIn K (.ref fI) = some (.type "function")) (hrest : rest.length ≤ sizeLine)
    (hq : ∀ h' e, Heap.MadeExcOf h h' e (.ref C) rest → h.objs.size ≤ e →
      wpAny (model prog w) (A.under (.builtin "type.__call__" ⟨.ref C :: rest, []⟩)) (call (.ref fI) (.ref e :: rest)) (fun r s' => r = .none ∧ Q (.ref e) s') E ⟨h', g, d, t, os⟩) :
    wpAny (model prog w) A (call (.ref C) rest) Q E ⟨h, g, d, t, os⟩ := by
  have f1 := tc_lookup
  have f2 := tc_bind (.ref C)
  have hT : (⟨h, g, d, t, os⟩ : Shared).TypeIs (.ref C) "type" := ⟨_, hC, rfl⟩
  refine wpAny_call (codeAny_of_tree ?_)
  show wpAny _ _ (callAny (.ref C) _) _ _ _
  repeat (any_goals (first | assumption | with_reducible refine wpAny_loadPart_at hC ?_ | wp_step))
  refine ⟨rfl, ?_⟩
  exact codeAny_call_builtin_at (Code.quiet_builtin _ (by decide +kernel)) entry_typeCall (wpAny_check_type_call_sub hC (type_call_init F T X hC hi hf hrest hq))
end
end XF
/-! EXCEPTIONS WITH FIELDS, three: Base.__init__(self, ..), self.f = v in an exception's __init__ -/
namespace XF
open PySem PySem.Spec PySem.W PySem.Calls PyProof.Rows L2
/-- an exception's object as it stands ahead of its raising -/
def ExO (C e : Addr) (dd : Option Addr) : Heap → Prop := fun h => ∃ t, h.get? e = some ⟨.ref C, dd, .fields #[.ref t, .none, .none, .none, .bool false, .none], #[]⟩
theorem ExO.stays {C e : Addr} {dd : Option Addr} (h1 h2 : Heap) (p : ExO C e dd h1) (k : ∀ o, h1.get? e = some o → h2.get? e = some o) : ExO C e dd h2 := by
  obtain ⟨t, q⟩ := p
  exact ⟨t, k _ q⟩
theorem exo_ok {P : Program} {w : World} {H : Hp} {h : Heap} {C e : Addr} {dd : Option Addr} (p : ExO C e dd h) : ObjOk P w H h e (.ext (ExO C e dd)) := by
  obtain ⟨t, q⟩ := id p
  exact ⟨p, ⟨_, q⟩, ExO.stays⟩
theorem upd_id {H : Hp} {a : Addr} {o : HO} (h : H a = some o) : upd H a o = H := by
  funext b
  unfold upd
  split
  · rename_i e; rw [e, h]
  · rfl
abbrev VE : List Value := [.type "ValueError", .type "Exception", .type "BaseException", .type "object"]
section
variable {X : Cx} {C : Addr}
theorem call_binit (hK : excIn1 X.K C VE "ValueError.__new__" = true) : CallR X (.builtin "ValueError.__init__") (fun xs H Q => ∃ e x, xs = [.ref e, x] ∧ H e = some (.ext (ExO C e none)) ∧ Q .non H) := by
  intro pins s σ H xs us Q I r h
  obtain ⟨e, x, rfl, he, q⟩ := h
  obtain ⟨u, u', rfl, ru, rx⟩ := vals2 r
  obtain rfl : u = Value.ref e := ru
  obtain ⟨⟨t0, hget⟩, _, _⟩ := (show ObjOk X.prog X.w H s.heap e (.ext (ExO C e none)) from I.hok e _ he)
  have F := PySem.F.excBase_ValueError
  obtain ⟨bm, N, nm, qn, bs, hdct, sn, sub, ab, col, dd, k0, k1, k2, k3, k5, hC, T⟩ := exc_obj1 I.kIn hK
  have fin : ∀ {h' : Heap} {t1 : Addr} {tk : Nat}, h'.get? e = some ⟨.ref C, none, .fields #[.ref t1, .none, .none, .none, .bool false, .none], #[]⟩ → (∀ b o, b ≠ e → s.heap.get? b = some o → h'.get? b = some o) → EP X pins σ Q .none { s with heap := h', toks := tk } := fun {h' t1 tk} z k => by
    have J := I.write (x := e) (e := e) (o := .ext (ExO C e none)) (h' := h') (t' := tk) (by rw [he]; exact True.intro) (.inl rfl) k ⟨_, z⟩ (exo_ok ⟨t1, z⟩)
    rw [upd_id he] at J
    exact ⟨.non, H, J, rfl, q⟩
  obtain ⟨hp, g, d, t, os⟩ := s
  refine wpAny_call (codeAny_call_builtin F.init.plain F.initEntry (wpAny_check_init_subT F T hC hget rfl ?_))
  wp_walk
  refine fin (t1 := hp.objs.size) ?_ ?_
  · rw [Heap.get?_update_self _ (Heap.get?_push_of_some _ hget) rfl]
    rfl
  · intro b o n q
    rw [Heap.get?_update_other _ _ (Ne.symm n)]
    exact Heap.get?_push_of_some _ q

/-- what the class above shows: its __init__ is ValueError's -/
structure BInit (K : Frag) (CB : Addr) : Prop where
  rd : readsIn K CB (.type "type") = true
  sp : specialIn K (.ref CB) "__getattribute__" = some (some (.builtin "type.__getattribute__"))
  fd : findCls K (.ref CB) (.type "type") "__init__" = some (.val (.builtin "ValueError.__init__"))
/-- Base.__init__(self, text) -/
def tBI (C : Addr) (t : TA) : TE := fun σ H Q => t σ H fun vs H1 => ∃ e x, vs = [.ref e, x] ∧ H1 e = some (.ext (ExO C e none)) ∧ Q .non H1
theorem pe_binit {CB : Addr} {x : Str} {np apos pos : Pos} {e1 : Expr} {es : List Expr} {t : TA} {pl : Sem Bool} (hK : excIn1 X.K C VE "ValueError.__new__" = true) (b : BInit X.K CB) (hg : Gl X x) (hm : X.mg x = some (.ref CB)) (ha : PA X (e1 :: es) t)
    (hdb : (x == ("__debug__" : Str)) = false := by decide) (hst : starEach (e1 :: es) X.env = (false, eval e1 X.env) :: starEach es X.env := by rfl) (hpl : (backTo pos (starEach es X.env)).any (·.1) = false := by rfl)
    (ht : eval (.Call (.Attribute (.Name x np) "__init__" apos) (e1 :: es) [] pos) X.env = (do
      let ov ← eval (.Name x np) X.env
      standAt apos.atName
      let (f, first) ← holding [ov] (getMethod ov "__init__" pl)
      callWith pos f first (backTo pos (starEach (e1 :: es) X.env)) (backToKw pos (keywordEach [] X.env))) := by rfl) :
    PE X (.Call (.Attribute (.Name x np) "__init__" apos) (e1 :: es) [] pos) (tBI C t) := by
  intro pins s σ H Q I h
  refine PySem.W.methodCall_KW (pl := pl) (ld_glob I hg hm ?_ hdb) ht
  refine method_cls I.kIn b.sp (cls_value I.kIn b.rd b.fd rfl ?_)
  exact PyProof.Rows.callWith_builtin1 (thn (ha pos pins _ σ H _ (I.tok _) h) fun us s1 ⟨vs, H1, I1, r1, q1⟩ => call_binit hK pins s1 σ H1 vs us Q I1 r1 q1) hst hpl
/-- self.f = y, the object's first attribute -/
def sXF (C : Addr) (ta tv : TE) (f : Str) : TS := fun D σ H => tv σ H fun y H1 => ta σ H1 fun x H2 => ∃ e, x = .ref e ∧ H2 e = some (.ext (ExO C e none)) ∧ ∀ d, H2 d = none → d ≠ e → D.nx σ (upd (upd H2 d (.xd [(f, y)])) e (.ext (ExO C e (some d))))
theorem ps_xf {o value : Expr} {f : Str} {ta tv : TE} {pos pos' : Pos} (c : XCls X.K C) (n : findIn X.K (.ref C) f = some none) (ha : PE X o ta) (hv : PE X value tv) (hs : swapsWith value (some (.Attribute o f pos')) pos.line X.env = pure false := by rfl) :
    PS X (.Assign [.Attribute o f pos'] value pos) (sXF C ta tv f) := by
  intro pins s σ H D I h
  refine plainObj_wpAny_Assign_Attribute (thn (hv pins s σ H _ I h) fun u s1 ⟨y, H1, I1, ry, q⟩ => thn (ha pins s1 σ H1 _ I1 q) fun ov s2 ⟨x, H2, I2, rx, e, ex, he, q2⟩ => ?_) hs
  subst ex
  obtain rfl : ov = Value.ref e := rx
  obtain ⟨⟨t0, hget⟩, _, _⟩ := (show ObjOk X.prog X.w H2 s2.heap e (.ext (ExO C e none)) from I2.hok e _ he)
  have fin : ∀ h', h'.get? e = some ⟨.ref C, some s2.heap.objs.size, .fields #[.ref t0, .none, .none, .none, .bool false, .none], #[]⟩ → h'.Ns1 s2.heap.objs.size (fun y => if y = f then some u else none) → (∀ b o, b ≠ e → s2.heap.get? b = some o → h'.get? b = some o) → ∀ t', SP X pins D .next { s2 with heap := h', toks := t' } := fun h' z n1 k t' => by
    have hn : H2 s2.heap.objs.size = none := I2.hok.fresh (Nat.le_refl _)
    have ne : s2.heap.objs.size ≠ e := Nat.ne_of_gt (Heap.lt_size hget)
    have hok : HOk X.prog X.w (upd (upd H2 s2.heap.objs.size (.xd [(f, y)])) e (.ext (ExO C e (some s2.heap.objs.size)))) h' := fun b o q => by
      by_cases hb : b = e
      · subst hb
        rw [upd_same] at q; cases q
        exact exo_ok ⟨t0, z⟩
      · rw [upd_ne hb] at q
        by_cases hb2 : b = s2.heap.objs.size
        · subst hb2
          rw [upd_same] at q; cases q
          refine ⟨_, n1, fun g => ?_⟩
          by_cases hg : g = f
          · subst hg
            rw [if_pos rfl]
            have : List.lookup g [(g, y)] = some y := by simp [List.lookup]
            rw [this]; exact ry
          · have hb' : (g == f) = false := beq_eq_false_iff_ne.mpr hg
            simp only [List.lookup, hb', if_neg hg]
            exact True.intro
        · rw [upd_ne hb2] at q
          have e1 : ∀ {c : Addr} {v : HO}, H2 c = some v → (∀ φ, v ≠ .ext φ) → upd (upd H2 s2.heap.objs.size (.xd [(f, y)])) e (.ext (ExO C e (some s2.heap.objs.size))) c = some v := fun {c v} z1 nv => by
            have n1 : c ≠ e := fun z2 => by rw [z2, he] at z1; cases z1; exact nv _ rfl
            rw [upd_ne n1, upd_ne (ne_of_none z1 hn)]; exact z1
          refine (I2.hok b o q).stay (fun c v hc r => k c v (fun z2 => ?_) r) (fun c r => e1 r fun φ z => nomatch z) fun c xs r => e1 r fun φ z => nomatch z
          rcases hc with rfl | hc
          · exact hb z2
          · rw [z2, he] at hc; cases hc
    have un : Un (frs X.stack) [] H2 (upd (upd H2 s2.heap.objs.size (.xd [(f, y)])) e (.ext (ExO C e (some s2.heap.objs.size)))) s2.heap h' := by
      have nx : ∀ {b : Addr} {v : HO}, H2 b = some v → (∀ φ, v ≠ .ext φ) → upd (upd H2 s2.heap.objs.size (.xd [(f, y)])) e (.ext (ExO C e (some s2.heap.objs.size))) b = some v := fun {c v} z1 nv => by
        have n1 : c ≠ e := fun z2 => by rw [z2, he] at z1; cases z1; exact nv _ rfl
        rw [upd_ne n1, upd_ne (ne_of_none z1 hn)]; exact z1
      refine ⟨fun b o q m _ _ => k b o (fun z2 => by rw [z2, he] at m; cases m) q, fun b o q m _ _ => ⟨o.slots, k b o (fun z2 => by rw [z2, he] at m; cases m) q⟩, fun b o q m _ => ?_, fun b o q _ => ?_, fun b xs q => nx q fun φ z => (nomatch z), fun b o u q => nx q fun φ z => (nomatch z), fun b ps q => ⟨#[], by rw [Array.append_empty]; exact nx q fun φ z => (nomatch z)⟩⟩
      · rw [upd_ne (fun z2 => by rw [z2, he] at m; cases m), upd_ne (fun z2 => by subst z2; exact absurd (Heap.lt_size q) (Nat.lt_irrefl _))]
        exact m
      · by_cases hb : b = e
        · exact ⟨_, hb ▸ z⟩
        · exact ⟨o, k b o hb q⟩
    exact ⟨σ, _, I2.call' (s' := { s2 with heap := h', toks := t' }) (ch := []) rfl un hok I2.bare (fun b z => nomatch z), q2 _ hn ne⟩
  obtain ⟨hp, g, d, t, os⟩ := s2
  exact set_field c I2.kIn hget (fun cd z => nomatch z) rfl n fun h' z n1 k t' => fin h' z n1 k t'
end
end XF
/-! EXCEPTIONS WITH FIELDS, four: an exception's __init__ as a def; raise C(e) -/
namespace XF
open PySem PySem.Spec PySem.W PySem.Calls PyProof.Rows L2
/-- the numbers that an f-text of an exception may show -/
def XI (i : Int) : Prop := i.natAbs.log2 < 1920 ∧ (Str.ofString (toString i)).length ≤ 1000
def TxtOk (te : TE) : Prop := ∀ (σ : L2.St) (H : Hp) (Q : L2.VK) (i : Int), σ[1]? = some (some (.int i)) → XI i → (∀ x, Q (.str x) H) → te σ H Q
theorem empty_len : Str.empty.length = 0 := rfl
theorem txt2 {a : Str} (ha : a.length ≤ 1000) : TxtOk (tJoin [tC (.str a), tFV (tVar 1)] Str.empty) := by
  intro σ H Q i hi x q
  have hl : sizeLine = 16777216 := sizeLine_eq
  refine ⟨a, rfl, by rw [Str.length_append, empty_len]; omega, .int i, hi, .inr ⟨i, rfl, x.1, _, rfl, ?_, ?_, q _⟩⟩
  all_goals
    have := x.2
    simp only [Str.length_append, empty_len]
    omega
/-- the __init__ of the class at C: Base.__init__(self, f'..'); self.fl = y -/
def spXI (C : Addr) (fl : Str) : Sp := fun vs H Q _ => ∃ e i, vs = [.ref e, .int i] ∧ XI i ∧ H e = some (.ext (ExO C e none)) ∧ ∀ d, H d = none → d ≠ e → Q .non (upd (upd H d (.xd [(fl, .int i)])) e (.ext (ExO C e (some d))))
section
variable {P : Program} {w : World} {K : PySem.W.Frag} {mg : Str → Option Value} {base : Heap}
theorem initX_of {x qual fl : Str} {st : Stmt} {f C : Addr} {fd : FuncData} {N : List Str} {k : Nat} {te : TE} (F0 : Fun K x qual st f fd) (S : FnScope N N (defScope st)) (hN : N.length = 2) (ht : TxtOk te)
    (hbody : ∀ (cdv : Value) (A : Around) (outer : List Env) (s : Shared) (H : Hp) (E : XK), PSs (cxOf CX0 P w K mg base N qual (defScope st) f cdv A outer s H E).nox (defBody st) (tSeq (tDrop (tBI C (tCons (tVar 0) (tCons te tNil)))) (sXF C (tVar 0) (tVar 1) fl))) : FnOk P w K mg base CX0 (k + 1) f fd N (spXI C fl) := by
  refine F0.ok S (fun vs H Q E h => ?_) (fun cdv A outer s H vs Q E hr h => ?_)
  · obtain ⟨e, i, rfl, _⟩ := h
    exact hN.symm
  · obtain ⟨e, i, rfl, x, he, q⟩ := h
    refine ⟨_, hbody cdv A outer s H E, ?_⟩
    match N, hN with
    | [n0, n1], _ =>
      show tDrop (tBI C (tCons (tVar 0) (tCons te tNil))) _ _ _
      refine ⟨.ref e, rfl, ?_⟩
      refine ht _ _ _ i rfl x fun z => ?_
      exact ⟨e, .str z, rfl, he, .int i, rfl, .ref e, rfl, e, rfl, he, q⟩
end
/-- forgetting an exception's object -/
def rem (H : Hp) (e : Addr) : Hp := fun b => if b = e then none else H b
theorem rem_ne {H : Hp} {b e : Addr} (h : b ≠ e) : rem H e b = H b := by unfold rem; rw [if_neg h]
theorem rem_same {H : Hp} {e : Addr} : rem H e e = none := by unfold rem; rw [if_pos rfl]
theorem rem_none {H : Hp} {b e : Addr} (h : H b = none) : rem H e b = none := by unfold rem; split <;> first | rfl | exact h
section
variable {X : Cx}
theorem Inv.rem' {pins : List (Addr × Obj)} {σ : L2.St} {H : Hp} {s : Shared} {e : Addr} {o : HO} (I : L2.Inv X pins σ H s) (he : H e = some o) (h1 : ∀ xs, o ≠ .tup xs) (h2 : ∀ y u, o ≠ .frz y u) (h3 : ∀ ps, o ≠ .tbl ps) (h4 : ∀ y, o ≠ .own y) : L2.Inv X pins σ (rem H e) s := by
  have ne : ∀ {b : Addr} {u : HO}, H b = some u → u ≠ o → rem H e b = some u := fun {b u} q n => by
    rw [rem_ne]
    · exact q
    · rintro rfl
      rw [he] at q; cases q; exact n rfl
  refine ⟨I.ok, I.os, I.bare, ⟨I.base.keep, I.base.slot, fun b o q n hx => rem_none (I.base.free b o q n hx), I.base.there, fun b xs q => ne (I.base.tups b xs q) (Ne.symm (h1 xs)), fun b y u q => ne (I.base.frzs b y u q) (Ne.symm (h2 y u)), fun b ps q => ?_⟩,
    I.loc, I.cell, rem_none I.free, fun y c q => rem_none (I.freeC y c q), fun p hp => ?_, fun b u q => ?_, I.len⟩
  · obtain ⟨m, z⟩ := I.base.tbls b ps q
    exact ⟨m, ne z (Ne.symm (h3 _))⟩
  · obtain ⟨a, b, c, d, f⟩ := I.pin p hp
    exact ⟨a, rem_none b, c, d, f⟩
  · have hb : b ≠ e := by
      rintro rfl
      rw [rem_same] at q; cases q
    rw [rem_ne hb] at q
    exact (I.hok b u q).stay (fun _ _ _ z => z) (fun c z => ne z (Ne.symm (h4 _))) fun c xs z => ne z (Ne.symm (h1 _))
/-- what the class shows -/
structure XInit (K : Frag) (C f : Addr) : Prop where
  ex : excIn1 K C VE "ValueError.__new__" = true
  init : findIn K (.ref C) "__init__" = some (some (.ref f))
  fn : typeIn K (.ref f) = some (.type "function")
  kp : keepIn K (.ref C) = true
theorem made_run {k : Nat} {C f : Addr} {fd : FuncData} {ps : List Str} {fl : Str} {pins : List (Addr × Obj)} {σ : L2.St} {H : Hp} {s : Shared} {i : Int} {u : Value} {Q : Value → Shared → Prop} (M : XInit X.K C f) (F : FnOk X.prog X.w X.K X.mg X.base CX0 k f fd ps (spXI C fl)) (hr : Room (k + 1) X.A) (hb : Binds X.K fd ps [])
    (I : L2.Inv X pins σ H s) (r : RelV (.int i) u) (hx : XI i)
    (q : ∀ (e a t : Addr) (s1 : Shared), s.heap.get? e = none → H a = none → L2.Inv X pins σ (upd H a (.xd [(fl, .int i)])) s1 → s1.heap.get? e = some ⟨.ref C, some a, .fields #[.ref t, .none, .none, .none, .bool false, .none], #[]⟩ → upd H a (.xd [(fl, .int i)]) e = none → Q (.ref e) s1) :
    wpAny (model X.prog X.w) X.A (call (.ref C) [u]) Q X.xe s := by
  obtain ⟨bm, N, nm, qn, bs, hdct, sn, sub, ab, col, dd, k0, k1, k2, k3, k5, hC, T⟩ := exc_obj1 I.kIn M.ex
  have hl : sizeLine = 16777216 := sizeLine_eq
  have go : ∀ h' e, Heap.MadeExcOf s.heap h' e (.ref C) [u] → s.heap.objs.size ≤ e → wpAny (model X.prog X.w) (X.A.under (.builtin "type.__call__" ⟨[.ref C, u], []⟩)) (call (.ref f) [.ref e, u]) (fun r s' => r = .none ∧ Q (.ref e) s') X.xe { s with heap := h' } := by
    intro h' e hm hsz
    obtain ⟨t0, he, _, _⟩ := hm.there
    have hn : H e = none := I.hok.fresh hsz
    have I2 : L2.Inv X pins σ (upd H e (.ext (ExO C e none))) { s with heap := h' } := I.laid (t' := s.toks) hm.keeps hsz (exo_ok ⟨t0, he⟩)
    have hq : spXI C fl [.ref e, .int i] (upd H e (.ext (ExO C e none))) (fun v H' => v = .non ∧ ∃ a, upd H e (.ext (ExO C e none)) a = none ∧ a ≠ e ∧ H' = upd (upd (upd H e (.ext (ExO C e none))) a (.xd [(fl, .int i)])) e (.ext (ExO C e (some a)))) E0 :=
      ⟨e, i, rfl, hx, upd_same, fun d hd ne => ⟨rfl, d, hd, ne, rfl⟩⟩
    have r2 : Vals [V.ref e, .int i] [Value.ref e, u] := .cons rfl (.cons r .nil)
    have hlen : [Value.ref e, u].length = ps.length := by
      have e1 := r2.length
      rw [F.len _ _ _ _ hq] at e1
      exact e1.symm
    refine wpAny_call (codeAny_mono (F.run _ X.stack _ _ ⟨[Value.ref e, u], []⟩ [Value.ref e, u] _ _ E0 (hr.make C [u] []) (I2.env0.make C [u] []) (hb _ [Value.ref e, u] I2.kIn hlen) r2 hq) fun r s' hq' => ?_)
    cases r with
    | error e => exact (show False from hq').elim
    | ok fl' =>
      cases fl' with
      | ret u' =>
        obtain ⟨v, H', I3, rv, ev, a, ha, ne, rfl⟩ := I2.after hq'
        subst ev
        have ha' : H a = none := by rw [upd_ne ne] at ha; exact ha
        have I4 := XF.Inv.rem' (e := e) I3 upd_same (fun _ z => nomatch z) (fun _ _ z => nomatch z) (fun _ z => nomatch z) (fun _ z => nomatch z)
        have eq : rem (upd (upd (upd H e (.ext (ExO C e none))) a (.xd [(fl, .int i)])) e (.ext (ExO C e (some a)))) e = upd H a (.xd [(fl, .int i)]) := by
          funext b
          by_cases hb : b = e
          · rw [hb, rem_same, upd_ne (Ne.symm ne), hn]
          · rw [rem_ne hb, upd_ne hb]
            by_cases hb2 : b = a
            · rw [hb2, upd_same, upd_same]
            · rw [upd_ne hb2, upd_ne hb2, upd_ne hb]
        rw [eq] at I4
        obtain ⟨⟨t1, he1⟩, _, _⟩ := (show ObjOk X.prog X.w _ s'.heap e (.ext (ExO C e (some a))) from I3.hok e _ upd_same)
        exact ⟨rv, q e a t1 s' hm.new ha' I4 he1 (by rw [upd_ne (Ne.symm ne)]; exact hn)⟩
      | next => exact False.elim hq'
      | brk => exact False.elim hq'
      | cont => exact False.elim hq'
  obtain ⟨hp, g, d, t, os⟩ := s
  exact call_init PySem.F.excBase_ValueError T I.kIn hC M.init M.fn (by simp only [List.length_cons, List.length_nil]; omega) go
end
end XF
/-! EXCEPTIONS WITH FIELDS, five: raise C(e); e.f in a suite -/
namespace XF
open PySem PySem.Spec PySem.W PySem.Calls PyProof.Rows L2
section
variable {M : Model} {A : Around} {E : Value → Shared → Prop} {env : Env}
variable {nm q : Str} {C N : Addr} {bs bm : List Value} {hdct : Bool} {sn : List Str} {sub : List Value} {ab : Bool} {col : Option Bool} {dd : Option Addr} {k0 k1 k2 k3 k5 : Option Value} {newId : String}
theorem raise_made {s : Shared} {x : Sem Value} {Q : Flow → Shared → Prop} (hbase : bm.contains (.type "BaseException") = true) (hh : A.handled = none)
    (h : wpAny M A x (fun v s₁ => ∃ e a t, v = .ref e ∧ s₁.heap.get? C = some (excClassObj nm q C N bs bm hdct sn sub ab col dd k0 k1 k2 k3 k5 newId) ∧ s₁.heap.get? e = some ⟨.ref C, some a, .fields #[.ref t, .none, .none, .none, .bool false, .none], #[]⟩ ∧ E (.ref e) s₁) E s) :
    wpAny M A (raiseStmt env (some x) none) Q E s := by
  have hcB : (Value.ref C :: bm).contains (.type "BaseException") = true := by rw [List.contains_cons, hbase, Bool.or_true]
  unfold raiseStmt
  refine wpAny_bind (wpAny_mono h (fun v s₁ h₁ => ?_) fun _ _ x => x)
  obtain ⟨e, a, t, rfl, hC, he, hE⟩ := h₁
  obtain ⟨hp, g, d, tk, os⟩ := s₁
  repeat (first | with_reducible refine wpAny_loadPart_at he ?_ | with_reducible refine wpAny_loadPart_at hC ?_ | (with_reducible refine wpAny_isSubtype_exc hC ?_; rw [hcB]) | wp_step)
  exact wpAny_raiseNew_none hh hE
theorem raise_exec {s : Shared} {e : Expr} {pos : Pos} {Q : Flow → Shared → Prop} (hbase : bm.contains (.type "BaseException") = true) (hh : A.handled = none)
    (h : wpAny M A (eval e env) (fun v s₁ => ∃ e a t, v = .ref e ∧ s₁.heap.get? C = some (excClassObj nm q C N bs bm hdct sn sub ab col dd k0 k1 k2 k3 k5 newId) ∧ s₁.heap.get? e = some ⟨.ref C, some a, .fields #[.ref t, .none, .none, .none, .bool false, .none], #[]⟩ ∧ E (.ref e) s₁) E s) :
    wpAny M A (exec (.Raise (some e) none pos) env) Q E s := by
  rw [arm_exec_Raise]
  simp only [evalOpt, Option.map]
  refine wpAny_bind (wpAny_standAt (raise_made (C := C) (nm := nm) (q := q) (N := N) (bs := bs) (bm := bm) (hdct := hdct) (sn := sn) (sub := sub) (ab := ab) (col := col) (dd := dd) (k0 := k0) (k1 := k1) (k2 := k2) (k3 := k3) (k5 := k5) (newId := newId) hbase hh
    (wpAny_bind (wpAny_mono h (fun v s₃ h₃ => wpAny_bind (wpAny_standAt (wpAny_pure h₃))) fun _ _ x => x))))
end
/-- a raise in a def's body -/
def RaisesF (X : Cx) (C : Addr) (Eh : Option Addr → Hp → Prop) : Prop := ∀ (pins : List (Addr × Obj)) (σ : L2.St) (H H1 : Hp) (s s1 : Shared) (e t : Addr) (oe : Obj) (vs : Array Value), L2.Inv X pins σ H s → s.heap.get? e = none → L2.Inv X pins σ H1 s1 →
  s1.heap.get? e = some oe → oe.cls = .ref C → oe.data = .fields vs → vs[0]? = some (.ref t) → vs[1]? = some .none → H1 e = none → Eh oe.dict H1 → X.xe (.ref e) s1
theorem raisesF_def {P : Program} {w : World} {K : PySem.W.Frag} {mg : Str → Option Value} {base : Heap} {N : List Str} {qual : Str} {scope : Scope} {f : Addr} {cdv : Value} {A : Around} {outer : List Env} {s0 : Shared} {H0 : Hp} {E : XK} {C : Addr} :
    RaisesF (cxOf (CXE P w) P w K mg base N qual scope f cdv A outer s0 H0 E) C (fun d H => E (.ref C) d H) :=
  fun _ _ _ _ _ _ _ _ _ _ I new I1 he hc hd h0 h1 hn hE => raises_core I new I1 he hc hd h0 h1 hn hE
section
variable {X : Cx}
theorem ps_raiseF {k : Nat} {x fl : Str} {C f : Addr} {fd : FuncData} {ps : List Str} {Eh : Option Addr → Hp → Prop} {np cpos pos : Pos} {e : Expr} {ta : TA} (hR : RaisesF X C Eh) (M : XInit X.K C f) (F : FnOk X.prog X.w X.K X.mg X.base CX0 k f fd ps (spXI C fl)) (hr : Room (k + 1) X.A) (hb : L2.Binds X.K fd ps [])
    (hc : X.calm = true) (hg : Gl X x) (hm : X.mg x = some (.ref C)) (ha : PA X [e] ta) (hdb : (x == ("__debug__" : Str)) = false := by decide)
    (he : starEach [e] X.env = (false, eval e X.env) :: starEach [] X.env := by rfl) :
    PS X (.Raise (some (.Call (.Name x np) [e] [] cpos)) none pos) (fun _ σ H => ta σ H fun vs H1 => ∃ i, vs = [.int i] ∧ XI i ∧ ∀ a, H1 a = none → Eh (some a) (upd H1 a (.xd [(fl, .int i)]))) := by
  intro pins s σ H D I h
  obtain ⟨bm, N, nm, qn, bs, hdct, sn, sub, ab, col, dd, k0, k1, k2, k3, k5, hC, T⟩ := exc_obj1 I.ok.mod.kin M.ex
  refine raise_exec (C := C) (nm := nm) (q := qn) (N := N) (bs := bs) (bm := bm) (hdct := hdct) (sn := sn) (sub := sub) (ab := ab) (col := col) (dd := dd) (k0 := k0) (k1 := k1) (k2 := k2) (k3 := k3) (k5 := k5) (newId := "ValueError.__new__") (T.hasType PySem.F.excBase_ValueError.hasBase) (I.ok.hd hc) ?_
  refine wpAny_Call_Name_kw (ld_glob I hg hm ?_ hdb)
  refine PySem.W.callWith_K (h₀ := X.base) I.ok.mod.kin M.kp (thn (ha cpos pins s σ H _ I h) fun us s1 ⟨vs, H1, I1, r, i, ev, hx, q⟩ => ⟨I1.kIn, ?_⟩) he rfl
  · subst ev
    obtain ⟨u, rfl, ru⟩ := vals1 r
    refine made_run M F hr hb I1 ru hx fun e a t s2 new ha I2 hge hn => ⟨e, a, t, rfl, I2.bk _ _ hC, hge, ?_⟩
    exact hR pins σ H1 _ s1 s2 e t _ _ I1 new I2 hge rfl rfl rfl rfl hn (q a ha)

/-- e.f where e is held -/
theorem pe_xat {ea a C : Addr} {oe od : Obj} {fl : Str} {v : V} {u : Value} {o : Expr} {ta : TE} {pos : Pos} (c : XCls X.K C) (n : findIn X.K (.ref C) fl = some none) (h1 : (ea, oe) ∈ X.pn) (hcl : oe.cls = .ref C) (hnc : notCls oe = true) (hdi : oe.dict = some a) (h2 : (a, od) ∈ X.pn) (hl : lookIn fl od = some (some u)) (hr : L2.RelV v u)
    (he : PE X o ta) (hb : attributeBase o fl X.env (eval o X.env) = eval o X.env := by rfl) : PE X (.Attribute o fl pos) (fun σ H Q => ta σ H fun x H1 => x = .ref ea ∧ Q v H1) := by
  intro pins s σ H Q I h
  refine attr_of hb (thn (he pins s σ H _ I h) fun u' s1 ⟨x, H1, I1, rx, ex, q⟩ => ?_)
  subst ex
  obtain rfl : u' = Value.ref ea := rx
  have p1 := (I1.pin (ea, oe) (List.mem_append_left _ h1)).1
  have p2 := (I1.pin (a, od) (List.mem_append_left _ h2)).1
  have J : InstAt s1.heap ea oe C (some od) := ⟨p1, hcl, hnc, by rw [hdi]; exact p2⟩
  obtain ⟨hp, g, d, t, os⟩ := s1
  exact get_field c I1.kIn J (findObj_own c.hd n rfl hl) (handed_of hr) ⟨v, H1, I1.tok _, hr, q⟩
theorem Inv.held2 {pins : List (Addr × Obj)} {σ : L2.St} {H : Hp} {s : Shared} {e a : Addr} {oe od : Obj} (I : L2.Inv X pins σ H s) (ha : s.heap.get? a = some od ∧ H a = none ∧ a ≠ X.env.locals ∧ a ∉ X.fs ∧ ∀ v, od.data ≠ .cell v)
    (he : s.heap.get? e = some oe ∧ H e = none ∧ e ≠ X.env.locals ∧ e ∉ X.fs ∧ ∀ v, oe.data ≠ .cell v) : L2.Inv (X.held (X.pn ++ pins ++ [(a, od), (e, oe)]) e) [] σ H s :=
  ⟨⟨I.ok.mod, I.ok.kind, I.ok.glob, I.ok.blt, I.ok.above, I.ok.inj, I.ok.has, I.ok.cab, (fun z => nomatch z), I.ok.frames, I.ok.stk, I.ok.exf, I.ok.bs, I.ok.bsz, I.ok.noex, I.ok.exfs, I.ok.funs, I.ok.frf⟩,
    I.os, I.bare, I.base, I.loc, I.cell, I.free, I.freeC, fun p hp => by
      have hp : p ∈ (X.pn ++ pins ++ [(a, od), (e, oe)]) ++ [] := hp
      rw [List.append_nil] at hp
      rcases List.mem_append.mp hp with hp | hp
      · exact I.pin p hp
      · rcases List.mem_cons.mp hp with rfl | hp
        · exact ha
        · rw [List.mem_singleton.mp hp]; exact he, I.hok, I.len⟩
theorem Inv.unheld2 {pins pins' : List (Addr × Obj)} {σ : L2.St} {H : Hp} {s : Shared} {e : Addr} {more : List (Addr × Obj)} (hd : X.calm = true → X.A.handled = none) (I : L2.Inv (X.held (X.pn ++ pins ++ more) e) pins' σ H s) : L2.Inv X pins σ H s :=
  ⟨⟨I.ok.mod, I.ok.kind, I.ok.glob, I.ok.blt, I.ok.above, I.ok.inj, I.ok.has, I.ok.cab, hd, I.ok.frames, I.ok.stk, I.ok.exf, I.ok.bs, I.ok.bsz, I.ok.noex, I.ok.exfs, I.ok.funs, I.ok.frf⟩,
    I.os, I.bare, I.base, I.loc, I.cell, I.free, I.freeC, fun p hp => I.pin p (List.mem_append_left _ (List.mem_append_left _ hp)), I.hok, I.len⟩
theorem fs_stack {b : Addr} (hfr : X.env.frame = some X.env.locals) (h : b ∈ X.fs) : b ∈ frs (X.env :: X.outer) := by
  show b ∈ List.filterMap _ _
  rw [List.filterMap_cons, hfr]
  exact List.mem_cons_of_mem _ h
/-- try: .. except C as n: .. ; C has the one field fl, a whole number -/
def tTryF (X : Cx) (C : Addr) (i : Nat) (fl : Str) (body suite : List Stmt) : TS := fun D σ H => ∃ Ex : XK,
  (∀ pn xe, Passes (CXE X.prog X.w) (X.tri pn xe) Ex → tCan (X.tri pn xe) body D σ H) ∧
  ∀ c d H', Ex c d H' → c = .ref C ∧ ∃ a H1 j, d = some a ∧ H1 a = none ∧ H' = upd H1 a (.xd [(fl, .int j)]) ∧
    ∀ pn ea oe od tk, (ea, oe) ∈ pn → oe.cls = .ref C → notCls oe = true → oe.dict = some a → (a, od) ∈ pn → lookIn fl od = some (some (.int j tk)) → tCan (X.held pn ea) suite (D.gone i) ((List.replicate X.N.length none).set i (some (.ref ea))) H1
theorem ps_try_xf {x n fl : Str} {C : Addr} {i : Nat} {body suite : List Stmt} {b₀ : Stmt} {np hp pos : Pos} (hK : excIn1 X.K C VE "ValueError.__new__" = true)
    (hst : X.stack = X.env :: X.outer) (hfr : X.env.frame = some X.env.locals) (hg : Gl X x) (hm : X.mg x = some (.ref C)) (hN : X.N.Nodup) (hi : X.N[i]? = some n) (hl : X.env.scope.names.lookup n = some .local) (hd : (x == ("__debug__" : Str)) = false := by decide) :
    PS X (.Try body [.ExceptHandler (some (.Name x np)) (some n) (b₀ :: suite) hp] [] [] pos) (tTryF X C i fl body (b₀ :: suite)) := by
  intro pins s σ H D I ⟨Ex, hb, hs⟩
  have hcls : (X.env.scope.kind == .class || (X.env.scope.kind == .module && X.env.locals != X.env.globals)) = false := by rw [I.ok.kind]; rfl
  refine wpAny_Try_except ?_
  have hps : Passes (CXE X.prog X.w) (X.tri (X.pn ++ pins) fun e s' => ∃ σ1 H1 s1, L2.Inv X pins σ1 H1 s1 ∧ CXE X.prog X.w X.stack H1 s1 Ex e s') Ex := fun pins' σ1 H1 s1 e s' I1 h1 => ⟨σ1, H1, s1, I1.untri, h1⟩
  have hw := pss_can [] s σ H D (I.tri _) (hb _ _ hps)
  refine wpAny_mono hw (fun f s1 h1 => ?_) (fun e s1 h1 => ?_)
  · cases f with
    | next =>
      obtain ⟨σ', H', I', q⟩ := h1
      exact wpAny_execs_nil (show SP X pins D .next s1 from ⟨σ', H', I'.untri, q⟩)
    | brk => obtain ⟨σ', H', I', q⟩ := h1; exact ⟨σ', H', I'.untri, q⟩
    | cont => obtain ⟨σ', H', I', q⟩ := h1; exact ⟨σ', H', I'.untri, q⟩
    | ret u => obtain ⟨v, σ', H', I', r, q⟩ := h1; exact ⟨v, σ', H', I'.untri, r, q⟩
  · obtain ⟨σ1, H1, s0, I0, ea, C', t, dx, H', B0, rfl, F⟩ := h1
    obtain ⟨hc, a, Hq, j, hda, hqn, hH, hsuite⟩ := hs _ _ _ F.wish
    cases hc
    subst hda hH
    obtain ⟨flv, hFl⟩ := F.fl
    rw [hst] at hFl
    refine XF.looks_on (I.ok.frames.trans (by rw [hst])) hfr hFl F.dict fun h4 hheld4 dd4 hsm4 => ?_
    refine XF.lands (s := { s1 with heap := h4 }) hheld4 dd4 fun h5 hheld5 dd5 hsm5 => ?_
    have key : ∀ {h6 : Heap}, FlyF B0 (X.env :: X.outer) ea (.ref C) (.ref t) .none h6 → DictIs h6 ea (some a) → s1.heap.UpToSlots h6 → ∃ oe od tk, oe.cls = .ref C ∧ notCls oe = true ∧ oe.dict = some a ∧ h6.get? ea = some oe ∧ lookIn fl od = some (some (.int j tk)) ∧ L2.Inv (X.held (X.pn ++ pins ++ [(a, od), (ea, oe)]) ea) [] σ1 Hq { s1 with heap := h6 } := by
      intro h6 hfl6 dd6 hsm6
      have I6 := fly_on I0 F hfl6.1 hsm6
      obtain ⟨oe, vs, hoe, hoec, hoed, _⟩ := hfl6.first
      obtain ⟨mA, hns, hrel⟩ := (show ObjOk X.prog X.w _ h6 a (.xd [(fl, .int j)]) from I6.hok a _ upd_same)
      obtain ⟨od, hod, hlk⟩ := lookIn_ns hns
      have hfl : mA fl = some (.int j ((fun v => match v with | .int _ tk => tk | _ => 0) ((mA fl).getD .none))) := by
        have z := hrel fl
        rw [show List.lookup fl [(fl, V.int j)] = some (V.int j) from by simp [List.lookup]] at z
        cases e : mA fl with
        | none => rw [e] at z; exact z.elim
        | some u => rw [e] at z; obtain ⟨tk, rfl⟩ := (show ∃ tk, u = Value.int j tk from z); rfl
      have hea : upd Hq a (.xd [(fl, .int j)]) ea = none := by
        cases e : upd Hq a (.xd [(fl, .int j)]) ea with
        | none => rfl
        | some o =>
          obtain ⟨ob, q⟩ := F.trk _ _ e
          rw [hfl6.2.1] at q; cases q
      have hne : ea ≠ a := by
        rintro rfl
        rw [upd_same] at hea; cases hea
      have J := XF.Inv.rem' (e := a) I6 upd_same (fun _ z => nomatch z) (fun _ _ z => nomatch z) (fun _ z => nomatch z) (fun _ z => nomatch z)
      rw [show rem (upd Hq a (.xd [(fl, .int j)])) a = Hq from by
        funext b
        by_cases hb : b = a
        · rw [hb, rem_same, hqn]
        · rw [rem_ne hb, upd_ne hb]] at J
      have odd : ∃ es ep, od.data = .dict es ep := by
        obtain ⟨o', es, ep, ho', hd', _⟩ := hns
        rw [hod] at ho'; cases ho'
        exact ⟨es, ep, hd'⟩
      refine ⟨oe, od, _, hoec, by unfold notCls; rw [hoed], ?_, hoe, by rw [hlk, hfl], Inv.held2 J ⟨hod, hqn, ?_, ?_, fun v z => ?_⟩ ⟨hoe, by rw [upd_ne hne] at hea; exact hea, ?_, ?_, fun v z => by rw [hoed] at z; cases z⟩⟩
      · obtain ⟨o2, q2, q3⟩ := dd6
        rw [hoe] at q2; cases q2; exact q3
      · exact ne_of_none (H := upd Hq a (.xd [(fl, .int j)])) upd_same I6.free
      · intro hb'
        have z := I6.stkFree a (by rw [hst]; exact fs_stack hfr hb')
        rw [upd_same] at z; cases z
      · obtain ⟨es, ep, q⟩ := odd
        rw [q] at z; cases z
      · rintro rfl
        obtain ⟨m, ⟨o', es, ep, ho', hd', _⟩, _⟩ := I6.loc
        have ho' : h6.get? X.env.locals = some o' := ho'
        rw [hoe] at ho'; cases ho'; rw [hoed] at hd'; cases hd'
      · intro hb'
        obtain ⟨_, o', ho', hd'⟩ := I6.funs.mem hb'
        have ho' : h6.get? ea = some o' := ho'
        rw [hoe] at ho'; cases ho'
        exact hd' _ hoed
    obtain ⟨ob, _, _, hobc, _, _, hob, _, I5⟩ := key hheld5 dd5 (hsm4.trans hsm5)
    obtain ⟨tl, N, nm, q, bs, hdct, sn, sub, ab, col, dd, k0, k1, k2, k3, k5, hC, T⟩ := exc_obj1 I.ok.mod.kin hK
    refine wpAny_handleBy_cons (codeAny_handlers_test (ld_glob I5 hg hm ?_ hd)) (by intro q; cases q)
    refine wpAny_excMatches_sub_self (I5.bk _ _ hC) hob hobc (T.hasType PySem.F.excBase_ValueError.hasBase) (codeAny_handlers_suite_as ?_)
    refine XF.lands (s := { s1 with heap := h5 }) hheld5 dd5 fun h6 hfl6 dd6 hsm6 => ?_
    obtain ⟨oe, od, tk, hoec, hnc, hdi, hoe, hlk, I6⟩ := key hfl6 dd6 ((hsm4.trans hsm5).trans hsm6)
    have I7 := I6.weak (σ' := List.replicate X.N.length none) (by rw [List.length_replicate]; exact I6.len.symm) (fun j v z => by
      rw [List.getElem?_replicate] at z
      split at z <;> cases z)
    refine store_ok (X := X.held (X.pn ++ pins ++ [(a, od), (ea, oe)]) ea) I7 hN hi (.inl hl) (v := .ref ea) rfl (fun s9 I9 => ?_) (.inr hl)
    refine wpAny_mono (pss_can [] s9 _ Hq (D.gone i) I9 (hsuite _ ea oe od tk (by simp) hoec hnc hdi (by simp) hlk)) (fun f s10 z => ?_) (fun _ _ z => z.elim)
    have gone : ∀ {σ' : L2.St} {H2 : Hp} {Q : Unit → Shared → Prop}, L2.Inv (X.held (X.pn ++ pins ++ [(a, od), (ea, oe)]) ea) [] σ' H2 s10 → (∀ s11, L2.Inv X pins (σ'.set i none) H2 s11 → Q () s11) → wpAny (model X.prog X.w) X.A (do bindName X.env n .none; unbindBehindTheSuite X.env n hp) Q X.xe s10 := by
      intro σ' H2 Q J k
      obtain ⟨m, hn, hlk⟩ := J.loc
      refine wpAny_nameGoes_keeps hl hn hcls fun h' v hn' hs' => k _ ?_
      refine (((Inv.unheld2 I.ok.hd J).names (σ' := σ'.set i none) hs' (by simp) ⟨_, hn', fun j y w e1 e2 e3 => ?_⟩).tok _)
      by_cases hj : i = j
      · subst hj
        rw [List.getElem?_set] at e2
        simp at e2
      · rw [List.getElem?_set_ne hj] at e2
        obtain ⟨u, r, lk⟩ := hlk j y w e1 e2 e3
        refine ⟨u, r, ?_⟩
        rcases lk with ⟨a, b⟩ | ⟨a, c, e, z'⟩
        · refine .inl ⟨a, ?_⟩
          have : y ≠ n := fun e => hj (nodup_ix hN (e ▸ e1) hi).symm
          simp [this, b]
        · exact .inr ⟨a, c, e, z'.sameBut hs' (J.cne y c e)⟩
    cases f with
    | next => obtain ⟨σ', H2, J, q⟩ := z; exact gone J fun s11 J' => ⟨_, H2, J', q⟩
    | brk => obtain ⟨σ', H2, J, q⟩ := z; exact gone J fun s11 J' => ⟨_, H2, J', q⟩
    | cont => obtain ⟨σ', H2, J, q⟩ := z; exact gone J fun s11 J' => ⟨_, H2, J', q⟩
    | ret u => obtain ⟨v, σ', H2, J, r, q⟩ := z; exact gone J fun s11 J' => ⟨v, _, H2, J', r, q⟩
end
end XF
/-! AN EXCEPTION THROUGH A COMPREHENSION -/
namespace XF
open PySem PySem.Spec PySem.W PySem.Calls PyProof.Rows L2
theorem noteFrame_env {x : Value} {e1 e2 : Env} (h : e1.frame = e2.frame) : noteFrame x e1 = noteFrame x e2 := by
  unfold noteFrame PySem.frameOf
  rw [h]
theorem funs_but {C : Addr} {B h h' : Heap} : ∀ {l : List Env}, h.FunFrames B l → C ∉ frs l → (∀ b, b ≠ C → h'.get? b = h.get? b) → h'.FunFrames (hideAll B [C]) l
  | [], _, _, _ => trivial
  | env :: l, ⟨k, ⟨L, o, e1, e2, e3, e4⟩, r⟩, n, s => by
    have hl : L ≠ C := fun z => n (by
      show C ∈ List.filterMap _ _
      rw [List.filterMap_cons, e1]
      exact z ▸ List.mem_cons_self)
    refine ⟨k, ⟨L, o, e1, ?_, (s L hl).trans e3, e4⟩, funs_but r (fun z => n ?_) s⟩
    · cases q : (hideAll B [C]).get? L with
      | none => rfl
      | some o' => have := of_hideAll _ q; rw [e2] at this; cases this
    · show C ∈ List.filterMap _ _
      rw [List.filterMap_cons, e1]
      exact List.mem_cons_of_mem _ z
section
variable {X : Cx}
theorem comp_pass {cl : List (Str × Addr)} {fr : List (Nat × Str)} {scope : Scope} {tn : List Str} {C : Addr} {s3 s5 s' : Shared} {H3 H5 : Hp} {fp : List Addr} {pins pins5 : List (Addr × Obj)} {σ σ5 : L2.St} {Ex : XK} {e acc : Value} {Q : Value → Shared → Prop}
    (hst : X.stack = X.env :: X.outer) (hfr : X.env.frame = some X.env.locals) (hx : Passes (CXE X.prog X.w) X Ex) (I3 : L2.Inv X pins σ H3 s3) (hf : ∀ b ∈ fp, FpOk X pins H3 b) (hC : s3.heap.objs.size ≤ C)
    (I5 : L2.Inv (compCxG X scope cl fr tn C s3 H3 fp) pins5 σ5 H5 s5) (h : CXE X.prog X.w X.stack H5 s5 Ex e s') :
    notedBy (model X.prog X.w) X.A (compEnvC scope cl C X.env) (fun x s'' => compPost (model X.prog X.w) X.A X.xe none Q acc C (.error x) s'') e s' := by
  obtain ⟨ea, D, t, d, H', B, rfl, F⟩ := h
  obtain ⟨flv, hFl⟩ := F.fl
  rw [hst] at hFl
  have nC : C ∉ frs X.stack := fun z => by
    obtain ⟨_, o, ho, _⟩ := I3.stack.mem z
    exact absurd (Heap.lt_size ho) (Nat.not_lt.mpr hC)
  obtain ⟨m, hns, _⟩ := I5.loc
  have hns : s5.heap.Ns C m := hns
  have hC5 : H5 C = none := I5.free
  have hns' : s'.heap.Ns C m := by
    obtain ⟨o, es, ep, ho, r⟩ := hns
    exact ⟨o, es, ep, F.un.keep C o ho hC5 nC (fun z => nomatch z), r⟩
  have hCH : H' C = none := by
    obtain ⟨o, es, ep, ho, r⟩ := hns
    exact F.un.free C o ho hC5 (fun z => nomatch z)
  unfold notedBy
  rw [noteFrame_env (e1 := compEnvC scope cl C X.env) (e2 := X.env) rfl]
  refine looks_on (I3.ok.frames.trans (by rw [hst])) hfr hFl F.dict fun h1 F1 dd1 up1 => ?_
  have hns1 : h1.Ns C m := up1.ns hns'
  refine ⟨m, hns1, fun h2 sb cenv hcl => ?_⟩
  have same : ∀ b, b ≠ C → h2.get? b = h1.get? b := sb.2
  have nrec : ∀ {b : Addr} {o : Obj} {vs : Array Value}, h1.get? b = some o → o.data = .fields vs → b ≠ C := fun {b o vs} q z w => by
    subst w
    obtain ⟨o', es, ep, ho, hd, _⟩ := hns1
    rw [q] at ho; cases ho; rw [z] at hd; cases hd
  have hid : ∀ {b : Addr}, B.get? b = none → (hideAll B [C]).get? b = none := fun {b} z => by
    cases q : (hideAll B [C]).get? b with
    | none => rfl
    | some o' => have := of_hideAll _ q; rw [z] at this; cases this
  have inB : ∀ {b : Addr} {o : Obj}, B.get? b = some o → b ≠ C → (hideAll B [C]).get? b = some o := fun {b o} q n => hideAll_get _ q fun z => n (List.mem_singleton.mp z)
  have bC : ∀ {b : Addr} {o : Obj}, (hideAll B [C]).get? b = some o → b ≠ C := fun {b o} q z => by
    rw [z, hideAll_none _ List.mem_cons_self] at q; cases q
  obtain ⟨f1, f2, f3, oe, vs, T, oT, ts, g1, g2, g3, g4, g5, g6, g7, g8, g9⟩ := F1
  have F2 : FlyF (hideAll B [C]) (X.env :: X.outer) ea (.ref D) (.ref t) (rawInt X.env.locals) h2 :=
    ⟨fun b o q => (same b (bC q)).trans (f1 b o (of_hideAll _ q)), hid f2, funs_but f3 (by rw [← hst]; exact nC) same, oe, vs, T, oT, ts, (same _ (nrec g1 g3)).trans g1, g2, g3, g4, hid g5, g6, (same _ (nrec g7 g8)).trans g7, g8, g9⟩
  have dd2 : DictIs h2 ea d := by
    obtain ⟨o2, q2, q3⟩ := dd1
    rw [g1] at q2; cases q2
    exact ⟨oe, (same _ (nrec g1 g3)).trans g1, q3⟩
  unfold PySem.passOn
  refine wpAny_bind (wpAny_field ((same _ (nrec g1 g3)).trans g1) g3 g4 ?_)
  rw [if_neg (show ¬ ((Value.ref T == Value.none) = true) from by simp)]
  refine wpAny_bind (flight (s := { s' with heap := h2 }) (fr := cenv.frame) F2 dd2 fun h3 F3 dd3 up3 => wpAny_throw ?_)
  have I9 : L2.Inv X pins σ H5 { s5 with heap := hideAll s5.heap [C] } := compG_out I3 hf hC I5 ⟨hideAll_size _ _, fun b n => by
    cases q : s5.heap.get? b with
    | none => cases q' : (hideAll s5.heap [C]).get? b with
      | none => rfl
      | some o => have := of_hideAll _ q'; rw [q] at this; cases this
    | some o => exact hideAll_get _ q fun z => n (List.mem_singleton.mp z)⟩
  have k1 : B.StaysIn s'.heap := hFl.1
  have mv : ∀ {b : Addr} {u : Obj}, (∃ ob, B.get? b = some ob) → b ≠ C → s'.heap.get? b = some u → h3.get? b = some u := fun {b u} hb n q => by
    obtain ⟨ob, z⟩ := hb
    have := k1 b ob z
    rw [q] at this; cases this
    exact F3.1 b _ (inB z n)
  have frv : ∀ {b : Addr}, b ∈ frs X.stack → ∀ {o : Obj}, s'.heap.get? b = some o → ∃ sl, h3.get? b = some { o with slots := sl } := fun {b} hb {o} q => by
    have hn : b ≠ C := fun z => nC (z ▸ hb)
    obtain ⟨_, o', ho', hd⟩ := hFl.2.2.1.mem (by rw [← hst]; exact hb)
    rw [q] at ho'; cases ho'
    obtain ⟨sl, q1⟩ := up1 b _ q hd
    obtain ⟨sl', q2⟩ := up3 b _ ((same b hn).trans q1) hd
    exact ⟨sl', q2⟩
  refine hx pins σ H5 _ (.ref ea) _ I9 ⟨ea, D, t, d, H', hideAll B [C], rfl, ⟨_, by rw [hst]; exact F3⟩, dd3, F.os, F.bare, ⟨fun b o q n h1 h2 => ?_, fun b o q n h1 h2 => ?_, fun b o q n h2 => F.un.free b o (of_hideAll _ q) n h2, fun b o q h2 => ?_, F.un.tups, F.un.frzs, F.un.tbls⟩, fun b o q => (F.hok b o q).stay (fun c u hc z => mv ?_ ?_ z) (fun _ z => z) fun _ _ z => z, fun b o q n => ?_, fun b o q => ?_, F.wish⟩
  · have hq := of_hideAll _ q
    exact mv (F.old b o hq h1) (fun z => by rw [z, hideAll_none _ List.mem_cons_self] at q; cases q) (F.un.keep b o hq n h1 h2)
  · obtain ⟨sl, z⟩ := F.un.slot b o (of_hideAll _ q) n h1 h2
    obtain ⟨sl', z'⟩ := frv h1 z
    exact ⟨sl', z'⟩
  · have hn : b ≠ C := fun z => by rw [z, hideAll_none _ List.mem_cons_self] at q; cases q
    by_cases h1 : b ∈ frs X.stack
    · obtain ⟨o', z⟩ := F.un.there b o (of_hideAll _ q) h2
      obtain ⟨sl, z'⟩ := frv h1 z
      exact ⟨_, z'⟩
    · obtain ⟨ob, z⟩ := F.old b o (of_hideAll _ q) h1
      exact ⟨ob, F3.1 b ob (inB z hn)⟩
  · rcases hc with rfl | hc
    · exact F.trk _ _ q
    · exact F.trk _ _ hc
  · rcases hc with rfl | hc
    · exact ne_of_none q hCH
    · exact ne_of_none hc hCH
  · obtain ⟨ob, z⟩ := F.old b o (of_hideAll _ q) n
    exact ⟨ob, inB z fun w => by rw [w, hideAll_none _ List.mem_cons_self] at q; cases q⟩
  · obtain ⟨ob, z⟩ := F.trk b o q
    exact ⟨ob, inB z (ne_of_none q hCH)⟩
end
end XF
/-! COMPREHENSIONS whose element may raise -/
namespace XF
open PySem PySem.Spec PySem.W PySem.Calls PyProof.Rows L2
section
variable {X : Cx}
theorem pe_compX {cl : List (Str × Addr)} {fr : List (Nat × Str)} {tn : List Str} {elt iter tg : Expr} {ifs : List Expr} {scope : Scope} {pos : Pos} {wi : TI} {g : TG} {tc : TT} {te : TE} {Ex : XK} (hc : X.calm = true) (hst : X.stack = X.env :: X.outer) (hfrm : X.env.frame = some X.env.locals) (hx : Passes (CXE X.prog X.w) X Ex)
    (hkind : scope.kind = .function) (hcell : ∀ y ∈ scope.names, y.2 ≠ .cell) (hclos : closureFor scope X.env = pure cl) (hsub : ∀ y c, cl.lookup y = some c → X.env.cells.lookup y = some c)
    (hhas : ∀ y ∈ (relabel scope X.env).names, (y.2 = .cell ∨ y.2 = .free) → ∃ c, cl.lookup y.1 = some c) (hfr : ∀ p ∈ fr, X.N[p.1]? = some p.2 ∧ X.env.kindOf p.2 = some .cell ∧ (compEnvC scope cl 0 X.env).kindOf p.2 = some .cell ∧ ∃ c, cl.lookup p.2 = some c) (hnames : ∀ y ∈ scope.names, y.2 = .local → scope.names.lookup y.1 = some .local)
    (hi : PI X tg iter wi) (hg : ∀ C s3 H3 fp, PG (compCxG X scope cl fr tn C s3 H3 fp) tg g) (hcs : ∀ C s3 H3 fp, PTs (compCxG X scope cl fr tn C s3 H3 fp) ifs tc) (he : ∀ C s3 H3 fp xe, Passes (CXE X.prog X.w) ((compCxG X scope cl fr tn C s3 H3 fp).wish xe) Ex → PE ((compCxG X scope cl fr tn C s3 H3 fp).wish xe) elt te) (hs : ∀ x, foldedSetIterable iter X.env x = pure x := by intro _; rfl) :
    PE X (.ListComp elt [⟨tg, iter, ifs, 0⟩] scope pos) (tCompG tn.length fr wi g tc te) := by
  intro pins s σ H Q I h
  rw [eval_ListComp]
  refine wpAny_comprehension_free (use := none) rfl hs hclos hkind hnames (thn (hi pins s σ H _ I h) fun v s1 h1 => thn h1 fun itv s2 h2 => ?_)
  obtain ⟨it, fp, tk, J, H2, e, I2, T, st2, f2, R⟩ := h2
  subst e
  have fl : H2 s2.heap.objs.size = none := I2.hok.fresh (Nat.le_refl _)
  obtain ⟨W, ⟨m0, w0⟩, turn⟩ := R s2.heap.objs.size fl
  refine wpAny_newObj_type (wpAny_newFunctionEnv hcell (by intro y hy; simp at hy) (fun h4 hns hsb => ?_) hkind)
  -- the list is laid and tracked
  have I3 : L2.Inv X pins σ (upd H2 s2.heap.objs.size (.lst [])) { s2 with heap := s2.heap.push { cls := .type "list", data := .seq ([] : List Value).toArray } } :=
    I2.laid (t' := s2.toks) (fun b o e => Heap.get?_push_of_some _ e) (Nat.le_refl _) ⟨Nat.zero_le _, [], 0, .nil, Heap.get?_push_size _ rfl⟩
  have ob : ∀ b ∈ fp, ∃ o, s2.heap.get? b = some o := fun b hb => let ⟨o, ho, _⟩ := T.obj 0 _ st2 b hb; ⟨o, ho⟩
  have f3 : ∀ b ∈ fp, FpOk X pins (upd H2 s2.heap.objs.size (.lst [])) b := fun b hb => by
    obtain ⟨g0, g1, g2, g3, g4, g5⟩ := f2 b hb
    obtain ⟨o, ho⟩ := ob b hb
    exact ⟨by rw [upd_ne (Nat.ne_of_lt (Heap.lt_size ho))]; exact g0, g1, g2, g3, g4, g5⟩
  generalize hs3 : ({ s2 with heap := s2.heap.push { cls := .type "list", data := .seq ([] : List Value).toArray } } : Shared) = s3 at I3
  have heap3 : s2.heap.push { cls := .type "list", data := .seq ([] : List Value).toArray } = s3.heap := by rw [← hs3]
  have old3 : ∀ b o, s2.heap.get? b = some o → s3.heap.get? b = some o := fun b o e => by rw [← heap3]; exact Heap.get?_push_of_some _ e
  have ok3 : (compCxG X scope cl fr tn s3.heap.objs.size s3 (upd H2 s2.heap.objs.size (.lst [])) fp).Ok := by
    refine compG_ok I3 hkind hsub hhas (Nat.le_refl _) (fun b hb => ⟨f3 b hb, let ⟨o, ho⟩ := ob b hb; ⟨o, old3 b o ho⟩⟩) (fun b hb z => ?_) fun b hb => ?_
    · obtain ⟨_, g1, g2, _⟩ := f2 b hb
      rcases List.mem_cons.mp (I2.stkSub b z) with q | q
      · exact g1 q
      · exact g2 q
    · obtain ⟨_, _, _, g3, _⟩ := f2 b hb
      rcases g3 with q | q
      · cases e : X.base.get? b with
        | none => rfl
        | some o => exact absurd q (I.ok.noex b o e)
      · exact Heap.get?_none_of_le (Nat.le_trans I.ok.bsz q)
  have hns3 : h4.Ns s3.heap.objs.size (fun y => ([] : List (Str × Value)).reverse.lookup y) := by rw [← heap3]; exact hns
  have keep4 : ∀ b o, s3.heap.get? b = some o → h4.get? b = some o := fun b o e => by
    have e1 : (s2.heap.push { cls := .type "list", data := .seq ([] : List Value).toArray }).get? b = some o := by rw [heap3]; exact e
    exact (hsb.2 b (Nat.ne_of_lt (Heap.lt_size e1))).trans (Heap.get?_push_of_some _ e1)
  have I4 : L2.Inv (compCxG X scope cl fr tn s3.heap.objs.size s3 (upd H2 s2.heap.objs.size (.lst [])) fp) [] (compSt tn.length fr σ) (upd H2 s2.heap.objs.size (.lst [])) { s3 with heap := h4 } := by
    refine ⟨ok3, rfl, I3.bare, Un.kept keep4, ⟨_, hns3, fun i y v e1 e2 e3 => ?_⟩, (fun y c h => let ⟨v, oc, ho, hd⟩ := I3.cell y c (hsub y c h); ⟨v, oc, keep4 _ _ ho, hd⟩), I3.hok.fresh (Nat.le_refl _), (fun y c h => I3.freeC y c (hsub y c h)), (fun p hp => nomatch hp), I3.hok.kept keep4, by simp [compCxG, compSt]⟩
    have e1 : (tn ++ fr.map (·.2))[i]? = some y := e1
    have e2 : (List.replicate tn.length none ++ fr.map fun p => (σ[p.1]?).join)[i]? = some (some v) := e2
    by_cases hlt : i < tn.length
    · rw [List.getElem?_append_left (by simpa using hlt), List.getElem?_replicate] at e2
      split at e2 <;> cases e2
    · rw [List.getElem?_append_right (by omega)] at e1
      rw [List.getElem?_append_right (by simpa using hlt), List.length_replicate] at e2
      rw [List.getElem?_map] at e1 e2
      cases q : fr[i - tn.length]? with
      | none => rw [q] at e1; cases e1
      | some p =>
        rw [q] at e1 e2
        have e1 : p.2 = y := Option.some.inj e1
        have e2 : (σ[p.1]?).join = some v := Option.some.inj e2
        subst e1
        obtain ⟨g1, g2, g3, c, g4⟩ := hfr p (List.mem_of_getElem? q)
        have e4 : σ[p.1]? = some (some v) := by
          cases z : σ[p.1]? with
          | none => rw [z] at e2; cases e2
          | some w' => rw [z] at e2; exact congrArg some e2
        obtain ⟨m, hn, hl⟩ := I3.loc
        obtain ⟨u, ru, lk⟩ := hl p.1 p.2 v g1 e4 (.inr (.inl g2))
        refine ⟨u, ru, .inr ⟨.inl g3, c, g4, ?_⟩⟩
        rcases lk with ⟨k1, _⟩ | ⟨_, c', k2, k3⟩
        · rw [g2] at k1; cases k1
        · rw [hsub _ _ g4] at k2
          cases k2
          obtain ⟨oc, ho, hd⟩ := k3
          exact ⟨oc, keep4 _ _ ho, hd⟩
  have st4 : tk 0 h4 := T.keep 0 _ _ st2 fun b hb o e => keep4 b o (old3 b o e)
  have loop : codeAny (model X.prog X.w) X.A (.compLoop (.ListComp elt [⟨tg, iter, ifs, 0⟩] scope pos) 0 (.ref it) (.ref s2.heap.objs.size) (compEnvC scope cl s3.heap.objs.size X.env))
      (compPost (model X.prog X.w) X.A X.xe none (EP X pins σ Q) (.ref s2.heap.objs.size) s3.heap.objs.size) { s3 with heap := h4 } := by
    refine codeAny_loop rfl (fun n s' => ∃ i σ' xs H', L2.Inv (compCxG X scope cl fr tn s3.heap.objs.size s3 (upd H2 s2.heap.objs.size (.lst [])) fp) [] σ' H' s' ∧ tk i s'.heap ∧ (∀ b ∈ fp, H' b = none) ∧ W i n σ' xs H') (fun n s' hI => ?_) m0
      ⟨0, _, [], _, I4, st4, fun b hb => (f3 b hb).1, w0⟩
    show wpAny _ _ ((compTurn (.ListComp elt [⟨tg, iter, ifs, 0⟩] scope pos) 0 (.ref it) (.ref s2.heap.objs.size) (compEnvC scope cl s3.heap.objs.size X.env)).onRaise (fun x => do noteFrame x _; theTreesLotGoes x)) _ _ s'
    refine wpAny_noted ?_
    rw [compTurn_list]
    obtain ⟨i, σ5, xs, H5, I5, st5, fr5, w5⟩ := hI
    have stat : ∀ {H' : Hp}, (∀ b ∈ fp, H' b = none) → ∀ b ∈ fp, FpOk (compCxG X scope cl fr tn s3.heap.objs.size s3 (upd H2 s2.heap.objs.size (.lst [])) fp) [] H' b := fun hn b hb =>
      ⟨hn b hb, (ok3.exf b hb).1, ok3.exfs b hb, .inl hb, (ok3.exf b hb).2, fun p hp => nomatch hp⟩
    obtain ⟨hl, alt⟩ := turn i n σ5 xs H5 w5
    rcases alt with ⟨stop, qn⟩ | ⟨go, hz, step⟩
    · refine wpAny_bind (wpAny_standAt (wpAny_bind (thn (T.done (compCxG X scope cl fr tn s3.heap.objs.size s3 (upd H2 s2.heap.objs.size (.lst [])) fp) rfl rfl rfl hc i [] s' σ5 H5 _ I5 (stat fr5) st5 stop) fun r s6 ⟨hr, I6⟩ => ?_)))
      subst hr
      refine wpAny_pure ?_
      obtain ⟨m, hn6, _⟩ := I6.loc
      exact ⟨m, hn6, fun h' hs' => ⟨.ref s2.heap.objs.size, H5, compG_out I3 f3 (Nat.le_refl _) I6 hs', rfl, qn⟩⟩
    · refine wpAny_bind (wpAny_standAt (wpAny_bind (thn (T.item (compCxG X scope cl fr tn s3.heap.objs.size s3 (upd H2 s2.heap.objs.size (.lst [])) fp) rfl rfl rfl hc i [] s' σ5 H5 _ I5 (stat fr5) st5 go) fun r s6 ⟨u, hr, h6⟩ => ?_)))
      subst hr
      refine wpAny_bind (thn h6 fun _ s7 ⟨y, H7, I7, r7, y7, st7, fr7⟩ => ?_)
      have I7' := I7.pinned (stat fr7) (T.obj _ _ st7)
      have hP := hg s3.heap.objs.size s3 (upd H2 s2.heap.objs.size (.lst [])) fp _ s7 σ5 H7 y u _ I7' r7 (step y H7 y7)
      refine wpAny_bind (wpAny_mono hP (fun _ s8 ⟨σ8, H8, I8, q8⟩ => ?_) (fun _ _ z => False.elim z))
      refine wpAny_bind (wpAny_mono (hcs s3.heap.objs.size s3 (upd H2 s2.heap.objs.size (.lst [])) fp _ s8 σ8 H8 _ I8 q8) (fun b s9 ⟨H9, I9, q9⟩ => ?_) (fun _ _ z => False.elim z))
      have again : ∀ {σ7 : L2.St} {H7 : Hp} {s7' : Shared} {xs' : List V}, L2.Inv (compCxG X scope cl fr tn s3.heap.objs.size s3 (upd H2 s2.heap.objs.size (.lst [])) fp) ([] ++ pinsAt fp s7.heap) σ7 H7 s7' → (∃ m', m' < n ∧ W (i + 1) m' σ7 xs' H7) →
          ∃ m, m < n ∧ ∃ i σ' xs H', L2.Inv (compCxG X scope cl fr tn s3.heap.objs.size s3 (upd H2 s2.heap.objs.size (.lst [])) fp) [] σ' H' s7' ∧ tk i s7'.heap ∧ (∀ b ∈ fp, H' b = none) ∧ W i m σ' xs H' := fun {σ7 H7 s7' xs'} I7 n7 => by
        obtain ⟨m', hm, w7⟩ := n7
        refine ⟨m', hm, i + 1, σ7, xs', H7, I7.unpinned, T.keep _ _ _ st7 fun b hb o e => (I7.pin (b, o) (List.mem_append_right _ (List.mem_append_right _ (mem_pinsAt hb e)))).1, fun b hb => ?_, w7⟩
        obtain ⟨o, e, d⟩ := T.obj _ _ st7 b hb
        exact (I7.pin (b, o) (List.mem_append_right _ (List.mem_append_right _ (mem_pinsAt hb e)))).2.1
      cases b with
      | false =>
        rw [if_neg Bool.false_ne_true] at q9
        exact wpAny_pure ⟨rfl, again I9 q9⟩
      | true =>
        rw [if_pos rfl] at q9
        have hps : Passes (CXE X.prog X.w) ((compCxG X scope cl fr tn s3.heap.objs.size s3 (upd H2 s2.heap.objs.size (.lst [])) fp).wish fun e s' => ∃ pins5 σ5 H5 s5, L2.Inv (compCxG X scope cl fr tn s3.heap.objs.size s3 (upd H2 s2.heap.objs.size (.lst [])) fp) pins5 σ5 H5 s5 ∧ CXE X.prog X.w X.stack H5 s5 Ex e s') Ex := fun pins5 σ5 H5 s5 e s' I5 h5 => ⟨pins5, σ5, H5, s5, I5.unwish, h5⟩
        refine wpAny_bind (wpAny_bind (wpAny_mono (he _ _ _ _ _ hps _ s9 σ8 H9 _ (I9.wish _) q9) (fun uv s10 ⟨v, H10, I10', r10, hl10, w10⟩ => ?_) fun e s' z => ?_))
        case refine_2 =>
          obtain ⟨pins5, σ5, H5, s5, I5, h5⟩ := z
          exact comp_pass hst hfrm hx I3 f3 (Nat.le_refl _) I5 h5
        have I10 := I10'.unwish
        refine wpAny_bind (wpAny_mono (mt_append (X := compCxG X scope cl fr tn s3.heap.objs.size s3 (upd H2 s2.heap.objs.size (.lst [])) fp) _ s10 _ H10 (.ref s2.heap.objs.size) [v] (.ref s2.heap.objs.size) [uv] (fun _ H' => H' = upd H10 s2.heap.objs.size (.lst (xs ++ [v]))) I10 rfl (.cons r10 .nil) ⟨_, xs, v, rfl, rfl, hl10, hz, rfl⟩) (fun _ s11 ⟨v11, H11, I11, r11, q11⟩ => ?_) (fun _ _ z => False.elim z))
        subst q11
        exact wpAny_pure (wpAny_pure ⟨rfl, again I11 w10⟩)
  subst hs3
  exact codeAny_compStart_list loop (T.self _ 0 _ _ _ st4 loop)
end
end XF
namespace DL
open PySem PySem.Spec PyProof.Rows L2
def dCompX (n : Nat) (js : List Nat) (t : D → DS → Option DS) (fi : DS → M (List D)) (c : DS → M Bool) (f : DS → M D) : DS → M D := fun δ => (fi δ).thn fun ds => if small ds.length then (compD t (nX c) f ds (List.replicate n .un ++ js.map (slotAt δ))).thn fun ys => M.ret (.list ys) else none
section
variable {X : Cx} {G : XD → Hp → Prop} {fi : DS → M (List D)} {c : DS → M Bool} {f : DS → M D} {t : D → DS → Option DS}
theorem pd_compX {cl : List (Str × Addr)} {fr : List (Nat × Str)} {tn : List Str} {elt iter tg : Expr} {ifs : List Expr} {scope : Scope} {pos : Pos} {E1 : XK} (hc : X.calm = true) (hst : X.stack = X.env :: X.outer) (hfrm : X.env.frame = some X.env.locals) (hx : Passes (CXE X.prog X.w) X E1) (hG : ∀ x H, G x H → GX X.mg E1 x H)
    (hkind : scope.kind = .function) (hcell : ∀ y ∈ scope.names, y.2 ≠ .cell) (hclos : closureFor scope X.env = pure cl) (hsub : ∀ y c, cl.lookup y = some c → X.env.cells.lookup y = some c)
    (hhas : ∀ y ∈ (relabel scope X.env).names, (y.2 = .cell ∨ y.2 = .free) → ∃ c, cl.lookup y.1 = some c) (hfr : ∀ p ∈ fr, X.N[p.1]? = some p.2 ∧ X.env.kindOf p.2 = some .cell ∧ (compEnvC scope cl 0 X.env).kindOf p.2 = some .cell ∧ ∃ c, cl.lookup p.2 = some c) (hnames : ∀ y ∈ scope.names, y.2 = .local → scope.names.lookup y.1 = some .local)
    (hi : PDI X G tg iter fi) (hg : ∀ C s3 H3 fp, PDG (compCxG X scope cl fr tn C s3 H3 fp) tg t) (hcs : ∀ C s3 H3 fp, PDTs (compCxG X scope cl fr tn C s3 H3 fp) ifs c) (he : ∀ C s3 H3 fp xe, Passes (CXE X.prog X.w) ((compCxG X scope cl fr tn C s3 H3 fp).wish xe) E1 → PD ((compCxG X scope cl fr tn C s3 H3 fp).wish xe) (GX X.mg E1) elt f) (hs : ∀ x, foldedSetIterable iter X.env x = pure x := by intro _; rfl) :
    PD X G (.ListComp elt [⟨tg, iter, ifs, 0⟩] scope pos) (dCompX tn.length (fr.map (·.1)) t fi c f) := by
  obtain ⟨wi, pi, hi⟩ := hi
  refine ⟨_, XF.pe_compX (Ex := E1) (g := gD X.K t) (tc := cD X.K c) (te := tD X.K (GX X.mg E1) f) hc hst hfrm hx hkind hcell hclos hsub hhas hfr hnames pi (fun C s3 H3 fp => (hg C s3 H3 fp).can) (fun C s3 H3 fp => (hcs C s3 H3 fp).can) (fun C s3 H3 fp xe hps => (he C s3 H3 fp xe hps).can) hs, @fun Hr δ O σ H Q E k => ?_⟩
  refine hi δ O σ H _ E (ok_mono (ok_thn k) fun ds z J H1 s1 Y => ?_)
  by_cases hsz : small ds.length = true
  case neg =>
    rw [if_neg hsz] at z
    exact z.elim
  rw [if_pos hsz] at z
  intro l hl
  have E1 := E.same s1
  have kk := ok_mono (ok_thn z) fun ys (q : ∀ v H', Same H H' → Rep X.K O H' v (.list ys) → Q v H') H2 (kp : Kp l H1 H2) r2 => q (.ref l) H2 (s1.trans (kp.same hl)) r2
  refine ⟨fun i m τ xs H2 => m = ds.length - i ∧ i ≤ ds.length ∧ xs.length ≤ i ∧ H2 l = some (.lst xs) ∧ ∃ δc ys, EC X.K O H1 l H2 τ δc ∧ Reps X.K (l :: O) H2 xs ys ∧
    ok (GS G Hr) (compD t (nX c) f (ds.drop i) δc) (fun rest => ∀ H3, Kp l H1 H3 → Rep X.K O H3 (.ref l) (.list (ys ++ rest)) → Q (.ref l) H3),
    ⟨_, rfl, Nat.zero_le _, Nat.le_refl _, upd_same, _, [], slot_of E1 tn.length hl, .nil, kk⟩, ?_⟩
  rintro i m τ xs H2 ⟨rfl, hi, hx, h2, δc, ys, Ec, ry, kc⟩
  have kp : Kp l H1 H2 := fun b o hb e => Ec.keep b o hb e
  refine ⟨h2, ?_⟩
  have T : To O (l :: O) H1 H2 := kp.to hl
  by_cases hlt : i < ds.length
  · right
    have hd : ds[i]? = some ds[i] := List.getElem?_eq_getElem hlt
    obtain ⟨go, yl⟩ := Y.step (l :: O) H2 T i _ hd
    refine ⟨go, Nat.lt_of_le_of_lt hx (Nat.lt_of_lt_of_le hlt (small_le hsz)), fun x H3 y => ?_⟩
    obtain ⟨s3, rx⟩ := yl x H3 y
    rw [drop_get hd] at kc
    obtain ⟨δ', ht, kc⟩ := ok_lift (ok_thn (show ok (GS G Hr) ((M.lift (t ds[i] δc)).thn _) _ from kc))
    refine ⟨_, _, _, _, δc, δ', ds[i], l :: O, Ec.same s3, rx, ht, fun τ' H4 E4 s4 => ?_⟩
    refine ⟨_, δ', l :: O, E4.ev, ok_mono (ok_nX (ok_thn kc)) fun b zb H5 s5 => ?_⟩
    have E5 := E4.same s5
    have s25 := (s3.trans s4).trans s5
    dsimp only
    cases b with
    | false =>
      rw [if_neg Bool.false_ne_true] at zb ⊢
      exact ⟨_, by omega, rfl, hlt, by omega, s25 _ _ h2, δ', ys, E5, ry.same s25, zb⟩
    | true =>
      rw [if_pos rfl] at zb ⊢
      have kp5 : Kp l H1 H5 := fun b o hb e => E5.keep b o hb e
      have Er : Ev X.K Hr (l :: O) H5 τ' δ' := ⟨E.root.trans (s1.trans (kp5.same hl)), E5.ev.oo, E5.ev.len, E5.ev.at_, E5.ev.dis⟩
      refine ⟨Hr, δ', l :: O, Er, ok_weak (ok_mono (ok_thn zb) fun y kz v H6 s6 rv => ?_) fun x q H2 s2 => hG x H2 (q H2 s2)⟩
      have h6 : H6 l = some (.lst xs) := s6 _ _ (s25 _ _ h2)
      have ts : To (l :: O) (l :: O) H6 (upd H6 l (.lst (xs ++ [v]))) := To.set h6 List.mem_cons_self
      refine ⟨h6, ds.length - (i + 1), by omega, rfl, hlt, by rw [List.length_append]; show xs.length + 1 ≤ i + 1; omega, upd_same, δ', ys ++ [y], EC.put (E5.same s6) h6, (((ry.same s25).same s6).to ts).append (.cons (rv.to ts) .nil), ?_⟩
      exact ok_mono (ok_thn kz) fun rest q H7 kp7 r7 => q H7 kp7 (by rw [List.append_assoc] at r7; exact r7)
  · left
    have e : i = ds.length := by omega
    subst e
    rw [List.drop_length] at kc
    refine ⟨Y.stop (l :: O) H2 T, kc H2 kp ?_⟩
    rw [List.append_nil]
    exact .lst (.inl h2) (nin E1.oo hl) (ry.to (.less fun b hb => List.mem_cons_of_mem _ hb))
end
end DL
/-! EXCEPTIONS WITH ONE FIELD, over data: raise C(e), try .. except C as n, n.f -/
namespace DL
open PySem PySem.Spec PyProof.Rows L2
/-- the numbers that an exception may show -/
def okXI (i : Int) : Bool := decide (i.natAbs.log2 < 1920) && decide ((Str.ofString (toString i)).length ≤ 1000)
theorem okXI_iff {i : Int} (h : okXI i = true) : XF.XI i := by
  unfold okXI at h
  rw [Bool.and_eq_true, decide_eq_true_eq, decide_eq_true_eq] at h
  exact h
/-- the class by the name x, with an __init__ that sets the field fl -/
structure XDef (P : Program) (w : World) (K : PySem.W.Frag) (mg : Str → Option Value) (base : Heap) (k : Nat) (x fl : Str) (C : Addr) : Prop where
  ok : ∃ (f : Addr) (fd : FuncData) (ps : List Str), XF.XInit K C f ∧ FnOk P w K mg base CX0 k f fd ps (XF.spXI C fl) ∧ L2.Binds K fd ps []
def gRaiseF (x fl : Str) (fa : DS → M (List D)) : DS → M Out := fun δ => (fa δ).thn fun ds => match ds with
  | [.int i] => if okXI i then some (.error ⟨x, [(fl, .int i)]⟩) else none
  | _ => none
section
variable {X : Cx} {G : XD → Hp → Prop} {e : Expr} {fa : DS → M (List D)} {pos : Pos}
theorem pd_raiseF {k : Nat} {x fl : Str} {C : Addr} {np cpos : Pos} {E : XK} (h : XDef X.prog X.w X.K X.mg X.base k x fl C) (hR : XF.RaisesF X C (fun d H => E (.ref C) d H)) (hG : ∀ x H, G x H → GX X.mg E x H) (hr : Room (k + 1) X.A)
    (hc : X.calm = true) (hg : Gl X x) (hm : X.mg x = some (.ref C)) (ha : PDA X G [e] fa) (hdb : (x == ("__debug__" : Str)) = false := by decide)
    (he : starEach [e] X.env = (false, eval e X.env) :: starEach [] X.env := by rfl) :
    PDS X G (.Raise (some (.Call (.Name x np) [e] [] cpos)) none pos) (gRaiseF x fl fa) := by
  obtain ⟨f, fd, ps, M1, F, hb⟩ := h.ok
  obtain ⟨_, t, pa, ha⟩ := ha
  refine ⟨_, XF.ps_raiseF hR M1 F hr hb hc hg hm pa hdb he, @fun Hr R0 P0 H0 δ O σ H Dn E1 k => ?_⟩
  refine ha δ O σ H _ E1.ev (ok_mono (ok_thn k) fun ds z vs H1 s1 rs => ?_)
  match ds, z, rs with
  | [.int i], z, rs =>
    by_cases hz : okXI i = true
    · have z : ok (GS G Hr) (if okXI i = true then some (.error ⟨x, [(fl, .int i)]⟩) else none) (Fin X.K Hr R0 P0 H0 Dn) := z
      rw [if_pos hz] at z
      obtain ⟨v, rfl, rv⟩ := reps1 rs
      cases rv
      exact ⟨i, rfl, okXI_iff hz, fun a ha => hG _ _ (z H1 (E1.ev.root.trans s1)) C hm a ha⟩
    · have z : ok (GS G Hr) (if okXI i = true then some (.error ⟨x, [(fl, .int i)]⟩) else none) (Fin X.K Hr R0 P0 H0 Dn) := z
      rw [if_neg hz] at z
      exact z.elim
  | [], z, _ => exact z.elim
  | [.none], z, _ => exact z.elim
  | [.bool _], z, _ => exact z.elim
  | [.str _], z, _ => exact z.elim
  | [.list _], z, _ => exact z.elim
  | [.tuple _], z, _ => exact z.elim
  | [.dict _], z, _ => exact z.elim
  | d1 :: d2 :: r, z, _ => cases d1 <;> exact z.elim
/-- n.f -/
def dXat (a : Addr) (i : Nat) (j : Int) : DS → M D := fun δ => match δ[i]? with
  | some (.ex a') => if a' = a then M.ret (.int j) else none
  | _ => none
theorem ev_xat {a : Addr} {i : Nat} {j : Int} {δ : DS} (h : δ[i]? = some (.ex a)) : dXat a i j δ = M.ret (.int j) := by unfold dXat; rw [h]; simp
theorem pd_xat {ea a C : Addr} {oe od : Obj} {fl n : Str} {i : Nat} {j : Int} {tk : Nat} {p1 : Pos} (c : XF.XCls X.K C) (na : PySem.W.findIn X.K (.ref C) fl = some none) (h1 : (ea, oe) ∈ X.pn) (hcl : oe.cls = .ref C) (hnc : PySem.W.notCls oe = true) (hdi : oe.dict = some a) (h2 : (a, od) ∈ X.pn) (hl : PySem.W.lookIn fl od = some (some (.int j tk)))
    (hN : X.N[i]? = some n) (hvi : Vis X.env.scope n) (hdb : (n == ("__debug__" : Str)) = false := by decide) (hcd : (n == ("__classdict__" : Str)) = false := by decide) (hb : attributeBase (.Name n p1) fl X.env (eval (.Name n p1) X.env) = eval (.Name n p1) X.env := by rfl) : PD X G (.Attribute (.Name n p1) fl pos) (dXat ea i j) := by
  refine ⟨_, XF.pe_xat (v := .int j) c na h1 hcl hnc hdi h2 hl ⟨tk, rfl⟩ (pe_var hN hvi hdb hcd) hb, fun δ O σ H Q E k => ?_⟩
  unfold dXat at k
  split at k
  · rename_i a' e
    split at k
    · rename_i z
      subst z
      exact ⟨.ref a', E.at_ i _ e, rfl, k _ _ (fun _ _ h => h) (.int _)⟩
    · exact k.elim
  · exact k.elim
open Classical in
noncomputable def gTryF (x fl : Str) (N i : Nat) (gb : DS → M Out) (gs : Addr → Int → DS → M Out) : DS → M Out := fun δ => match gb (noOw δ) with
  | none => none
  | some (.ok o) => some (.ok o)
  | some (.error y) => match y.flds with
    | [(f, .int j)] => if y.cls = x ∧ f = fl then trySuite N i (fun a => gs a j) else none
    | _ => none
theorem pd_try_xf {x n fl : Str} {C : Addr} {i : Nat} {body suite : List Stmt} {b₀ : Stmt} {np hp pos : Pos} {gb : DS → M Out} {gs : Addr → Int → DS → M Out} (hK : XF.excIn1 X.K C XF.VE "ValueError.__new__" = true)
    (hst : X.stack = X.env :: X.outer) (hfr : X.env.frame = some X.env.locals) (hg : Gl X x) (hm : X.mg x = some (.ref C)) (hN : X.N.Nodup) (hi : X.N[i]? = some n) (hl : X.env.scope.names.lookup n = some .local)
    (hb : ∀ pn xe Ex, Passes (CXE X.prog X.w) (X.tri pn xe) Ex → PDSs (X.tri pn xe) (GX X.mg Ex) body gb)
    (hs : ∀ pn ea oe a od j tk, (ea, oe) ∈ pn → oe.cls = .ref C → PySem.W.notCls oe = true → oe.dict = some a → (a, od) ∈ pn → PySem.W.lookIn fl od = some (some (.int j tk)) → PDSs (X.held pn ea) (fun _ _ => False) (b₀ :: suite) (gs ea j))
    (hd : (x == ("__debug__" : Str)) = false := by decide) :
    PDS X G (.Try body [.ExceptHandler (some (.Name x np)) (some n) (b₀ :: suite) hp] [] [] pos) (gTryF x fl X.N.length i gb gs) := by
  refine ⟨_, XF.ps_try_xf (fl := fl) hK hst hfr hg hm hN hi hl hd, @fun Hr R0 P0 H0 δ O σ H Dn E k => ?_⟩
  unfold gTryF at k
  cases e : gb (noOw δ) with
  | none => rw [e] at k; exact k.elim
  | some r =>
    rw [e] at k
    cases r with
    | ok o =>
      refine ⟨E0, fun pn xe hps => ?_, fun c d H' z => z.elim⟩
      obtain ⟨t, p, hB⟩ := hb pn xe E0 hps
      exact ⟨t, p, hB O (fun _ => False) H (noOw δ) O σ H Dn E.fresh (by rw [e]; exact Fin.fresh E k)⟩
    | error y =>
      obtain ⟨yc, yf⟩ := y
      dsimp only at k
      split at k
      · rename_i f j
        by_cases hy : yc = x ∧ f = fl
        · rw [if_pos hy] at k
          obtain ⟨rfl, rfl⟩ := hy
          refine ⟨fun c d H' => c = .ref C ∧ ∃ a H1, d = some a ∧ Same H H1 ∧ H1 a = none ∧ H' = upd H1 a (.xd [(f, .int j)]), fun pn xe hps => ?_, fun c d H' z => ?_⟩
          · obtain ⟨t, p, hB⟩ := hb pn xe _ hps
            refine ⟨t, p, hB O (fun _ => False) H (noOw δ) O σ H Dn E.fresh ?_⟩
            rw [e]
            intro H' s C' hC'
            rw [hm] at hC'
            exact fun a ha => ⟨Option.some.inj hC'.symm ▸ rfl, a, H', rfl, s, ha, rfl⟩
          · obtain ⟨z1, a, H1, z2, z3, z4, z5⟩ := z
            refine ⟨z1, a, H1, j, z2, z4, z5, fun pn ea oe od tk i1 i2 i3 i4 i5 i6 => ?_⟩
            obtain ⟨t, p, hB⟩ := hs pn ea oe a od j tk i1 i2 i3 i4 i5 i6
            refine ⟨t, p, hB O (fun _ => False) H (exS X.N.length i ea) O _ H1 (Dn.gone i) (ei_exS E z3) ?_⟩
            have k1 := ok_thn (trySuite_at k ea)
            exact ok_weak (ok_mono (ok_noX k1) fun o q => Fin.gone (Fin.fresh E q)) fun y z => z.elim
        · rw [if_neg hy] at k
          exact k.elim
      · exact k.elim
end
/-! evaluation -/
section
variable {δ δ' : DS} {y : XD} {x fl : Str} {N i n : Nat} {j : Int} {gb : DS → M Out} {gs : Addr → Int → DS → M Out} {o : Out} {fa : DS → M (List D)} {fi : DS → M (List D)} {c : DS → M Bool} {f : DS → M D} {t : D → DS → Option DS} {ds ys : List D} {d : D} {js : List Nat}
theorem ev_tryF_ok (h : gb (noOw δ) = M.ret o) : gTryF x fl N i gb gs δ = M.ret o := by unfold gTryF; rw [h]; rfl
theorem ev_tryF_x {o' : Addr → Out} (h : gb (noOw δ) = some (.error ⟨x, [(fl, .int j)]⟩)) (hs : ∀ a, gs a j (exS N i a) = M.ret (o' a)) (ho : ∀ a, (o' a).gone i = o) : gTryF x fl N i gb gs δ = M.ret o := by
  unfold gTryF
  rw [h]
  dsimp only
  rw [if_pos ⟨rfl, rfl⟩]
  refine trySuite_eq fun a => ?_
  rw [hs a]
  show M.ret ((o' a).gone i) = M.ret o
  rw [ho a]
theorem ev_raiseF (h : fa δ = M.ret [.int j]) (hz : okXI j = true) : gRaiseF x fl fa δ = some (.error ⟨x, [(fl, .int j)]⟩) := by
  unfold gRaiseF
  rw [h]
  show (if okXI j = true then _ else _) = _
  rw [if_pos hz]
theorem ev_compX (h1 : fi δ = M.ret ds) (hz : small ds.length = true) (h3 : compD t (nX c) f ds (List.replicate n .un ++ js.map (slotAt δ)) = M.ret ys) : dCompX n js t fi c f δ = M.ret (.list ys) := by
  unfold dCompX; rw [h1, thn_ret, if_pos hz, h3]; rfl
theorem er_compX (h1 : fi δ = M.ret ds) (hz : small ds.length = true) (h3 : compD t (nX c) f ds (List.replicate n .un ++ js.map (slotAt δ)) = some (.error y)) : dCompX n js t fi c f δ = some (.error y) := by
  unfold dCompX; rw [h1, thn_ret, if_pos hz, h3]; rfl
theorem ev_compXC (h1 : t d δ = some δ') {v : D} (h2 : f δ' = M.ret v) (h3 : compD t (nX dYes) f ds δ' = M.ret ys) : compD t (nX dYes) f (d :: ds) δ = M.ret (v :: ys) := by
  show (M.lift (t d δ)).thn _ = _
  rw [h1, lift_some, thn_ret]
  show (M.ret true).thn _ = _
  rw [thn_ret, if_pos rfl]
  show (f δ').thn _ = _
  rw [h2]
  show (compD _ _ _ _ _).thn _ = _
  rw [h3]
  rfl
theorem er_compXC (h1 : t d δ = some δ') {v : D} (h2 : f δ' = M.ret v) (h3 : compD t (nX dYes) f ds δ' = some (.error y)) : compD t (nX dYes) f (d :: ds) δ = some (.error y) := by
  show (M.lift (t d δ)).thn _ = _
  rw [h1, lift_some, thn_ret]
  show (M.ret true).thn _ = _
  rw [thn_ret, if_pos rfl]
  show (f δ').thn _ = _
  rw [h2]
  show (compD _ _ _ _ _).thn _ = _
  rw [h3]
  rfl
theorem er_compX0 (h1 : t d δ = some δ') (h2 : f δ' = some (.error y)) : compD t (nX dYes) f (d :: ds) δ = some (.error y) := by
  show (M.lift (t d δ)).thn _ = _
  rw [h1, lift_some, thn_ret]
  show (M.ret true).thn _ = _
  rw [thn_ret, if_pos rfl]
  show (f δ').thn _ = _
  rw [h2]
  rfl
theorem er_ret {f : DS → M D} (h : f δ = some (.error y)) : gRet f δ = some (.error y) := by unfold gRet; rw [h]; rfl
end
end DL
namespace CT
open PySem PySem.Spec L2 DL
noncomputable def g_is_whole : DS → M Out := (gRet (dAndV (dIs "int" (dVar 0)) (dNotV (dIs "bool" (dVar 0)))))
noncomputable def F_is_whole : List D → M D := run 1 g_is_whole
noncomputable def g_nearest : DS → M Out := (gRet (d2 oDiv (d2 oAdd (d2 oMul (dC (.int 2)) (dVar 0)) (dVar 1)) (d2 oMul (dC (.int 2)) (dVar 1))))
noncomputable def F_nearest : List D → M D := run 2 g_nearest
noncomputable def g_is_pair : DS → M Out := (gRet (dAndV (dIs "tuple" (dVar 0)) (dAndV (d2 oEq (dCB oLen (dCons (dVar 0) dNil)) (dC (.int 2))) (dAndV (dCall (fun ds => noX (F_is_whole ds)) (dCons (d2 oIx (dVar 0) (dC (.int 0))) dNil)) (dCall (fun ds => noX (F_is_whole ds)) (dCons (d2 oIx (dVar 0) (dC (.int 1))) dNil))))))
noncomputable def F_is_pair : List D → M D := run 1 g_is_pair
noncomputable def g_are_places : DS → M Out := (gSeq (gIf (dOr (dNot (dB (dIs "list" (dVar 0)))) (dB (d2 oEq (dCB oLen (dCons (dVar 0) dNil)) (dC (.int 0))))) (gRet (dC (.bool false))) gNext)
    (gSeq (gIf (dNot (dB (dCB oAll (dCons (dCompG 1 [] (tgN 0) (dAny (dVar 0)) dYes (dCall (fun ds => noX (F_is_pair ds)) (dCons (dVar 0) dNil))) dNil)))) (gRet (dC (.bool false))) gNext)
    (gRet (dCB oAll (dCons (dCompG 2 [] (tgTup 2 (tgCons (tgN 0) (tgCons (tgN 1) tgNil))) (dZip (dCons (dVar 0) (dCons (dCutS (dVar 0) (dPart (dC (.int 1))) dNoPart) dNil))) dYes (dAndV (d2 oLt (d2 oIx (dVar 0) (dC (.int 0))) (d2 oIx (dVar 1) (dC (.int 0)))) (d2 oLt (d2 oIx (dVar 0) (dC (.int 1))) (d2 oIx (dVar 1) (dC (.int 1)))))) dNil)))))
noncomputable def F_are_places : List D → M D := run 1 g_are_places
noncomputable def g_refuse_no_places : DS → M Out := (gIf (dNot (dB (dCall (fun ds => noX (F_are_places ds)) (dCons (dVar 0) dNil)))) (gRaise "NoPlace" (dCons (dC (.str "these are no places")) dNil)) gNext)
noncomputable def F_refuse_no_places : List D → M D := run 1 g_refuse_no_places
noncomputable def g_way_of : DS → M Out := (gRet (d2 oSub (d2 oIx (dVar 0) (dC (.int 1))) (d2 oIx (dVar 0) (dC (.int 0)))))
noncomputable def F_way_of : List D → M D := run 1 g_way_of
noncomputable def g_moved_between : DS → M Out := (gRet (d2 oAdd (d2 oIx (dVar 0) (dC (.int 1))) (dCall (fun ds => noX (F_nearest ds)) (dCons (d2 oMul (d2 oSub (dVar 2) (d2 oIx (dVar 0) (dC (.int 0)))) (d2 oSub (d2 oIx (dVar 1) (dC (.int 1))) (d2 oIx (dVar 0) (dC (.int 1))))) (dCons (d2 oSub (d2 oIx (dVar 1) (dC (.int 0))) (d2 oIx (dVar 0) (dC (.int 0)))) dNil)))))
noncomputable def F_moved_between : List D → M D := run 3 g_moved_between
noncomputable def g_moment_moved : DS → M Out := (gSeq (gIf (dB (d2 oLeD (dVar 1) (d2 oIx (d2 oIx (dVar 0) (dC (.int 0))) (dC (.int 0))))) (gRet (d2 oAdd (dVar 1) (dCall (fun ds => noX (F_way_of ds)) (dCons (d2 oIx (dVar 0) (dC (.int 0))) dNil)))) gNext)
    (gSeq (gForI (dZip (dCons (dVar 0) (dCons (dCutS (dVar 0) (dPart (dC (.int 1))) dNoPart) dNil))) (tgTup 2 (tgCons (tgN 2) (tgCons (tgN 3) tgNil))) (gIf (dB (d2 oLeD (dVar 1) (d2 oIx (dVar 3) (dC (.int 0))))) (gRet (dCall (fun ds => noX (F_moved_between ds)) (dCons (dVar 2) (dCons (dVar 3) (dCons (dVar 1) dNil))))) gNext))
    (gRet (d2 oAdd (dVar 1) (dCall (fun ds => noX (F_way_of ds)) (dCons (d2 oIx (dVar 0) (d1 oNeg (dC (.int 1)))) dNil))))))
noncomputable def F_moment_moved : List D → M D := run 4 g_moment_moved
noncomputable def g_cue_moved : DS → M Out := (gSeq (gAsg (dCall (fun ds => noX (F_moment_moved ds)) (dCons (dVar 0) (dCons (d2 oIx (dVar 1) (dC (.int 0))) dNil))) (tgN 3))
    (gSeq (gAsg (dCall (fun ds => noX (F_moment_moved ds)) (dCons (dVar 0) (dCons (d2 oIx (dVar 1) (dC (.int 1))) dNil))) (tgN 4))
    (gSeq (gIf (dOr (dB (d2 oLt (dVar 3) (dC (.int 0)))) (dB (d2 oEq (dVar 3) (dVar 4)))) (gRaiseF "NoRoom" "at" (dCons (dVar 2) dNil)) gNext)
    (gRet (dTup (dCons (dVar 3) (dCons (dVar 4) (dCons (d2 oIx (dVar 1) (dC (.int 2))) (dCons (d2 oIx (dVar 1) (dC (.int 3))) dNil)))))))))
noncomputable def F_cue_moved : List D → M D := run 5 g_cue_moved
noncomputable def g_moved_cues : DS → M Out := (gSeq (gDrop (dCall F_refuse_no_places (dCons (dVar 0) dNil)))
    (gRet (dCompX 2 [0] (tgTup 2 (tgCons (tgN 0) (tgCons (tgN 1) tgNil))) (dEnum (dCons (dVar 1) dNil)) dYes (dCall F_cue_moved (dCons (dVar 2) (dCons (dVar 1) (dCons (dVar 0) dNil)))))))
noncomputable def F_moved_cues : List D → M D := run 2 g_moved_cues
noncomputable def g_moved_cues_new : DS → M Out := (gSeqN (gDrop (dCall (fun ds => noX (F_refuse_no_places ds)) (dCons (dVar 0) dNil)))
    (gRet (dCompG 2 [0] (tgTup 2 (tgCons (tgN 0) (tgCons (tgN 1) tgNil))) (dEnum (dCons (dVar 1) dNil)) dYes (dCall (fun ds => noX (F_cue_moved ds)) (dCons (dVar 2) (dCons (dVar 1) (dCons (dVar 0) dNil)))))))
noncomputable def F_moved_cues_new : List D → M D := run 2 g_moved_cues_new
end CT
open PySem PySem.Spec L2 DL
local macro_rules | `(tactic| walk_at "call") => `(tactic| fail)
local macro_rules | `(tactic| walk_at "cond") => `(tactic| first | rfl | omega | (simp only [Bool.or_eq_false_iff, Bool.and_eq_false_iff, Bool.or_eq_true, Bool.and_eq_true, Bool.not_eq_false', Bool.not_eq_true', decide_eq_false_iff_not, decide_eq_true_eq, Bool.not_true, Bool.not_false, Bool.false_or, Bool.true_and, Bool.false_and, Bool.true_or, isD, tyD]; omega) | (simp [isD, tyD]; done) | (simp [isD, tyD]; omega))
local macro_rules | `(tactic| walk_at "side") => `(tactic| first | assumption | omega | decide | exact bMul_l (by omega) (by omega) | exact bMul_r (by omega) (by omega) | exact bDiv_of (by omega) (by omega) | rfl)
local macro_rules | `(tactic| walk_at "ev1") => `(tactic| (first
  | with_reducible assumption | with_reducible exact ev_c | exact ev_var rfl | with_reducible exact ev_nil | with_reducible exact ev_next | with_reducible exact ev_nopart
  | with_reducible apply ev_2 | with_reducible apply ev_cons | with_reducible apply ev_1
  | with_reducible exact o_add | with_reducible exact o_sub | with_reducible exact o_lt | with_reducible exact o_ltD | with_reducible exact o_le | with_reducible exact o_gt | with_reducible exact o_ge | with_reducible exact o_eq | with_reducible exact o_ne
  | (with_reducible refine o_mul ?_; walk_at "side") | (with_reducible refine o_div ?_; walk_at "side") | (with_reducible refine o_mod ?_; walk_at "side")
  | ((with_reducible show oIx _ (PyData.int (OfNat.ofNat _)) = some _); exact rfl) | with_reducible exact o_pow6 | with_reducible exact o_pow9 | with_reducible exact o_pow15 | with_reducible exact o_pow18 | with_reducible exact o_pow4 | with_reducible exact o_pow7 | with_reducible exact o_pow8 | with_reducible exact o_pow10 | with_reducible exact o_pow12 | with_reducible exact o_pow19 | with_reducible exact o_pow20 | with_reducible exact o_pow24 | ((with_reducible show tgTup _ _ _ _ = some _); exact rfl) | ((with_reducible show oNeg _ = some _); exact rfl)
  | ((with_reducible show small _ = true); exact rfl) | with_reducible apply ev_cb | with_reducible exact o_max | with_reducible exact o_min | with_reducible exact o_lenL | with_reducible exact o_lenT | with_reducible exact o_intI | with_reducible exact o_intB
  | with_reducible apply ev_call | walk_at "call"
  | (with_reducible refine ev_pass ?_ ?_ ?_) | with_reducible apply ev_seqIf | with_reducible apply ev_seqN | (with_reducible apply ev_seq; with_reducible apply ev_asg) | with_reducible apply ev_ret | (with_reducible apply ev_seqR; with_reducible apply ev_ret)
  | with_reducible apply ev_asg | (with_reducible apply ev_seq; with_reducible apply ev_asgT) | with_reducible apply ev_par | (with_reducible apply ev_seq; with_reducible apply ev_par)
  | with_reducible apply ev_b | with_reducible apply ev_not | with_reducible apply ev_notV | with_reducible apply ev_is
  | with_reducible apply ev_tup | with_reducible apply ev_lst | with_reducible apply ev_cut | with_reducible apply ev_part
  | with_reducible apply ev_pass1 | with_reducible apply ev_ifS
  | with_reducible apply ev_or | with_reducible apply ev_and | with_reducible apply ev_orV | with_reducible apply ev_andV | with_reducible apply ev_if
  | ((with_reducible show (_ : Bool) = false); walk_at "cond")
  | ((with_reducible show (if _ = true then _ else _) = _); first | (refine ite_F rfl ?_) | (refine ite_T rfl ?_) | (refine ite_t (by omega) ?_) | (refine ite_f (by omega) ?_) | (refine ite_F (by walk_at "cond") ?_) | (refine ite_T (by walk_at "cond") ?_))))
local macro_rules | `(tactic| walk_at "ev") => `(tactic| repeat (walk_at "ev1"))
open PySem PySem.Spec L2 DL NumText
namespace TX
/-- a text's signs, and back -/
def S (l : List Nat) : Str := ⟨l.toArray⟩
theorem L_S (l : List Nat) : (S l).cps.toList = l := by unfold S; simp
theorem S_app (a b : List Nat) : S a ++ S b = S (a ++ b) := by
  have : (S a ++ S b).cps = (S (a ++ b)).cps := by
    show a.toArray ++ b.toArray = (a ++ b).toArray
    simp
  cases h1 : S a ++ S b
  cases h2 : S (a ++ b)
  rw [h1, h2] at this
  cases this
  rfl
theorem S_len (l : List Nat) : (S l).length = l.length := by unfold S; show l.toArray.size = _; simp
/-- figures -/
def digs (n : Nat) : List Nat := if h : n = 0 then [] else digs (n / 10) ++ [48 + n % 10]
decreasing_by omega
def fg (k n : Nat) : List Nat := List.replicate (k - (digs n).length) 48 ++ digs n
end TX
namespace DL
open PySem PySem.Spec L2
section
variable {δ : DS} {f g k : DS → M D} {fa : DS → M (List D)} {x d : D}
theorem ev_meth {h : Str → List D → Option D} {z : Str} {xs : List D} (h1 : f δ = M.ret (.str z)) (h2 : fa δ = M.ret xs) (h3 : h z xs = some d) : dMeth h f fa δ = M.ret d := by
  unfold dMeth
  rw [h1]
  show (fa δ).thn _ = _
  rw [h2]
  show M.lift (h z xs) = _
  rw [h3]
  rfl
theorem ev_cutS {fl fh : DS → M (Option Int)} {lo hi : Option Int} (h1 : f δ = M.ret x) (h2 : fl δ = M.ret lo) (h3 : fh δ = M.ret hi) (h4 : oCutS lo hi x = some d) : dCutS f fl fh δ = M.ret d := by
  unfold dCutS; rw [h1, thn_ret, h2, thn_ret, h3, thn_ret, h4]; rfl
theorem o_leD {i j : Int} : oLeD (.int i) (.int j) = some (.bool (decide (i ≤ j))) := rfl
end
end DL
namespace TX
open PySem PySem.Spec L2 DL NumText
def isF (c : Nat) : Bool := decide (48 ≤ c ∧ c ≤ 57)
def isFig (l : List Nat) : Bool := !decide (l = []) && l.all isF
def hasF (k : Nat) (l : List Nat) : Bool := decide (l.length = k) && isFig l
def hrs (l : List Nat) : Bool := hasF 2 l || (decide (3 ≤ l.length ∧ l.length ≤ 20) && (isFig l && !decide (l.head? = some 48)))
def six (l : List Nat) : Bool := hasF 2 l && decide (digitsVal l < 60)
def pre (c : Nat) (l : List Nat) : List Nat := l.takeWhile (· != c)
def post (c : Nat) (l : List Nat) : List Nat := (l.dropWhile (· != c)).drop 1
theorem ix_sign {l : List Nat} {i : Int} {c : Nat} (hl : l.length ≤ 1000) (h0 : 0 ≤ i) (h : l[i.toNat]? = some c) : oIx (.str (S l)) (.int i) = some (.str ⟨#[c]⟩) := by
  show (if small (S l).length = true then _ else _) = _
  rw [if_pos (by rw [S_len]; exact small_of (by omega)), L_S]
  have e := L2.atI_nat h
  rw [Int.toNat_of_nonneg h0] at e
  rw [e]
  rfl
end TX
open PySem PySem.Spec L2 DL CT TX NumText
namespace TX
theorem ok_S {l : List Nat} (h : ∀ c ∈ l, c < 1114112) : PyData.strOk (S l) = true := by
  unfold PyData.strOk S
  rw [← Array.all_toList]
  simpa using h
def Uc (l : List Nat) : Prop := ∀ c ∈ l, c < 1114112
end TX
open PySem PySem.Spec L2 DL TX NumText
namespace TX
/-- a cut's ends -/
def cLo (n : Nat) : Option Int → Nat
  | none => 0
  | some i => (max 0 (min (if i < 0 then i + n else i) n)).toNat
def cHi (n : Nat) : Option Int → Nat
  | none => n
  | some i => (max 0 (min (if i < 0 then i + n else i) n)).toNat
end TX
open PySem PySem.Spec L2 DL
namespace DL
section
variable {δ δ' : DS} {c : DS → M Bool} {f : DS → M D} {t : D → DS → Option DS} {y d : D} {ds ys : List D}
end
end DL
namespace DL
theorem forD_cons {body : D → DS → M Out} {d : D} {ds : List D} {δ δ' : DS} {r : M Out} (h1 : body d δ = M.ret (.nx δ')) (h2 : forD body ds δ' = r) : forD body (d :: ds) δ = r := by
  show (body d δ).thn _ = _
  rw [h1]
  exact h2
end DL
namespace DL
section
variable {f fi : DS → M D} {δ : DS} {ds es : List D} {d : D} {i j m : Nat} {k n a : Int}
end
end DL
namespace DL
end DL
open PySem PySem.Spec L2 DL CT TX NumText
namespace CT
/-- texts with a sign between -/
def jn (c : Nat) : List (List Nat) → List Nat
  | [] => []
  | [a] => a
  | a :: b :: r => a ++ c :: jn c (b :: r)
/-- as many signs -/
def tot : List (List Nat) → Nat
  | [] => 0
  | a :: r => a.length + 1 + tot r
theorem strsOf_S (ts : List (List Nat)) : strsOf (ts.map fun l => PyData.str (S l)) = some (ts.map S) := by
  induction ts with
  | nil => rfl
  | cons a r ih => show (strsOf (r.map _)).map _ = _; rw [ih]; rfl
end CT
namespace CT
open PySem PySem.Spec L2 DL
/-- the only one -/
theorem near_uniq {t b q : Int} (hb : 0 < b) (h1 : -b ≤ 2 * (t - q * b)) (h2 : 2 * (t - q * b) < b) : (2 * t + b) / (2 * b) = q := by
  have e : 2 * t + b = (2 * t + b - 2 * b * q) + 2 * b * q := by omega
  have e2 : 2 * b * q = 2 * (q * b) := by grind
  rw [e, Int.add_mul_ediv_left _ _ (by omega), Int.ediv_eq_zero_of_lt (by omega) (by omega)]
  omega
theorem nearest_ev (t b : Int) (hb : 0 < b) (h2 : b < 100000000000000000000000000) : F_nearest [.int t, .int b] = M.ret (.int ((2 * t + b) / (2 * b))) := by
  refine ev_run ?_
  unfold g_nearest
  walk_at "ev"
end CT
open PySem PySem.Spec L2 DL CT
namespace CT
/-! places: pure mathematics -/
def near (t b : Int) : Int := (2 * t + b) / (2 * b)
abbrev pr (p : Int × Int) : D := .tuple [.int p.1, .int p.2]
abbrev pl (ps : List (Int × Int)) : D := .list (ps.map pr)
/-- both rise -/
def Ris : List (Int × Int) → Prop
  | [] => True
  | [_] => True
  | p :: q :: r => (p.1 < q.1 ∧ p.2 < q.2) ∧ Ris (q :: r)
/-- within bounds -/
def Bd (ps : List (Int × Int)) : Prop := ∀ p ∈ ps, -1000000000000000000 ≤ p.1 ∧ p.1 ≤ 1000000000000000000 ∧ -1000000000000000000 ≤ p.2 ∧ p.2 ≤ 1000000000000000000
theorem Ris.tail {p : Int × Int} {r : List (Int × Int)} (h : Ris (p :: r)) : Ris r := by
  cases r with
  | nil => trivial
  | cons q r => exact h.2
theorem Bd.tail {p : Int × Int} {r : List (Int × Int)} (h : Bd (p :: r)) : Bd r := fun q hq => h q (List.mem_cons_of_mem _ hq)
theorem Ris.snoc : ∀ {r : List (Int × Int)} {p q : Int × Int}, Ris (r ++ [p]) → p.1 < q.1 → p.2 < q.2 → Ris (r ++ [p] ++ [q])
  | [], p, q, _, h1, h2 => ⟨⟨h1, h2⟩, trivial⟩
  | [a], p, q, h, h1, h2 => ⟨h.1, ⟨h1, h2⟩, trivial⟩
  | a :: b :: r, p, q, h, h1, h2 => ⟨h.1, Ris.snoc (r := b :: r) h.2 h1 h2⟩
theorem Ris.lt_head : ∀ {r : List (Int × Int)} {p q : Int × Int} {s : List (Int × Int)}, Ris (p :: (r ++ q :: s)) → p.1 < q.1 ∧ p.2 < q.2
  | [], _, _, _, h => h.1
  | a :: r, p, q, s, h => by
    have h1 := h.1
    have h2 := Ris.lt_head (r := r) (p := a) (q := q) (s := s) h.2
    omega
theorem Ris.drop : ∀ {r s : List (Int × Int)}, Ris (r ++ s) → Ris s
  | [], _, h => h
  | _ :: r, _, h => Ris.drop (r := r) (Ris.tail h)
theorem near_exact {b u : Int} (hb : 0 < b) : near (b * u) b = u := by
  refine near_uniq hb ?_ ?_
  · have : b * u - u * b = 0 := by grind
    omega
  · have : b * u - u * b = 0 := by grind
    omega
/-- between p and q -/
def mid (p q : Int × Int) (n : Int) : Int := p.2 + near ((n - p.1) * (q.2 - p.2)) (q.1 - p.1)
/-- the first piece whose end n does not pass -/
def mvL : (Int × Int) → List (Int × Int) → Int → Option Int
  | _, [], _ => none
  | p, q :: r, n => if n ≤ q.1 then some (mid p q n) else mvL q r n
def lastP : (Int × Int) → List (Int × Int) → Int × Int
  | p, [] => p
  | _, q :: r => lastP q r
def mv (p : Int × Int) (r : List (Int × Int)) (n : Int) : Int := if n ≤ p.1 then n + (p.2 - p.1) else match mvL p r n with
  | some v => v
  | none => n + ((lastP p r).2 - (lastP p r).1)
/-! the program -/
theorem nearest_evB (t b : Int) (hb : 0 < b) (h2 : b < 100000000000000000000000000) : F_nearest [.int t, .int b] = M.ret (.int (near t b)) := nearest_ev t b hb h2
theorem is_pair_ev (p : Int × Int) : F_is_pair [pr p] = M.ret (.bool true) := rfl
theorem way_ev (p : Int × Int) : F_way_of [pr p] = M.ret (.int (p.2 - p.1)) := by
  refine ev_run ?_
  unfold g_way_of
  walk_at "ev"
theorem mid_ev (p q : Int × Int) (n : Int) (h1 : p.1 < q.1) (h2 : p.2 < q.2) (bp : -1000000000000000000 ≤ p.1 ∧ -1000000000000000000 ≤ p.2) (bq : q.1 ≤ 1000000000000000000 ∧ q.2 ≤ 1000000000000000000) : F_moved_between [pr p, pr q, .int n] = M.ret (.int (mid p q n)) := by
  have h := nearest_evB ((n - p.1) * (q.2 - p.2)) (q.1 - p.1) (by omega) (by omega)
  refine ev_run ?_
  unfold g_moved_between mid
  walk_at "ev"
theorem bools_all {α : Type} (ds : List α) : bools (ds.map fun _ => PyData.bool true) = some (ds.map fun _ => true) := by
  induction ds with
  | nil => rfl
  | cons d ds ih =>
    show (bools (ds.map fun _ => PyData.bool true)).map (true :: ·) = _
    rw [ih]
    rfl
theorem o_all_true {α : Type} (ds : List α) : oAll [.list (ds.map fun _ => PyData.bool true)] = some (.bool true) := by
  show (bools (ds.map fun _ => PyData.bool true)).map (fun bs => PyData.bool (bs.all id)) = _
  rw [bools_all]
  show some (PyData.bool ((ds.map fun _ => true).all id)) = _
  rw [List.all_map]
  congr 2
  exact List.all_eq_true.mpr fun _ _ => rfl
theorem pcut_tail (p : D) (r : List D) : cutD (p :: r) (some 1) none = r := by
  unfold cutD
  have e : HT.sIx (p :: r).length 0 (some 1) = 1 := by
    have := HT.sIx_nat (p :: r).length 0 1
    rw [show ((1 : Nat) : Int) = 1 from rfl] at this
    rw [this, List.length_cons]
    omega
  rw [e]
  show (r.take _) = r
  rw [HT.sIx_none]
  exact List.take_of_length_le (by simp)
theorem zip_ris : ∀ {p : Int × Int} {r : List (Int × Int)} {d : D}, Ris (p :: r) → d ∈ zipD ((p :: r).map pr) (r.map pr) → ∃ a b : Int × Int, d = .tuple [pr a, pr b] ∧ a.1 < b.1 ∧ a.2 < b.2 ∧ a ∈ p :: r ∧ b ∈ p :: r
  | p, [], d, _, h => by cases h
  | p, q :: r, d, h, hd => by
    rcases List.mem_cons.mp hd with rfl | hd
    · exact ⟨p, q, rfl, h.1.1, h.1.2, List.mem_cons_self, List.mem_cons_of_mem _ List.mem_cons_self⟩
    · obtain ⟨a, b, h1, h2, h3, h4, h5⟩ := zip_ris (p := q) (r := r) h.2 hd
      exact ⟨a, b, h1, h2, h3, List.mem_cons_of_mem _ h4, List.mem_cons_of_mem _ h5⟩
theorem are_places_ev {p : Int × Int} {r : List (Int × Int)} (h : Ris (p :: r)) (hz : r.length ≤ 1000) : F_are_places [pl (p :: r)] = M.ret (.bool true) := by
  refine ev_run ?_
  unfold g_are_places
  refine ev_pass (b := false) (ev_or_f (ev_not (b := true) (ev_b (ev_is (d := pl (p :: r)) (ev_var rfl)))) ?_) rfl ?_
  · refine ev_b (ev_2 (ev_cb (ds := [pl (p :: r)]) (by walk_at "ev") o_lenL) ev_c ?_)
    rw [o_eq, decide_eq_false (by rw [List.length_map, List.length_cons]; omega)]
  refine ev_pass (b := false) (ev_not (b := true) (ev_b (ev_cb (ev_cons (ev_compG (ev_any (ev_var rfl) rfl) (small_of (by rw [List.length_map, List.length_cons]; omega)) (ev_compM (h := fun _ => .bool true) (fun δ => ∃ s, δ = [s]) _ _ ⟨_, rfl⟩ fun d hd δ hδ => ?_)) ev_nil) (o_all_true _)))) rfl ?_
  · obtain ⟨s, rfl⟩ := hδ
    obtain ⟨a, _, rfl⟩ := List.mem_map.mp hd
    exact ⟨[.vl (pr a)], rfl, ev_call (ds := [pr a]) (by walk_at "ev") (is_pair_ev a), _, rfl⟩
  refine ev_ret (ev_cb (ev_cons (ev_compG (ev_zipS (xs := (p :: r).map pr) (ys := r.map pr) ?_) (small_of ?_) (ev_compM (h := fun _ => .bool true) (fun δ => ∃ s s', δ = [s, s']) _ _ ⟨_, _, rfl⟩ fun d hd δ hδ => ?_)) ev_nil) (o_all_true _))
  · have := pcut_tail (pr p) (r.map pr)
    refine ev_cons (ev_var rfl) (ev_cons (ev_cutS (ev_var rfl) (ev_part ev_c) ev_nopart (d := .list (r.map pr)) ?_) ev_nil)
    show some (PyData.list (cutD (pr p :: r.map pr) (some 1) none)) = _
    rw [this]
  · unfold zipD
    rw [List.length_zipWith, List.length_map, List.length_cons, List.length_map]
    omega
  · obtain ⟨s, s', rfl⟩ := hδ
    obtain ⟨a, b, rfl, h1, h2, _⟩ := zip_ris h hd
    refine ⟨[.vl (pr a), .vl (pr b)], rfl, ?_, _, _, rfl⟩
    refine ev_andV_t (ev_2 (x := .int a.1) (y := .int b.1) (by walk_at "ev") (by walk_at "ev") (by rw [o_lt, decide_eq_true h1])) (ev_2 (x := .int a.2) (y := .int b.2) (by walk_at "ev") (by walk_at "ev") (by rw [o_lt, decide_eq_true h2]))
theorem refuse_ev {p : Int × Int} {r : List (Int × Int)} (h : Ris (p :: r)) (hz : r.length ≤ 1000) : F_refuse_no_places [pl (p :: r)] = M.ret .none := by
  have ha := are_places_ev h hz
  unfold F_refuse_no_places DL.run
  have e : g_refuse_no_places (startD 1 [pl (p :: r)]) = M.ret (.nx [.vl (pl (p :: r))]) := by
    unfold g_refuse_no_places
    exact ev_ifS (b := false) (ev_not (b := true) (ev_b (ev_call (ds := [pl (p :: r)]) (by walk_at "ev") ha))) (ite_F rfl rfl)
  rw [e]
  rfl
/-- the loop of moment_moved -/
theorem moved_loop {x0 : Sl} {n : Int} {bd : DS → M Out} (hbd : bd = gIf (dB (d2 oLeD (dVar 1) (d2 oIx (dVar 3) (dC (.int 0))))) (gRet (dCall (fun ds => noX (F_moved_between ds)) (dCons (dVar 2) (dCons (dVar 3) (dCons (dVar 1) dNil))))) gNext) :
    ∀ (r : List (Int × Int)) (p : Int × Int) (s2 s3 : Sl), Ris (p :: r) → Bd (p :: r) →
      (∃ v, mvL p r n = some v ∧ forD (bodyD (tgTup 2 (tgCons (tgN 2) (tgCons (tgN 3) tgNil))) bd) (zipD ((p :: r).map pr) (r.map pr)) [x0, .vl (.int n), s2, s3] = M.ret (.rt (.int v))) ∨
      (mvL p r n = none ∧ ∃ s2' s3', forD (bodyD (tgTup 2 (tgCons (tgN 2) (tgCons (tgN 3) tgNil))) bd) (zipD ((p :: r).map pr) (r.map pr)) [x0, .vl (.int n), s2, s3] = M.ret (.nx [x0, .vl (.int n), s2', s3']))
  | [], p, s2, s3, _, _ => .inr ⟨rfl, s2, s3, rfl⟩
  | q :: r, p, s2, s3, h, b => by
    have bp := b p List.mem_cons_self
    have bq := b q (List.mem_cons_of_mem _ List.mem_cons_self)
    have hm := mid_ev p q n h.1.1 h.1.2 ⟨bp.1, bp.2.2.1⟩ ⟨bq.2.1, bq.2.2.2⟩
    have e : zipD ((p :: q :: r).map pr) ((q :: r).map pr) = .tuple [pr p, pr q] :: zipD ((q :: r).map pr) (r.map pr) := rfl
    rw [e]
    show (∃ v, (if n ≤ q.1 then some (mid p q n) else mvL q r n) = some v ∧ M.thn (bodyD _ bd (.tuple [pr p, pr q]) _) _ = _) ∨ ((if n ≤ q.1 then some (mid p q n) else mvL q r n) = none ∧ ∃ s2' s3', M.thn (bodyD _ bd (.tuple [pr p, pr q]) _) _ = _)
    by_cases hn : n ≤ q.1
    · refine .inl ⟨mid p q n, if_pos hn, ?_⟩
      have hb : bodyD (tgTup 2 (tgCons (tgN 2) (tgCons (tgN 3) tgNil))) bd (.tuple [pr p, pr q]) [x0, .vl (.int n), s2, s3] = M.ret (.rt (.int (mid p q n))) := by
        refine ev_body (δ' := [x0, .vl (.int n), .vl (pr p), .vl (pr q)]) rfl ?_
        rw [hbd]
        refine ev_ifS (b := true) (ev_b (ev_2 (x := .int n) (y := .int q.1) (by walk_at "ev") (by walk_at "ev") (by rw [o_leD, decide_eq_true hn]))) (ite_T rfl ?_)
        walk_at "ev"
      rw [hb]
      rfl
    · have hb : bodyD (tgTup 2 (tgCons (tgN 2) (tgCons (tgN 3) tgNil))) bd (.tuple [pr p, pr q]) [x0, .vl (.int n), s2, s3] = M.ret (.nx [x0, .vl (.int n), .vl (pr p), .vl (pr q)]) := by
        refine ev_body (δ' := [x0, .vl (.int n), .vl (pr p), .vl (pr q)]) rfl ?_
        rw [hbd]
        exact ev_ifS (b := false) (ev_b (ev_2 (x := .int n) (y := .int q.1) (by walk_at "ev") (by walk_at "ev") (by rw [o_leD, decide_eq_false hn]))) (ite_F rfl ev_next)
      rw [hb, if_neg hn]
      exact moved_loop hbd r q _ _ h.2 b.tail
theorem head_ix (p : Int × Int) (r : List (Int × Int)) : oIx (pl (p :: r)) (.int 0) = some (pr p) := L2.atI_nat (j := 0) rfl
theorem last_ix : ∀ (p : Int × Int) (r : List (Int × Int)), oIx (pl (p :: r)) (.int (-1)) = some (pr (lastP p r))
  | p, [] => rfl
  | p, q :: r => by
    have h := last_ix q r
    show L2.atI (pr p :: (q :: r).map pr) (-1) = _
    have h : L2.atI ((q :: r).map pr) (-1) = some (pr (lastP q r)) := h
    obtain ⟨ys, y, e⟩ : ∃ ys y, (q :: r).map pr = ys ++ [y] := ⟨_, _, (List.dropLast_concat_getLast (by simp)).symm⟩
    rw [e] at h ⊢
    rw [L2.atI_last] at h
    have := L2.atI_last (pr p :: ys) y
    rw [List.cons_append] at this
    rw [this, h]
    rfl
theorem moment_ev {p : Int × Int} {r : List (Int × Int)} (n : Int) (h : Ris (p :: r)) (b : Bd (p :: r)) : F_moment_moved [pl (p :: r), .int n] = M.ret (.int (mv p r n)) := by
  have hw := way_ev p
  have hw2 := way_ev (lastP p r)
  have hl := last_ix p r
  have hh := head_ix p r
  refine ev_run ?_
  unfold g_moment_moved mv
  by_cases hn : n ≤ p.1
  · rw [if_pos hn]
    refine ev_seqIf (b := true) (ev_b (ev_2 (x := .int n) (y := .int p.1) (by walk_at "ev") (by walk_at "ev") (by rw [o_leD, decide_eq_true hn]))) (ite_T rfl (ev_seqR (ev_ret ?_)))
    walk_at "ev"
  · rw [if_neg hn]
    refine ev_pass (b := false) (ev_b (ev_2 (x := .int n) (y := .int p.1) (by walk_at "ev") (by walk_at "ev") (by rw [o_leD, decide_eq_false hn]))) rfl ?_
    have hz : dZip (dCons (dVar 0) (dCons (dCutS (dVar 0) (dPart (dC (.int 1))) dNoPart) dNil)) (startD 4 [pl (p :: r), .int n]) = M.ret (zipD ((p :: r).map pr) (r.map pr)) := by
      have := pcut_tail (pr p) (r.map pr)
      refine ev_zipS (ev_cons (ev_var rfl) (ev_cons (ev_cutS (ev_var rfl) (ev_part ev_c) ev_nopart (d := .list (r.map pr)) ?_) ev_nil))
      show some (PyData.list (cutD (pr p :: r.map pr) (some 1) none)) = _
      rw [this]
    rcases moved_loop (x0 := .vl (pl (p :: r))) (n := n) rfl r p .un .un h b with ⟨v, hv, hf⟩ | ⟨hv, s2, s3, hf⟩
    · rw [hv]
      exact ev_seqR (ev_forG hz hf)
    · rw [hv]
      refine ev_seq (ev_forG hz hf) (ev_ret ?_)
      walk_at "ev"
end CT
open PySem PySem.Spec L2 DL CT TX NumText
namespace CT
theorem ev_dropq {f : DS → M D} {δ : DS} {d : D} (h : f δ = M.ret d) : gDrop f δ = M.ret (.nx δ) := by unfold gDrop; rw [h]; rfl
/-- a cue, whatever its texts -/
structure Q4 where
  b : Int
  e : Int
  h : Str
  w : Str
def q4 (c : Q4) : D := .tuple [.int c.b, .int c.e, .str c.h, .str c.w]
def mq (f : Int → Int) (c : Q4) : Q4 := { c with b := f c.b, e := f c.e }
def room (f : Int → Int) (c : Q4) : Bool := !(decide (f c.b < 0) || decide (f c.b = f c.e))
theorem room_t {f : Int → Int} {c : Q4} (h : room f c = true) : ¬ f c.b < 0 ∧ ¬ f c.b = f c.e := by
  unfold room at h
  simpa using h
section
variable {p : Int × Int} {r : List (Int × Int)}
theorem cue_ok {c : Q4} {k : Int} (hr : Ris (p :: r)) (hb : Bd (p :: r)) (h : room (mv p r) c = true) : F_cue_moved [pl (p :: r), q4 c, .int k] = M.ret (q4 (mq (mv p r) c)) := by
  obtain ⟨q1, q2⟩ := room_t h
  have mb := moment_ev c.b hr hb
  have me := moment_ev c.e hr hb
  refine ev_run ?_
  unfold g_cue_moved
  refine ev_seq (ev_asg (d := .int (mv p r c.b)) (ev_call (ds := [pl (p :: r), .int c.b]) (ev_cons (ev_var rfl) (ev_cons (ev_2 (x := q4 c) (ev_var rfl) ev_c rfl) ev_nil)) mb)) ?_
  refine ev_seq (ev_asg (d := .int (mv p r c.e)) (ev_call (ds := [pl (p :: r), .int c.e]) (ev_cons (ev_var rfl) (ev_cons (ev_2 (x := q4 c) (ev_var rfl) ev_c rfl) ev_nil)) me)) ?_
  refine ev_pass (b := false) (ev_or (b1 := false) (b2 := false) (ev_b (ev_2 (ev_var rfl) ev_c (by rw [o_lt, decide_eq_false q1]))) (ev_b (ev_2 (ev_var rfl) (ev_var rfl) (by rw [o_eq, decide_eq_false q2])))) rfl ?_
  exact ev_ret (ev_tup (ev_cons (ev_var rfl) (ev_cons (ev_var rfl) (ev_cons (ev_2 (x := q4 c) (ev_var rfl) ev_c rfl) (ev_cons (ev_2 (x := q4 c) (ev_var rfl) ev_c rfl) ev_nil)))) rfl)
theorem cue_no {c : Q4} {k : Int} (hr : Ris (p :: r)) (hb : Bd (p :: r)) (h : room (mv p r) c = false) (hk : okXI k = true) : F_cue_moved [pl (p :: r), q4 c, .int k] = some (.error ⟨"NoRoom", [("at", .int k)]⟩) := by
  have mb := moment_ev c.b hr hb
  have me := moment_ev c.e hr hb
  refine er_run ?_
  unfold g_cue_moved
  refine ev_seq (ev_asg (d := .int (mv p r c.b)) (ev_call (ds := [pl (p :: r), .int c.b]) (ev_cons (ev_var rfl) (ev_cons (ev_2 (x := q4 c) (ev_var rfl) ev_c rfl) ev_nil)) mb)) ?_
  refine ev_seq (ev_asg (d := .int (mv p r c.e)) (ev_call (ds := [pl (p :: r), .int c.e]) (ev_cons (ev_var rfl) (ev_cons (ev_2 (x := q4 c) (ev_var rfl) ev_c rfl) ev_nil)) me)) ?_
  refine er_seq (er_if_t ?_ (ev_raiseF (ev_cons (ev_var rfl) ev_nil) hk))
  have h1 : dB (d2 oLt (dVar 3) (dC (.int 0))) [.vl (pl (p :: r)), .vl (q4 c), .vl (.int k), .vl (.int (mv p r c.b)), .vl (.int (mv p r c.e))] = M.ret (decide (mv p r c.b < 0)) := ev_b (ev_2 (ev_var rfl) ev_c o_lt)
  have h2 : dB (d2 oEq (dVar 3) (dVar 4)) [.vl (pl (p :: r)), .vl (q4 c), .vl (.int k), .vl (.int (mv p r c.b)), .vl (.int (mv p r c.e))] = M.ret (decide (mv p r c.b = mv p r c.e)) := ev_b (ev_2 (ev_var rfl) (ev_var rfl) o_eq)
  have h3 : (decide (mv p r c.b < 0) || decide (mv p r c.b = mv p r c.e)) = true := by
    unfold room at h
    rwa [Bool.not_eq_false'] at h
  by_cases hc : mv p r c.b < 0
  · exact ev_or_t (by rw [decide_eq_true hc] at h1; exact h1)
  · rw [decide_eq_false hc] at h1
    rw [decide_eq_false hc, Bool.false_or] at h3
    rw [h3] at h2
    exact ev_or_f h1 h2
noncomputable abbrev eltX : DS → M D := dCall F_cue_moved (dCons (dVar 2) (dCons (dVar 1) (dCons (dVar 0) dNil)))
noncomputable abbrev eltN : DS → M D := dCall (fun ds => noX (F_cue_moved ds)) (dCons (dVar 2) (dCons (dVar 1) (dCons (dVar 0) dNil)))
abbrev tgE : D → DS → Option DS := tgTup 2 (tgCons (tgN 0) (tgCons (tgN 1) tgNil))
theorem comp_okX (hr : Ris (p :: r)) (hb : Bd (p :: r)) : ∀ (cs : List Q4) (k : Nat) (x0 x1 : Sl), (∀ c ∈ cs, room (mv p r) c = true) → compD tgE (nX dYes) eltX (enumD k (cs.map q4)) [x0, x1, .vl (pl (p :: r))] = M.ret ((cs.map (mq (mv p r))).map q4)
  | [], _, _, _, _ => rfl
  | c :: cs, k, x0, x1, h => by
    have hc := cue_ok (k := (k : Int)) hr hb (h c List.mem_cons_self)
    exact ev_compXC (δ' := [.vl (.int (k : Int)), .vl (q4 c), .vl (pl (p :: r))]) rfl (ev_callX (ev_cons (ev_var rfl) (ev_cons (ev_var rfl) (ev_cons (ev_var rfl) ev_nil))) hc) (comp_okX hr hb cs (k + 1) _ _ fun d hd => h d (List.mem_cons_of_mem _ hd))
theorem comp_okN (hr : Ris (p :: r)) (hb : Bd (p :: r)) : ∀ (cs : List Q4) (k : Nat) (x0 x1 : Sl), (∀ c ∈ cs, room (mv p r) c = true) → compD tgE (nX dYes) (nX eltN) (enumD k (cs.map q4)) [x0, x1, .vl (pl (p :: r))] = M.ret ((cs.map (mq (mv p r))).map q4)
  | [], _, _, _, _ => rfl
  | c :: cs, k, x0, x1, h => by
    have hc := cue_ok (k := (k : Int)) hr hb (h c List.mem_cons_self)
    exact ev_compC (δ' := [.vl (.int (k : Int)), .vl (q4 c), .vl (pl (p :: r))]) rfl (ev_call (ev_cons (ev_var rfl) (ev_cons (ev_var rfl) (ev_cons (ev_var rfl) ev_nil))) hc) (comp_okN hr hb cs (k + 1) _ _ fun d hd => h d (List.mem_cons_of_mem _ hd))
theorem comp_noX {c : Q4} {post : List Q4} (hr : Ris (p :: r)) (hb : Bd (p :: r)) (hc : room (mv p r) c = false) : ∀ (cs : List Q4) (k : Nat) (x0 x1 : Sl), (∀ c ∈ cs, room (mv p r) c = true) → okXI ((k + cs.length : Nat) : Int) = true →
    compD tgE (nX dYes) eltX (enumD k ((cs ++ c :: post).map q4)) [x0, x1, .vl (pl (p :: r))] = some (.error ⟨"NoRoom", [("at", .int ((k + cs.length : Nat) : Int))]⟩)
  | [], k, x0, x1, _, hk => er_compX0 (δ' := [.vl (.int (k : Int)), .vl (q4 c), .vl (pl (p :: r))]) rfl (er_callX (ev_cons (ev_var rfl) (ev_cons (ev_var rfl) (ev_cons (ev_var rfl) ev_nil))) (cue_no (k := (k : Int)) hr hb hc hk))
  | d :: cs, k, x0, x1, h, hk => by
    have hd := cue_ok (k := (k : Int)) hr hb (h d List.mem_cons_self)
    have e : k + (d :: cs).length = (k + 1) + cs.length := by rw [List.length_cons]; omega
    rw [e] at hk ⊢
    exact er_compXC (δ' := [.vl (.int (k : Int)), .vl (q4 d), .vl (pl (p :: r))]) rfl (ev_callX (ev_cons (ev_var rfl) (ev_cons (ev_var rfl) (ev_cons (ev_var rfl) ev_nil))) hd) (comp_noX hr hb hc cs (k + 1) _ _ (fun e he => h e (List.mem_cons_of_mem _ he)) hk)
theorem mvc_ok {cs : List Q4} (hr : Ris (p :: r)) (hb : Bd (p :: r)) (hz : r.length ≤ 1000) (hl : cs.length ≤ 1000) (h : ∀ c ∈ cs, room (mv p r) c = true) : F_moved_cues [pl (p :: r), .list (cs.map q4)] = M.ret (.list ((cs.map (mq (mv p r))).map q4)) := by
  have h1 := refuse_ev hr hz
  refine ev_run ?_
  unfold g_moved_cues
  refine ev_seq (ev_dropq (ev_callX (ev_cons (ev_var rfl) ev_nil) h1)) ?_
  exact ev_ret (ev_compX (ds := enumD 0 (cs.map q4)) (ev_enumS (ev_cons (ev_var rfl) ev_nil)) (small_of (by rw [enumD_len, List.length_map]; omega)) (comp_okX hr hb cs 0 .un .un h))
theorem mvc_new {cs : List Q4} (hr : Ris (p :: r)) (hb : Bd (p :: r)) (hz : r.length ≤ 1000) (hl : cs.length ≤ 1000) (h : ∀ c ∈ cs, room (mv p r) c = true) : F_moved_cues_new [pl (p :: r), .list (cs.map q4)] = M.ret (.list ((cs.map (mq (mv p r))).map q4)) := by
  have h1 := refuse_ev hr hz
  refine ev_run ?_
  unfold g_moved_cues_new
  refine ev_seqN' (ev_dropq (ev_call (ev_cons (ev_var rfl) ev_nil) h1)) ?_
  exact ev_ret (ev_compG (ds := enumD 0 (cs.map q4)) (ev_enumS (ev_cons (ev_var rfl) ev_nil)) (small_of (by rw [enumD_len, List.length_map]; omega)) (comp_okN hr hb cs 0 .un .un h))
theorem mvc_no {cs post : List Q4} {c : Q4} (hr : Ris (p :: r)) (hb : Bd (p :: r)) (hz : r.length ≤ 1000) (hl : (cs ++ c :: post).length ≤ 1000) (h : ∀ c ∈ cs, room (mv p r) c = true) (hc : room (mv p r) c = false) (hk : okXI ((cs.length : Nat) : Int) = true) :
    F_moved_cues [pl (p :: r), .list ((cs ++ c :: post).map q4)] = some (.error ⟨"NoRoom", [("at", .int ((cs.length : Nat) : Int))]⟩) := by
  have h1 := refuse_ev hr hz
  refine er_run ?_
  unfold g_moved_cues
  refine ev_seq (ev_dropq (ev_callX (ev_cons (ev_var rfl) ev_nil) h1)) ?_
  have := comp_noX (post := post) hr hb hc cs 0 .un .un h (by rw [Nat.zero_add]; exact hk)
  rw [Nat.zero_add] at this
  exact er_ret (er_compX (ds := enumD 0 ((cs ++ c :: post).map q4)) (ev_enumS (ev_cons (ev_var rfl) ev_nil)) (small_of (by rw [enumD_len, List.length_map]; omega)) this)
end
/-- the law's own sum -/
def lawL : (Int × Int) → List (Int × Int) → Int → Option Int
  | _, [], _ => none
  | p, q :: r, n => if n < q.1 then some (mid p q n) else lawL q r n
theorem mid_first {p q : Int × Int} (h : p.1 < q.1) : mid p q p.1 = p.2 := by
  unfold mid near
  have e : (p.1 - p.1) * (q.2 - p.2) = 0 := by rw [Int.sub_self, Int.zero_mul]
  rw [e]
  have : (2 * 0 + (q.1 - p.1)) / (2 * (q.1 - p.1)) = 0 := Int.ediv_eq_zero_of_lt (by omega) (by omega)
  omega
theorem mid_last {p q : Int × Int} (h : p.1 < q.1) : mid p q q.1 = q.2 := by
  unfold mid
  rw [near_exact (by omega)]
  omega
theorem law_mv : ∀ (r : List (Int × Int)) (p : Int × Int) (n : Int), Ris (p :: r) → p.1 ≤ n →
    ((lawL p r n).getD (n + ((lastP p r).2 - (lastP p r).1))) = if n = p.1 then p.2 else (mvL p r n).getD (n + ((lastP p r).2 - (lastP p r).1))
  | [], p, n, _, h => by
    show n + (p.2 - p.1) = if n = p.1 then p.2 else n + (p.2 - p.1)
    split <;> omega
  | q :: r, p, n, hr, h => by
    have h1 := hr.1.1
    show ((if n < q.1 then some (mid p q n) else lawL q r n).getD (n + ((lastP q r).2 - (lastP q r).1))) = if n = p.1 then p.2 else (if n ≤ q.1 then some (mid p q n) else mvL q r n).getD (n + ((lastP q r).2 - (lastP q r).1))
    by_cases hn : n < q.1
    · rw [if_pos hn, if_pos (show n ≤ q.1 by omega)]
      by_cases h0 : n = p.1
      · rw [if_pos h0, h0]
        exact mid_first h1
      · rw [if_neg h0]
    · rw [if_neg hn, law_mv r q n hr.2 (by omega), if_neg (show ¬ n = p.1 by omega)]
      by_cases h0 : n = q.1
      · rw [if_pos h0, if_pos (show n ≤ q.1 by omega), h0]
        exact (mid_last h1).symm
      · rw [if_neg h0, if_neg (show ¬ n ≤ q.1 by omega)]
theorem mv_law {p : Int × Int} {r : List (Int × Int)} {n : Int} (hr : Ris (p :: r)) (h : ¬ n < p.1) : mv p r n = (lawL p r n).getD (n + ((lastP p r).2 - (lastP p r).1)) := by
  rw [law_mv r p n hr (by omega)]
  unfold mv
  by_cases h0 : n = p.1
  · rw [if_pos h0, if_pos (show n ≤ p.1 by omega)]
    omega
  · rw [if_neg h0, if_neg (show ¬ n ≤ p.1 by omega)]
    cases mvL p r n <;> rfl
end CT
namespace K25
open PySem PySem.Spec L2 DL CT
noncomputable def g__law_cell_at : DS → M Out := (gSeq (gIf (dB (d2 oLt (dVar 1) (dCB oLen (dCons (dVar 0) dNil)))) (gRet (d2 oIx (dVar 0) (dVar 1))) gNext)
    (gRet (dC (.int 0))))
noncomputable def F__law_cell_at : List D → M D := run 2 g__law_cell_at
noncomputable def g__law_mixed : DS → M Out := (gRet (d2 oMod (d2 oMul (d2 oMod (dVar 0) (dC (.int 2147483647))) (dVar 1)) (dC (.int 2147483647))))
noncomputable def F__law_mixed : List D → M D := run 2 g__law_mixed
noncomputable def b__law_places_0 : DS → M Out := (gSeq (gAsg (d2 oAdd (d2 oAdd (dVar 1) (dC (.int 1))) (d2 oMod (dCall (fun ds => noX (F__law_mixed ds)) (dCons (dVar 4) (dCons (dC (.int 48271)) dNil))) (dC (.int 3000)))) (tgN 1))
    (gSeq (gAsg (dCall (fun ds => noX (F__law_mixed ds)) (dCons (dVar 4) (dCons (dC (.int 69621)) dNil))) (tgN 5))
    (gSeq (gAsg (d2 oAdd (d2 oAdd (dVar 2) (dC (.int 1))) (d2 oIx (dLst (dCons (d2 oMod (d2 oDiv (dVar 5) (dC (.int 4))) (dC (.int 3000))) (dCons (d2 oMod (d2 oDiv (dVar 5) (dC (.int 4))) (dC (.int 3000))) (dCons (d2 oMod (d2 oDiv (dVar 5) (dC (.int 4))) (dC (.int 20))) (dCons (dC (.int 0)) dNil))))) (d2 oMod (dVar 5) (dC (.int 4))))) (tgN 2))
    (gApp 3 (dTup (dCons (dVar 1) (dCons (dVar 2) dNil)))))))
noncomputable def g__law_places : DS → M Out := (gSeq (gAsg (d2 oMod (dCall (fun ds => noX (F__law_mixed ds)) (dCons (dCall (fun ds => noX (F__law_cell_at ds)) (dCons (dVar 0) (dCons (dC (.int 0)) dNil))) (dCons (dC (.int 48271)) dNil))) (dC (.int 5000))) (tgN 1))
    (gSeq (gAsg (d2 oAdd (d2 oSub (dVar 1) (dC (.int 300))) (d2 oMod (dCall (fun ds => noX (F__law_mixed ds)) (dCons (dCall (fun ds => noX (F__law_cell_at ds)) (dCons (dVar 0) (dCons (dC (.int 1)) dNil))) (dCons (dC (.int 48271)) dNil))) (dC (.int 1000)))) (tgN 2))
    (gSeq (gNewL 3 (nLst (dCons (dTup (dCons (dVar 1) (dCons (dVar 2) dNil))) dNil)))
    (gSeq (gForI (dAny (dCutS (dVar 0) (dPart (dC (.int 2))) (dPart (dC (.int 8))))) (tgN 4) b__law_places_0)
    (gRetO 3)))))
noncomputable def F__law_places : List D → M D := run 6 g__law_places
noncomputable def b__law_cues_0 : DS → M Out := (gSeq (gAsg (dCall (fun ds => noX (F__law_mixed ds)) (dCons (dVar 3) (dCons (dC (.int 16807)) dNil))) (tgN 4))
    (gSeq (gAsg (d2 oAdd (dVar 2) (d2 oIx (dLst (dCons (dC (.int 0)) (dCons (d2 oMod (d2 oDiv (dVar 4) (dC (.int 8))) (dC (.int 600))) (dCons (d2 oMod (d2 oDiv (dVar 4) (dC (.int 8))) (dC (.int 600))) (dCons (d2 oMod (d2 oDiv (dVar 4) (dC (.int 8))) (dC (.int 600))) dNil))))) (d2 oMod (dVar 4) (dC (.int 4))))) (tgN 2))
    (gSeq (gAsg (d2 oAdd (d2 oAdd (dVar 2) (dC (.int 1))) (d2 oIx (dLst (dCons (d2 oMod (d2 oDiv (dVar 4) (dC (.int 16))) (dC (.int 900))) (dCons (d2 oMod (d2 oDiv (dVar 4) (dC (.int 16))) (dC (.int 900))) (dCons (d2 oMod (d2 oDiv (dVar 4) (dC (.int 16))) (dC (.int 4))) dNil)))) (d2 oMod (d2 oDiv (dVar 4) (dC (.int 4))) (dC (.int 3))))) (tgN 5))
    (gSeq (gAsg (dMeth sJoin (dC (.str "")) (dCons (dCompG 1 [4] (tgN 0) (dRng rng1 (dCons (d2 oAdd (dC (.int 1)) (d2 oMod (dVar 4) (dC (.int 8)))) dNil)) dYes (d2 oIx (dC (.str "abcdefghijklmnopqrstuvwxyz")) (d2 oMod (d2 oDiv (dVar 1) (d2 oAdd (dVar 0) (dC (.int 3)))) (dC (.int 26))))) dNil)) (tgN 6))
    (gSeq (gAsg (d2 oIx (dLst (dCons (dC (.str "Well.")) (dCons (dC (.str "no, a-b")) (dCons (dC (.str "(x) \"so\"")) (dCons (dC (.str "it's 100")) dNil))))) (d2 oMod (d2 oDiv (dVar 4) (dC (.int 32))) (dC (.int 4)))) (tgN 7))
    (gApp 1 (dTup (dCons (dVar 2) (dCons (dVar 5) (dCons (dVar 6) (dCons (dVar 7) dNil)))))))))))
noncomputable def g__law_cues : DS → M Out := (gSeq (gNewL 1 (nLst dNil))
    (gSeq (gAsg (dC (.int 0)) (tgN 2))
    (gSeq (gForI (dAny (d2 oAdd (dLst (dCons (dCall (fun ds => noX (F__law_cell_at ds)) (dCons (dVar 0) (dCons (dC (.int 8)) dNil))) dNil)) (dCutS (dVar 0) (dPart (dC (.int 9))) (dPart (dC (.int 39)))))) (tgN 3) b__law_cues_0)
    (gRetO 1))))
noncomputable def F__law_cues : List D → M D := run 8 g__law_cues
noncomputable def b__law_at_0 : DS → M Out := (gSeq (gAsg (d2 oIx (dVar 0) (d2 oSub (dVar 2) (dC (.int 1)))) (tgTup 2 (tgCons (tgN 3) (tgCons (tgN 4) tgNil))))
    (gSeq (gAsg (d2 oIx (dVar 0) (dVar 2)) (tgTup 2 (tgCons (tgN 5) (tgCons (tgN 6) tgNil))))
    (gIf (dB (d2 oLt (dVar 1) (dVar 5))) (gRet (d2 oAdd (dVar 4) (d2 oDiv (d2 oSub (d2 oAdd (d2 oMul (d2 oMul (dC (.int 2)) (d2 oSub (dVar 1) (dVar 3))) (d2 oSub (dVar 6) (dVar 4))) (dVar 5)) (dVar 3)) (d2 oMul (dC (.int 2)) (d2 oSub (dVar 5) (dVar 3)))))) gNext)))
noncomputable def g__law_at : DS → M Out := (gSeq (gIf (dB (d2 oLt (dVar 1) (d2 oIx (d2 oIx (dVar 0) (dC (.int 0))) (dC (.int 0))))) (gRet (d2 oAdd (d2 oSub (dVar 1) (d2 oIx (d2 oIx (dVar 0) (dC (.int 0))) (dC (.int 0)))) (d2 oIx (d2 oIx (dVar 0) (dC (.int 0))) (dC (.int 1))))) gNext)
    (gSeq (gForI (dRng rng2 (dCons (dC (.int 1)) (dCons (dCB oLen (dCons (dVar 0) dNil)) dNil))) (tgN 2) b__law_at_0)
    (gRet (d2 oAdd (d2 oSub (dVar 1) (d2 oIx (d2 oIx (dVar 0) (d1 oNeg (dC (.int 1)))) (dC (.int 0)))) (d2 oIx (d2 oIx (dVar 0) (d1 oNeg (dC (.int 1)))) (dC (.int 1)))))))
noncomputable def F__law_at : List D → M D := run 7 g__law_at
noncomputable def g__law_told : DS → M Out := (gSeq (gAsg (dC .none) (tgN 2))
    (gSeq (gTryF "NoRoom" "at" 4 3 (gAsg (dCall F_moved_cues (dCons (dVar 0) (dCons (dVar 1) dNil))) (tgN 2)) (fun a j => (gAsg (dTup (dCons (dC (.str "refused")) (dCons (dXat a 3 j) (dCons (dAndV (dIsX a 3 true) (dNotV (dIsX a 3 false))) dNil)))) (tgN 2))))
    (gRet (dVar 2))))
noncomputable def F__law_told : List D → M D := run 4 g__law_told
noncomputable def b__law_same_0 : DS → M Out := (gIf (dOr (dNot (dB (dIs "tuple" (dVar 2)))) (dOr (dB (dIs "bool" (d2 oIx (dVar 2) (dC (.int 0))))) (dB (dIs "bool" (d2 oIx (dVar 2) (dC (.int 1))))))) (gRet (dC (.bool false))) gNext)
noncomputable def g__law_same : DS → M Out := (gSeq (gIf (dOr (dNot (dB (dIs "list" (dVar 0)))) (dB (d2 oNe (dVar 0) (dVar 1)))) (gRet (dC (.bool false))) gNext)
    (gSeq (gForI (dAny (dVar 0)) (tgN 2) b__law_same_0)
    (gRet (dC (.bool true)))))
noncomputable def F__law_same : List D → M D := run 3 g__law_same
noncomputable def g__law_told_new : DS → M Out := (gSeqN (gAsg (dC .none) (tgN 2))
    (gSeqN (gTry0 (gNewL 2 (nF (dCall (fun ds => noX (F_moved_cues_new ds)) (dCons (dVar 0) (dCons (dVar 1) dNil))))))
    (gRetF 2)))
noncomputable def F__law_told_new : List D → M D := run 4 g__law_told_new
noncomputable def b_law_0 : DS → M Out := (gSeq (gAsg (dTup (dCons (dCall (fun ds => noX (F__law_at ds)) (dCons (dVar 1) (dCons (dVar 7) dNil))) (dCons (dCall (fun ds => noX (F__law_at ds)) (dCons (dVar 1) (dCons (dVar 8) dNil))) (dCons (dVar 9) (dCons (dVar 10) dNil))))) (tgN 11))
    (gSeq (gIf (dOr (dB (d2 oLt (d2 oIx (dVar 11) (dC (.int 0))) (dC (.int 0)))) (dB (d2 oEq (d2 oIx (dVar 11) (dC (.int 0))) (d2 oIx (dVar 11) (dC (.int 1)))))) gBreak gNext)
    (gApp 3 (dVar 11))))
noncomputable def g_law : DS → M Out := (gSeq (gAsg (dCall (fun ds => noX (F__law_places ds)) (dCons (dVar 0) dNil)) (tgN 1))
    (gSeq (gAsg (dCall (fun ds => noX (F__law_cues ds)) (dCons (dVar 0) dNil)) (tgN 2))
    (gSeq (gNewL 3 (nLst dNil))
    (gSeq (gForI (dAny (dVar 2)) (tgTup 4 (tgCons (tgN 7) (tgCons (tgN 8) (tgCons (tgN 9) (tgCons (tgN 10) tgNil))))) b_law_0)
    (gSeq (gAsg (dLst (dCons (dCB oListOf (dCons (dVar 1) dNil)) (dCons (dCB oListOf (dCons (dVar 2) dNil)) dNil))) (tgN 4))
    (gSeq (gAsg (dCall (fun ds => noX (F__law_told ds)) (dCons (d2 oIx (dVar 4) (dC (.int 0))) (dCons (d2 oIx (dVar 4) (dC (.int 1))) dNil))) (tgN 5))
    (gFrz 3 (gSeq (gIf (dAnd (dB (d2 oLt (dCB oLen (dCons (dVar 3) dNil)) (dCB oLen (dCons (dVar 2) dNil)))) (dB (d2 oNe (dVar 5) (dTup (dCons (dC (.str "refused")) (dCons (dCB oLen (dCons (dVar 3) dNil)) (dCons (dC (.bool true)) dNil))))))) (gRet (dC (.bool false))) gNext)
    (gSeq (gIf (dAnd (dB (d2 oEq (dCB oLen (dCons (dVar 3) dNil)) (dCB oLen (dCons (dVar 2) dNil)))) (dNot (dB (dCall (fun ds => noX (F__law_same ds)) (dCons (dVar 5) (dCons (dVar 3) dNil)))))) (gRet (dC (.bool false))) gNext)
    (gSeq (gNewL 6 (nF (dCall (fun ds => noX (F__law_told_new ds)) (dCons (d2 oIx (dVar 4) (dC (.int 0))) (dCons (dCutS (dVar 2) dNoPart (dPart (dCB oLen (dCons (dVar 3) dNil)))) dNil)))))
    (gSeq (gIf (dLendT 6 (dOr (dNot (dB (dCall (fun ds => noX (F__law_same ds)) (dCons (dVar 6) (dCons (dVar 3) dNil))))) (dB (d2 oNe (dVar 4) (dLst (dCons (dVar 1) (dCons (dVar 2) dNil))))))) (gRet (dC (.bool false))) gNext)
    (gSeq (gApp 6 (d2 oIx (dVar 2) (dC (.int 0))))
    (gRet (dCall (fun ds => noX (F__law_same ds)) (dCons (dCall (fun ds => noX (F__law_told ds)) (dCons (dVar 1) (dCons (dCutS (dVar 2) dNoPart (dPart (dCB oLen (dCons (dVar 3) dNil)))) dNil))) (dCons (dVar 3) dNil))))))))))))))))
noncomputable def F_law : List D → M D := run 12 g_law
end K25
open PySem PySem.Spec L2 DL CT
namespace K25
theorem cell_at_ev (ns : List Int) (k : Int) (k0 : 0 ≤ k) : ∃ c, F__law_cell_at [.list (ns.map PyData.int), .int k] = M.ret (.int c) := by
  by_cases h : k.toNat < ns.length
  · refine ⟨ns[k.toNat], ev_run ?_⟩
    unfold g__law_cell_at
    refine ev_seqIf (b := true) ?_ (ite_T rfl (ev_seqR (ev_ret ?_)))
    · walk_at "ev"
      first | rw [o_lt, List.length_map, decide_eq_true (by omega)] | rw [o_ltD, List.length_map, decide_eq_true (by omega)]
    · refine ev_2 (ev_var rfl) (ev_var rfl) (ix_nat k0 ?_)
      rw [List.getElem?_map, List.getElem?_eq_getElem h]
      rfl
  · refine ⟨0, ev_run ?_⟩
    unfold g__law_cell_at
    refine ev_seqIf (b := false) ?_ (ite_F rfl (ev_seqN ?_))
    · walk_at "ev"
      first | rw [o_lt, List.length_map, decide_eq_false (by omega)] | rw [o_ltD, List.length_map, decide_eq_false (by omega)]
    · walk_at "ev"
/-- an item of a written list -/
theorem item {ds : List D} {P : Int → Prop} {i : Int} (h0 : 0 ≤ i) (h1 : i < ds.length) (hP : ∀ d ∈ ds, ∃ n, d = .int n ∧ P n) : ∃ n, oIx (.list ds) (.int i) = some (.int n) ∧ P n := by
  obtain ⟨d, hd, e⟩ := ix_in h0 h1
  obtain ⟨n, rfl, p⟩ := hP d hd
  exact ⟨n, e, p⟩
theorem al {P : Int → Prop} {a : Int} {r : List D} (h : P a) (hr : ∀ x ∈ r, ∃ n, x = .int n ∧ P n) : ∀ x ∈ (PyData.int a) :: r, ∃ n, x = .int n ∧ P n := by
  intro x hx
  rcases List.mem_cons.mp hx with rfl | hx
  · exact ⟨a, rfl, h⟩
  · exact hr x hx
theorem al0 {P : Int → Prop} : ∀ x ∈ ([] : List D), ∃ n, x = .int n ∧ P n := fun x hx => nomatch hx
theorem cut_ints {ns : List Int} {lo hi : Option Int} {d : D} (h : d ∈ cutD (ns.map PyData.int) lo hi) : ∃ c, d = .int c := by
  have h1 := List.mem_of_mem_drop (List.mem_of_mem_take h)
  obtain ⟨c, _, e⟩ := List.mem_map.mp h1
  exact ⟨c, e.symm⟩

theorem cut_len {α : Type} (xs : List α) (lo hi : Option Int) : (cutD xs lo hi).length ≤ xs.length := by
  unfold cutD
  rw [List.length_take, List.length_drop]
  omega
/-- [c] + script[lo:hi] -/
theorem cellsC (ns : List Int) (hl : ns.length ≤ 63) (c : Int) (lo hi : Option Int) : oAdd (.list [.int c]) (.list (cutD (ns.map PyData.int) lo hi)) = some (.list (PyData.int c :: cutD (ns.map PyData.int) lo hi)) := by
  refine o_addL (small_of ?_)
  have := cut_len (ns.map PyData.int) lo hi
  rw [List.length_map] at this
  show 1 + _ ≤ _
  omega
theorem cellsC_int {ns : List Int} {c : Int} {lo hi : Option Int} {d : D} (h : d ∈ PyData.int c :: cutD (ns.map PyData.int) lo hi) : ∃ c, d = .int c := by
  rcases List.mem_cons.mp h with rfl | h
  · exact ⟨c, rfl⟩
  · exact cut_ints h
/-- [0] + script[lo:hi] -/
theorem cells (ns : List Int) (hl : ns.length ≤ 63) (lo hi : Option Int) : oAdd (.list [.int 0]) (.list (cutD (ns.map PyData.int) lo hi)) = some (.list (PyData.int 0 :: cutD (ns.map PyData.int) lo hi)) := by
  refine o_addL (small_of ?_)
  have := cut_len (ns.map PyData.int) lo hi
  rw [List.length_map] at this
  show 1 + _ ≤ _
  omega
end K25
open PySem PySem.Spec L2 DL CT TX NumText
namespace K25
theorem mixed_ev (c b : Int) (b0 : 0 ≤ b) (b1 : b < 100000000) : ∃ m, (0 ≤ m ∧ m < 2147483647) ∧ F__law_mixed [.int c, .int b] = M.ret (.int m) := by
  refine ⟨c % 2147483647 * b % 2147483647, by omega, ev_run ?_⟩
  unfold g__law_mixed
  walk_at "ev"
theorem sign_of {l : List Nat} {i : Int} (hl : l.length ≤ 1000) (h0 : 0 ≤ i) (h1 : i < l.length) : ∃ c, c ∈ l ∧ oIx (.str (S l)) (.int i) = some (.str (S [c])) := by
  have hi : i.toNat < l.length := by omega
  exact ⟨l[i.toNat], List.getElem_mem hi, ix_sign hl h0 (List.getElem?_eq_getElem hi)⟩
def azS : List Nat := [97, 98, 99, 100, 101, 102, 103, 104, 105, 106, 107, 108, 109, 110, 111, 112, 113, 114, 115, 116, 117, 118, 119, 120, 121, 122]
theorem join0 : ∀ ts : List (List Nat), (S []).join (ts.map S) = S ts.flatten
  | [] => rfl
  | [a] => by show S a = S [a].flatten; simp
  | a :: b :: r => by
    have ih := join0 (b :: r)
    show S a ++ S [] ++ (S []).join ((b :: r).map S) = _
    rw [ih, S_app, S_app, List.append_nil]
    rfl
theorem o_join0 {h : List Nat} (hl : h.length ≤ 1000) : sJoin (S []) [.list (h.map fun c => .str (S [c]))] = some (.str (S h)) := by
  have e : (h.map fun c => PyData.str (S [c])) = (h.map fun c => [c]).map fun l => .str (S l) := by rw [List.map_map]; rfl
  have hj : JoinOk (S []) ((h.map fun c => [c]).map S) = true := by
    have main : ∀ (ts : List Nat) (a : Nat), ((ts.map fun c => [c]).map S).foldl (fun x1 x2 => x1 + x2.length + (S []).length) a = a + ts.length := by
      intro ts
      induction ts with
      | nil => intro a; rfl
      | cons t r ih =>
        intro a
        rw [List.map_cons, List.map_cons, List.foldl_cons, ih, S_len, S_len]
        show a + 1 + 0 + r.length = a + (r.length + 1)
        omega
    unfold JoinOk
    rw [show Array.foldl (fun x1 x2 => x1 + x2.length + (S []).length) 0 ((h.map fun c => [c]).map S).toArray = h.length by rw [List.foldl_toArray' (h := rfl), main]; omega]
    show (!decide (h.length > sizeLine)) = true
    rw [sizeLine_eq, decide_eq_false (by omega)]
    rfl
  show (match strsOf (h.map fun c => PyData.str (S [c])) with | some ts => if JoinOk (S []) ts then some (PyData.str (Txt.join (S []) ts)) else none | none => none) = _
  rw [e, strsOf_S]
  show (if JoinOk (S []) ((h.map fun c => [c]).map S) = true then some (PyData.str (Builtin.Str.glued (S []) ((h.map fun c => [c]).map S))) else none) = _
  rw [if_pos hj, StrLaws.glued_eq_join, join0]
  congr 3
  clear hj e hl
  induction h with
  | nil => rfl
  | cons c h ih => rw [List.map_cons, List.flatten_cons, ih]; rfl
end K25
open PySem PySem.Spec L2 DL CT TX NumText
namespace DL
theorem er_asgD {δ : DS} {f : DS → M D} {t : D → DS → Option DS} {y : XD} (h : f δ = some (.error y)) : gAsg f t δ = some (.error y) := by unfold gAsg; rw [h]; rfl
theorem ne_selfD {d : D} (hc : d.canLay0 = true) (hd : d.depth ≤ 60) : oNe d d = some (.bool false) := by
  unfold oNe flat
  rw [hc, decide_eq_true (by omega : min d.depth d.depth ≤ 60), SeqAt.eqv_refl _ hc]
  rfl
end DL
namespace K25
theorem hand_ev (m : Int) (m0 : 0 ≤ m ∧ m < 2147483647) : ∃ h : List Nat, (∀ a ∈ h, 97 ≤ a ∧ a ≤ 122) ∧ ∀ δ : DS, slotAt δ 4 = .vl (.int m) → δ[4]? = some (.vl (.int m)) → dMeth sJoin (dC (.str "")) (dCons (dCompG 1 [4] (tgN 0) (dRng rng1 (dCons (d2 oAdd (dC (.int 1)) (d2 oMod (dVar 4) (dC (.int 8)))) dNil)) dYes (d2 oIx (dC (.str "abcdefghijklmnopqrstuvwxyz")) (d2 oMod (d2 oDiv (dVar 1) (d2 oAdd (dVar 0) (dC (.int 3)))) (dC (.int 26))))) dNil) δ = M.ret (.str (S h)) := by
  obtain ⟨n, hn⟩ : ∃ n : Nat, 1 + m % 8 = (n : Int) := ⟨(1 + m % 8).toNat, by omega⟩
  have n1 : 1 ≤ n ∧ n ≤ 8 := by omega
  have hr : rng1 [.int (n : Int)] = some (rngD 0 n) := by
    show (if b62 (n : Int) = true then some (rngD 0 (n : Int).toNat) else none) = _
    rw [if_pos (by unfold b62; simp; omega), Int.toNat_natCast]
  have hlen : (rngD 0 n).length = n := by unfold rngD; rw [List.length_map, List.length_range]
  have hands : ∀ (ks : List D) (x : Sl), (∀ d ∈ ks, ∃ k : Int, d = .int k ∧ 0 ≤ k ∧ k < 100) → ∃ h : List Nat, h.length = ks.length ∧ (∀ a ∈ h, 97 ≤ a ∧ a ≤ 122) ∧ compD (tgN 0) (nX dYes) (nX (d2 oIx (dC (.str "abcdefghijklmnopqrstuvwxyz")) (d2 oMod (d2 oDiv (dVar 1) (d2 oAdd (dVar 0) (dC (.int 3)))) (dC (.int 26))))) ks [x, .vl (.int m)] = M.ret (h.map fun a => .str (S [a])) := by
    intro ks
    induction ks with
    | nil => intro x _; exact ⟨[], rfl, (fun a ha => nomatch ha), rfl⟩
    | cons d ks ih =>
      intro x hk
      obtain ⟨k, rfl, k1, k2⟩ := hk d List.mem_cons_self
      obtain ⟨h, h1, h2, h3⟩ := ih (.vl (.int k)) fun e he => hk e (List.mem_cons_of_mem _ he)
      obtain ⟨a, ha, hx⟩ := sign_of (l := azS) (i := m / (k + 3) % 26) (by decide) (by omega) (by show m / (k + 3) % 26 < 26; omega)
      have hx : oIx (.str "abcdefghijklmnopqrstuvwxyz") (.int (m / (k + 3) % 26)) = some (.str (S [a])) := hx
      have har : 97 ≤ a ∧ a ≤ 122 := (by decide : ∀ x ∈ azS, 97 ≤ x ∧ x ≤ 122) a ha
      refine ⟨a :: h, by rw [List.length_cons, List.length_cons, h1], fun y hy => ?_, ?_⟩
      · rcases List.mem_cons.mp hy with rfl | hy
        · exact har
        · exact h2 y hy
      · exact ev_compC (δ' := [.vl (.int k), .vl (.int m)]) rfl (ev_2 (y := .int (m / (k + 3) % 26)) ev_c (ev_2 (x := .int (m / (k + 3))) (ev_2 (ev_var rfl) (ev_2 (ev_var rfl) ev_c o_add) (o_div (bDiv_of (by omega) (by omega)))) ev_c (o_mod (by decide))) hx) h3
  obtain ⟨h, h1, h2, h3⟩ := hands (rngD 0 n) .un fun d hd => by
    obtain ⟨k, rfl, k1, k2⟩ := mem_rngD hd
    exact ⟨k, rfl, k1, by omega⟩
  rw [hlen] at h1
  refine ⟨h, h2, fun δ hs hδ => ?_⟩
  refine ev_meth (z := S []) ev_c (ev_cons (x := .list (h.map fun a => .str (S [a]))) (ev_compG (ds := rngD 0 n) (ev_rngS (xs := [.int (n : Int)]) (ev_cons (ev_2 (x := .int 1) (y := .int (m % 8)) ev_c (ev_2 (ev_var hδ) ev_c (o_mod (by decide))) (by rw [o_add, hn])) ev_nil) hr) (small_of (by rw [hlen]; omega)) ?_) ev_nil) (o_join0 (by omega))
  show compD _ _ _ _ [.un, slotAt δ 4] = _
  rw [hs]
  exact h3


/-- texts that may be laid -/
def okT (c : Q4) : Prop := PyData.strOk c.h = true ∧ PyData.strOk c.w = true
theorem words_ok (i : Int) (h0 : 0 ≤ i) (h1 : i < 4) : ∃ w : Str, PyData.strOk w = true ∧ oIx (.list [.str "Well.", .str "no, a-b", .str "(x) \"so\"", .str "it's 100"]) (.int i) = some (.str w) := by
  have h : i = 0 ∨ i = 1 ∨ i = 2 ∨ i = 3 := by omega
  rcases h with rfl | rfl | rfl | rfl
  · exact ⟨"Well.", by decide +kernel, rfl⟩
  · exact ⟨"no, a-b", by decide +kernel, rfl⟩
  · exact ⟨"(x) \"so\"", by decide +kernel, rfl⟩
  · exact ⟨"it's 100", by decide +kernel, rfl⟩
theorem cues_ev (ns : List Int) (hl : ns.length ≤ 63) : ∃ cs : List Q4, cs.length ≤ 64 ∧ cs ≠ [] ∧ (∀ c ∈ cs, okT c) ∧ F__law_cues [.list (ns.map PyData.int)] = M.ret (.list (cs.map q4)) := by
  obtain ⟨c8, hc8⟩ := cell_at_ev ns 8 (by decide)
  obtain ⟨δ', h3, cs, b, x3, x4, x5, x6, x7, q1, q2, rfl⟩ := forD_pre (body := bodyD (tgN 3) b__law_cues_0) (fun pre δ => ∃ (cs : List Q4) (b : Int) (x3 x4 x5 x6 x7 : Sl), cs.length = pre.length ∧ (∀ c ∈ cs, okT c) ∧ δ = [.vl (.list (ns.map PyData.int)), .ow (cs.map q4), .vl (.int b), x3, x4, x5, x6, x7]) (PyData.int c8 :: cutD (ns.map PyData.int) (some 9) (some 39)) [] [.vl (.list (ns.map PyData.int)), .ow (([] : List Q4).map q4), .vl (.int 0), .un, .un, .un, .un, .un] ⟨[], 0, _, _, _, _, _, rfl, (fun c hc => nomatch hc), rfl⟩ fun pre d q δ e hδ => by
    obtain ⟨cs, b, x3, x4, x5, x6, x7, q1, q2, rfl⟩ := hδ
    have hd : d ∈ PyData.int c8 :: cutD (ns.map PyData.int) (some 9) (some 39) := by rw [List.nil_append] at e; rw [e]; exact List.mem_append_right _ List.mem_cons_self
    have hlen : pre.length ≤ 64 := by
      have h1 := congrArg List.length e
      have h2 := cut_len (ns.map PyData.int) (some 9) (some 39)
      rw [List.length_map] at h2
      rw [List.nil_append, List.length_append, List.length_cons] at h1
      omega
    obtain ⟨c, rfl⟩ := cellsC_int hd
    obtain ⟨m, m0, hm⟩ := mixed_ev c 16807 (by decide) (by decide)
    obtain ⟨s, hs, s1⟩ := item (P := fun b => 0 ≤ b) (i := m % 4) (by omega) (by show m % 4 < 4; omega) (al (a := 0) (by decide) (al (a := m / 8 % 600) (by omega) (al (a := m / 8 % 600) (by omega) (al (a := m / 8 % 600) (by omega) al0))))
    obtain ⟨t, ht, t1⟩ := item (P := fun b => 0 ≤ b) (i := m / 4 % 3) (by omega) (by show m / 4 % 3 < 3; omega) (al (a := m / 16 % 900) (by omega) (al (a := m / 16 % 900) (by omega) (al (a := m / 16 % 4) (by omega) al0)))
    obtain ⟨w, hw, hx⟩ := words_ok (m / 32 % 4) (by omega) (by omega)
    obtain ⟨h, hh, hhand⟩ := hand_ev m m0
    have gc : okT ⟨b + s, b + s + 1 + t, S h, w⟩ := ⟨ok_S fun c hc => by have := hh c hc; omega, hw⟩
    refine ⟨[.vl (.list (ns.map PyData.int)), .ow (cs.map q4 ++ [q4 ⟨b + s, b + s + 1 + t, S h, w⟩]), .vl (.int (b + s)), .vl (.int c), .vl (.int m), .vl (.int (b + s + 1 + t)), .vl (.str (S h)), .vl (.str w)], ?_, cs ++ [⟨b + s, b + s + 1 + t, S h, w⟩], b + s, _, _, _, _, _, by rw [List.length_append, List.length_append, q1]; rfl, fun y hy => ?_, by rw [List.map_append]; rfl⟩
    · refine ev_body (δ' := [.vl (.list (ns.map PyData.int)), .ow (cs.map q4), .vl (.int b), .vl (.int c), x4, x5, x6, x7]) rfl ?_
      unfold b__law_cues_0
      refine ev_seq (ev_asg (d := .int m) (by walk_at "ev")) ?_
      refine ev_seq (ev_asg (d := .int (b + s)) (by walk_at "ev")) ?_
      refine ev_seq (ev_asg (d := .int (b + s + 1 + t)) (by walk_at "ev")) ?_
      refine ev_seq (ev_asg (d := .str (S h)) (hhand _ rfl rfl)) ?_
      refine ev_seq (ev_asg (d := .str w) (ev_2 (y := .int (m / 32 % 4)) (ev_lst (ev_cons ev_c (ev_cons ev_c (ev_cons ev_c (ev_cons ev_c ev_nil)))) rfl) (by walk_at "ev") hx)) ?_
      exact ev_app (d := q4 ⟨b + s, b + s + 1 + t, S h, w⟩) rfl (ev_tup (ev_cons (ev_var rfl) (ev_cons (ev_var rfl) (ev_cons (ev_var rfl) (ev_cons (ev_var rfl) ev_nil)))) rfl) (small_of (by rw [List.length_map]; omega))
    · rcases List.mem_append.mp hy with hy | hy
      · exact q2 y hy
      · rw [List.mem_singleton] at hy; rw [hy]; exact gc
  rw [List.nil_append] at q1
  refine ⟨cs, ?_, ?_, q2, ev_run ?_⟩
  · have h2 := cut_len (ns.map PyData.int) (some 9) (some 39)
    rw [List.length_map] at h2
    rw [q1, List.length_cons]
    omega
  · intro z
    rw [z] at q1
    cases q1
  unfold g__law_cues
  refine ev_seq (ev_newL (ds := []) (ev_nLst ev_nil rfl)) ?_
  refine ev_seq (ev_asg (d := .int 0) ev_c) ?_
  exact ev_seq (ev_forG (ev_any (x := .list (PyData.int c8 :: cutD (ns.map PyData.int) (some 9) (some 39))) (ev_2 (x := .list [.int c8]) (y := .list (cutD (ns.map PyData.int) (some 9) (some 39))) (ev_lst (ev_cons (ev_call (ev_cons (ev_var rfl) (ev_cons ev_c ev_nil)) hc8) ev_nil) rfl) (ev_cutS (ev_var rfl) (ev_part ev_c) (ev_part ev_c) rfl) (cellsC ns hl c8 (some 9) (some 39))) rfl) h3) rfl
/-- the places under way -/
structure Wp (ps : List (Int × Int)) (k : Nat) (o n : Int) : Prop where
  last : ∃ r, ps = r ++ [(o, n)]
  ris : Ris ps
  len : ps.length = k + 1
  b1 : 0 ≤ o ∧ o ≤ 5000 + k * 3000
  b2 : -300 ≤ n ∧ n ≤ 6000 + k * 3000
  bd : k ≤ 100 → Bd ps
theorem Wp.next {ps : List (Int × Int)} {k : Nat} {o n s t : Int} (h : Wp ps k o n) (s1 : 1 ≤ s ∧ s ≤ 3000) (t1 : 1 ≤ t ∧ t ≤ 3000) : Wp (ps ++ [(o + s, n + t)]) (k + 1) (o + s) (n + t) := by
  obtain ⟨⟨r, rfl⟩, ris, len, b1, b2, bd⟩ := h
  refine ⟨⟨_, rfl⟩, Ris.snoc ris (by show o < o + s; omega) (by show n < n + t; omega), by rw [List.length_append, len]; rfl, by omega, by omega, fun hk p hp => ?_⟩
  rcases List.mem_append.mp hp with hp | hp
  · exact bd (by omega) p hp
  · rw [List.mem_singleton] at hp
    subst hp
    show -1000000000000000000 ≤ o + s ∧ o + s ≤ 1000000000000000000 ∧ -1000000000000000000 ≤ n + t ∧ n + t ≤ 1000000000000000000
    omega
theorem places_ev (ns : List Int) (hl : ns.length ≤ 63) : ∃ p r, Ris (p :: r) ∧ Bd (p :: r) ∧ r.length ≤ 64 ∧ F__law_places [.list (ns.map PyData.int)] = M.ret (pl (p :: r)) := by
  obtain ⟨c0, hc0⟩ := cell_at_ev ns 0 (by decide)
  obtain ⟨c1, hc1⟩ := cell_at_ev ns 1 (by decide)
  obtain ⟨m, m0, hm⟩ := mixed_ev c0 48271 (by decide) (by decide)
  obtain ⟨m', m0', hm'⟩ := mixed_ev c1 48271 (by decide) (by decide)
  obtain ⟨o0, ho⟩ : ∃ o0, o0 = m % 5000 := ⟨_, rfl⟩
  obtain ⟨n0, hn⟩ : ∃ n0, n0 = o0 - 300 + m' % 1000 := ⟨_, rfl⟩
  have w0 : Wp [(o0, n0)] 0 o0 n0 := ⟨⟨[], rfl⟩, trivial, rfl, by omega, by omega, fun _ p hp => by
    rw [List.mem_singleton] at hp
    subst hp
    show _ ≤ o0 ∧ o0 ≤ _ ∧ _ ≤ n0 ∧ n0 ≤ _
    omega⟩
  obtain ⟨δ', h3, ps, x4, x5, o, n, w, rfl⟩ := forD_pre (body := bodyD (tgN 4) b__law_places_0) (fun pre δ => ∃ (ps : List (Int × Int)) (x4 x5 : Sl) (o n : Int), Wp ps pre.length o n ∧ δ = [.vl (.list (ns.map PyData.int)), .vl (.int o), .vl (.int n), .ow (ps.map pr), x4, x5]) (cutD (ns.map PyData.int) (some 2) (some 8)) [] [.vl (.list (ns.map PyData.int)), .vl (.int o0), .vl (.int n0), .ow ([(o0, n0)].map pr), .un, .un] ⟨_, _, _, _, _, w0, rfl⟩ fun pre d q δ e hδ => by
    obtain ⟨ps, x4, x5, o, n, w, rfl⟩ := hδ
    rw [List.nil_append] at e
    have hd : d ∈ cutD (ns.map PyData.int) (some 2) (some 8) := by rw [e]; exact List.mem_append_right _ List.mem_cons_self
    have hlen : pre.length ≤ 64 := by
      have h1 := congrArg List.length e
      have h2 := cut_len (ns.map PyData.int) (some 2) (some 8)
      rw [List.length_map] at h2
      rw [List.length_append] at h1
      omega
    obtain ⟨c, rfl⟩ := cut_ints hd
    obtain ⟨m1, m10, hm1⟩ := mixed_ev c 48271 (by decide) (by decide)
    obtain ⟨m2, m20, hm2⟩ := mixed_ev c 69621 (by decide) (by decide)
    obtain ⟨t, ht, t1⟩ := item (P := fun b => 0 ≤ b ∧ b < 3000) (i := m2 % 4) (by omega) (by show m2 % 4 < 4; omega) (al (a := m2 / 4 % 3000) (by omega) (al (a := m2 / 4 % 3000) (by omega) (al (a := m2 / 4 % 20) (by omega) (al (a := 0) (by omega) al0))))
    have wn := w.next (s := 1 + m1 % 3000) (t := 1 + t) (by omega) (by omega)
    have e1 : o + (1 + m1 % 3000) = o + 1 + m1 % 3000 := by omega
    have e2 : n + (1 + t) = n + 1 + t := by omega
    rw [e1, e2] at wn
    refine ⟨[.vl (.list (ns.map PyData.int)), .vl (.int (o + 1 + m1 % 3000)), .vl (.int (n + 1 + t)), .ow ((ps ++ [(o + 1 + m1 % 3000, n + 1 + t)]).map pr), .vl (.int c), .vl (.int m2)], ?_, ps ++ [(o + 1 + m1 % 3000, n + 1 + t)], _, _, _, _, by rw [List.length_append]; exact wn, rfl⟩
    refine ev_body (δ' := [.vl (.list (ns.map PyData.int)), .vl (.int o), .vl (.int n), .ow (ps.map pr), .vl (.int c), x5]) rfl ?_
    unfold b__law_places_0
    refine ev_seq (ev_asg (d := .int (o + 1 + m1 % 3000)) (by walk_at "ev")) ?_
    refine ev_seq (ev_asg (d := .int m2) (by walk_at "ev")) ?_
    refine ev_seq (ev_asg (d := .int (n + 1 + t)) (by walk_at "ev")) ?_
    rw [List.map_append]
    refine ev_app (d := pr (o + 1 + m1 % 3000, n + 1 + t)) rfl (by walk_at "ev") (small_of ?_)
    rw [List.length_map, w.len]
    omega
  rw [List.nil_append] at w
  have hk : (cutD (ns.map PyData.int) (some 2) (some 8)).length ≤ 63 := by
    have h2 := cut_len (ns.map PyData.int) (some 2) (some 8)
    rw [List.length_map] at h2
    omega
  have hF : F__law_places [.list (ns.map PyData.int)] = M.ret (pl ps) := by
    refine ev_run ?_
    unfold g__law_places
    refine ev_seq (ev_asg (d := .int o0) (by rw [ho]; walk_at "ev")) ?_
    refine ev_seq (ev_asg (d := .int n0) (by rw [hn]; walk_at "ev")) ?_
    refine ev_seq (ev_newL (ds := [pr (o0, n0)]) (ev_nLst (by walk_at "ev") rfl)) ?_
    exact ev_seq (ev_forG (ev_any (x := .list (cutD (ns.map PyData.int) (some 2) (some 8))) (ev_cutS (ev_var rfl) (ev_part ev_c) (ev_part ev_c) rfl) rfl) h3) rfl
  cases ps with
  | nil => have := w.len; cases this
  | cons p r => exact ⟨p, r, w.ris, w.bd (by omega), by have := w.len; rw [List.length_cons] at this; omega, hF⟩
end K25
open PySem PySem.Spec L2 DL CT TX NumText
namespace K25
theorem rngD_cons (lo : Int) (n : Nat) : rngD lo (n + 1) = PyData.int lo :: rngD (lo + 1) n := by
  unfold rngD
  rw [List.range_succ_eq_map, List.map_cons, List.map_map]
  congr 1
  · rw [Int.natCast_zero, Int.add_zero]
  · refine List.map_congr_left fun i _ => ?_
    show PyData.int (lo + ((i + 1 : Nat) : Int)) = PyData.int (lo + 1 + (i : Int))
    congr 1
    omega
theorem ix_pl {ps : List (Int × Int)} {k : Nat} {q : Int × Int} (h : ps[k]? = some q) : oIx (pl ps) (.int (k : Int)) = some (pr q) := by
  refine ix_nat (by omega) ?_
  rw [Int.toNat_natCast, List.getElem?_map, h]
  rfl
theorem mid_law {p q : Int × Int} {n : Int} : p.2 + ((2 * (n - p.1)) * (q.2 - p.2) + q.1 - p.1) / (2 * (q.1 - p.1)) = mid p q n := by
  unfold mid near
  have e : (2 * (n - p.1)) * (q.2 - p.2) + q.1 - p.1 = 2 * ((n - p.1) * (q.2 - p.2)) + (q.1 - p.1) := by grind
  rw [e]
theorem at_loop (n : Int) (ps : List (Int × Int)) (hb : Bd ps) : ∀ (r : List (Int × Int)) (pre : List (Int × Int)) (p : Int × Int) (x2 x3 x4 x5 x6 : Sl), ps = pre ++ p :: r → Ris (p :: r) →
    (∃ v, lawL p r n = some v ∧ forD (bodyD (tgN 2) b__law_at_0) (rngD ((pre.length + 1 : Nat) : Int) r.length) [.vl (pl ps), .vl (.int n), x2, x3, x4, x5, x6] = M.ret (.rt (.int v))) ∨
    (lawL p r n = none ∧ ∃ y2 y3 y4 y5 y6, forD (bodyD (tgN 2) b__law_at_0) (rngD ((pre.length + 1 : Nat) : Int) r.length) [.vl (pl ps), .vl (.int n), x2, x3, x4, x5, x6] = M.ret (.nx [.vl (pl ps), .vl (.int n), y2, y3, y4, y5, y6]))
  | [], pre, p, x2, x3, x4, x5, x6, _, _ => .inr ⟨rfl, _, _, _, _, _, rfl⟩
  | q :: r, pre, p, x2, x3, x4, x5, x6, e, hr => by
    have bp := hb p (by rw [e]; simp)
    have bq := hb q (by rw [e]; simp)
    have h1 := hr.1
    have i0 : oIx (pl ps) (.int (((pre.length + 1 : Nat) : Int) - 1)) = some (pr p) := by
      have : (((pre.length + 1 : Nat) : Int) - 1) = (pre.length : Int) := by omega
      rw [this]
      exact ix_pl (by rw [e]; simp)
    have i1 : oIx (pl ps) (.int ((pre.length + 1 : Nat) : Int)) = some (pr q) := ix_pl (by rw [e, List.getElem?_append_right (by omega)]; simp)
    rw [List.length_cons, rngD_cons]
    show (∃ v, (if n < q.1 then some (mid p q n) else lawL q r n) = some v ∧ _) ∨ ((if n < q.1 then some (mid p q n) else lawL q r n) = none ∧ _)
    have asg : ∀ {rr : M Out}, (gIf (dB (d2 oLt (dVar 1) (dVar 5))) (gRet (d2 oAdd (dVar 4) (d2 oDiv (d2 oSub (d2 oAdd (d2 oMul (d2 oMul (dC (.int 2)) (d2 oSub (dVar 1) (dVar 3))) (d2 oSub (dVar 6) (dVar 4))) (dVar 5)) (dVar 3)) (d2 oMul (dC (.int 2)) (d2 oSub (dVar 5) (dVar 3)))))) gNext) [.vl (pl ps), .vl (.int n), .vl (.int ((pre.length + 1 : Nat) : Int)), .vl (.int p.1), .vl (.int p.2), .vl (.int q.1), .vl (.int q.2)] = rr →
        bodyD (tgN 2) b__law_at_0 (.int ((pre.length + 1 : Nat) : Int)) [.vl (pl ps), .vl (.int n), x2, x3, x4, x5, x6] = rr := fun {rr} h => by
      refine ev_body (δ' := [.vl (pl ps), .vl (.int n), .vl (.int ((pre.length + 1 : Nat) : Int)), x3, x4, x5, x6]) rfl ?_
      unfold b__law_at_0
      refine ev_seq (ev_asgT (δ' := [.vl (pl ps), .vl (.int n), .vl (.int ((pre.length + 1 : Nat) : Int)), .vl (.int p.1), .vl (.int p.2), x5, x6]) (ev_2 (ev_var rfl) (ev_2 (ev_var rfl) ev_c o_sub) i0) rfl) ?_
      refine ev_seq (ev_asgT (δ' := [.vl (pl ps), .vl (.int n), .vl (.int ((pre.length + 1 : Nat) : Int)), .vl (.int p.1), .vl (.int p.2), .vl (.int q.1), .vl (.int q.2)]) (ev_2 (ev_var rfl) (ev_var rfl) i1) rfl) ?_
      exact h
    by_cases hn : n < q.1
    · refine .inl ⟨mid p q n, if_pos hn, ?_⟩
      have hbody := asg (rr := M.ret (.rt (.int (mid p q n)))) (ev_ifS (b := true) (ev_b (ev_2 (x := .int n) (y := .int q.1) (ev_var rfl) (ev_var rfl) (by rw [o_lt, decide_eq_true hn]))) (ite_T rfl (ev_ret (by
        rw [← mid_law]
        exact ev_2 (ev_var rfl) (ev_2 (ev_2 (ev_2 (ev_2 (ev_2 ev_c (ev_2 (ev_var rfl) (ev_var rfl) o_sub) (o_mul (bMul_l (by decide) (by decide)))) (ev_2 (ev_var rfl) (ev_var rfl) o_sub) (o_mul (bMul_r (by omega) (by omega)))) (ev_var rfl) o_add) (ev_var rfl) o_sub) (ev_2 ev_c (ev_2 (ev_var rfl) (ev_var rfl) o_sub) (o_mul (bMul_l (by decide) (by decide)))) (o_div (bDiv_of (by omega) (by omega)))) o_add))))
      show M.thn (bodyD _ _ _ _) _ = _
      rw [hbody]
      rfl
    · have hbody := asg (rr := M.ret (.nx [.vl (pl ps), .vl (.int n), .vl (.int ((pre.length + 1 : Nat) : Int)), .vl (.int p.1), .vl (.int p.2), .vl (.int q.1), .vl (.int q.2)])) (ev_ifS (b := false) (ev_b (ev_2 (x := .int n) (y := .int q.1) (ev_var rfl) (ev_var rfl) (by rw [o_lt, decide_eq_false hn]))) (ite_F rfl ev_next))
      have e2 : ((pre.length + 1 : Nat) : Int) + 1 = (((pre ++ [p]).length + 1 : Nat) : Int) := by rw [List.length_append]; simp
      rw [e2, if_neg hn]
      have ih := at_loop n ps hb r (pre ++ [p]) q (.vl (.int ((pre.length + 1 : Nat) : Int))) (.vl (.int p.1)) (.vl (.int p.2)) (.vl (.int q.1)) (.vl (.int q.2)) (by rw [e, List.append_assoc]; rfl) hr.2
      rcases ih with ⟨v, hv, hf⟩ | ⟨hv, y2, y3, y4, y5, y6, hf⟩
      · exact .inl ⟨v, hv, by
          show M.thn (bodyD _ _ _ _) _ = _
          rw [hbody]
          exact hf⟩
      · exact .inr ⟨hv, y2, y3, y4, y5, y6, by
          show M.thn (bodyD _ _ _ _) _ = _
          rw [hbody]
          exact hf⟩
theorem at_ev {p : Int × Int} {r : List (Int × Int)} (n : Int) (hr : Ris (p :: r)) (hb : Bd (p :: r)) (hz : r.length ≤ 1000) : F__law_at [pl (p :: r), .int n] = M.ret (.int (mv p r n)) := by
  have hh := head_ix p r
  have hl := last_ix p r
  refine ev_run ?_
  unfold g__law_at
  by_cases hn : n < p.1
  · have e : mv p r n = n - p.1 + p.2 := by
      unfold mv
      rw [if_pos (by omega)]
      omega
    rw [e]
    exact ev_seqIf (b := true) (ev_b (ev_2 (x := .int n) (y := .int p.1) (ev_var rfl) (ev_2 (ev_2 (ev_var rfl) ev_c hh) ev_c rfl) (by rw [o_lt, decide_eq_true hn]))) (ite_T rfl (ev_seqR (ev_ret (ev_2 (x := .int (n - p.1)) (y := .int p.2) (ev_2 (ev_var rfl) (ev_2 (ev_2 (ev_var rfl) ev_c hh) ev_c rfl) o_sub) (ev_2 (ev_2 (ev_var rfl) ev_c hh) ev_c rfl) o_add))))
  · rw [mv_law hr hn]
    refine ev_pass (b := false) (ev_b (ev_2 (x := .int n) (y := .int p.1) (ev_var rfl) (ev_2 (ev_2 (ev_var rfl) ev_c hh) ev_c rfl) (by rw [o_lt, decide_eq_false hn]))) rfl ?_
    have hrng : rng2 [.int 1, .int (((p :: r).map pr).length : Int)] = some (rngD ((([] : List (Int × Int)).length + 1 : Nat) : Int) r.length) := by
      show (if (b62 1 && b62 (((p :: r).map pr).length : Int)) = true then some (rngD 1 ((((p :: r).map pr).length : Int) - 1).toNat) else none) = _
      have h1 : (((p :: r).map pr).length : Int) = (r.length : Int) + 1 := by rw [List.length_map, List.length_cons]; omega
      rw [h1, if_pos (by unfold b62; simp; omega)]
      have h2 : ((r.length : Int) + 1 - 1).toNat = r.length := by omega
      rw [h2]
      rfl
    have hi : dRng rng2 (dCons (dC (.int 1)) (dCons (dCB oLen (dCons (dVar 0) dNil)) dNil)) (startD 7 [pl (p :: r), .int n]) = M.ret (rngD ((([] : List (Int × Int)).length + 1 : Nat) : Int) r.length) :=
      ev_rngS (ev_cons ev_c (ev_cons (ev_cb (ev_cons (ev_var rfl) ev_nil) o_lenL) ev_nil)) hrng
    rcases at_loop n (p :: r) hb r [] p .un .un .un .un .un rfl hr with ⟨v, hv, hf⟩ | ⟨hv, y2, y3, y4, y5, y6, hf⟩
    · rw [hv]
      exact ev_seqR (ev_forG hi hf)
    · rw [hv]
      refine ev_seq (ev_forG hi hf) (ev_ret ?_)
      show _ = M.ret (PyData.int (n + ((lastP p r).2 - (lastP p r).1)))
      have e : n + ((lastP p r).2 - (lastP p r).1) = n - (lastP p r).1 + (lastP p r).2 := by omega
      rw [e]
      exact ev_2 (x := .int (n - (lastP p r).1)) (y := .int (lastP p r).2) (ev_2 (ev_var rfl) (ev_2 (ev_2 (ev_var rfl) (ev_1 ev_c rfl) hl) ev_c rfl) o_sub) (ev_2 (ev_2 (ev_var rfl) (ev_1 ev_c rfl) hl) ev_c rfl) o_add
section
variable {p : Int × Int} {r : List (Int × Int)}
theorem told_ok {cs : List Q4} (hr : Ris (p :: r)) (hb : Bd (p :: r)) (hz : r.length ≤ 1000) (hl : cs.length ≤ 1000) (h : ∀ c ∈ cs, room (mv p r) c = true) : F__law_told [pl (p :: r), .list (cs.map q4)] = M.ret (.list ((cs.map (mq (mv p r))).map q4)) := by
  have hm := mvc_ok hr hb hz hl h
  refine ev_run ?_
  unfold g__law_told
  refine ev_seq (ev_asg (d := .none) ev_c) ?_
  refine ev_seq (ev_tryF_ok (ev_asg (ev_callX (ev_cons (ev_var rfl) (ev_cons (ev_var rfl) ev_nil)) hm))) ?_
  exact ev_ret (ev_var rfl)
theorem told_no {cs post : List Q4} {c : Q4} (hr : Ris (p :: r)) (hb : Bd (p :: r)) (hz : r.length ≤ 1000) (hl : (cs ++ c :: post).length ≤ 1000) (h : ∀ c ∈ cs, room (mv p r) c = true) (hc : room (mv p r) c = false) (hk : okXI ((cs.length : Nat) : Int) = true) :
    F__law_told [pl (p :: r), .list ((cs ++ c :: post).map q4)] = M.ret (.tuple [.str "refused", .int (cs.length : Int), .bool true]) := by
  have hm := mvc_no hr hb hz hl h hc hk
  refine ev_run ?_
  unfold g__law_told
  refine ev_seq (ev_asg (d := .none) ev_c) ?_
  refine ev_seq (ev_tryF_x (o := .nx [.un, .un, .vl (.tuple [.str "refused", .int (cs.length : Int), .bool true]), .un]) (er_asgD (er_callX (ev_cons (ev_var rfl) (ev_cons (ev_var rfl) ev_nil)) hm)) (o' := fun a => .nx [.un, .un, .vl (.tuple [.str "refused", .int (cs.length : Int), .bool true]), .ex a]) (fun a => ?_) fun a => rfl) ?_
  · exact ev_asg (ev_tup (ev_cons ev_c (ev_cons (ev_xat rfl) (ev_cons (ev_andV_t (dIsX_ev rfl) (ev_notV (dIsX_ev rfl))) ev_nil))) rfl)
  · exact ev_ret (ev_var rfl)
theorem flat_q4 (cs : List Q4) : flatDs (cs.map q4) = true := by
  induction cs with
  | nil => rfl
  | cons c cs ih => simp [q4, flatDs, flatD] at ih ⊢; exact ih
theorem told_new {cs : List Q4} (hr : Ris (p :: r)) (hb : Bd (p :: r)) (hz : r.length ≤ 1000) (hl : cs.length ≤ 1000) (h : ∀ c ∈ cs, room (mv p r) c = true) : F__law_told_new [pl (p :: r), .list (cs.map q4)] = M.ret (.list ((cs.map (mq (mv p r))).map q4)) := by
  have hm := mvc_new hr hb hz hl h
  have hf := flat_q4 (cs.map (mq (mv p r)))
  refine ev_run ?_
  unfold g__law_told_new
  refine ev_seqN' (ev_asg (d := .none) ev_c) ?_
  refine ev_seqN' (ev_try0 (ev_newL (ev_nF (ev_call (ev_cons (ev_var rfl) (ev_cons (ev_var rfl) ev_nil)) hm) hf))) ?_
  exact ev_retF rfl hf
end
end K25
open PySem PySem.Spec L2 DL CT TX NumText
namespace K25
theorem lay_q4 {c : Q4} (h : okT c) : (q4 c).canLay0 = true ∧ (q4 c).depth ≤ 5 := by
  refine ⟨?_, ?_⟩
  · simp [q4, PyData.canLay0, PyData.canLayAll0, h.1, h.2]
  · show 1 + max 0 (max 0 (max 0 (max 0 0))) ≤ 5
    decide
theorem lay_qs : ∀ {cs : List Q4}, (∀ c ∈ cs, okT c) → PyData.canLayAll0 (cs.map q4) = true ∧ PyData.depthAll (cs.map q4) ≤ 5
  | [], _ => ⟨rfl, Nat.zero_le _⟩
  | c :: cs, h => by
    obtain ⟨a, b⟩ := lay_q4 (h c List.mem_cons_self)
    obtain ⟨a2, b2⟩ := lay_qs (cs := cs) fun d hd => h d (List.mem_cons_of_mem _ hd)
    refine ⟨?_, ?_⟩
    · simp [PyData.canLayAll0, a, a2]
    · show max (q4 c).depth (PyData.depthAll (cs.map q4)) ≤ 5
      omega
theorem lay_ps : ∀ (ps : List (Int × Int)), PyData.canLayAll0 (ps.map pr) = true ∧ PyData.depthAll (ps.map pr) ≤ 5
  | [] => ⟨rfl, Nat.zero_le _⟩
  | p :: ps => by
    obtain ⟨a2, b2⟩ := lay_ps ps
    refine ⟨?_, ?_⟩
    · simp [PyData.canLayAll0, PyData.canLay0, a2]
    · show max (1 + max 0 (max 0 0)) (PyData.depthAll (ps.map pr)) ≤ 5
      omega
theorem ne_qs {cs : List Q4} (h : ∀ c ∈ cs, okT c) : oNe (.list (cs.map q4)) (.list (cs.map q4)) = some (.bool false) := by
  obtain ⟨a, b⟩ := lay_qs h
  refine ne_selfD ?_ ?_
  · simp [PyData.canLay0, a]
  · simp only [PyData.depth]
    omega
theorem same_ev {cs : List Q4} (h : ∀ c ∈ cs, okT c) : F__law_same [.list (cs.map q4), .list (cs.map q4)] = M.ret (.bool true) := by
  have hne := ne_qs h
  refine ev_run ?_
  unfold g__law_same
  refine ev_pass (b := false) (ev_or_f (ev_not (b := true) (ev_b (ev_is (d := .list (cs.map q4)) (ev_var rfl)))) (ev_b (ev_2 (ev_var rfl) (ev_var rfl) hne))) rfl ?_
  refine ev_forGI (fun δ => ∃ s, δ = [.vl (.list (cs.map q4)), .vl (.list (cs.map q4)), s]) (ev_any (ev_var rfl) rfl) ⟨.un, rfl⟩ (fun d hd δ hδ => ?_) fun δ hδ => ?_
  · obtain ⟨s, rfl⟩ := hδ
    obtain ⟨c, hc, rfl⟩ := List.mem_map.mp hd
    refine ⟨[.vl (.list (cs.map q4)), .vl (.list (cs.map q4)), .vl (q4 c)], ev_body (δ' := [.vl (.list (cs.map q4)), .vl (.list (cs.map q4)), .vl (q4 c)]) rfl ?_, _, rfl⟩
    unfold b__law_same_0
    exact ev_pass1 (b := false) (ev_or_f (ev_not (b := true) (ev_b (ev_is (d := q4 c) (ev_var rfl)))) (ev_or_f (ev_b (ev_is (d := .int c.b) (ev_2 (x := q4 c) (ev_var rfl) ev_c rfl))) (ev_b (ev_is (d := .int c.e) (ev_2 (x := q4 c) (ev_var rfl) ev_c rfl))))) rfl
  · obtain ⟨s, rfl⟩ := hδ
    exact ev_ret ev_c
/-- those ahead of the first one without room -/
def ahead (f : Int → Int) : List Q4 → List Q4
  | [] => []
  | c :: cs => if room f c then c :: ahead f cs else []
theorem ahead_room (f : Int → Int) : ∀ (cs : List Q4), ∀ c ∈ ahead f cs, room f c = true
  | [], c, h => nomatch h
  | d :: cs, c, h => by
    unfold ahead at h
    by_cases hd : room f d = true
    · rw [if_pos hd] at h
      rcases List.mem_cons.mp h with rfl | h
      · exact hd
      · exact ahead_room f cs c h
    · rw [if_neg hd] at h
      exact nomatch h
theorem ahead_split (f : Int → Int) : ∀ (cs : List Q4), cs = ahead f cs ∨ ∃ c post, cs = ahead f cs ++ c :: post ∧ room f c = false
  | [] => .inl rfl
  | d :: cs => by
    unfold ahead
    by_cases hd : room f d = true
    · rw [if_pos hd]
      rcases ahead_split f cs with h | ⟨c, post, h, hc⟩
      · exact .inl (congrArg (d :: ·) h)
      · exact .inr ⟨c, post, congrArg (d :: ·) h, hc⟩
    · rw [if_neg hd]
      exact .inr ⟨d, cs, rfl, by simpa using hd⟩
theorem ahead_len (f : Int → Int) (cs : List Q4) : (ahead f cs).length ≤ cs.length := by
  rcases ahead_split f cs with h | ⟨c, post, h, _⟩
  · exact Nat.le_of_eq (congrArg List.length h).symm
  · have := congrArg List.length h
    rw [List.length_append, List.length_cons] at this
    omega
theorem due_loop {p : Int × Int} {r : List (Int × Int)} (hr : Ris (p :: r)) (hb : Bd (p :: r)) (hz : r.length ≤ 1000) (x0 x2 : Sl) : ∀ (cs done : List Q4) (x7 x8 x9 x10 x11 : Sl), done.length + cs.length ≤ 1000 →
    ∃ y7 y8 y9 y10 y11, forD (bodyD (tgTup 4 (tgCons (tgN 7) (tgCons (tgN 8) (tgCons (tgN 9) (tgCons (tgN 10) tgNil))))) b_law_0) (cs.map q4) [x0, .vl (pl (p :: r)), x2, .ow (done.map q4), .un, .un, .un, x7, x8, x9, x10, x11] =
      M.ret (.nx [x0, .vl (pl (p :: r)), x2, .ow ((done ++ (ahead (mv p r) cs).map (mq (mv p r))).map q4), .un, .un, .un, y7, y8, y9, y10, y11])
  | [], done, x7, x8, x9, x10, x11, _ => ⟨x7, x8, x9, x10, x11, by show M.ret _ = _; rw [show (ahead (mv p r) []).map (mq (mv p r)) = [] from rfl, List.append_nil]⟩
  | c :: cs, done, x7, x8, x9, x10, x11, hl => by
    have a1 := at_ev c.b hr hb hz
    have a2 := at_ev c.e hr hb hz
    have asg : ∀ {rr : M Out}, (gSeq (gIf (dOr (dB (d2 oLt (d2 oIx (dVar 11) (dC (.int 0))) (dC (.int 0)))) (dB (d2 oEq (d2 oIx (dVar 11) (dC (.int 0))) (d2 oIx (dVar 11) (dC (.int 1)))))) gBreak gNext) (gApp 3 (dVar 11))) [x0, .vl (pl (p :: r)), x2, .ow (done.map q4), .un, .un, .un, .vl (.int c.b), .vl (.int c.e), .vl (.str c.h), .vl (.str c.w), .vl (q4 (mq (mv p r) c))] = rr →
        bodyD (tgTup 4 (tgCons (tgN 7) (tgCons (tgN 8) (tgCons (tgN 9) (tgCons (tgN 10) tgNil))))) b_law_0 (q4 c) [x0, .vl (pl (p :: r)), x2, .ow (done.map q4), .un, .un, .un, x7, x8, x9, x10, x11] = rr := fun {rr} h => by
      refine ev_body (δ' := [x0, .vl (pl (p :: r)), x2, .ow (done.map q4), .un, .un, .un, .vl (.int c.b), .vl (.int c.e), .vl (.str c.h), .vl (.str c.w), x11]) rfl ?_
      unfold b_law_0
      exact ev_seq (ev_asg (d := q4 (mq (mv p r) c)) (ev_tup (ev_cons (ev_call (ev_cons (ev_var rfl) (ev_cons (ev_var rfl) ev_nil)) a1) (ev_cons (ev_call (ev_cons (ev_var rfl) (ev_cons (ev_var rfl) ev_nil)) a2) (ev_cons (ev_var rfl) (ev_cons (ev_var rfl) ev_nil)))) rfl)) h
    have h1 : dB (d2 oLt (d2 oIx (dVar 11) (dC (.int 0))) (dC (.int 0))) [x0, .vl (pl (p :: r)), x2, .ow (done.map q4), .un, .un, .un, .vl (.int c.b), .vl (.int c.e), .vl (.str c.h), .vl (.str c.w), .vl (q4 (mq (mv p r) c))] = M.ret (decide (mv p r c.b < 0)) := ev_b (ev_2 (ev_2 (x := q4 (mq (mv p r) c)) (ev_var rfl) ev_c rfl) ev_c o_lt)
    have h2 : dB (d2 oEq (d2 oIx (dVar 11) (dC (.int 0))) (d2 oIx (dVar 11) (dC (.int 1)))) [x0, .vl (pl (p :: r)), x2, .ow (done.map q4), .un, .un, .un, .vl (.int c.b), .vl (.int c.e), .vl (.str c.h), .vl (.str c.w), .vl (q4 (mq (mv p r) c))] = M.ret (decide (mv p r c.b = mv p r c.e)) := ev_b (ev_2 (ev_2 (x := q4 (mq (mv p r) c)) (ev_var rfl) ev_c rfl) (ev_2 (x := q4 (mq (mv p r) c)) (ev_var rfl) ev_c rfl) o_eq)
    by_cases hc : room (mv p r) c = true
    · obtain ⟨q1, q2⟩ := room_t hc
      rw [decide_eq_false q1] at h1
      rw [decide_eq_false q2] at h2
      have hbody := asg (ev_pass (b := false) (ev_or_f h1 h2) rfl (ev_app (d := q4 (mq (mv p r) c)) rfl (ev_var rfl) (small_of (by rw [List.length_map]; rw [List.length_cons] at hl; omega))))
      obtain ⟨y7, y8, y9, y10, y11, ih⟩ := due_loop hr hb hz x0 x2 cs (done ++ [mq (mv p r) c]) (.vl (.int c.b)) (.vl (.int c.e)) (.vl (.str c.h)) (.vl (.str c.w)) (.vl (q4 (mq (mv p r) c))) (by rw [List.length_append]; rw [List.length_cons] at hl; show done.length + 1 + cs.length ≤ 1000; omega)
      refine ⟨y7, y8, y9, y10, y11, ?_⟩
      have e : ahead (mv p r) (c :: cs) = c :: ahead (mv p r) cs := by
        show (if room (mv p r) c = true then _ else _) = _
        rw [if_pos hc]
      rw [e, List.map_cons (f := mq (mv p r))]
      rw [List.append_assoc, List.map_append] at ih
      refine forD_cons (δ' := [x0, .vl (pl (p :: r)), x2, .ow (done.map q4 ++ [q4 (mq (mv p r) c)]), .un, .un, .un, .vl (.int c.b), .vl (.int c.e), .vl (.str c.h), .vl (.str c.w), .vl (q4 (mq (mv p r) c))]) hbody ?_
      exact ih
    · have hc : room (mv p r) c = false := by simpa using hc
      have h3 : (decide (mv p r c.b < 0) || decide (mv p r c.b = mv p r c.e)) = true := by
        unfold room at hc
        rwa [Bool.not_eq_false'] at hc
      have hor : dOr (dB (d2 oLt (d2 oIx (dVar 11) (dC (.int 0))) (dC (.int 0)))) (dB (d2 oEq (d2 oIx (dVar 11) (dC (.int 0))) (d2 oIx (dVar 11) (dC (.int 1))))) [x0, .vl (pl (p :: r)), x2, .ow (done.map q4), .un, .un, .un, .vl (.int c.b), .vl (.int c.e), .vl (.str c.h), .vl (.str c.w), .vl (q4 (mq (mv p r) c))] = M.ret true := by
        by_cases hq : mv p r c.b < 0
        · exact ev_or_t (by rw [decide_eq_true hq] at h1; exact h1)
        · rw [decide_eq_false hq] at h1
          rw [decide_eq_false hq, Bool.false_or] at h3
          rw [h3] at h2
          exact ev_or_f h1 h2
      have hbody := asg (rr := M.ret (.bk [x0, .vl (pl (p :: r)), x2, .ow (done.map q4), .un, .un, .un, .vl (.int c.b), .vl (.int c.e), .vl (.str c.h), .vl (.str c.w), .vl (q4 (mq (mv p r) c))])) (by
        unfold gSeq
        rw [ev_ifS (b := true) hor (ite_T rfl (show gBreak _ = M.ret (.bk _) from rfl))]
        rfl)
      refine ⟨.vl (.int c.b), .vl (.int c.e), .vl (.str c.h), .vl (.str c.w), .vl (q4 (mq (mv p r) c)), ?_⟩
      have e : ahead (mv p r) (c :: cs) = [] := by
        show (if room (mv p r) c = true then _ else _) = _
        rw [if_neg (by rw [hc]; decide)]
      rw [e]
      show M.thn (bodyD _ _ _ _) _ = _
      rw [hbody]
      show M.ret _ = _
      rw [show ([] : List Q4).map (mq (mv p r)) = [] from rfl, List.append_nil]
theorem okXI_small : ∀ n : Nat, n ≤ 64 → okXI (n : Int) = true := by decide +kernel
theorem cut_len_q (cs : List Q4) (n : Nat) (h : n ≤ cs.length) : oCutS none (some (n : Int)) (.list (cs.map q4)) = some (.list ((cs.take n).map q4)) := by
  show some (PyData.list (cutD (cs.map q4) none (some (n : Int)))) = _
  congr 2
  unfold cutD
  have e0 : HT.sIx (cs.map q4).length 0 none = 0 := rfl
  have e1 : HT.sIx (cs.map q4).length (cs.map q4).length (some (n : Int)) = n := by
    rw [HT.sIx_nat, List.length_map]
    omega
  rw [e0, e1, List.drop_zero, Nat.sub_zero, List.map_take]
theorem law_true (ns : List Int) (hl : ns.length ≤ 63) : F_law [.list (ns.map PyData.int)] = M.ret (.bool true) := by
  obtain ⟨p, r, hr, hb, hz, hP⟩ := places_ev ns hl
  obtain ⟨cs, hcl, hcn, hok, hC⟩ := cues_ev ns hl
  generalize hNS : PyData.list (ns.map PyData.int) = NS at *
  obtain ⟨y7, y8, y9, y10, y11, hL⟩ := due_loop hr hb (by omega) (.vl NS) (.vl (.list (cs.map q4))) cs [] .un .un .un .un .un (by rw [List.length_nil]; omega)
  rw [List.nil_append] at hL
  have halen := ahead_len (mv p r) cs
  have haroom := ahead_room (mv p r) cs
  obtain ⟨A, hA⟩ : ∃ A, A = ahead (mv p r) cs := ⟨_, rfl⟩
  have hcs := ahead_split (mv p r) cs
  rw [← hA] at hL halen haroom hcs
  have hokA : ∀ c ∈ A.map (mq (mv p r)), okT c := fun c hc => by
    obtain ⟨d, hd, rfl⟩ := List.mem_map.mp hc
    have : okT d := hok d (by
      rcases hcs with h | ⟨x, post, h, _⟩
      · rw [h]; exact hd
      · rw [h]; exact List.mem_append_left _ hd)
    exact this
  have htake : cs.take A.length = A := by
    rcases hcs with h | ⟨x, post, h, _⟩
    · rw [← h, List.take_length]
    · rw [h, List.take_left' rfl]
  have hcut := cut_len_q cs A.length halen
  rw [htake] at hcut
  have htold := told_ok hr hb (show r.length ≤ 1000 by omega) (show A.length ≤ 1000 by omega) haroom
  have htoldn := told_new hr hb (show r.length ≤ 1000 by omega) (show A.length ≤ 1000 by omega) haroom
  have hsame := same_ev hokA
  have hflat := flat_q4 (A.map (mq (mv p r)))
  have hlenA : ((A.map (mq (mv p r))).map q4).length = A.length := by rw [List.length_map, List.length_map]
  have hlist1 : oListOf [pl (p :: r)] = some (pl (p :: r)) := rfl
  have hlist2 : oListOf [.list (cs.map q4)] = some (.list (cs.map q4)) := rfl
  have hneH : oNe (.list [pl (p :: r), .list (cs.map q4)]) (.list [pl (p :: r), .list (cs.map q4)]) = some (.bool false) := by
    obtain ⟨a1, b1⟩ := lay_ps (p :: r)
    obtain ⟨a2, b2⟩ := lay_qs hok
    refine ne_selfD ?_ ?_
    · simp only [PyData.canLay0, PyData.canLayAll0, pl, a1, a2, Bool.and_self]
    · simp only [PyData.depth, PyData.depthAll, pl] at b1 b2 ⊢
      omega
  have hix0 : oIx (.list [pl (p :: r), .list (cs.map q4)]) (.int 0) = some (pl (p :: r)) := rfl
  have hix1 : oIx (.list [pl (p :: r), .list (cs.map q4)]) (.int 1) = some (.list (cs.map q4)) := rfl
  obtain ⟨c0, hc0⟩ : ∃ d, oIx (.list (cs.map q4)) (.int 0) = some d := by
    cases cs with
    | nil => exact absurd rfl hcn
    | cons c cs => exact ⟨q4 c, L2.atI_nat (j := 0) rfl⟩
  obtain ⟨FD, hFD⟩ : ∃ FD, F__law_told [pl (p :: r), .list (cs.map q4)] = M.ret FD ∧ ((A.length < cs.length ∧ FD = .tuple [.str "refused", .int (A.length : Int), .bool true]) ∨ (A.length = cs.length ∧ FD = .list ((A.map (mq (mv p r))).map q4))) := by
    rcases hcs with h | ⟨x, post, h, hx⟩
    · exact ⟨_, by rw [h]; exact htold, .inr ⟨by rw [← h], rfl⟩⟩
    · refine ⟨_, by rw [h]; exact told_no hr hb (show r.length ≤ 1000 by omega) (by rw [← h]; omega) haroom hx (okXI_small _ (by omega)), .inl ⟨?_, rfl⟩⟩
      have := congrArg List.length h
      rw [List.length_append, List.length_cons] at this
      omega
  obtain ⟨hF, hcase⟩ := hFD
  obtain ⟨PL, hPL⟩ : ∃ PL, PL = pl (p :: r) := ⟨_, rfl⟩
  obtain ⟨CS, hCS⟩ : ∃ CS, CS = PyData.list (cs.map q4) := ⟨_, rfl⟩
  obtain ⟨DU, hDU⟩ : ∃ DU, DU = (A.map (mq (mv p r))).map q4 := ⟨_, rfl⟩
  have hlenD : oLen [.list DU] = some (.int (A.length : Int)) := by rw [hDU, o_lenL, hlenA]
  have hlenC : oLen [CS] = some (.int (cs.length : Int)) := by rw [hCS, o_lenL, List.length_map]
  have hany : anyD CS = some (cs.map q4) := by rw [hCS]; rfl
  rw [← hPL, ← hCS] at hF hix0 hix1 hneH
  rw [← hPL] at hP hL htold htoldn hlist1
  rw [← hCS] at hC hlist2 hcut hL hc0
  rw [← hDU] at hsame hL htold htoldn hflat hcase
  refine ev_run ?_
  unfold g_law
  refine ev_seq (ev_asg (d := PL) (ev_call (ev_cons (ev_var rfl) ev_nil) hP)) ?_
  refine ev_seq (ev_asg (d := CS) (ev_call (ev_cons (ev_var rfl) ev_nil) hC)) ?_
  refine ev_seq (ev_newL (ds := []) (ev_nLst ev_nil rfl)) ?_
  refine ev_seq (ev_forG (ev_any (ev_var rfl) hany) hL) ?_
  refine ev_seq (ev_asg (d := .list [PL, CS]) (ev_lst (ev_cons (ev_cb (ev_cons (ev_var rfl) ev_nil) hlist1) (ev_cons (ev_cb (ev_cons (ev_var rfl) ev_nil) hlist2) ev_nil)) rfl)) ?_
  refine ev_seq (ev_asg (d := FD) (ev_call (ev_cons (ev_2 (ev_var rfl) ev_c hix0) (ev_cons (ev_2 (ev_var rfl) ev_c hix1) ev_nil)) hF)) ?_
  refine ev_frz ?_
  have lenL : ∀ {δ : DS}, δ[3]? = some (.vl (.list DU)) → dCB oLen (dCons (dVar 3) dNil) δ = M.ret (.int (A.length : Int)) := fun h => ev_cb (ev_cons (ev_var h) ev_nil) hlenD
  have lenC : ∀ {δ : DS}, δ[2]? = some (.vl CS) → dCB oLen (dCons (dVar 2) dNil) δ = M.ret (.int (cs.length : Int)) := fun h => ev_cb (ev_cons (ev_var h) ev_nil) hlenC
  have rest : ∀ {x5 : D}, (gSeq (gNewL 6 (nF (dCall (fun ds => noX (F__law_told_new ds)) (dCons (d2 oIx (dVar 4) (dC (.int 0))) (dCons (dCutS (dVar 2) dNoPart (dPart (dCB oLen (dCons (dVar 3) dNil)))) dNil)))))
    (gSeq (gIf (dLendT 6 (dOr (dNot (dB (dCall (fun ds => noX (F__law_same ds)) (dCons (dVar 6) (dCons (dVar 3) dNil))))) (dB (d2 oNe (dVar 4) (dLst (dCons (dVar 1) (dCons (dVar 2) dNil))))))) (gRet (dC (.bool false))) gNext)
    (gSeq (gApp 6 (d2 oIx (dVar 2) (dC (.int 0))))
    (gRet (dCall (fun ds => noX (F__law_same ds)) (dCons (dCall (fun ds => noX (F__law_told ds)) (dCons (dVar 1) (dCons (dCutS (dVar 2) dNoPart (dPart (dCB oLen (dCons (dVar 3) dNil)))) dNil))) (dCons (dVar 3) dNil))))))) [.vl NS, .vl PL, .vl CS, .vl (.list DU), .vl (.list [PL, CS]), .vl x5, .un, y7, y8, y9, y10, y11] = M.ret (.rt (.bool true)) := fun {x5} => by
    refine ev_seq (ev_newL (ds := DU) (ev_nF (ev_call (ev_cons (ev_2 (ev_var rfl) ev_c hix0) (ev_cons (ev_cutS (ev_var rfl) ev_nopart (ev_part (lenL rfl)) hcut) ev_nil)) htoldn) hflat)) ?_
    refine ev_pass (b := false) (ev_lendT (ev_or_f (ev_not (b := true) (ev_b (ev_call (ds := [.list DU, .list DU]) (ev_cons (ev_var rfl) (ev_cons (ev_var rfl) ev_nil)) hsame))) (ev_b (ev_2 (ev_var rfl) (ev_lst (ev_cons (ev_var rfl) (ev_cons (ev_var rfl) ev_nil)) rfl) hneH)))) rfl ?_
    refine ev_seq (ev_app (ds := DU) rfl (ev_2 (ev_var rfl) ev_c hc0) (small_of (by rw [hDU, hlenA]; omega))) ?_
    exact ev_ret (ev_call (ev_cons (ev_call (ev_cons (ev_var rfl) (ev_cons (ev_cutS (ev_var rfl) ev_nopart (ev_part (lenL rfl)) hcut) ev_nil)) htold) (ev_cons (ev_var rfl) ev_nil)) hsame)
  rcases hcase with ⟨hlt, rfl⟩ | ⟨heq, rfl⟩
  · have hne : oNe (.tuple [.str "refused", .int (A.length : Int), .bool true]) (.tuple [.str "refused", .int (A.length : Int), .bool true]) = some (.bool false) := ne_selfD (by simp [PyData.canLay0, PyData.canLayAll0]; decide +kernel) (by show 1 + max 0 (max 0 (max 0 0)) ≤ 60; decide)
    refine ev_pass (b := false) (ev_and_t (ev_b (ev_2 (x := .int (A.length : Int)) (y := .int (cs.length : Int)) (lenL rfl) (lenC rfl) (by rw [o_lt, decide_eq_true (by omega)]))) (ev_b (ev_2 (ev_var rfl) (ev_tup (ev_cons ev_c (ev_cons (lenL rfl) (ev_cons ev_c ev_nil))) rfl) hne))) rfl ?_
    refine ev_pass (b := false) (ev_and_f (ev_b (ev_2 (x := .int (A.length : Int)) (y := .int (cs.length : Int)) (lenL rfl) (lenC rfl) (by rw [o_eq, decide_eq_false (by omega)])))) rfl ?_
    exact rest
  · refine ev_pass (b := false) (ev_and_f (ev_b (ev_2 (x := .int (A.length : Int)) (y := .int (cs.length : Int)) (lenL rfl) (lenC rfl) (by rw [o_lt, decide_eq_false (by omega)])))) rfl ?_
    refine ev_pass (b := false) (ev_and_t (ev_b (ev_2 (x := .int (A.length : Int)) (y := .int (cs.length : Int)) (lenL rfl) (lenC rfl) (by rw [o_eq, decide_eq_true (by omega)]))) (ev_not (b := true) (ev_b (ev_call (ds := [.list DU, .list DU]) (ev_cons (ev_var rfl) (ev_cons (ev_var rfl) ev_nil)) hsame)))) rfl ?_
    exact rest
end K25
namespace K25
open PySem PySem.Spec PyProof.Rows L2 DL CT
def top (i : Nat) : Stmt := PySem.Challenge.pw_cuetimer_k25_cues_moved.main.body.getD i (.Pass ⟨0, 0, 0, 0⟩)
def mth (s : Stmt) (i : Nat) : Stmt := match s with
  | .ClassDef _ _ _ b _ _ _ _ _ _ _ => b.getD i (.Pass ⟨0, 0, 0, 0⟩)
  | s => s
section
variable {P : Program} {w : World} {K : PySem.W.Frag} {mg : Str → Option Value} {base : Heap}
theorem sc_NoRoom_init : FnScope ["self", "at"] ["self", "at"] (defScope (mth (top 3) 0)) := ⟨rfl, rfl, rfl, by decide +kernel, rfl, by decide +kernel, by decide +kernel⟩
theorem d_NoRoom_init {f : Addr} {fd : FuncData} (F0 : Fun K "__init__" "NoRoom.__init__" (mth (top 3) 0) f fd) {C_NoRoom : Addr} (m_NoRoom : mg "NoRoom" = some (.ref C_NoRoom)) {C_CueError : Addr} (m_CueError : mg "CueError" = some (.ref C_CueError)) (x1_NoRoom : XF.excIn1 K C_NoRoom XF.VE "ValueError.__new__" = true) (g1_NoRoom : PySem.W.findIn K (.ref C_NoRoom) "__getattribute__" = some (some (.builtin "BaseException.__getattribute__"))) (g2_NoRoom : PySem.W.findIn K (.ref C_NoRoom) "__getattr__" = some none) (sa_NoRoom : PySem.W.findIn K (.ref C_NoRoom) "__setattr__" = some (some (.builtin "object.__setattr__"))) (g7_NoRoom : PySem.W.mroIn K C_NoRoom (.type "BaseException") = some true) (g6_NoRoom : PySem.W.mroIn K C_NoRoom (.type "object") = some true) (hd_NoRoom : PySem.W.hasDictIn K C_NoRoom = true) (st_NoRoom : ((PySem.W.clsIn K C_NoRoom).any fun cd => XF.strip cd.mro == XF.VE) = true) (na_NoRoom_at : PySem.W.findIn K (.ref C_NoRoom) "at" = some none) (rd_CueError : PySem.W.readsIn K C_CueError (.type "type") = true) (sp_CueError : PySem.W.specialIn K (.ref C_CueError) "__getattribute__" = some (some (.builtin "type.__getattribute__"))) (fd_CueError : PySem.W.findCls K (.ref C_CueError) (.type "type") "__init__" = some (.val (.builtin "ValueError.__init__"))) (hat : PySem.W.findIn K (.ref C_NoRoom) "__init__" = some (some (.ref f))) (hfn : PySem.W.isFn K (.ref f) = true) (kc : PySem.W.keepIn K (.ref C_NoRoom) = true) : XDef P w K mg base 1 "NoRoom" "at" C_NoRoom := by
  have S := sc_NoRoom_init
  exact ⟨f, fd, ["self", "at"], ⟨x1_NoRoom, hat, beq_iff_eq.mp hfn, kc⟩, XF.initX_of (k := 0) F0 S rfl (XF.txt2 (a := "no room for the cue at place ") (by decide +kernel)) (fun cdv A outer s H E => pss_cons (ps_expr (XF.pe_binit x1_NoRoom ⟨rd_CueError, sp_CueError, fd_CueError⟩ rfl m_CueError (pa_cons (pv 0) (pa_cons (pe_joined (.cons pe_str (.cons (pe_fv (pv 1)) .nil rfl) rfl)) pa_nil)))) (pss_one (XF.ps_xf ⟨g1_NoRoom, g2_NoRoom, sa_NoRoom, g7_NoRoom, g6_NoRoom, hd_NoRoom, st_NoRoom⟩ na_NoRoom_at (pv 0) (pv 1)))), (F0.binds fun _ _ _ _ _ _ us hl => match us, hl with | [_, _], _ => rfl)⟩
theorem sc_is_whole : FnScope ["thing"] ["thing"] (defScope (top 5)) := ⟨rfl, rfl, rfl, by decide +kernel, rfl, by decide +kernel, by decide +kernel⟩
theorem d_is_whole {f : Addr} {fd : FuncData} (F0 : Fun K "is_whole" "is_whole" (top 5) f fd) (hm : mg "is_whole" = some (.ref f)) (z_isinstance : mg "isinstance" = none) (z_int : mg "int" = none) (z_bool : mg "bool" = none) : Def P w K mg base 1 "is_whole" 1 F_is_whole := by
  have S := sc_is_whole
  refine def_of (N := ["thing"]) (ps := ["thing"]) (k := 0) (g := g_is_whole) F0 S hm (F0.binds fun _ _ _ _ _ _ us hl => match us, hl with | [_], _ => rfl) fun cdv A outer s H E hr => ?_
  unfold g_is_whole
  exact (pds_one (pd_ret (pd_and (pd_isinst rfl (kit_int _) rfl z_isinstance rfl z_int PyProof.Rows.boot_int (pd_var (pv 0))) (pd_one (pd_not (pd_isinst rfl (kit_bool _) rfl z_isinstance rfl z_bool PyProof.Rows.boot_bool (pd_var (pv 0))))))))
theorem sc_nearest : FnScope ["top", "bottom"] ["top", "bottom"] (defScope (top 6)) := ⟨rfl, rfl, rfl, by decide +kernel, rfl, by decide +kernel, by decide +kernel⟩
theorem d_nearest {f : Addr} {fd : FuncData} (F0 : Fun K "nearest" "nearest" (top 6) f fd) (hm : mg "nearest" = some (.ref f)) : Def P w K mg base 1 "nearest" 2 F_nearest := by
  have S := sc_nearest
  refine def_of (N := ["top", "bottom"]) (ps := ["top", "bottom"]) (k := 0) (g := g_nearest) F0 S hm (F0.binds fun _ _ _ _ _ _ us hl => match us, hl with | [_, _], _ => rfl) fun cdv A outer s H E hr => ?_
  unfold g_nearest
  exact (pds_one (pd_ret (pd_op dop_div (pd_op dop_add (pd_op dop_mul pd_int (pd_var (pv 0))) (pd_var (pv 1))) (pd_op dop_mul pd_int (pd_var (pv 1))))))
theorem sc_is_pair : FnScope ["thing"] ["thing"] (defScope (top 11)) := ⟨rfl, rfl, rfl, by decide +kernel, rfl, by decide +kernel, by decide +kernel⟩
theorem d_is_pair {f : Addr} {fd : FuncData} (F0 : Fun K "is_pair" "is_pair" (top 11) f fd) (hm : mg "is_pair" = some (.ref f)) (d_is_whole : Def P w K mg base 1 "is_whole" 1 F_is_whole) (z_isinstance : mg "isinstance" = none) (z_tuple : mg "tuple" = none) (z_len : mg "len" = none) : Def P w K mg base 2 "is_pair" 1 F_is_pair := by
  have S := sc_is_pair
  refine def_of (N := ["thing"]) (ps := ["thing"]) (k := 1) (g := g_is_pair) F0 S hm (F0.binds fun _ _ _ _ _ _ us hl => match us, hl with | [_], _ => rfl) fun cdv A outer s H E hr => ?_
  unfold g_is_pair
  exact (pds_one (pd_ret (pd_and (pd_isinst rfl (kit_tuple _) rfl z_isinstance rfl z_tuple PyProof.Rows.boot_tuple (pd_var (pv 0))) (pd_and (pd_cmp (dop_eq hr.units) (pd_callB dcall_len rfl z_len PySem.boot_len (pda_cons (pd_var (pv 0)) pda_nil)) pd_int (nomark _)) (pd_and (pd_call d_is_whole (hr.mono (by decide)) rfl rfl (pda_cons (pd_ix (pd_var (pv 0)) pd_int (fun _ _ => rfl)) pda_nil)) (pd_one (pd_call d_is_whole (hr.mono (by decide)) rfl rfl (pda_cons (pd_ix (pd_var (pv 0)) pd_int (fun _ _ => rfl)) pda_nil))))))))
theorem sc_are_places : FnScope ["things"] ["things"] (defScope (top 10)) := ⟨rfl, rfl, rfl, by decide +kernel, rfl, by decide +kernel, by decide +kernel⟩
theorem d_are_places {f : Addr} {fd : FuncData} (F0 : Fun K "are_places" "are_places" (top 10) f fd) (hm : mg "are_places" = some (.ref f)) (d_is_pair : Def P w K mg base 2 "is_pair" 1 F_is_pair) (z_isinstance : mg "isinstance" = none) (z_list : mg "list" = none) (z_len : mg "len" = none) (z_all : mg "all" = none) (z_zip : mg "zip" = none) : Def P w K mg base 3 "are_places" 1 F_are_places := by
  have S := sc_are_places
  refine def_of (N := ["things"]) (ps := ["things"]) (k := 2) (g := g_are_places) F0 S hm (F0.binds fun _ _ _ _ _ _ us hl => match us, hl with | [_], _ => rfl) fun cdv A outer s H E hr => ?_
  unfold g_are_places
  exact (pds_cons (pd_ifS (PDW.t (pdw_or (pdt_not (pdt_val (pd_isinst rfl (kit_list _) rfl z_isinstance rfl z_list PyProof.Rows.boot_list (pd_var (pv 0))))) (pdw_or1 (pdt_cmp (dop_eq hr.units) (pd_callB dcall_len rfl z_len PySem.boot_len (pda_cons (pd_var (pv 0)) pda_nil)) pd_int (nomark _))))) (pds_one (pd_ret pd_bl)) pds_nil)
    (pds_cons (pd_ifS (pdt_not (pdt_val (pd_callB (dcall_all rfl) rfl z_all PyProof.Rows.boot_all (pda_cons (pd_compG (fr := []) (tn := ["thing"]) rfl rfl (by decide +kernel) (by rfl) (fun _ _ h => h) (hhas_of (by rfl)) fr_nil (by decide +kernel) (pdi_any (pd_var (pv 0))) (fun C s3 H3 fp => (pdg_name (pg_name (i := 0) (show (["thing"] : List Str).Nodup from by decide +kernel) rfl (by first | exact Or.inl rfl | exact Or.inr rfl)))) (fun C s3 H3 fp => pdts_nil) (fun C s3 H3 fp => (pd_call d_is_pair (hr.mono (by decide)) rfl rfl (pda_cons (pd_var (pv 0)) pda_nil)))) pda_nil)))) (pds_one (pd_ret pd_bl)) pds_nil)
    (pds_one (pd_ret (pd_callB (dcall_all rfl) rfl z_all PyProof.Rows.boot_all (pda_cons (pd_compG (fr := []) (tn := ["one", "other"]) rfl rfl (by decide +kernel) (by rfl) (fun _ _ h => h) (hhas_of (by rfl)) fr_nil (by decide +kernel) (pdi_zip rfl z_zip (pda_cons (pd_var (pv 0)) (pda_cons (pd_cutS (pd_var (pv 0)) (pdo_some pd_int) pdo_none) pda_nil))) (fun C s3 H3 fp => (pdg_tup rfl (pdgs_cons (pdg_name (pg_name (i := 0) (show (["one", "other"] : List Str).Nodup from by decide +kernel) rfl (by first | exact Or.inl rfl | exact Or.inr rfl))) (pdgs_cons (pdg_name (pg_name (i := 1) (show (["one", "other"] : List Str).Nodup from by decide +kernel) rfl (by first | exact Or.inl rfl | exact Or.inr rfl))) pdgs_nil)))) (fun C s3 H3 fp => pdts_nil) (fun C s3 H3 fp => (pd_and (pd_cmp dop_lt (pd_ix (pd_var (pv 0)) pd_int (fun _ _ => rfl)) (pd_ix (pd_var (pv 1)) pd_int (fun _ _ => rfl)) (nomark _)) (pd_one (pd_cmp dop_lt (pd_ix (pd_var (pv 0)) pd_int (fun _ _ => rfl)) (pd_ix (pd_var (pv 1)) pd_int (fun _ _ => rfl)) (nomark _)))))) pda_nil))))))
theorem sc_refuse_no_places : FnScope ["things"] ["things"] (defScope (top 9)) := ⟨rfl, rfl, rfl, by decide +kernel, rfl, by decide +kernel, by decide +kernel⟩
theorem d_refuse_no_places {f : Addr} {fd : FuncData} (F0 : Fun K "refuse_no_places" "refuse_no_places" (top 9) f fd) (hm : mg "refuse_no_places" = some (.ref f)) {C_NoPlace : Addr} (m_NoPlace : mg "NoPlace" = some (.ref C_NoPlace)) (x_NoPlace : PySem.W.excIn K C_NoPlace [.type "ValueError", .type "Exception", .type "BaseException", .type "object"] "ValueError.__new__" = true) (d_are_places : Def P w K mg base 3 "are_places" 1 F_are_places) : DefX P w K mg base 4 "refuse_no_places" 1 F_refuse_no_places := by
  have S := sc_refuse_no_places
  refine defX_of (N := ["things"]) (ps := ["things"]) (k := 3) (g := g_refuse_no_places) F0 S hm (F0.binds fun _ _ _ _ _ _ us hl => match us, hl with | [_], _ => rfl) fun cdv A outer s H E hr => ?_
  unfold g_refuse_no_places
  exact (pds_one (pd_ifS (pdt_not (pdt_val (pd_call d_are_places (hr.mono (by decide)) rfl rfl (pda_cons (pd_var (pv 0)) pda_nil)))) (pds_one (pd_raise raises_def (fun _ _ h => h) x_NoPlace PySem.F.excBase_ValueError rfl rfl m_NoPlace (pda_cons pd_str pda_nil))) pds_nil))
theorem sc_way_of : FnScope ["pair"] ["pair"] (defScope (top 13)) := ⟨rfl, rfl, rfl, by decide +kernel, rfl, by decide +kernel, by decide +kernel⟩
theorem d_way_of {f : Addr} {fd : FuncData} (F0 : Fun K "way_of" "way_of" (top 13) f fd) (hm : mg "way_of" = some (.ref f)) : Def P w K mg base 1 "way_of" 1 F_way_of := by
  have S := sc_way_of
  refine def_of (N := ["pair"]) (ps := ["pair"]) (k := 0) (g := g_way_of) F0 S hm (F0.binds fun _ _ _ _ _ _ us hl => match us, hl with | [_], _ => rfl) fun cdv A outer s H E hr => ?_
  unfold g_way_of
  exact (pds_one (pd_ret (pd_op dop_sub (pd_ix (pd_var (pv 0)) pd_int (fun _ _ => rfl)) (pd_ix (pd_var (pv 0)) pd_int (fun _ _ => rfl)))))
theorem sc_moved_between : FnScope ["one", "other", "n"] ["one", "other", "n"] (defScope (top 14)) := ⟨rfl, rfl, rfl, by decide +kernel, rfl, by decide +kernel, by decide +kernel⟩
theorem d_moved_between {f : Addr} {fd : FuncData} (F0 : Fun K "moved_between" "moved_between" (top 14) f fd) (hm : mg "moved_between" = some (.ref f)) (d_nearest : Def P w K mg base 1 "nearest" 2 F_nearest) : Def P w K mg base 2 "moved_between" 3 F_moved_between := by
  have S := sc_moved_between
  refine def_of (N := ["one", "other", "n"]) (ps := ["one", "other", "n"]) (k := 1) (g := g_moved_between) F0 S hm (F0.binds fun _ _ _ _ _ _ us hl => match us, hl with | [_, _, _], _ => rfl) fun cdv A outer s H E hr => ?_
  unfold g_moved_between
  exact (pds_one (pd_ret (pd_op dop_add (pd_ix (pd_var (pv 0)) pd_int (fun _ _ => rfl)) (pd_call d_nearest (hr.mono (by decide)) rfl rfl (pda_cons (pd_op dop_mul (pd_op dop_sub (pd_var (pv 2)) (pd_ix (pd_var (pv 0)) pd_int (fun _ _ => rfl))) (pd_op dop_sub (pd_ix (pd_var (pv 1)) pd_int (fun _ _ => rfl)) (pd_ix (pd_var (pv 0)) pd_int (fun _ _ => rfl)))) (pda_cons (pd_op dop_sub (pd_ix (pd_var (pv 1)) pd_int (fun _ _ => rfl)) (pd_ix (pd_var (pv 0)) pd_int (fun _ _ => rfl))) pda_nil))))))
theorem sc_moment_moved : FnScope ["places", "n", "one", "other"] ["places", "n"] (defScope (top 12)) := ⟨rfl, rfl, rfl, by decide +kernel, rfl, by decide +kernel, by decide +kernel⟩
theorem d_moment_moved {f : Addr} {fd : FuncData} (F0 : Fun K "moment_moved" "moment_moved" (top 12) f fd) (hm : mg "moment_moved" = some (.ref f)) (d_way_of : Def P w K mg base 1 "way_of" 1 F_way_of) (d_moved_between : Def P w K mg base 2 "moved_between" 3 F_moved_between) (z_zip : mg "zip" = none) : Def P w K mg base 3 "moment_moved" 2 F_moment_moved := by
  have S := sc_moment_moved
  refine def_of (N := ["places", "n", "one", "other"]) (ps := ["places", "n"]) (k := 2) (g := g_moment_moved) F0 S hm (F0.binds fun _ _ _ _ _ _ us hl => match us, hl with | [_, _], _ => rfl) fun cdv A outer s H E hr => ?_
  unfold g_moment_moved
  exact (pds_cons (pd_ifS (pdt_cmp dop_leD (pd_var (pv 1)) (pd_ix (pd_ix (pd_var (pv 0)) pd_int (fun _ _ => rfl)) pd_int (fun _ _ => rfl)) (nomark _)) (pds_one (pd_ret (pd_op dop_add (pd_var (pv 1)) (pd_call d_way_of (hr.mono (by decide)) rfl rfl (pda_cons (pd_ix (pd_var (pv 0)) pd_int (fun _ _ => rfl)) pda_nil))))) pds_nil)
    (pds_cons (pd_forI PassesOwn.never rfl (pdi_zip rfl z_zip (pda_cons (pd_var (pv 0)) (pda_cons (pd_cutS (pd_var (pv 0)) (pdo_some pd_int) pdo_none) pda_nil))) (pdg_tup rfl (pdgs_cons (pdg_name (pg_name (i := 2) S.nd rfl (by first | exact Or.inl rfl | exact Or.inr rfl))) (pdgs_cons (pdg_name (pg_name (i := 3) S.nd rfl (by first | exact Or.inl rfl | exact Or.inr rfl))) pdgs_nil))) (pds_one (pd_ifS (pdt_cmp dop_leD (pd_var (pv 1)) (pd_ix (pd_var (pv 3)) pd_int (fun _ _ => rfl)) (nomark _)) (pds_one (pd_ret (pd_call d_moved_between (hr.mono (by decide)) rfl rfl (pda_cons (pd_var (pv 2)) (pda_cons (pd_var (pv 3)) (pda_cons (pd_var (pv 1)) pda_nil)))))) pds_nil)))
    (pds_one (pd_ret (pd_op dop_add (pd_var (pv 1)) (pd_call d_way_of (hr.mono (by decide)) rfl rfl (pda_cons (pd_ix (pd_var (pv 0)) (pd_neg pd_int) (fun _ _ => rfl)) pda_nil)))))))
theorem sc_cue_moved : FnScope ["places", "cue", "at", "begin", "end"] ["places", "cue", "at"] (defScope (top 15)) := ⟨rfl, rfl, rfl, by decide +kernel, rfl, by decide +kernel, by decide +kernel⟩
theorem d_cue_moved {f : Addr} {fd : FuncData} (F0 : Fun K "cue_moved" "cue_moved" (top 15) f fd) (hm : mg "cue_moved" = some (.ref f)) {C_NoRoom : Addr} (m_NoRoom : mg "NoRoom" = some (.ref C_NoRoom)) (d_moment_moved : Def P w K mg base 3 "moment_moved" 2 F_moment_moved) (d_NoRoom_init : XDef P w K mg base 1 "NoRoom" "at" C_NoRoom) : DefX P w K mg base 4 "cue_moved" 3 F_cue_moved := by
  have S := sc_cue_moved
  refine defX_of (N := ["places", "cue", "at", "begin", "end"]) (ps := ["places", "cue", "at"]) (k := 3) (g := g_cue_moved) F0 S hm (F0.binds fun _ _ _ _ _ _ us hl => match us, hl with | [_, _, _], _ => rfl) fun cdv A outer s H E hr => ?_
  unfold g_cue_moved
  exact (pds_cons (pd_set (i := 3) S.nd rfl (by first | exact Or.inl rfl | exact Or.inr rfl) (pd_call d_moment_moved (hr.mono (by decide)) rfl rfl (pda_cons (pd_var (pv 0)) (pda_cons (pd_ix (pd_var (pv 1)) pd_int (fun _ _ => rfl)) pda_nil))))
    (pds_cons (pd_set (i := 4) S.nd rfl (by first | exact Or.inl rfl | exact Or.inr rfl) (pd_call d_moment_moved (hr.mono (by decide)) rfl rfl (pda_cons (pd_var (pv 0)) (pda_cons (pd_ix (pd_var (pv 1)) pd_int (fun _ _ => rfl)) pda_nil))))
    (pds_cons (pd_ifS (PDW.t (pdw_or (pdt_cmp dop_lt (pd_var (pv 3)) pd_int (nomark _)) (pdw_or1 (pdt_cmp (dop_eq hr.units) (pd_var (pv 3)) (pd_var (pv 4)) (nomark _))))) (pds_one (pd_raiseF d_NoRoom_init XF.raisesF_def (fun _ _ h => h) (hr.mono (by decide)) rfl rfl m_NoRoom (pda_cons (pd_var (pv 2)) pda_nil))) pds_nil)
    (pds_one (pd_ret (pd_tup (pda_cons (pd_var (pv 3)) (pda_cons (pd_var (pv 4)) (pda_cons (pd_ix (pd_var (pv 1)) pd_int (fun _ _ => rfl)) (pda_cons (pd_ix (pd_var (pv 1)) pd_int (fun _ _ => rfl)) pda_nil))))))))))
theorem sc_moved_cues : FnScope ["places", "cues"] ["places", "cues"] (defScope (top 8)) := ⟨rfl, rfl, rfl, by decide +kernel, rfl, by decide +kernel, by decide +kernel⟩
theorem d_moved_cues {f : Addr} {fd : FuncData} (F0 : Fun K "moved_cues" "moved_cues" (top 8) f fd) (hm : mg "moved_cues" = some (.ref f)) (d_refuse_no_places : DefX P w K mg base 4 "refuse_no_places" 1 F_refuse_no_places) (d_cue_moved : DefX P w K mg base 4 "cue_moved" 3 F_cue_moved) (z_enumerate : mg "enumerate" = none) : DefX P w K mg base 5 "moved_cues" 2 F_moved_cues := by
  have S := sc_moved_cues
  refine defX_of (N := ["places", "cues"]) (ps := ["places", "cues"]) (k := 4) (g := g_moved_cues) F0 S hm (F0.binds fun _ _ _ _ _ _ us hl => match us, hl with | [_, _], _ => rfl) fun cdv A outer s H E hr => ?_
  unfold g_moved_cues
  exact (pds_cons (pd_expr (pd_callX d_refuse_no_places (hr.mono (by decide)) passes_def (fun _ _ h => h) rfl rfl (pda_cons (pd_var (pv 0)) pda_nil)))
    (pds_one (pd_ret (pd_compX (fr := [(0, "places")]) (tn := ["at", "cue"]) rfl rfl rfl passes_def (fun _ _ h => h) rfl (by decide +kernel) (by rfl) (fun _ _ h => h) (hhas_of (by rfl)) (fr_cons rfl rfl rfl ⟨_, rfl⟩ fr_nil) (by decide +kernel) (pdi_enum rfl z_enumerate (pda_cons (pd_var (pv 1)) pda_nil)) (fun C s3 H3 fp => (pdg_tup rfl (pdgs_cons (pdg_name (pg_name (i := 0) (show (["at", "cue", "places"] : List Str).Nodup from by decide +kernel) rfl (by first | exact Or.inl rfl | exact Or.inr rfl))) (pdgs_cons (pdg_name (pg_name (i := 1) (show (["at", "cue", "places"] : List Str).Nodup from by decide +kernel) rfl (by first | exact Or.inl rfl | exact Or.inr rfl))) pdgs_nil)))) (fun C s3 H3 fp => pdts_nil) (fun C s3 H3 fp xe hps => (pd_callX d_cue_moved (hr.mono (by decide)) hps (fun _ _ h => h) rfl rfl (pda_cons (pd_var (pv 2)) (pda_cons (pd_var (pv 1)) (pda_cons (pd_var (pv 0)) pda_nil)))))))))
theorem sc__law_cell_at : FnScope ["_law_script", "_law_k"] ["_law_script", "_law_k"] (defScope (top 17)) := ⟨rfl, rfl, rfl, by decide +kernel, rfl, by decide +kernel, by decide +kernel⟩
theorem d__law_cell_at {f : Addr} {fd : FuncData} (F0 : Fun K "_law_cell_at" "_law_cell_at" (top 17) f fd) (hm : mg "_law_cell_at" = some (.ref f)) (z_len : mg "len" = none) : Def P w K mg base 1 "_law_cell_at" 2 F__law_cell_at := by
  have S := sc__law_cell_at
  refine def_of (N := ["_law_script", "_law_k"]) (ps := ["_law_script", "_law_k"]) (k := 0) (g := g__law_cell_at) F0 S hm (F0.binds fun _ _ _ _ _ _ us hl => match us, hl with | [_, _], _ => rfl) fun cdv A outer s H E hr => ?_
  unfold g__law_cell_at
  exact (pds_cons (pd_ifS (pdt_cmp dop_lt (pd_var (pv 1)) (pd_callB dcall_len rfl z_len PySem.boot_len (pda_cons (pd_var (pv 0)) pda_nil)) (nomark _)) (pds_one (pd_ret (pd_ix (pd_var (pv 0)) (pd_var (pv 1)) (fun _ _ => rfl)))) pds_nil)
    (pds_one (pd_ret pd_int)))
theorem sc__law_mixed : FnScope ["_law_cell", "_law_by"] ["_law_cell", "_law_by"] (defScope (top 18)) := ⟨rfl, rfl, rfl, by decide +kernel, rfl, by decide +kernel, by decide +kernel⟩
theorem d__law_mixed {f : Addr} {fd : FuncData} (F0 : Fun K "_law_mixed" "_law_mixed" (top 18) f fd) (hm : mg "_law_mixed" = some (.ref f)) : Def P w K mg base 1 "_law_mixed" 2 F__law_mixed := by
  have S := sc__law_mixed
  refine def_of (N := ["_law_cell", "_law_by"]) (ps := ["_law_cell", "_law_by"]) (k := 0) (g := g__law_mixed) F0 S hm (F0.binds fun _ _ _ _ _ _ us hl => match us, hl with | [_, _], _ => rfl) fun cdv A outer s H E hr => ?_
  unfold g__law_mixed
  exact (pds_one (pd_ret (pd_op dop_mod (pd_op dop_mul (pd_op dop_mod (pd_var (pv 0)) pd_int) (pd_var (pv 1))) pd_int)))
theorem sc__law_places : FnScope ["_law_script", "_law_old", "_law_new", "_law_places_here", "_law_cell", "_law_number"] ["_law_script"] (defScope (top 19)) := ⟨rfl, rfl, rfl, by decide +kernel, rfl, by decide +kernel, by decide +kernel⟩
theorem d__law_places {f : Addr} {fd : FuncData} (F0 : Fun K "_law_places" "_law_places" (top 19) f fd) (hm : mg "_law_places" = some (.ref f)) (d__law_cell_at : Def P w K mg base 1 "_law_cell_at" 2 F__law_cell_at) (d__law_mixed : Def P w K mg base 1 "_law_mixed" 2 F__law_mixed) : Def P w K mg base 2 "_law_places" 1 F__law_places := by
  have S := sc__law_places
  refine def_of (N := ["_law_script", "_law_old", "_law_new", "_law_places_here", "_law_cell", "_law_number"]) (ps := ["_law_script"]) (k := 1) (g := g__law_places) F0 S hm (F0.binds fun _ _ _ _ _ _ us hl => match us, hl with | [_], _ => rfl) fun cdv A outer s H E hr => ?_
  unfold g__law_places b__law_places_0
  exact (pds_cons (pd_set (i := 1) S.nd rfl (by first | exact Or.inl rfl | exact Or.inr rfl) (pd_op dop_mod (pd_call d__law_mixed (hr.mono (by decide)) rfl rfl (pda_cons (pd_call d__law_cell_at (hr.mono (by decide)) rfl rfl (pda_cons (pd_var (pv 0)) (pda_cons pd_int pda_nil))) (pda_cons pd_int pda_nil))) pd_int))
    (pds_cons (pd_set (i := 2) S.nd rfl (by first | exact Or.inl rfl | exact Or.inr rfl) (pd_op dop_add (pd_op dop_sub (pd_var (pv 1)) pd_int) (pd_op dop_mod (pd_call d__law_mixed (hr.mono (by decide)) rfl rfl (pda_cons (pd_call d__law_cell_at (hr.mono (by decide)) rfl rfl (pda_cons (pd_var (pv 0)) (pda_cons pd_int pda_nil))) (pda_cons pd_int pda_nil))) pd_int)))
    (pds_cons (pd_newL (i := 3) S.nd rfl (by first | exact Or.inl rfl | exact Or.inr rfl) (pdn_lst (pda_cons (pd_tup (pda_cons (pd_var (pv 1)) (pda_cons (pd_var (pv 2)) pda_nil))) pda_nil)))
    (pds_cons (pd_forI PassesOwn.never rfl (pdi_any (pd_cutS (pd_var (pv 0)) (pdo_some pd_int) (pdo_some pd_int))) (pdg_name (pg_name (i := 4) S.nd rfl (by first | exact Or.inl rfl | exact Or.inr rfl))) (pds_cons (pd_set (i := 1) S.nd rfl (by first | exact Or.inl rfl | exact Or.inr rfl) (pd_op dop_add (pd_op dop_add (pd_var (pv 1)) pd_int) (pd_op dop_mod (pd_call d__law_mixed (hr.mono (by decide)) rfl rfl (pda_cons (pd_var (pv 4)) (pda_cons pd_int pda_nil))) pd_int)))
    (pds_cons (pd_set (i := 5) S.nd rfl (by first | exact Or.inl rfl | exact Or.inr rfl) (pd_call d__law_mixed (hr.mono (by decide)) rfl rfl (pda_cons (pd_var (pv 4)) (pda_cons pd_int pda_nil))))
    (pds_cons (pd_set (i := 2) S.nd rfl (by first | exact Or.inl rfl | exact Or.inr rfl) (pd_op dop_add (pd_op dop_add (pd_var (pv 2)) pd_int) (pd_ix (pd_lst (pda_cons (pd_op dop_mod (pd_op dop_div (pd_var (pv 5)) pd_int) pd_int) (pda_cons (pd_op dop_mod (pd_op dop_div (pd_var (pv 5)) pd_int) pd_int) (pda_cons (pd_op dop_mod (pd_op dop_div (pd_var (pv 5)) pd_int) pd_int) (pda_cons pd_int pda_nil))))) (pd_op dop_mod (pd_var (pv 5)) pd_int) (fun _ _ => rfl))))
    (pds_one (pd_app (i := 3) (pv 3) (pd_tup (pda_cons (pd_var (pv 1)) (pda_cons (pd_var (pv 2)) pda_nil)))))))))
    (pds_one (pd_retO (pv 3)))))))
theorem sc__law_cues : FnScope ["_law_script", "_law_cues_here", "_law_begin", "_law_cell", "_law_number", "_law_end", "_law_hand", "_law_words"] ["_law_script"] (defScope (top 20)) := ⟨rfl, rfl, rfl, by decide +kernel, rfl, by decide +kernel, by decide +kernel⟩
theorem d__law_cues {f : Addr} {fd : FuncData} (F0 : Fun K "_law_cues" "_law_cues" (top 20) f fd) (hm : mg "_law_cues" = some (.ref f)) (d__law_mixed : Def P w K mg base 1 "_law_mixed" 2 F__law_mixed) (d__law_cell_at : Def P w K mg base 1 "_law_cell_at" 2 F__law_cell_at) (z_range : mg "range" = none) : Def P w K mg base 2 "_law_cues" 1 F__law_cues := by
  have S := sc__law_cues
  refine def_of (N := ["_law_script", "_law_cues_here", "_law_begin", "_law_cell", "_law_number", "_law_end", "_law_hand", "_law_words"]) (ps := ["_law_script"]) (k := 1) (g := g__law_cues) F0 S hm (F0.binds fun _ _ _ _ _ _ us hl => match us, hl with | [_], _ => rfl) fun cdv A outer s H E hr => ?_
  unfold g__law_cues b__law_cues_0
  exact (pds_cons (pd_newL (i := 1) S.nd rfl (by first | exact Or.inl rfl | exact Or.inr rfl) (pdn_lst pda_nil))
    (pds_cons (pd_set (i := 2) S.nd rfl (by first | exact Or.inl rfl | exact Or.inr rfl) pd_int)
    (pds_cons (pd_forI PassesOwn.never rfl (pdi_any (pd_op dop_add (pd_lst (pda_cons (pd_call d__law_cell_at (hr.mono (by decide)) rfl rfl (pda_cons (pd_var (pv 0)) (pda_cons pd_int pda_nil))) pda_nil)) (pd_cutS (pd_var (pv 0)) (pdo_some pd_int) (pdo_some pd_int)))) (pdg_name (pg_name (i := 3) S.nd rfl (by first | exact Or.inl rfl | exact Or.inr rfl))) (pds_cons (pd_set (i := 4) S.nd rfl (by first | exact Or.inl rfl | exact Or.inr rfl) (pd_call d__law_mixed (hr.mono (by decide)) rfl rfl (pda_cons (pd_var (pv 3)) (pda_cons pd_int pda_nil))))
    (pds_cons (pd_set (i := 2) S.nd rfl (by first | exact Or.inl rfl | exact Or.inr rfl) (pd_op dop_add (pd_var (pv 2)) (pd_ix (pd_lst (pda_cons pd_int (pda_cons (pd_op dop_mod (pd_op dop_div (pd_var (pv 4)) pd_int) pd_int) (pda_cons (pd_op dop_mod (pd_op dop_div (pd_var (pv 4)) pd_int) pd_int) (pda_cons (pd_op dop_mod (pd_op dop_div (pd_var (pv 4)) pd_int) pd_int) pda_nil))))) (pd_op dop_mod (pd_var (pv 4)) pd_int) (fun _ _ => rfl))))
    (pds_cons (pd_set (i := 5) S.nd rfl (by first | exact Or.inl rfl | exact Or.inr rfl) (pd_op dop_add (pd_op dop_add (pd_var (pv 2)) pd_int) (pd_ix (pd_lst (pda_cons (pd_op dop_mod (pd_op dop_div (pd_var (pv 4)) pd_int) pd_int) (pda_cons (pd_op dop_mod (pd_op dop_div (pd_var (pv 4)) pd_int) pd_int) (pda_cons (pd_op dop_mod (pd_op dop_div (pd_var (pv 4)) pd_int) pd_int) pda_nil)))) (pd_op dop_mod (pd_op dop_div (pd_var (pv 4)) pd_int) pd_int) (fun _ _ => rfl))))
    (pds_cons (pd_set (i := 6) S.nd rfl (by first | exact Or.inl rfl | exact Or.inr rfl) (pd_meth PySem.F.slot_str_join PySem.F.type_str_join dmt_join pd_str (pda_cons (pd_compG (fr := [(4, "_law_number")]) (tn := ["_law_k"]) rfl rfl (by decide +kernel) (by rfl) (fun _ _ h => h) (hhas_of (by rfl)) (fr_cons rfl rfl rfl ⟨_, rfl⟩ fr_nil) (by decide +kernel) (pdi_rng1 rfl z_range (pda_cons (pd_op dop_add pd_int (pd_op dop_mod (pd_var (pv 4)) pd_int)) pda_nil)) (fun C s3 H3 fp => (pdg_name (pg_name (i := 0) (show (["_law_k", "_law_number"] : List Str).Nodup from by decide +kernel) rfl (by first | exact Or.inl rfl | exact Or.inr rfl)))) (fun C s3 H3 fp => pdts_nil) (fun C s3 H3 fp => (pd_ix pd_str (pd_op dop_mod (pd_op dop_div (pd_var (pv 1)) (pd_op dop_add (pd_var (pv 0)) pd_int)) pd_int) (fun _ _ => rfl)))) pda_nil)))
    (pds_cons (pd_set (i := 7) S.nd rfl (by first | exact Or.inl rfl | exact Or.inr rfl) (pd_ix (pd_lst (pda_cons pd_str (pda_cons pd_str (pda_cons pd_str (pda_cons pd_str pda_nil))))) (pd_op dop_mod (pd_op dop_div (pd_var (pv 4)) pd_int) pd_int) (fun _ _ => rfl)))
    (pds_one (pd_app (i := 1) (pv 1) (pd_tup (pda_cons (pd_var (pv 2)) (pda_cons (pd_var (pv 5)) (pda_cons (pd_var (pv 6)) (pda_cons (pd_var (pv 7)) pda_nil)))))))))))))
    (pds_one (pd_retO (pv 1))))))
theorem sc__law_at : FnScope ["_law_places_here", "_law_n", "_law_k", "_law_a", "_law_b", "_law_c", "_law_d"] ["_law_places_here", "_law_n"] (defScope (top 21)) := ⟨rfl, rfl, rfl, by decide +kernel, rfl, by decide +kernel, by decide +kernel⟩
theorem d__law_at {f : Addr} {fd : FuncData} (F0 : Fun K "_law_at" "_law_at" (top 21) f fd) (hm : mg "_law_at" = some (.ref f)) (z_len : mg "len" = none) (z_range : mg "range" = none) : Def P w K mg base 1 "_law_at" 2 F__law_at := by
  have S := sc__law_at
  refine def_of (N := ["_law_places_here", "_law_n", "_law_k", "_law_a", "_law_b", "_law_c", "_law_d"]) (ps := ["_law_places_here", "_law_n"]) (k := 0) (g := g__law_at) F0 S hm (F0.binds fun _ _ _ _ _ _ us hl => match us, hl with | [_, _], _ => rfl) fun cdv A outer s H E hr => ?_
  unfold g__law_at b__law_at_0
  exact (pds_cons (pd_ifS (pdt_cmp dop_lt (pd_var (pv 1)) (pd_ix (pd_ix (pd_var (pv 0)) pd_int (fun _ _ => rfl)) pd_int (fun _ _ => rfl)) (nomark _)) (pds_one (pd_ret (pd_op dop_add (pd_op dop_sub (pd_var (pv 1)) (pd_ix (pd_ix (pd_var (pv 0)) pd_int (fun _ _ => rfl)) pd_int (fun _ _ => rfl))) (pd_ix (pd_ix (pd_var (pv 0)) pd_int (fun _ _ => rfl)) pd_int (fun _ _ => rfl))))) pds_nil)
    (pds_cons (pd_forI PassesOwn.never rfl (pdi_rng2 rfl z_range (pda_cons pd_int (pda_cons (pd_callB dcall_len rfl z_len PySem.boot_len (pda_cons (pd_var (pv 0)) pda_nil)) pda_nil))) (pdg_name (pg_name (i := 2) S.nd rfl (by first | exact Or.inl rfl | exact Or.inr rfl))) (pds_cons (pd_asg (pd_ix (pd_var (pv 0)) (pd_op dop_sub (pd_var (pv 2)) pd_int) (fun _ _ => rfl)) (pdg_tup rfl (pdgs_cons (pdg_name (pg_name (i := 3) S.nd rfl (by first | exact Or.inl rfl | exact Or.inr rfl))) (pdgs_cons (pdg_name (pg_name (i := 4) S.nd rfl (by first | exact Or.inl rfl | exact Or.inr rfl))) pdgs_nil))))
    (pds_cons (pd_asg (pd_ix (pd_var (pv 0)) (pd_var (pv 2)) (fun _ _ => rfl)) (pdg_tup rfl (pdgs_cons (pdg_name (pg_name (i := 5) S.nd rfl (by first | exact Or.inl rfl | exact Or.inr rfl))) (pdgs_cons (pdg_name (pg_name (i := 6) S.nd rfl (by first | exact Or.inl rfl | exact Or.inr rfl))) pdgs_nil))))
    (pds_one (pd_ifS (pdt_cmp dop_lt (pd_var (pv 1)) (pd_var (pv 5)) (nomark _)) (pds_one (pd_ret (pd_op dop_add (pd_var (pv 4)) (pd_op dop_div (pd_op dop_sub (pd_op dop_add (pd_op dop_mul (pd_op dop_mul pd_int (pd_op dop_sub (pd_var (pv 1)) (pd_var (pv 3)))) (pd_op dop_sub (pd_var (pv 6)) (pd_var (pv 4)))) (pd_var (pv 5))) (pd_var (pv 3))) (pd_op dop_mul pd_int (pd_op dop_sub (pd_var (pv 5)) (pd_var (pv 3)))))))) pds_nil)))))
    (pds_one (pd_ret (pd_op dop_add (pd_op dop_sub (pd_var (pv 1)) (pd_ix (pd_ix (pd_var (pv 0)) (pd_neg pd_int) (fun _ _ => rfl)) pd_int (fun _ _ => rfl))) (pd_ix (pd_ix (pd_var (pv 0)) (pd_neg pd_int) (fun _ _ => rfl)) pd_int (fun _ _ => rfl)))))))
theorem sc__law_told : FnScope ["_law_places_here", "_law_cues_here", "_law_found", "e"] ["_law_places_here", "_law_cues_here"] (defScope (top 22)) := ⟨rfl, rfl, rfl, by decide +kernel, rfl, by decide +kernel, by decide +kernel⟩
theorem d__law_told {f : Addr} {fd : FuncData} (F0 : Fun K "_law_told" "_law_told" (top 22) f fd) (hm : mg "_law_told" = some (.ref f)) {C_NoRoom : Addr} (m_NoRoom : mg "NoRoom" = some (.ref C_NoRoom)) {C_CueError : Addr} (m_CueError : mg "CueError" = some (.ref C_CueError)) {C_NoPlace : Addr} (m_NoPlace : mg "NoPlace" = some (.ref C_NoPlace)) (x1_NoRoom : XF.excIn1 K C_NoRoom XF.VE "ValueError.__new__" = true) (g1_NoRoom : PySem.W.findIn K (.ref C_NoRoom) "__getattribute__" = some (some (.builtin "BaseException.__getattribute__"))) (g2_NoRoom : PySem.W.findIn K (.ref C_NoRoom) "__getattr__" = some none) (sa_NoRoom : PySem.W.findIn K (.ref C_NoRoom) "__setattr__" = some (some (.builtin "object.__setattr__"))) (g7_NoRoom : PySem.W.mroIn K C_NoRoom (.type "BaseException") = some true) (g6_NoRoom : PySem.W.mroIn K C_NoRoom (.type "object") = some true) (hd_NoRoom : PySem.W.hasDictIn K C_NoRoom = true) (st_NoRoom : ((PySem.W.clsIn K C_NoRoom).any fun cd => XF.strip cd.mro == XF.VE) = true) (na_NoRoom_at : PySem.W.findIn K (.ref C_NoRoom) "at" = some none) (g3_NoRoom : PySem.W.findIn K (.ref C_NoRoom) "__class__" = some (some (.builtin "object.__class__"))) (g4_ : PySem.W.specialIn K (.builtin "object.__class__") "__get__" = some (some (.builtin "getset_descriptor.__get__"))) (g5_ : PySem.W.takesIn K (.builtin "object.__class__") = some true) (ki_NoRoom_CueError : PySem.W.kitOne K (.ref C_NoRoom) (.ref C_CueError) = some true) (ki_NoRoom_NoPlace : PySem.W.kitOne K (.ref C_NoRoom) (.ref C_NoPlace) = some false) (d_moved_cues : DefX P w K mg base 5 "moved_cues" 2 F_moved_cues) (z_isinstance : mg "isinstance" = none) : Def P w K mg base 6 "_law_told" 2 F__law_told := by
  have S := sc__law_told
  refine def_of (N := ["_law_places_here", "_law_cues_here", "_law_found", "e"]) (ps := ["_law_places_here", "_law_cues_here"]) (k := 5) (g := g__law_told) F0 S hm (F0.binds fun _ _ _ _ _ _ us hl => match us, hl with | [_, _], _ => rfl) fun cdv A outer s H E hr => ?_
  unfold g__law_told
  exact (pds_cons (pd_set (i := 2) S.nd rfl (by first | exact Or.inl rfl | exact Or.inr rfl) pd_non)
    (pds_cons (pd_try_xf (i := 3) x1_NoRoom rfl rfl rfl m_NoRoom S.nd rfl rfl (fun pn xe Ex hps => (pds_one (pd_set (i := 2) S.nd rfl (by first | exact Or.inl rfl | exact Or.inr rfl) (pd_callX d_moved_cues (hr.mono (by decide)) hps (fun _ _ h => h) rfl rfl (pda_cons (pd_var (pv 0)) (pda_cons (pd_var (pv 1)) pda_nil)))))) (fun pn a oe ax od j tk hin hoe hnc hdi hin2 hlk => (pds_one (pd_set (i := 2) S.nd rfl (by first | exact Or.inl rfl | exact Or.inr rfl) (pd_tup (pda_cons pd_str (pda_cons (pd_xat (i := 3) ⟨g1_NoRoom, g2_NoRoom, sa_NoRoom, g7_NoRoom, g6_NoRoom, hd_NoRoom, st_NoRoom⟩ na_NoRoom_at hin hoe hnc hdi hin2 hlk rfl (Or.inl rfl)) (pda_cons (pd_and (pd_isx (v := .ref C_CueError) (i := 3) hin hoe (excKit_mk g1_NoRoom g2_NoRoom g3_NoRoom g4_ g5_ g6_NoRoom g7_NoRoom) rfl ki_NoRoom_CueError rfl rfl z_isinstance rfl (Or.inl rfl) (pe_glob rfl m_CueError rfl)) (pd_one (pd_not (pd_isx (v := .ref C_NoPlace) (i := 3) hin hoe (excKit_mk g1_NoRoom g2_NoRoom g3_NoRoom g4_ g5_ g6_NoRoom g7_NoRoom) rfl ki_NoRoom_NoPlace rfl rfl z_isinstance rfl (Or.inl rfl) (pe_glob rfl m_NoPlace rfl))))) pda_nil))))))))
    (pds_one (pd_ret (pd_var (pv 2))))))
theorem sc__law_same : FnScope ["_law_found", "_law_due", "_law_one"] ["_law_found", "_law_due"] (defScope (top 23)) := ⟨rfl, rfl, rfl, by decide +kernel, rfl, by decide +kernel, by decide +kernel⟩
theorem d__law_same {f : Addr} {fd : FuncData} (F0 : Fun K "_law_same" "_law_same" (top 23) f fd) (hm : mg "_law_same" = some (.ref f)) (z_isinstance : mg "isinstance" = none) (z_list : mg "list" = none) (z_tuple : mg "tuple" = none) (z_bool : mg "bool" = none) : Def P w K mg base 1 "_law_same" 2 F__law_same := by
  have S := sc__law_same
  refine def_of (N := ["_law_found", "_law_due", "_law_one"]) (ps := ["_law_found", "_law_due"]) (k := 0) (g := g__law_same) F0 S hm (F0.binds fun _ _ _ _ _ _ us hl => match us, hl with | [_, _], _ => rfl) fun cdv A outer s H E hr => ?_
  unfold g__law_same b__law_same_0
  exact (pds_cons (pd_ifS (PDW.t (pdw_or (pdt_not (pdt_val (pd_isinst rfl (kit_list _) rfl z_isinstance rfl z_list PyProof.Rows.boot_list (pd_var (pv 0))))) (pdw_or1 (pdt_cmp (dop_ne hr.units) (pd_var (pv 0)) (pd_var (pv 1)) (nomark _))))) (pds_one (pd_ret pd_bl)) pds_nil)
    (pds_cons (pd_forI PassesOwn.never rfl (pdi_any (pd_var (pv 0))) (pdg_name (pg_name (i := 2) S.nd rfl (by first | exact Or.inl rfl | exact Or.inr rfl))) (pds_one (pd_ifS (PDW.t (pdw_or (pdt_not (pdt_val (pd_isinst rfl (kit_tuple _) rfl z_isinstance rfl z_tuple PyProof.Rows.boot_tuple (pd_var (pv 2))))) (pdw_or (pdt_val (pd_isinst rfl (kit_bool _) rfl z_isinstance rfl z_bool PyProof.Rows.boot_bool (pd_ix (pd_var (pv 2)) pd_int (fun _ _ => rfl)))) (pdw_or1 (pdt_val (pd_isinst rfl (kit_bool _) rfl z_isinstance rfl z_bool PyProof.Rows.boot_bool (pd_ix (pd_var (pv 2)) pd_int (fun _ _ => rfl)))))))) (pds_one (pd_ret pd_bl)) pds_nil)))
    (pds_one (pd_ret pd_bl))))
theorem sc_moved_cues_new : FnScope ["places", "cues"] ["places", "cues"] (defScope (top 8)) := ⟨rfl, rfl, rfl, by decide +kernel, rfl, by decide +kernel, by decide +kernel⟩
theorem d_moved_cues_new {f : Addr} {fd : FuncData} (F0 : Fun K "moved_cues" "moved_cues" (top 8) f fd) (hm : mg "moved_cues" = some (.ref f)) (d_refuse_no_places : DefX P w K mg base 4 "refuse_no_places" 1 F_refuse_no_places) (d_cue_moved : DefX P w K mg base 4 "cue_moved" 3 F_cue_moved) (z_enumerate : mg "enumerate" = none) : DefF P w K mg base 5 "moved_cues" 2 F_moved_cues_new := by
  have S := sc_moved_cues_new
  refine deff_of (N := ["places", "cues"]) (ps := ["places", "cues"]) (k := 4) (g := g_moved_cues_new) F0 S hm (F0.binds fun _ _ _ _ _ _ us hl => match us, hl with | [_, _], _ => rfl) fun cdv A outer s H E hr => ?_
  unfold g_moved_cues_new
  exact (pdsf_cons (pd_expr (pd_callN d_refuse_no_places (hr.mono (by decide)) rfl rfl (pda_cons (pd_var (pv 0)) pda_nil)))
    (pdsf_ret (pdf_compG (fr := [(0, "places")]) (tn := ["at", "cue"]) rfl rfl (by decide +kernel) (by rfl) (fun _ _ h => h) (hhas_of (by rfl)) (fr_cons rfl rfl rfl ⟨_, rfl⟩ fr_nil) (by decide +kernel) (pdi_enum rfl z_enumerate (pda_cons (pd_var (pv 1)) pda_nil)) (fun C s3 H3 fp => (pdg_tup rfl (pdgs_cons (pdg_name (pg_name (i := 0) (show (["at", "cue", "places"] : List Str).Nodup from by decide +kernel) rfl (by first | exact Or.inl rfl | exact Or.inr rfl))) (pdgs_cons (pdg_name (pg_name (i := 1) (show (["at", "cue", "places"] : List Str).Nodup from by decide +kernel) rfl (by first | exact Or.inl rfl | exact Or.inr rfl))) pdgs_nil)))) (fun C s3 H3 fp => pdts_nil) (fun C s3 H3 fp => (pd_callN d_cue_moved (hr.mono (by decide)) rfl rfl (pda_cons (pd_var (pv 2)) (pda_cons (pd_var (pv 1)) (pda_cons (pd_var (pv 0)) pda_nil))))))))
theorem sc__law_told_new : FnScope ["_law_places_here", "_law_cues_here", "_law_found", "e"] ["_law_places_here", "_law_cues_here"] (defScope (top 22)) := ⟨rfl, rfl, rfl, by decide +kernel, rfl, by decide +kernel, by decide +kernel⟩
theorem d__law_told_new {f : Addr} {fd : FuncData} (F0 : Fun K "_law_told" "_law_told" (top 22) f fd) (hm : mg "_law_told" = some (.ref f)) (d_moved_cues_new : DefF P w K mg base 5 "moved_cues" 2 F_moved_cues_new) : DefF P w K mg base 6 "_law_told" 2 F__law_told_new := by
  have S := sc__law_told_new
  refine deff_of (N := ["_law_places_here", "_law_cues_here", "_law_found", "e"]) (ps := ["_law_places_here", "_law_cues_here"]) (k := 5) (g := g__law_told_new) F0 S hm (F0.binds fun _ _ _ _ _ _ us hl => match us, hl with | [_, _], _ => rfl) fun cdv A outer s H E hr => ?_
  unfold g__law_told_new
  exact (pdsf_cons (pd_asg pd_non (pdg_name (pg_name (i := 2) S.nd rfl (by first | exact Or.inl rfl | exact Or.inr rfl))))
    (pdsf_cons (pd_try0 (fun pn xe => (pds_one (pd_newL (i := 2) S.nd rfl (by first | exact Or.inl rfl | exact Or.inr rfl) (pdn_ofF (pdf_call d_moved_cues_new (hr.mono (by decide)) rfl rfl (pda_cons (pd_var (pv 0)) (pda_cons (pd_var (pv 1)) pda_nil))))))))
    (pdsf_retO (pv 2))))
theorem sc_law : FnScope ["_law_script", "_law_places_here", "_law_cues_here", "_law_due", "_law_handed", "_law_found", "_law_first", "_law_begin", "_law_end", "_law_hand", "_law_words", "_law_here"] ["_law_script"] (defScope (top 24)) := ⟨rfl, rfl, rfl, by decide +kernel, rfl, by decide +kernel, by decide +kernel⟩
theorem fn_law {f : Addr} {fd : FuncData} (F0 : Fun K "law" "law" (top 24) f fd) (d__law_places : Def P w K mg base 2 "_law_places" 1 F__law_places) (d__law_cues : Def P w K mg base 2 "_law_cues" 1 F__law_cues) (d__law_at : Def P w K mg base 1 "_law_at" 2 F__law_at) (d__law_told : Def P w K mg base 6 "_law_told" 2 F__law_told) (d__law_same : Def P w K mg base 1 "_law_same" 2 F__law_same) (d__law_told_new : DefF P w K mg base 6 "_law_told" 2 F__law_told_new) (z_list : mg "list" = none) (z_len : mg "len" = none) : FnOk P w K mg base CX0 7 f fd ["_law_script"] (spD K 1 F_law) := by
  have S := sc_law
  refine fn_ofD (N := ["_law_script", "_law_places_here", "_law_cues_here", "_law_due", "_law_handed", "_law_found", "_law_first", "_law_begin", "_law_end", "_law_hand", "_law_words", "_law_here"]) (ps := ["_law_script"]) (k := 6) (g := g_law) F0 S fun cdv A outer s H E hr => ?_
  unfold g_law b_law_0
  exact (pds_cons (pd_set (i := 1) S.nd rfl (by first | exact Or.inl rfl | exact Or.inr rfl) (pd_call d__law_places (hr.mono (by decide)) rfl rfl (pda_cons (pd_var (pv 0)) pda_nil)))
    (pds_cons (pd_set (i := 2) S.nd rfl (by first | exact Or.inl rfl | exact Or.inr rfl) (pd_call d__law_cues (hr.mono (by decide)) rfl rfl (pda_cons (pd_var (pv 0)) pda_nil)))
    (pds_cons (pd_newL (i := 3) S.nd rfl (by first | exact Or.inl rfl | exact Or.inr rfl) (pdn_lst pda_nil))
    (pds_cons (pd_forI PassesOwn.never rfl (pdi_any (pd_var (pv 2))) (pdg_tup rfl (pdgs_cons (pdg_name (pg_name (i := 7) S.nd rfl (by first | exact Or.inl rfl | exact Or.inr rfl))) (pdgs_cons (pdg_name (pg_name (i := 8) S.nd rfl (by first | exact Or.inl rfl | exact Or.inr rfl))) (pdgs_cons (pdg_name (pg_name (i := 9) S.nd rfl (by first | exact Or.inl rfl | exact Or.inr rfl))) (pdgs_cons (pdg_name (pg_name (i := 10) S.nd rfl (by first | exact Or.inl rfl | exact Or.inr rfl))) pdgs_nil))))) (pds_cons (pd_set (i := 11) S.nd rfl (by first | exact Or.inl rfl | exact Or.inr rfl) (pd_tup (pda_cons (pd_call d__law_at (hr.mono (by decide)) rfl rfl (pda_cons (pd_var (pv 1)) (pda_cons (pd_var (pv 7)) pda_nil))) (pda_cons (pd_call d__law_at (hr.mono (by decide)) rfl rfl (pda_cons (pd_var (pv 1)) (pda_cons (pd_var (pv 8)) pda_nil))) (pda_cons (pd_var (pv 9)) (pda_cons (pd_var (pv 10)) pda_nil))))))
    (pds_cons (pd_ifS (PDW.t (pdw_or (pdt_cmp dop_lt (pd_ix (pd_var (pv 11)) pd_int (fun _ _ => rfl)) pd_int (nomark _)) (pdw_or1 (pdt_cmp (dop_eq hr.units) (pd_ix (pd_var (pv 11)) pd_int (fun _ _ => rfl)) (pd_ix (pd_var (pv 11)) pd_int (fun _ _ => rfl)) (nomark _))))) (pds_one pd_break) pds_nil)
    (pds_one (pd_app (i := 3) (pv 3) (pd_var (pv 11)))))))
    (pds_cons (pd_set (i := 4) S.nd rfl (by first | exact Or.inl rfl | exact Or.inr rfl) (pd_lst (pda_cons (pd_callTy dcall_list rfl z_list PyProof.Rows.boot_list (pda_cons (pd_var (pv 1)) pda_nil)) (pda_cons (pd_callTy dcall_list rfl z_list PyProof.Rows.boot_list (pda_cons (pd_var (pv 2)) pda_nil)) pda_nil))))
    (pds_cons (pd_set (i := 5) S.nd rfl (by first | exact Or.inl rfl | exact Or.inr rfl) (pd_call d__law_told (hr.mono (by decide)) rfl rfl (pda_cons (pd_ix (pd_var (pv 4)) pd_int (fun _ _ => rfl)) (pda_cons (pd_ix (pd_var (pv 4)) pd_int (fun _ _ => rfl)) pda_nil))))
    (pds_frz 3 (pds_cons (pd_ifS (PDW.t (pdw_and (pdt_cmp dop_lt (pd_callB dcall_len rfl z_len PySem.boot_len (pda_cons (pd_var (pv 3)) pda_nil)) (pd_callB dcall_len rfl z_len PySem.boot_len (pda_cons (pd_var (pv 2)) pda_nil)) (nomark _)) (pdw_and1 (pdt_cmp (dop_ne hr.units) (pd_var (pv 5)) (pd_tup (pda_cons pd_str (pda_cons (pd_callB dcall_len rfl z_len PySem.boot_len (pda_cons (pd_var (pv 3)) pda_nil)) (pda_cons pd_bl pda_nil)))) (nomark _))))) (pds_one (pd_ret pd_bl)) pds_nil)
    (pds_cons (pd_ifS (PDW.t (pdw_and (pdt_cmp (dop_eq hr.units) (pd_callB dcall_len rfl z_len PySem.boot_len (pda_cons (pd_var (pv 3)) pda_nil)) (pd_callB dcall_len rfl z_len PySem.boot_len (pda_cons (pd_var (pv 2)) pda_nil)) (nomark _)) (pdw_and1 (pdt_not (pdt_val (pd_call d__law_same (hr.mono (by decide)) rfl rfl (pda_cons (pd_var (pv 5)) (pda_cons (pd_var (pv 3)) pda_nil)))))))) (pds_one (pd_ret pd_bl)) pds_nil)
    (pds_cons (pd_newL (i := 6) S.nd rfl (by first | exact Or.inl rfl | exact Or.inr rfl) (pdn_ofF (pdf_call d__law_told_new (hr.mono (by decide)) rfl rfl (pda_cons (pd_ix (pd_var (pv 4)) pd_int (fun _ _ => rfl)) (pda_cons (pd_cutS (pd_var (pv 2)) pdo_none (pdo_some (pd_callB dcall_len rfl z_len PySem.boot_len (pda_cons (pd_var (pv 3)) pda_nil)))) pda_nil)))))
    (pds_cons (pd_ifS (pdt_lend 6 (PDW.t (pdw_or (pdt_not (pdt_val (pd_call d__law_same (hr.mono (by decide)) rfl rfl (pda_cons (pd_var (pv 6)) (pda_cons (pd_var (pv 3)) pda_nil))))) (pdw_or1 (pdt_cmp (dop_ne hr.units) (pd_var (pv 4)) (pd_lst (pda_cons (pd_var (pv 1)) (pda_cons (pd_var (pv 2)) pda_nil))) (nomark _)))))) (pds_one (pd_ret pd_bl)) pds_nil)
    (pds_cons (pd_app (i := 6) (pv 6) (pd_ix (pd_var (pv 2)) pd_int (fun _ _ => rfl)))
    (pds_one (pd_ret (pd_call d__law_same (hr.mono (by decide)) rfl rfl (pda_cons (pd_call d__law_told (hr.mono (by decide)) rfl rfl (pda_cons (pd_var (pv 1)) (pda_cons (pd_cutS (pd_var (pv 2)) pdo_none (pdo_some (pd_callB dcall_len rfl z_len PySem.boot_len (pda_cons (pd_var (pv 3)) pda_nil)))) pda_nil))) (pda_cons (pd_var (pv 3)) pda_nil)))))))))))))))))
end
theorem all_mk {l : PySem.W.OpenLaw} {w : World} {K : PySem.W.Frag} {h : Heap} {mg : Str → Option Value} {fa f0 f1 f2 f3 f4 f5 f6 f7 f8 f9 f10 f11 f12 f13 f14 f15 f16 f17 f20 : Addr} (X : K.In h) (G : h.Ns mainGlobals mg) (hfa : mg "law" = some (.ref fa))
    {od0 an0 od1 an1 od2 an2 od3 an3 od4 an4 od5 an5 od6 an6 od7 an7 od8 an8 od9 an9 od10 an10 od11 an11 od12 an12 od13 an13 od14 an14 od15 an15 od16 an16 od17 an17 od20 an20 : Option Addr} {sl0 sl1 sl2 sl3 sl4 sl5 sl6 sl7 sl8 sl9 sl10 sl11 sl12 sl13 sl14 sl15 sl16 sl17 sl20 : Array (Option Value)} {oc0 kV0 dc0 pm0 cd0 ct0 oc1 kV1 dc1 pm1 cd1 ct1 oc2 kV2 dc2 pm2 cd2 ct2 oc3 kV3 dc3 pm3 cd3 ct3 oc4 kV4 dc4 pm4 cd4 ct4 oc5 kV5 dc5 pm5 cd5 ct5 oc6 kV6 dc6 pm6 cd6 ct6 oc7 kV7 dc7 pm7 cd7 ct7 oc8 kV8 dc8 pm8 cd8 ct8 oc9 kV9 dc9 pm9 cd9 ct9 oc10 kV10 dc10 pm10 cd10 ct10 oc11 kV11 dc11 pm11 cd11 ct11 oc12 kV12 dc12 pm12 cd12 ct12 oc13 kV13 dc13 pm13 cd13 ct13 oc14 kV14 dc14 pm14 cd14 ct14 oc15 kV15 dc15 pm15 cd15 ct15 oc16 kV16 dc16 pm16 cd16 ct16 oc17 kV17 dc17 pm17 cd17 ct17 oc20 kV20 dc20 pm20 cd20 ct20 : Value}
    (a1 : PySem.W.nsIn K mainGlobals "is_whole" = some (some (.ref f1))) (l1 : K.lookup f1 = some ⟨oc1, od1, .func (PySem.W.fnOf "is_whole" "is_whole" (defArgs (top 5)) (defBody (top 5)) (defScope (top 5)) .none kV1 dc1 pm1 an1 cd1 ct1), sl1⟩) (c1 : PySem.W.codeIn K cd1 "is_whole" = true) (k1 : PySem.W.keepIn K (.ref f1) = true)
    (a2 : PySem.W.nsIn K mainGlobals "nearest" = some (some (.ref f2))) (l2 : K.lookup f2 = some ⟨oc2, od2, .func (PySem.W.fnOf "nearest" "nearest" (defArgs (top 6)) (defBody (top 6)) (defScope (top 6)) .none kV2 dc2 pm2 an2 cd2 ct2), sl2⟩) (c2 : PySem.W.codeIn K cd2 "nearest" = true) (k2 : PySem.W.keepIn K (.ref f2) = true)
    (a3 : PySem.W.nsIn K mainGlobals "is_pair" = some (some (.ref f3))) (l3 : K.lookup f3 = some ⟨oc3, od3, .func (PySem.W.fnOf "is_pair" "is_pair" (defArgs (top 11)) (defBody (top 11)) (defScope (top 11)) .none kV3 dc3 pm3 an3 cd3 ct3), sl3⟩) (c3 : PySem.W.codeIn K cd3 "is_pair" = true) (k3 : PySem.W.keepIn K (.ref f3) = true)
    (a4 : PySem.W.nsIn K mainGlobals "are_places" = some (some (.ref f4))) (l4 : K.lookup f4 = some ⟨oc4, od4, .func (PySem.W.fnOf "are_places" "are_places" (defArgs (top 10)) (defBody (top 10)) (defScope (top 10)) .none kV4 dc4 pm4 an4 cd4 ct4), sl4⟩) (c4 : PySem.W.codeIn K cd4 "are_places" = true) (k4 : PySem.W.keepIn K (.ref f4) = true)
    (a5 : PySem.W.nsIn K mainGlobals "refuse_no_places" = some (some (.ref f5))) (l5 : K.lookup f5 = some ⟨oc5, od5, .func (PySem.W.fnOf "refuse_no_places" "refuse_no_places" (defArgs (top 9)) (defBody (top 9)) (defScope (top 9)) .none kV5 dc5 pm5 an5 cd5 ct5), sl5⟩) (c5 : PySem.W.codeIn K cd5 "refuse_no_places" = true) (k5 : PySem.W.keepIn K (.ref f5) = true)
    (a6 : PySem.W.nsIn K mainGlobals "way_of" = some (some (.ref f6))) (l6 : K.lookup f6 = some ⟨oc6, od6, .func (PySem.W.fnOf "way_of" "way_of" (defArgs (top 13)) (defBody (top 13)) (defScope (top 13)) .none kV6 dc6 pm6 an6 cd6 ct6), sl6⟩) (c6 : PySem.W.codeIn K cd6 "way_of" = true) (k6 : PySem.W.keepIn K (.ref f6) = true)
    (a7 : PySem.W.nsIn K mainGlobals "moved_between" = some (some (.ref f7))) (l7 : K.lookup f7 = some ⟨oc7, od7, .func (PySem.W.fnOf "moved_between" "moved_between" (defArgs (top 14)) (defBody (top 14)) (defScope (top 14)) .none kV7 dc7 pm7 an7 cd7 ct7), sl7⟩) (c7 : PySem.W.codeIn K cd7 "moved_between" = true) (k7 : PySem.W.keepIn K (.ref f7) = true)
    (a8 : PySem.W.nsIn K mainGlobals "moment_moved" = some (some (.ref f8))) (l8 : K.lookup f8 = some ⟨oc8, od8, .func (PySem.W.fnOf "moment_moved" "moment_moved" (defArgs (top 12)) (defBody (top 12)) (defScope (top 12)) .none kV8 dc8 pm8 an8 cd8 ct8), sl8⟩) (c8 : PySem.W.codeIn K cd8 "moment_moved" = true) (k8 : PySem.W.keepIn K (.ref f8) = true)
    (a9 : PySem.W.nsIn K mainGlobals "cue_moved" = some (some (.ref f9))) (l9 : K.lookup f9 = some ⟨oc9, od9, .func (PySem.W.fnOf "cue_moved" "cue_moved" (defArgs (top 15)) (defBody (top 15)) (defScope (top 15)) .none kV9 dc9 pm9 an9 cd9 ct9), sl9⟩) (c9 : PySem.W.codeIn K cd9 "cue_moved" = true) (k9 : PySem.W.keepIn K (.ref f9) = true)
    (a10 : PySem.W.nsIn K mainGlobals "moved_cues" = some (some (.ref f10))) (l10 : K.lookup f10 = some ⟨oc10, od10, .func (PySem.W.fnOf "moved_cues" "moved_cues" (defArgs (top 8)) (defBody (top 8)) (defScope (top 8)) .none kV10 dc10 pm10 an10 cd10 ct10), sl10⟩) (c10 : PySem.W.codeIn K cd10 "moved_cues" = true) (k10 : PySem.W.keepIn K (.ref f10) = true)
    (a11 : PySem.W.nsIn K mainGlobals "_law_cell_at" = some (some (.ref f11))) (l11 : K.lookup f11 = some ⟨oc11, od11, .func (PySem.W.fnOf "_law_cell_at" "_law_cell_at" (defArgs (top 17)) (defBody (top 17)) (defScope (top 17)) .none kV11 dc11 pm11 an11 cd11 ct11), sl11⟩) (c11 : PySem.W.codeIn K cd11 "_law_cell_at" = true) (k11 : PySem.W.keepIn K (.ref f11) = true)
    (a12 : PySem.W.nsIn K mainGlobals "_law_mixed" = some (some (.ref f12))) (l12 : K.lookup f12 = some ⟨oc12, od12, .func (PySem.W.fnOf "_law_mixed" "_law_mixed" (defArgs (top 18)) (defBody (top 18)) (defScope (top 18)) .none kV12 dc12 pm12 an12 cd12 ct12), sl12⟩) (c12 : PySem.W.codeIn K cd12 "_law_mixed" = true) (k12 : PySem.W.keepIn K (.ref f12) = true)
    (a13 : PySem.W.nsIn K mainGlobals "_law_places" = some (some (.ref f13))) (l13 : K.lookup f13 = some ⟨oc13, od13, .func (PySem.W.fnOf "_law_places" "_law_places" (defArgs (top 19)) (defBody (top 19)) (defScope (top 19)) .none kV13 dc13 pm13 an13 cd13 ct13), sl13⟩) (c13 : PySem.W.codeIn K cd13 "_law_places" = true) (k13 : PySem.W.keepIn K (.ref f13) = true)
    (a14 : PySem.W.nsIn K mainGlobals "_law_cues" = some (some (.ref f14))) (l14 : K.lookup f14 = some ⟨oc14, od14, .func (PySem.W.fnOf "_law_cues" "_law_cues" (defArgs (top 20)) (defBody (top 20)) (defScope (top 20)) .none kV14 dc14 pm14 an14 cd14 ct14), sl14⟩) (c14 : PySem.W.codeIn K cd14 "_law_cues" = true) (k14 : PySem.W.keepIn K (.ref f14) = true)
    (a15 : PySem.W.nsIn K mainGlobals "_law_at" = some (some (.ref f15))) (l15 : K.lookup f15 = some ⟨oc15, od15, .func (PySem.W.fnOf "_law_at" "_law_at" (defArgs (top 21)) (defBody (top 21)) (defScope (top 21)) .none kV15 dc15 pm15 an15 cd15 ct15), sl15⟩) (c15 : PySem.W.codeIn K cd15 "_law_at" = true) (k15 : PySem.W.keepIn K (.ref f15) = true)
    (a16 : PySem.W.nsIn K mainGlobals "_law_told" = some (some (.ref f16))) (l16 : K.lookup f16 = some ⟨oc16, od16, .func (PySem.W.fnOf "_law_told" "_law_told" (defArgs (top 22)) (defBody (top 22)) (defScope (top 22)) .none kV16 dc16 pm16 an16 cd16 ct16), sl16⟩) (c16 : PySem.W.codeIn K cd16 "_law_told" = true) (k16 : PySem.W.keepIn K (.ref f16) = true)
    (a17 : PySem.W.nsIn K mainGlobals "_law_same" = some (some (.ref f17))) (l17 : K.lookup f17 = some ⟨oc17, od17, .func (PySem.W.fnOf "_law_same" "_law_same" (defArgs (top 23)) (defBody (top 23)) (defScope (top 23)) .none kV17 dc17 pm17 an17 cd17 ct17), sl17⟩) (c17 : PySem.W.codeIn K cd17 "_law_same" = true) (k17 : PySem.W.keepIn K (.ref f17) = true)
    (a20 : PySem.W.nsIn K mainGlobals "law" = some (some (.ref f20))) (l20 : K.lookup f20 = some ⟨oc20, od20, .func (PySem.W.fnOf "law" "law" (defArgs (top 24)) (defBody (top 24)) (defScope (top 24)) .none kV20 dc20 pm20 an20 cd20 ct20), sl20⟩) (c20 : PySem.W.codeIn K cd20 "law" = true) (k20 : PySem.W.keepIn K (.ref f20) = true)
    (z_isinstance : PySem.W.nsIn K mainGlobals "isinstance" = some none)
    (z_int : PySem.W.nsIn K mainGlobals "int" = some none)
    (z_bool : PySem.W.nsIn K mainGlobals "bool" = some none)
    (z_tuple : PySem.W.nsIn K mainGlobals "tuple" = some none)
    (z_len : PySem.W.nsIn K mainGlobals "len" = some none)
    (z_list : PySem.W.nsIn K mainGlobals "list" = some none)
    (z_all : PySem.W.nsIn K mainGlobals "all" = some none)
    (z_zip : PySem.W.nsIn K mainGlobals "zip" = some none)
    (z_enumerate : PySem.W.nsIn K mainGlobals "enumerate" = some none)
    (z_range : PySem.W.nsIn K mainGlobals "range" = some none)
    {C_NoRoom : Addr} (n_NoRoom : PySem.W.nsIn K mainGlobals "NoRoom" = some (some (.ref C_NoRoom)))
    {C_CueError : Addr} (n_CueError : PySem.W.nsIn K mainGlobals "CueError" = some (some (.ref C_CueError)))
    {C_NoPlace : Addr} (n_NoPlace : PySem.W.nsIn K mainGlobals "NoPlace" = some (some (.ref C_NoPlace)))
    (a0 : PySem.W.findIn K (.ref C_NoRoom) "__init__" = some (some (.ref f0))) (l0 : K.lookup f0 = some ⟨oc0, od0, .func (PySem.W.fnOf "__init__" "NoRoom.__init__" (defArgs (mth (top 3) 0)) (defBody (mth (top 3) 0)) (defScope (mth (top 3) 0)) .none kV0 dc0 pm0 an0 cd0 ct0), sl0⟩) (c0 : PySem.W.codeIn K cd0 "NoRoom.__init__" = true) (k0 : PySem.W.keepIn K (.ref f0) = true) (i0 : PySem.W.isFn K (.ref f0) = true)
    (kc0 : PySem.W.keepIn K (.ref C_NoRoom) = true)
    (x1_NoRoom : XF.excIn1 K C_NoRoom XF.VE "ValueError.__new__" = true)
    (g1_NoRoom : PySem.W.findIn K (.ref C_NoRoom) "__getattribute__" = some (some (.builtin "BaseException.__getattribute__")))
    (g2_NoRoom : PySem.W.findIn K (.ref C_NoRoom) "__getattr__" = some none)
    (sa_NoRoom : PySem.W.findIn K (.ref C_NoRoom) "__setattr__" = some (some (.builtin "object.__setattr__")))
    (g7_NoRoom : PySem.W.mroIn K C_NoRoom (.type "BaseException") = some true)
    (g6_NoRoom : PySem.W.mroIn K C_NoRoom (.type "object") = some true)
    (hd_NoRoom : PySem.W.hasDictIn K C_NoRoom = true)
    (st_NoRoom : ((PySem.W.clsIn K C_NoRoom).any fun cd => XF.strip cd.mro == XF.VE) = true)
    (na_NoRoom_at : PySem.W.findIn K (.ref C_NoRoom) "at" = some none)
    (rd_CueError : PySem.W.readsIn K C_CueError (.type "type") = true)
    (sp_CueError : PySem.W.specialIn K (.ref C_CueError) "__getattribute__" = some (some (.builtin "type.__getattribute__")))
    (fd_CueError : PySem.W.findCls K (.ref C_CueError) (.type "type") "__init__" = some (.val (.builtin "ValueError.__init__")))
    (x_NoPlace : PySem.W.excIn K C_NoPlace [.type "ValueError", .type "Exception", .type "BaseException", .type "object"] "ValueError.__new__" = true)
    (g3_NoRoom : PySem.W.findIn K (.ref C_NoRoom) "__class__" = some (some (.builtin "object.__class__")))
    (g4_ : PySem.W.specialIn K (.builtin "object.__class__") "__get__" = some (some (.builtin "getset_descriptor.__get__")))
    (g5_ : PySem.W.takesIn K (.builtin "object.__class__") = some true)
    (ki_NoRoom_CueError : PySem.W.kitOne K (.ref C_NoRoom) (.ref C_CueError) = some true)
    (ki_NoRoom_NoPlace : PySem.W.kitOne K (.ref C_NoRoom) (.ref C_NoPlace) = some false) :
    ∃ fd : FuncData, (∀ (s : Shared) (v : Value), BindsTo s fd ⟨[v], []⟩ [("_law_script", v)]) ∧ ∀ base : Heap, K.In base → base.Ns mainGlobals mg → FnOk l.prog w K mg base CX0 7 fa fd ["_law_script"] (spD K 1 F_law) := by
  have e := hfa.symm.trans (PySem.W.mg_of X G a20)
  cases e
  have zz_isinstance := PySem.W.mg_none_of X G z_isinstance
  have zz_int := PySem.W.mg_none_of X G z_int
  have zz_bool := PySem.W.mg_none_of X G z_bool
  have zz_tuple := PySem.W.mg_none_of X G z_tuple
  have zz_len := PySem.W.mg_none_of X G z_len
  have zz_list := PySem.W.mg_none_of X G z_list
  have zz_all := PySem.W.mg_none_of X G z_all
  have zz_zip := PySem.W.mg_none_of X G z_zip
  have zz_enumerate := PySem.W.mg_none_of X G z_enumerate
  have zz_range := PySem.W.mg_none_of X G z_range
  refine ⟨PySem.W.fnOf "law" "law" (defArgs (top 24)) (defBody (top 24)) (defScope (top 24)) .none kV20 dc20 pm20 an20 cd20 ct20, fun s v => .of_eq rfl, fun base _ _ => ?_⟩
  have m_NoRoom := PySem.W.mg_of X G n_NoRoom
  have m_CueError := PySem.W.mg_of X G n_CueError
  have m_NoPlace := PySem.W.mg_of X G n_NoPlace
  have D0 : XDef l.prog w K mg base 1 "NoRoom" "at" C_NoRoom := d_NoRoom_init (fun_mk l0 c0 k0) m_NoRoom m_CueError x1_NoRoom g1_NoRoom g2_NoRoom sa_NoRoom g7_NoRoom g6_NoRoom hd_NoRoom st_NoRoom na_NoRoom_at rd_CueError sp_CueError fd_CueError a0 i0 kc0
  have D1 : Def l.prog w K mg base 1 "is_whole" 1 F_is_whole := d_is_whole (fun_mk l1 c1 k1) (PySem.W.mg_of X G a1) zz_isinstance zz_int zz_bool
  have D2 : Def l.prog w K mg base 1 "nearest" 2 F_nearest := d_nearest (fun_mk l2 c2 k2) (PySem.W.mg_of X G a2)
  have D3 : Def l.prog w K mg base 2 "is_pair" 1 F_is_pair := d_is_pair (fun_mk l3 c3 k3) (PySem.W.mg_of X G a3) D1 zz_isinstance zz_tuple zz_len
  have D4 : Def l.prog w K mg base 3 "are_places" 1 F_are_places := d_are_places (fun_mk l4 c4 k4) (PySem.W.mg_of X G a4) D3 zz_isinstance zz_list zz_len zz_all zz_zip
  have D5 : DefX l.prog w K mg base 4 "refuse_no_places" 1 F_refuse_no_places := d_refuse_no_places (fun_mk l5 c5 k5) (PySem.W.mg_of X G a5) m_NoPlace x_NoPlace D4
  have D6 : Def l.prog w K mg base 1 "way_of" 1 F_way_of := d_way_of (fun_mk l6 c6 k6) (PySem.W.mg_of X G a6)
  have D7 : Def l.prog w K mg base 2 "moved_between" 3 F_moved_between := d_moved_between (fun_mk l7 c7 k7) (PySem.W.mg_of X G a7) D2
  have D8 : Def l.prog w K mg base 3 "moment_moved" 2 F_moment_moved := d_moment_moved (fun_mk l8 c8 k8) (PySem.W.mg_of X G a8) D6 D7 zz_zip
  have D9 : DefX l.prog w K mg base 4 "cue_moved" 3 F_cue_moved := d_cue_moved (fun_mk l9 c9 k9) (PySem.W.mg_of X G a9) m_NoRoom D8 D0
  have D10 : DefX l.prog w K mg base 5 "moved_cues" 2 F_moved_cues := d_moved_cues (fun_mk l10 c10 k10) (PySem.W.mg_of X G a10) D5 D9 zz_enumerate
  have D11 : Def l.prog w K mg base 1 "_law_cell_at" 2 F__law_cell_at := d__law_cell_at (fun_mk l11 c11 k11) (PySem.W.mg_of X G a11) zz_len
  have D12 : Def l.prog w K mg base 1 "_law_mixed" 2 F__law_mixed := d__law_mixed (fun_mk l12 c12 k12) (PySem.W.mg_of X G a12)
  have D13 : Def l.prog w K mg base 2 "_law_places" 1 F__law_places := d__law_places (fun_mk l13 c13 k13) (PySem.W.mg_of X G a13) D11 D12
  have D14 : Def l.prog w K mg base 2 "_law_cues" 1 F__law_cues := d__law_cues (fun_mk l14 c14 k14) (PySem.W.mg_of X G a14) D12 D11 zz_range
  have D15 : Def l.prog w K mg base 1 "_law_at" 2 F__law_at := d__law_at (fun_mk l15 c15 k15) (PySem.W.mg_of X G a15) zz_len zz_range
  have D16 : Def l.prog w K mg base 6 "_law_told" 2 F__law_told := d__law_told (fun_mk l16 c16 k16) (PySem.W.mg_of X G a16) m_NoRoom m_CueError m_NoPlace x1_NoRoom g1_NoRoom g2_NoRoom sa_NoRoom g7_NoRoom g6_NoRoom hd_NoRoom st_NoRoom na_NoRoom_at g3_NoRoom g4_ g5_ ki_NoRoom_CueError ki_NoRoom_NoPlace D10 zz_isinstance
  have D17 : Def l.prog w K mg base 1 "_law_same" 2 F__law_same := d__law_same (fun_mk l17 c17 k17) (PySem.W.mg_of X G a17) zz_isinstance zz_list zz_tuple zz_bool
  have D18 : DefF l.prog w K mg base 5 "moved_cues" 2 F_moved_cues_new := d_moved_cues_new (fun_mk l10 c10 k10) (PySem.W.mg_of X G a10) D5 D9 zz_enumerate
  have D19 : DefF l.prog w K mg base 6 "_law_told" 2 F__law_told_new := d__law_told_new (fun_mk l16 c16 k16) (PySem.W.mg_of X G a16) D18
  exact fn_law (fun_mk l20 c20 k20) D13 D14 D15 D16 D17 D19 zz_list zz_len
end K25
def PySem.W.Fast.tw16063765096316464707 : Nat := 0
def PySem.W.Fast.tw4830232893361215422 : Nat := 0
def PySem.W.Fast.tw81952462602828744 : Nat := 0
def PySem.W.Fast.tw16283294400677194708 : Nat := 0
def PySem.W.Fast.tw12173063629203451481 : Nat := 0
def PySem.W.Fast.tw1723104569804426853 : Nat := 0
def PySem.W.Fast.tw17437641768955706480 : Nat := 0
open PySem PySem.W PyProof.Rows
set_option maxRecDepth 100000 in
set_option maxHeartbeats 0 in
theorem PySem.Challenge.cw_cuetimer_k25_cues_moved_holds : PySem.Challenge.rw_cuetimer_k25_cues_moved.Holds := by
  w_on; o_law; k_head; (case hw => w_witness2)
  k_fill
  refine DL.walk (l := PySem.Challenge.rw_cuetimer_k25_cues_moved) (k := 7) (F := K25.F_law) (x := "_law_script") rfl rfl K25.law_true ⟨rfl, by decide, by decide⟩ (fun w h Y => PySem.W.kIn_of Y) ?T
  case T =>
    intro w mg fa h KX G hmg
    refine' K25.all_mk KX G hmg ?a1 ?l1 ?c1 ?k1 ?a2 ?l2 ?c2 ?k2 ?a3 ?l3 ?c3 ?k3 ?a4 ?l4 ?c4 ?k4 ?a5 ?l5 ?c5 ?k5 ?a6 ?l6 ?c6 ?k6 ?a7 ?l7 ?c7 ?k7 ?a8 ?l8 ?c8 ?k8 ?a9 ?l9 ?c9 ?k9 ?a10 ?l10 ?c10 ?k10 ?a11 ?l11 ?c11 ?k11 ?a12 ?l12 ?c12 ?k12 ?a13 ?l13 ?c13 ?k13 ?a14 ?l14 ?c14 ?k14 ?a15 ?l15 ?c15 ?k15 ?a16 ?l16 ?c16 ?k16 ?a17 ?l17 ?c17 ?k17 ?a20 ?l20 ?c20 ?k20 ?z_isinstance ?z_int ?z_bool ?z_tuple ?z_len ?z_list ?z_all ?z_zip ?z_enumerate ?z_range ?n_NoRoom ?n_CueError ?n_NoPlace ?a0 ?l0 ?c0 ?k0 ?i0 ?kc0 ?x1_NoRoom ?g1_NoRoom ?g2_NoRoom ?sa_NoRoom ?g7_NoRoom ?g6_NoRoom ?hd_NoRoom ?st_NoRoom ?na_NoRoom_at ?rd_CueError ?sp_CueError ?fd_CueError ?x_NoPlace ?g3_NoRoom ?g4_ ?g5_ ?ki_NoRoom_CueError ?ki_NoRoom_NoPlace
    (case a1 => k_is)
    (case l1 => k_is)
    (case c1 => k_is)
    (case k1 => k_is)
    (case a2 => k_is)
    (case l2 => k_is)
    (case c2 => k_is)
    (case k2 => k_is)
    (case a3 => k_is)
    (case l3 => k_is)
    (case c3 => k_is)
    (case k3 => k_is)
    (case a4 => k_is)
    (case l4 => k_is)
    (case c4 => k_is)
    (case k4 => k_is)
    (case a5 => k_is)
    (case l5 => k_is)
    (case c5 => k_is)
    (case k5 => k_is)
    (case a6 => k_is)
    (case l6 => k_is)
    (case c6 => k_is)
    (case k6 => k_is)
    (case a7 => k_is)
    (case l7 => k_is)
    (case c7 => k_is)
    (case k7 => k_is)
    (case a8 => k_is)
    (case l8 => k_is)
    (case c8 => k_is)
    (case k8 => k_is)
    (case a9 => k_is)
    (case l9 => k_is)
    (case c9 => k_is)
    (case k9 => k_is)
    (case a10 => k_is)
    (case l10 => k_is)
    (case c10 => k_is)
    (case k10 => k_is)
    (case a11 => k_is)
    (case l11 => k_is)
    (case c11 => k_is)
    (case k11 => k_is)
    (case a12 => k_is)
    (case l12 => k_is)
    (case c12 => k_is)
    (case k12 => k_is)
    (case a13 => k_is)
    (case l13 => k_is)
    (case c13 => k_is)
    (case k13 => k_is)
    (case a14 => k_is)
    (case l14 => k_is)
    (case c14 => k_is)
    (case k14 => k_is)
    (case a15 => k_is)
    (case l15 => k_is)
    (case c15 => k_is)
    (case k15 => k_is)
    (case a16 => k_is)
    (case l16 => k_is)
    (case c16 => k_is)
    (case k16 => k_is)
    (case a17 => k_is)
    (case l17 => k_is)
    (case c17 => k_is)
    (case k17 => k_is)
    (case a20 => k_is)
    (case l20 => k_is)
    (case c20 => k_is)
    (case k20 => k_is)
    (case z_isinstance => k_is)
    (case z_int => k_is)
    (case z_bool => k_is)
    (case z_tuple => k_is)
    (case z_len => k_is)
    (case z_list => k_is)
    (case z_all => k_is)
    (case z_zip => k_is)
    (case z_enumerate => k_is)
    (case z_range => k_is)
    (case n_NoRoom => k_is)
    (case n_CueError => k_is)
    (case n_NoPlace => k_is)
    (case a0 => k_is)
    (case l0 => k_is)
    (case c0 => k_is)
    (case k0 => k_is)
    (case i0 => k_is)
    (case kc0 => k_is)
    (case x1_NoRoom => kernel_rfl)
    (case g1_NoRoom => k_is)
    (case g2_NoRoom => k_is)
    (case sa_NoRoom => k_is)
    (case g7_NoRoom => k_is)
    (case g6_NoRoom => k_is)
    (case hd_NoRoom => k_is)
    (case st_NoRoom => kernel_rfl)
    (case na_NoRoom_at => k_is)
    (case rd_CueError => k_is)
    (case sp_CueError => k_is)
    (case fd_CueError => k_is)
    (case x_NoPlace => k_exc)
    (case g3_NoRoom => k_is)
    (case g4_ => k_is)
    (case g5_ => k_is)
    (case ki_NoRoom_CueError => kit_is)
    (case ki_NoRoom_NoPlace => kit_is)
#print axioms PySem.Challenge.cw_cuetimer_k25_cues_moved_holds
