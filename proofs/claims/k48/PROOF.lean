import PyProof.Rows.All
import Wide.All
import OpenK.AllK
import Wide.FinOn
import Lean
import PyProof.EqAt
import PyProof.EqKinds
import PyProof.TupleCall
import PySem.Challenge.RW_cuetimer_k48_the_table
set_option Elab.async false
set_option linter.all false
set_option maxRecDepth 100000
set_option maxHeartbeats 4000000
/-! THE HAND LAYER, for ints, bools, texts, own classes, LISTS and tuples (index, slices, in, append, pop ..), calls, loops. Paste it whole ahead of your own text; what your proof does not reach may be deleted. -/
namespace L2
open PySem PySem.Spec PyProof.Rows

/-- a key: an int or a str -/
abbrev Key := Sum Int Str
def keyIs : Key → Value → Bool
  | .inl k, v => Value.isInt k v
  | .inr x, v => Value.isStrOf x v
def keyH (w : World) : Key → Int
  | .inl k => hashInt k
  | .inr x => hashStr w x
theorem keyIs_shape : ∀ {k : Key} {v : Value}, keyIs k v = true → (∃ i t, k = Sum.inl i ∧ v = Value.int i t) ∨ (∃ x t, k = Sum.inr x ∧ v = Value.str x t)
  | .inl i, v, h => by
    obtain ⟨t, e⟩ := Value.isInt_shape (k := i) (v := v) h
    exact .inl ⟨i, t, rfl, e⟩
  | .inr x, v, h => by
    obtain ⟨t, e⟩ := Value.isStrOf_shape (x := x) (v := v) h
    exact .inr ⟨x, t, rfl, e⟩
theorem key_ll (a b : Int) : decide ((Sum.inl a : Key) = Sum.inl b) = (a == b) := by
  by_cases e : a = b
  · subst e; simp
  · have h : ¬ (Sum.inl a : Key) = Sum.inl b := fun q => e (Sum.inl.inj q)
    rw [decide_eq_false h]
    exact (beq_eq_false_iff_ne.mpr e).symm
theorem key_rr (a b : Str) : decide ((Sum.inr a : Key) = Sum.inr b) = decide (a = b) := by
  by_cases e : a = b
  · subst e; simp
  · have h : ¬ (Sum.inr a : Key) = Sum.inr b := fun q => e (Sum.inr.inj q)
    rw [decide_eq_false h, decide_eq_false e]
theorem key_lr (a : Int) (b : Str) : decide ((Sum.inl a : Key) = Sum.inr b) = false := decide_eq_false (fun q => nomatch q)
theorem key_rl (a : Str) (b : Int) : decide ((Sum.inr a : Key) = Sum.inl b) = false := decide_eq_false (fun q => nomatch q)

def mixKind (prog : Program) (w : World) : PySem.KeyKind prog w Key where
  is := keyIs
  hash := keyH w
  inj := fun v a b ha hb => by
    rcases keyIs_shape ha with ⟨i, t, rfl, rfl⟩ | ⟨x, t, rfl, rfl⟩
    · rcases keyIs_shape hb with ⟨j, u, rfl, e⟩ | ⟨y, u, rfl, e⟩
      · injection e with e1 _; rw [e1]
      · exact nomatch e
    · rcases keyIs_shape hb with ⟨j, u, rfl, e⟩ | ⟨y, u, rfl, e⟩
      · exact nomatch e
      · injection e with e1 _; rw [e1]
  byValue := fun k v h => by
    rcases keyIs_shape h with ⟨i, t, rfl, rfl⟩ | ⟨x, t, rfl, rfl⟩ <;> rfl
  pyHash := fun hv h => by
    rcases keyIs_shape hv with ⟨i, t, rfl, rfl⟩ | ⟨x, t, rfl, rfl⟩
    · exact wpAny_pyHash_int h
    · exact wpAny_pyHash_str h
  eqBool := fun hu hv h => by
    rcases keyIs_shape hu with ⟨i, t, rfl, rfl⟩ | ⟨x, t, rfl, rfl⟩
    · rcases keyIs_shape hv with ⟨j, u, rfl, rfl⟩ | ⟨y, u, rfl, rfl⟩
      · rw [key_ll] at h; exact wpAny_eqBool_int h
      · rw [key_lr] at h; exact SeqAt.EqAt.int_str i t y u _ _ _ _ h
    · rcases keyIs_shape hv with ⟨j, u, rfl, rfl⟩ | ⟨y, u, rfl, rfl⟩
      · rw [key_rl] at h; exact SeqAt.EqAt.str_int x t j u _ _ _ _ h
      · rw [key_rr] at h; exact wpAny_eqBool_str h
  «strs» := fun k x t v h => by
    rcases keyIs_shape h with ⟨i, u, rfl, e⟩ | ⟨y, u, rfl, e⟩
    · exact nomatch e
    · injection e with e1 _
      subst e1
      cases v <;> rfl

end L2

namespace L2
open PySem PySem.Spec PyProof.Rows

/-- a value, without the heap -/
inductive V where
  | non | bl (b : Bool) | int (i : Int) | str (x : Str) | byt (b : Array UInt8) | flt (b : UInt64) | ref (a : Addr) | ty (n : String)
  deriving DecidableEq

def RelV : V → Value → Prop
  | .non, u => u = Value.none
  | .bl b, u => u = Value.bool b
  | .int i, u => ∃ t, u = Value.int i t
  | .str x, u => ∃ t, u = Value.str x t
  | .byt b, u => ∃ t, u = Value.bytes b t
  | .flt b, u => ∃ t, u = Value.float b t
  | .ref a, u => u = Value.ref a
  | .ty n, u => u = Value.type n

abbrev Vals : List V → List Value → Prop := Paired RelV
theorem Vals.length {xs : List V} {us : List Value} (r : Vals xs us) : xs.length = us.length := Paired.length r
theorem Vals.get : ∀ {xs : List V} {us : List Value} {i : Nat} {x : V}, Vals xs us → xs[i]? = some x → ∃ u, us[i]? = some u ∧ RelV x u
  | _, _, _, _, .nil, e => by simp at e
  | _, _, 0, _, .cons r _, e => by simp at e; subst e; exact ⟨_, rfl, r⟩
  | _, _, i + 1, x, .cons _ t, e => by
    obtain ⟨u, h1, h2⟩ := Vals.get (i := i) (x := x) t (by simpa using e)
    exact ⟨u, by simpa using h1, h2⟩
theorem Vals.set {x : V} {u : Value} (r : RelV x u) : ∀ {xs : List V} {us : List Value} (i : Nat), Vals xs us → Vals (xs.set i x) (us.set i u)
  | _, _, _, .nil => .nil
  | _, _, 0, .cons _ t => .cons r t
  | _, _, i + 1, .cons q t => .cons q (Vals.set r i t)
theorem Vals.append : ∀ {xs ys : List V} {us ws : List Value}, Vals xs us → Vals ys ws → Vals (xs ++ ys) (us ++ ws)
  | _, _, _, _, .nil, s => s
  | _, _, _, _, .cons r t, s => .cons r (Vals.append t s)
theorem Vals.take : ∀ {xs : List V} {us : List Value} (n : Nat), Vals xs us → Vals (xs.take n) (us.take n)
  | _, _, 0, _ => .nil
  | _, _, _ + 1, .nil => .nil
  | _, _, n + 1, .cons r t => .cons r (Vals.take n t)
theorem Vals.drop : ∀ {xs : List V} {us : List Value} (n : Nat), Vals xs us → Vals (xs.drop n) (us.drop n)
  | _, _, 0, r => r
  | _, _, _ + 1, .nil => .nil
  | _, _, n + 1, .cons _ t => Vals.drop n t
theorem Vals.none_of : ∀ {xs : List V} {us : List Value} {i : Nat}, Vals xs us → xs[i]? = none → us[i]? = none := fun {xs us i} r e => by
  have h1 := r.length
  have h2 : xs.length ≤ i := List.getElem?_eq_none_iff.mp e
  exact List.getElem?_eq_none_iff.mpr (by omega)

def RelO : Option V → Option Value → Prop
  | some v, some u => RelV v u
  | none, none => True
  | _, _ => False
def KV {κ : Type} : List (κ × V) → List (κ × Value) → Prop := Paired fun (p : κ × V) (q : κ × Value) => p.1 = q.1 ∧ RelV p.2 q.2

/-- a key of a dict (00_mix): an int or a text -/
def kV : Key → V
  | .inl i => .int i
  | .inr x => .str x

/-- what stands at a tracked address -/
inductive HO where
  /-- a list -/
  | lst (xs : List V)
  /-- a tuple (never changes) -/
  | tup (xs : List V)
  /-- a dict whose keys are ints and texts; one whose keys are tuples of ints and texts (the empty one is both) -/
  | dK (kvs : List (Key × V)) | dT (kvs : List (List Key × V))
  /-- a set of ints: its members, its size -/
  | set (S : Int → Bool) (n : Nat)
  /-- an instance of the class at C, its dict at dx, its attributes -/
  | ins (C dx : Addr) (fs : List (Str × V))
  /-- the dict of the instance at x -/
  | own (x : Addr)
  /-- the dict of an exception -/
  | xd (fs : List (Str × V))
  /-- a bound method, f of x -/
  | met (f x : Addr)
  /-- a range object lo, lo + 1, .. below hi -/
  | rng (lo hi : Int)
  /-- a thing that is known to the object (the script; a dict while a loop walks it): read, never written while it is so -/
  | frz (o : Obj) (u : HO)
  /-- a code object's table -/
  | tbl (ps : Array Value)
  /-- any other thing, by what is true of its one object (a def of one's own: SetO a S n := HO.ext fun h => ..) -/
  | ext (φ : Heap → Prop)

abbrev Hp := Addr → Option HO
def upd (H : Hp) (a : Addr) (o : HO) : Hp := fun b => if b = a then some o else H b
theorem upd_same {H : Hp} {a : Addr} {o : HO} : upd H a o a = some o := by unfold upd; rw [if_pos rfl]
theorem upd_ne {H : Hp} {a b : Addr} {o : HO} (h : b ≠ a) : upd H a o b = H b := by unfold upd; rw [if_neg h]
/-- two objects of different content stand apart -/
theorem ne_of {H : Hp} {a b : Addr} {o u : HO} (h : H a = some o) (h' : H b = some u) (d : o ≠ u) : a ≠ b := by
  intro e; subst e; rw [h] at h'; exact d (Option.some.inj h')
theorem ne_of_none {H : Hp} {a b : Addr} {o : HO} (h : H a = some o) (h' : H b = none) : a ≠ b := by
  intro e; subst e; rw [h] at h'; cases h'

section
variable (P : Program) (w : World)
def ObjOk (H : Hp) (h : Heap) (a : Addr) : HO → Prop
  | .lst xs => xs.length ≤ sizeLine ∧ ∃ (its : List Value) (n : Nat), Vals xs its ∧ h.get? a = some { cls := .type "list", data := .seq its.toArray n }
  | .tup xs => xs.length ≤ sizeLine ∧ ∃ its : List Value, Vals xs its ∧ IsTup h a its.toArray
  | .dK kvs => kvs.length ≤ sizeLine ∧ (a == sysModules) = false ∧ ∃ vs, KV kvs vs ∧ h.DictOf (mixKind P w) a vs
  | .dT kvs => kvs.length ≤ sizeLine ∧ (a == sysModules) = false ∧ ∃ xs : List (List Key × Addr × Value),
      Paired (fun (p : List Key × V) (q : List Key × Addr × Value) => p.1 = q.1 ∧ H q.2.1 = some (.tup (p.1.map kV)) ∧ RelV p.2 q.2.2) kvs xs ∧
      ∃ o es ep, h.get? a = some o ∧ o.ExactDict ∧ o.data = .dict es ep ∧ es.toList = xs.map (entryOfKey (tupleKind (mixKind P w))) ∧ (xs.map (·.1)).Nodup
  | .set S n => h.SetOf (intKind P w) a S n
  | .ins C dx fs => H dx = some (.own a) ∧ fs.length ≤ 1000 ∧ dx ≠ a ∧ h.get? a = some (PySem.W.instObj C dx) ∧
      ∃ mA, h.Ns1 dx mA ∧ (∀ f, RelO (fs.lookup f) (mA f)) ∧ PySem.Within mA (fs.map (·.1))
  | .own _ => ∃ o, h.get? a = some o
  | .xd fs => ∃ mA, h.Ns1 a mA ∧ ∀ f, RelO (fs.lookup f) (mA f)
  | .rng lo hi => ∃ t u v, h.get? a = some { cls := .type "range", data := .fields #[.int lo t, .int hi u, .int 1 v] }
  | .frz o u => h.get? a = some o ∧ ObjOk H h a u
  | .tbl ps => h.get? a = some { cls := .none, data := .fields ps }
  | .met f x => h.get? a = some (PySem.W.methodObj (.ref f) (.ref x))
  | .ext φ => φ h ∧ (∃ o, h.get? a = some o) ∧ ∀ h1 h2 : Heap, φ h1 → (∀ o, h1.get? a = some o → h2.get? a = some o) → φ h2
/-- the abstract heap is held -/
def HOk (H : Hp) (h : Heap) : Prop := ∀ a o, H a = some o → ObjOk P w H h a o
end

section
variable {P : Program} {w : World} {H H' : Hp} {h h' : Heap} {a : Addr} {o : HO}
theorem ObjOk.lt (x : ObjOk P w H h a o) : a < h.objs.size := by
  cases o with
  | lst xs => obtain ⟨_, _, _, _, e⟩ := x; exact Heap.lt_size e
  | tup xs => obtain ⟨_, _, _, p⟩ := x; exact p.lt
  | dK kvs => obtain ⟨_, _, _, _, o, _, _, e, _⟩ := x; exact Heap.lt_size e
  | dT kvs => obtain ⟨_, _, _, _, o, _, _, e, _⟩ := x; exact Heap.lt_size e
  | set S n => obtain ⟨o, _, _, _, e, _⟩ := x; exact Heap.lt_size e
  | ins C dx fs => obtain ⟨_, _, _, e, _⟩ := x; exact Heap.lt_size e
  | own y => obtain ⟨_, e⟩ := x; exact Heap.lt_size e
  | xd fs => obtain ⟨_, ⟨_, _, _, e, _⟩, _⟩ := x; exact Heap.lt_size e
  | rng lo hi => obtain ⟨_, _, _, e⟩ := x; exact Heap.lt_size e
  | frz ob u => obtain ⟨e, _⟩ := x; exact Heap.lt_size e
  | tbl ps => exact Heap.lt_size (show h.get? a = some _ from x)
  | met f y => exact Heap.lt_size (show h.get? a = some _ from x)
  | ext φ => obtain ⟨_, ⟨_, e⟩, _⟩ := x; exact Heap.lt_size e
theorem Paired.mapP {α β : Type} {F G : α → β → Prop} : ∀ {l₁ : List α} {l₂ : List β}, Paired F l₁ l₂ → (∀ a b, F a b → G a b) → Paired G l₁ l₂
  | _, _, .nil, _ => .nil
  | _, _, .cons r t, f => .cons (f _ _ r) (Paired.mapP t f)
theorem Paired.imp' {α β : Type} {F G : α → β → Prop} (f : ∀ a b, F a b → G a b) {l₁ : List α} {l₂ : List β} (r : Paired F l₁ l₂) : Paired G l₁ l₂ := Paired.mapP r f
/-- what an object's description leans on: its own object, its own dict, the tuples -/
theorem ObjOk.stay (x : ObjOk P w H h a o) (k : ∀ b u, (b = a ∨ H b = some (.own a)) → h.get? b = some u → h'.get? b = some u)
    (ho : ∀ b, H b = some (.own a) → H' b = some (.own a)) (ht : ∀ b xs, H b = some (.tup xs) → H' b = some (.tup xs)) : ObjOk P w H' h' a o := by
  induction o with
  | lst xs => obtain ⟨z, its, n, r, e⟩ := x; exact ⟨z, its, n, r, k _ _ (.inl rfl) e⟩
  | tup xs => obtain ⟨z, its, r, ob, e, c⟩ := x; exact ⟨z, its, r, ob, k _ _ (.inl rfl) e, c⟩
  | dK kvs => obtain ⟨z, y, vs, r, ob, es, ep, e, c⟩ := x; exact ⟨z, y, vs, r, ob, es, ep, k _ _ (.inl rfl) e, c⟩
  | dT kvs =>
    obtain ⟨z, y, xs, r, ob, es, ep, e, c⟩ := x
    exact ⟨z, y, xs, Paired.mapP r fun p q z => ⟨z.1, ht _ _ z.2.1, z.2.2⟩, ob, es, ep, k _ _ (.inl rfl) e, c⟩
  | set S n => obtain ⟨ob, es, ep, t, e, c⟩ := x; exact ⟨ob, es, ep, t, k _ _ (.inl rfl) e, c⟩
  | ins C dx fs =>
    obtain ⟨d, z, ne, e, mA, ⟨od, es, ep, e2, c⟩, r⟩ := x
    exact ⟨ho _ d, z, ne, k _ _ (.inl rfl) e, mA, ⟨od, es, ep, k _ _ (.inr d) e2, c⟩, r⟩
  | own y => obtain ⟨ob, e⟩ := x; exact ⟨ob, k _ _ (.inl rfl) e⟩
  | xd fs => obtain ⟨mA, ⟨od, es, ep, e, c⟩, r⟩ := x; exact ⟨mA, ⟨od, es, ep, k _ _ (.inl rfl) e, c⟩, r⟩
  | rng lo hi => obtain ⟨t, u, v, e⟩ := x; exact ⟨t, u, v, k _ _ (.inl rfl) e⟩
  | frz ob u ih => obtain ⟨e, q⟩ := x; exact ⟨k _ _ (.inl rfl) e, ih q⟩
  | tbl ps =>
    have e : h.get? a = some { cls := .none, data := .fields ps } := x
    show h'.get? a = some { cls := .none, data := .fields ps }
    exact k a _ (.inl rfl) e
  | met f y =>
    have e : h.get? a = some (PySem.W.methodObj (.ref f) (.ref y)) := x
    show h'.get? a = some (PySem.W.methodObj (.ref f) (.ref y))
    exact k a _ (.inl rfl) e
  | ext φ => obtain ⟨p, ⟨o, e⟩, st⟩ := x; exact ⟨st _ _ p fun o q => k _ _ (.inl rfl) q, ⟨o, k _ _ (.inl rfl) e⟩, st⟩
theorem HOk.lt (x : HOk P w H h) (e : H a = some o) : a < h.objs.size := (x a o e).lt
theorem HOk.fresh (x : HOk P w H h) (e : h.objs.size ≤ a) : H a = none := by
  cases q : H a with
  | none => rfl
  | some u => exact absurd (Nat.lt_of_lt_of_le (x.lt q) e) (Nat.lt_irrefl _)
/-- every object of the heap is kept -/
theorem HOk.kept (x : HOk P w H h) (k : ∀ b u, h.get? b = some u → h'.get? b = some u) : HOk P w H h' := fun a o e =>
  (x a o e).stay (fun b u _ q => k b u q) (fun _ q => q) fun _ _ q => q
/-- a new object is laid and tracked -/
theorem HOk.laid (x : HOk P w H h) (k : ∀ b u, h.get? b = some u → h'.get? b = some u) (hp : h.objs.size ≤ a) (new : ObjOk P w (upd H a o) h' a o) : HOk P w (upd H a o) h' := fun b u e => by
  have hn := x.fresh hp
  by_cases hb : b = a
  · subst hb; rw [upd_same] at e; cases e; exact new
  · rw [upd_ne hb] at e
    exact (x b u e).stay (fun c v _ q => k c v q) (fun c q => by rw [upd_ne (ne_of_none q hn)]; exact q) fun c xs q => by rw [upd_ne (ne_of_none q hn)]; exact q
end

/-- what may be read as u: it is u, or a known u -/
def Rd (H : Hp) (a : Addr) (u : HO) : Prop := H a = some u ∨ ∃ o, H a = some (.frz o u)
theorem Rd.of {H : Hp} {a : Addr} {u : HO} (h : H a = some u) : Rd H a u := .inl h
theorem Rd.ok {P : Program} {w : World} {H : Hp} {h : Heap} {a : Addr} {u : HO} (r : Rd H a u) (x : HOk P w H h) : ObjOk P w H h a u := by
  rcases r with r | ⟨o, r⟩
  · exact x a u r
  · obtain ⟨_, q⟩ := x a _ r
    exact q
/-- what may be written -/
def Mut : Option HO → Prop
  | some (.lst _) => True
  | some (.dK _) => True
  | some (.dT _) => True
  | some (.set _ _) => True
  | some (.ins _ _ _) => True
  | some (.ext _) => True
  | _ => False
section
variable {P : Program} {w : World} {H : Hp} {h h' : Heap} {x e : Addr} {o' : HO}
/-- the object at e is changed: x itself, or the dict of the instance x -/
theorem HOk.write (ok : HOk P w H h) (mu : Mut (H x)) (he : e = x ∨ H e = some (.own x)) (k : ∀ b u, b ≠ e → h.get? b = some u → h'.get? b = some u) (heo : ∃ u, h'.get? e = some u)
    (new : ObjOk P w (upd H x o') h' x o') : HOk P w (upd H x o') h' := fun b u q => by
  have nown : ∀ c y, H c = some (.own y) → c ≠ x := fun c y r z => by subst z; rw [r] at mu; exact mu
  have ntup : ∀ c xs, H c = some (.tup xs) → c ≠ x := fun c xs r z => by subst z; rw [r] at mu; exact mu
  by_cases hb : b = x
  · subst hb; rw [upd_same] at q; cases q; exact new
  · rw [upd_ne hb] at q
    by_cases hbe : b = e
    · have q' : H b = some (.own x) := by
        rcases he with z | z
        · exact absurd (hbe.trans z) hb
        · rw [hbe]; exact z
      rw [q] at q'; cases q'
      obtain ⟨v, hv⟩ := heo
      exact ⟨v, by rw [hbe]; exact hv⟩
    · refine (ok b u q).stay (fun c v hc r => k c v ?_ r) (fun c r => by rw [upd_ne (nown c b r)]; exact r) fun c xs r => by rw [upd_ne (ntup c xs r)]; exact r
      rcases hc with rfl | hc
      · exact hbe
      · rintro rfl
        rcases he with z | z
        · exact nown c b hc z
        · rw [hc] at z; cases z; exact hb rfl
end

/-! ### kept unless tracked; of the frames at fs (the callers') the slots may change (an exception that passes writes there); of the records at ex (iterators) nothing is said -/
structure Un (fs ex : List Addr) (H H' : Hp) (h h' : Heap) : Prop where
  keep : ∀ b o, h.get? b = some o → H b = none → b ∉ fs → b ∉ ex → h'.get? b = some o
  slot : ∀ b o, h.get? b = some o → H b = none → b ∈ fs → b ∉ ex → ∃ sl, h'.get? b = some { o with slots := sl }
  free : ∀ b o, h.get? b = some o → H b = none → b ∉ ex → H' b = none
  there : ∀ b o, h.get? b = some o → b ∉ ex → ∃ o', h'.get? b = some o'
  tups : ∀ b xs, H b = some (.tup xs) → H' b = some (.tup xs)
  frzs : ∀ b o u, H b = some (.frz o u) → H' b = some (.frz o u)
  tbls : ∀ b ps, H b = some (.tbl ps) → ∃ more, H' b = some (.tbl (ps ++ more))
section
variable {fs fs' ex ex' : List Addr} {H H1 H2 : Hp} {h h1 h2 h' : Heap} {a x e : Addr} {o : HO}
theorem Un.any (u : Un fs ex H H1 h h1) {b : Addr} {ob : Obj} (q : h.get? b = some ob) (n : H b = none) (hx : b ∉ ex) : ∃ sl, h1.get? b = some { ob with slots := sl } := by
  by_cases hb : b ∈ fs
  · exact u.slot b ob q n hb hx
  · exact ⟨ob.slots, u.keep b ob q n hb hx⟩
theorem Un.trans (a : Un fs ex H H1 h h1) (b : Un fs ex H1 H2 h1 h2) : Un fs ex H H2 h h2 where
  keep := fun c ob q n hc hx => b.keep c ob (a.keep c ob q n hc hx) (a.free c ob q n hx) hc hx
  slot := fun c ob q n hc hx => by
    obtain ⟨sl, e1⟩ := a.slot c ob q n hc hx
    obtain ⟨sl', e2⟩ := b.slot c _ e1 (a.free c ob q n hx) hc hx
    exact ⟨sl', e2⟩
  free := fun c ob q n hx => by
    obtain ⟨o', e1⟩ := a.there c ob q hx
    exact b.free c o' e1 (a.free c ob q n hx) hx
  there := fun c ob q hx => by
    obtain ⟨o', e1⟩ := a.there c ob q hx
    exact b.there c o' e1 hx
  tups := fun c xs q => b.tups c xs (a.tups c xs q)
  frzs := fun c ob xs q => b.frzs c ob xs (a.frzs c ob xs q)
  tbls := fun c ps q => by
    obtain ⟨m1, e1⟩ := a.tbls c ps q
    obtain ⟨m2, e2⟩ := b.tbls c _ e1
    exact ⟨m1 ++ m2, by rw [e2, Array.append_assoc]⟩
theorem Un.kept (k : ∀ b u, h.get? b = some u → h'.get? b = some u) : Un fs ex H H h h' :=
  ⟨fun b ob q _ _ _ => k b ob q, fun b ob q _ _ _ => ⟨ob.slots, k b ob q⟩, fun _ _ _ n _ => n, fun b ob q _ => ⟨ob, k b ob q⟩, fun _ _ q => q, fun _ _ _ q => q, fun _ ps q => ⟨#[], by rw [q]; simp⟩⟩
theorem Un.refl : Un fs ex H H h h := Un.kept fun _ _ q => q
theorem Un.laid (k : ∀ b u, h.get? b = some u → h'.get? b = some u) (hp : h.objs.size ≤ a) (hn : H a = none) : Un fs ex H (upd H a o) h h' where
  keep := fun b u q _ _ _ => k b u q
  slot := fun b u q _ _ _ => ⟨u.slots, k b u q⟩
  free := fun b u q n _ => by rw [upd_ne (Nat.ne_of_lt (Nat.lt_of_lt_of_le (Heap.lt_size q) hp))]; exact n
  there := fun b u q _ => ⟨u, k b u q⟩
  tups := fun b xs q => by rw [upd_ne (ne_of_none q hn)]; exact q
  frzs := fun b u xs q => by rw [upd_ne (ne_of_none q hn)]; exact q
  tbls := fun b ps q => ⟨#[], by rw [upd_ne (ne_of_none q hn), q]; simp⟩
theorem Un.write (mu : Mut (H x)) (he : e = x ∨ H e = some (.own x)) (k : ∀ b u, b ≠ e → h.get? b = some u → h'.get? b = some u) (heo : ∃ u, h'.get? e = some u) : Un fs ex H (upd H x o) h h' := by
  have hx : ∀ b, H b = none → b ≠ x := fun b n z => by subst z; rw [n] at mu; exact mu
  have hb : ∀ b, H b = none → b ≠ e := fun b n z => by
    subst z
    rcases he with r | r
    · exact hx b n r
    · rw [n] at r; cases r
  have hm : ∀ b u, H b = some u → ¬ Mut (some u) → b ≠ x := fun b u q nm z => by subst z; rw [q] at mu; exact nm mu
  refine ⟨fun b u q n _ _ => k b u (hb b n) q, fun b u q n _ _ => ⟨u.slots, k b u (hb b n) q⟩, fun b u q n _ => by rw [upd_ne (hx b n)]; exact n, fun b u q _ => ?_,
    fun b xs q => by rw [upd_ne (hm b _ q fun z => z)]; exact q, fun b u xs q => by rw [upd_ne (hm b _ q fun z => z)]; exact q, fun b ps q => ⟨#[], by rw [upd_ne (hm b _ q fun z => z), q]; simp⟩⟩
  by_cases hbe : b = e
  · subst hbe; exact heo
  · exact ⟨u, k b u hbe q⟩
theorem Un.mono (u : Un fs ex H H1 h h1) (hs : ∀ b ∈ fs, b ∈ fs') (hx : ∀ b ∈ ex, b ∈ ex') : Un fs' ex' H H1 h h1 :=
  ⟨fun b ob q n hb he => u.keep b ob q n (fun z => hb (hs b z)) fun z => he (hx b z), fun _ _ q n _ he => u.any q n fun z => he (hx _ z), fun b ob q n he => u.free b ob q n fun z => he (hx b z), fun b ob q he => u.there b ob q fun z => he (hx b z), u.tups, u.frzs, u.tbls⟩
end

/-! ### the heap without what is tracked -/
def trk (h : Heap) (H : Hp) : List Addr := (List.range h.objs.size).filter fun a => (H a).isSome
def hidT (h : Heap) (H : Hp) : Heap := PySem.W.hideAll h (trk h H)
theorem hidT_size (h : Heap) (H : Hp) : (hidT h H).objs.size = h.objs.size := PySem.W.hideAll_size _ _
theorem hidT_get {h : Heap} {H : Hp} {b : Addr} {o : Obj} (e : h.get? b = some o) (n : H b = none) : (hidT h H).get? b = some o :=
  PySem.W.hideAll_get _ e fun hm => by
    have q : (H b).isSome = true := (List.mem_filter.mp hm).2
    rw [n] at q; simp at q
theorem of_hidT {h : Heap} {H : Hp} {b : Addr} {o : Obj} (e : (hidT h H).get? b = some o) : h.get? b = some o ∧ H b = none := by
  have e' : h.get? b = some o := PySem.W.of_hideAll (trk h H) e
  refine ⟨e', ?_⟩
  cases q : H b with
  | none => rfl
  | some x =>
    have hm : b ∈ trk h H := List.mem_filter.mpr ⟨List.mem_range.mpr (Heap.lt_size e'), by simp [q]⟩
    have z : (hidT h H).get? b = none := PySem.W.hideAll_none (trk h H) hm
    rw [z] at e; cases e

/-! ### OpenK's ledger, filled with every new object but one -/
def allNews (g h : Heap) (L : Addr) : List (Addr × Obj) := (List.range h.objs.size).filterMap fun a => if a = L ∨ (g.get? a).isSome = true then none else (h.get? a).map fun o => (a, o)
def rest (g h : Heap) (L d : Addr) : List (Addr × Obj) := (allNews g h L).filter fun p => decide (p.1 ≠ d)
end L2

namespace L2
open PySem PySem.Spec PyProof.Rows

/-- the module's facts, over the base: the heap at the law's entry without what is tracked there -/
structure Mod (K : PySem.W.Frag) (mg : Str → Option Value) (base : Heap) : Prop where
  kin : K.In base
  glob : base.Ns mainGlobals mg
  blt : ∃ mb, base.Ns builtinsNs mb ∧ ∀ x : Str, x ≠ "__name__" → mb x = bootBuiltins x
  nolimit : base.NoLimit

/-- the context: a def's body (or a comprehension's block) running. base: fixed through the whole law; s₀, H₀: the entry; outer: the frames whose slots others may change (a def's callers); stack: all frames that run;
   ex: iterators that were made ahead of the entry and are walked here (a comprehension's); fn: the names whose cells were made at the entry (a def: all; a comprehension's block: its own); calm: not within an except suite; pn: pins that every state bears; xe: what is wanted of an exception that leaves the code -/
structure Cx where
  prog : Program
  w : World
  K : PySem.W.Frag
  mg : Str → Option Value
  base : Heap
  A : Around
  N : List Str
  s₀ : Shared
  H₀ : Hp
  env : Env
  outer : List Env
  stack : List Env
  ex : List Addr
  fn : Str → Bool
  calm : Bool
  pn : List (Addr × Obj)
  xe : Value → Shared → Prop
/-- the callers' frames -/
def frs (l : List Env) : List Addr := l.filterMap (·.frame)
abbrev Cx.fs (X : Cx) : List Addr := frs X.outer

def Vis (sc : Scope) (x : Str) : Prop := sc.names.lookup x = some .local ∨ sc.names.lookup x = some .cell ∨ sc.names.lookup x = some .free
def Loc (sc : Scope) (x : Str) : Prop := sc.names.lookup x = some .local ∨ sc.names.lookup x = some .cell
def Look (env : Env) (h : Heap) (m : Str → Option Value) (x : Str) (u : Value) : Prop :=
  (env.kindOf x = some .local ∧ m x = some u) ∨ ((env.kindOf x = some .cell ∨ env.kindOf x = some .free) ∧ ∃ c, env.cells.lookup x = some c ∧ h.IsCell c (some u))

structure Cx.Ok (X : Cx) : Prop where
  mod : Mod X.K X.mg X.base
  kind : X.env.scope.kind = .function
  glob : X.env.globals = mainGlobals
  blt : X.env.builtins = builtinsNs
  above : X.s₀.heap.objs.size ≤ X.env.locals
  inj : ∀ x y c, X.env.cells.lookup x = some c → X.env.cells.lookup y = some c → x = y
  has : ∀ x, (X.env.kindOf x = some .cell ∨ X.env.kindOf x = some .free) → ∃ c, X.env.cells.lookup x = some c
  cab : ∀ x c, X.fn x = true → X.env.cells.lookup x = some c → X.s₀.heap.objs.size ≤ c
  hd : X.calm = true → X.A.handled = none
  frames : X.A.frames = some X.stack
  stk : X.stack = X.outer ∨ (X.stack = X.env :: X.outer ∧ X.env.frame = some X.env.locals)
  exf : ∀ b ∈ X.ex, b ≠ X.env.locals ∧ ∀ x c, X.env.cells.lookup x = some c → c ≠ b
  bs : ∀ b o, X.base.get? b = some o → X.s₀.heap.get? b = some o ∧ X.H₀ b = none
  bsz : X.base.objs.size ≤ X.s₀.heap.objs.size
  noex : ∀ b o, X.base.get? b = some o → b ∉ X.ex
  exfs : ∀ b ∈ X.ex, b ∉ X.fs
  funs : X.s₀.heap.FunFrames X.base X.outer
  frf : ∀ b ∈ X.fs, X.H₀ b = none

structure Inv (X : Cx) (pins : List (Addr × Obj)) (σ : List (Option V)) (H : Hp) (s : Shared) : Prop where
  ok : X.Ok
  os : s.os = X.s₀.os
  bare : AllBare s.gens
  base : Un X.fs X.ex X.H₀ H X.s₀.heap s.heap
  loc : ∃ m, s.heap.Ns X.env.locals m ∧ ∀ (i : Nat) (x : Str) (v : V), X.N[i]? = some x → σ[i]? = some (some v) → Vis X.env.scope x → ∃ u, RelV v u ∧ Look X.env s.heap m x u
  cell : ∀ x c, X.env.cells.lookup x = some c → ∃ v, s.heap.IsCell c v
  free : H X.env.locals = none
  freeC : ∀ x c, X.env.cells.lookup x = some c → H c = none
  pin : ∀ p ∈ X.pn ++ pins, s.heap.get? p.1 = some p.2 ∧ H p.1 = none ∧ p.1 ≠ X.env.locals ∧ p.1 ∉ X.fs ∧ ∀ v, p.2.data ≠ .cell v
  hok : HOk X.prog X.w H s.heap
  len : σ.length = X.N.length

section
variable {X : Cx} {pins : List (Addr × Obj)} {σ : List (Option V)} {H H' : Hp} {s : Shared} {h' : Heap}

theorem Cx.Ok.nofr (ok : X.Ok) {b : Addr} {o : Obj} (e : X.base.get? b = some o) : b ∉ X.fs := fun hb => by
  have := (ok.funs.mem hb).1
  rw [e] at this; cases this
theorem Inv.bs (I : Inv X pins σ H s) : ∀ b o, X.base.get? b = some o → s.heap.get? b = some o ∧ H b = none := fun b o e =>
  ⟨I.base.keep b o (I.ok.bs b o e).1 (I.ok.bs b o e).2 (I.ok.nofr e) (I.ok.noex b o e), I.base.free b o (I.ok.bs b o e).1 (I.ok.bs b o e).2 (I.ok.noex b o e)⟩
theorem Inv.bk (I : Inv X pins σ H s) : ∀ b o, X.base.get? b = some o → s.heap.get? b = some o := fun b o e => (I.bs b o e).1
theorem Inv.mod (I : Inv X pins σ H s) : Mod X.K X.mg X.base := I.ok.mod
theorem Inv.kIn (I : Inv X pins σ H s) : X.K.In s.heap := I.ok.mod.kin.keeps I.bk
theorem Inv.nolimit (I : Inv X pins σ H s) : s.heap.NoLimit := I.ok.mod.nolimit.keeps I.bk
/-- the frame over the base: for OpenK's rules (K.In X.base is I.mod.kin) -/
theorem Inv.fr (I : Inv X pins σ H s) : ∃ m, Fr X.base X.env.locals s.heap m :=
  let ⟨m, hn, _⟩ := I.loc
  ⟨m, hn, I.bk, Nat.le_trans I.ok.bsz I.ok.above⟩
theorem Inv.lt (I : Inv X pins σ H s) : X.env.locals < s.heap.objs.size := let ⟨_, hn, _⟩ := I.loc; hn.lt
theorem Inv.sz (I : Inv X pins σ H s) : X.s₀.heap.objs.size ≤ s.heap.objs.size := Nat.le_trans I.ok.above (Nat.le_of_lt I.lt)
theorem Inv.nofs (I : Inv X pins σ H s) {a : Addr} (h : s.heap.objs.size ≤ a) : a ∉ X.fs := fun hb => by
  obtain ⟨_, o, ho, _⟩ := I.ok.funs.mem hb
  exact absurd (Nat.lt_of_lt_of_le (Heap.lt_size ho) (Nat.le_trans I.sz h)) (Nat.lt_irrefl _)
theorem Inv.cne (I : Inv X pins σ H s) : ∀ x c, X.env.cells.lookup x = some c → c ≠ X.env.locals := fun x c e z => by
  obtain ⟨v, o, ho, hd⟩ := I.cell x c e
  obtain ⟨m, ⟨o', es, ep, ho', hd', _⟩, _⟩ := I.loc
  rw [z, ho'] at ho; cases ho; rw [hd'] at hd; cases hd
theorem Inv.funs (I : Inv X pins σ H s) : s.heap.FunFrames X.base X.outer := by
  have all : ∀ (l : List Env), (∀ b ∈ frs l, b ∈ X.fs) → X.s₀.heap.FunFrames X.base l → s.heap.FunFrames X.base l := by
    intro l
    induction l with
    | nil => intro _ _; trivial
    | cons env r ih =>
      intro hs hl
      obtain ⟨hk, ⟨L, o, hf, hn, ho, hd⟩, hr⟩ := hl
      have hL : L ∈ X.fs := hs L (by unfold frs; rw [List.filterMap_cons, hf]; exact List.mem_cons_self)
      obtain ⟨sl, e⟩ := I.base.slot L o ho (I.ok.frf L hL) hL fun z => I.ok.exfs L z hL
      exact ⟨hk, ⟨L, _, hf, hn, e, hd⟩, ih (fun b hb => hs b (by unfold frs; rw [List.filterMap_cons, hf]; exact List.mem_cons_of_mem _ hb)) hr⟩
  exact all X.outer (fun _ hb => hb) I.ok.funs

/-- the frames that run, for a call -/
theorem Inv.stack (I : Inv X pins σ H s) : s.heap.FunFrames X.base X.stack := by
  rcases I.ok.stk with e | ⟨e, hf⟩
  · rw [e]; exact I.funs
  · rw [e]
    obtain ⟨m, hn, _⟩ := I.loc
    refine .cons (by rw [I.ok.kind]; decide) hf hn ?_ I.funs
    exact Heap.get?_none_of_le (Nat.le_trans I.ok.bsz I.ok.above)
theorem Inv.stkSub (I : Inv X pins σ H s) : ∀ b ∈ frs X.stack, b ∈ X.env.locals :: X.fs := fun b hb => by
  rcases I.ok.stk with e | ⟨e, hf⟩
  · rw [e] at hb; exact List.mem_cons_of_mem _ hb
  · rw [e] at hb
    unfold frs at hb
    rw [List.filterMap_cons, hf] at hb
    exact hb
theorem Inv.stkFree (I : Inv X pins σ H s) : ∀ b ∈ frs X.stack, H b = none := fun b hb => by
  rcases List.mem_cons.mp (I.stkSub b hb) with e | hb
  · rw [e]; exact I.free
  · obtain ⟨_, o, ho, _⟩ := I.ok.funs.mem hb
    exact I.base.free b o ho (I.ok.frf b hb) fun z => I.ok.exfs b z hb

/-- THE STEP: the untracked objects but the frame and the records at ch are kept (the callers' frames up to slots), the frame's map is kept, the new abstract heap is held -/
theorem Inv.step {g' : Array GenState} {t' : Nat} {d' : Drawn} {ch : List Addr} (I : Inv X pins σ H s)
    (hch : ∀ b ∈ ch, (b ∈ X.ex ∨ X.s₀.heap.objs.size ≤ b) ∧ b ≠ X.env.locals ∧ (∀ x c, X.env.cells.lookup x = some c → c ≠ b) ∧ ∀ p ∈ X.pn ++ pins, p.1 ≠ b)
    (keep : ∀ b o, b ≠ X.env.locals → b ∉ X.fs → b ∉ ch → s.heap.get? b = some o → H b = none → h'.get? b = some o)
    (slot : ∀ b o, b ≠ X.env.locals → b ∈ X.fs → b ∉ ch → s.heap.get? b = some o → H b = none → ∃ sl, h'.get? b = some { o with slots := sl }) (free : ∀ b o, b ∉ ch → s.heap.get? b = some o → H b = none → H' b = none)
    (there : ∀ b o, b ∉ ch → s.heap.get? b = some o → ∃ o', h'.get? b = some o')
    (tups : ∀ b xs, H b = some (.tup xs) → H' b = some (.tup xs)) (frzs : ∀ b o u, H b = some (.frz o u) → H' b = some (.frz o u)) (tbls : ∀ b ps, H b = some (.tbl ps) → ∃ more, H' b = some (.tbl (ps ++ more)))
    (ns : ∀ m, s.heap.Ns X.env.locals m → h'.Ns X.env.locals m) (hok : HOk X.prog X.w H' h') (hg : AllBare g') :
    Inv X pins σ H' { s with heap := h', gens := g', drawn := d', toks := t' } := by
  have neL : ∀ b o, X.s₀.heap.get? b = some o → b ≠ X.env.locals := fun b o e => Nat.ne_of_lt (Nat.lt_of_lt_of_le (Heap.lt_size e) I.ok.above)
  have neC : ∀ b o, X.s₀.heap.get? b = some o → b ∉ X.ex → b ∉ ch := fun b o e hx hb => by
    rcases (hch b hb).1 with z | z
    · exact hx z
    · exact absurd (Nat.lt_of_lt_of_le (Heap.lt_size e) z) (Nat.lt_irrefl _)
  have cellK : ∀ x c, X.env.cells.lookup x = some c → ∀ v, s.heap.IsCell c v → h'.IsCell c v := fun x c e v ⟨o, ho, hd⟩ => by
    have nch : c ∉ ch := fun z => (hch c z).2.2.1 x c e rfl
    by_cases hc : c ∈ X.fs
    · obtain ⟨sl, q⟩ := slot c o (I.cne x c e) hc nch ho (I.freeC x c e)
      exact ⟨_, q, hd⟩
    · exact ⟨o, keep c o (I.cne x c e) hc nch ho (I.freeC x c e), hd⟩
  refine ⟨I.ok, I.os, hg, ⟨fun b o e n hb hx => ?_, fun b o e n hb hx => ?_, fun b o e n hx => ?_, fun b o e hx => ?_, fun b xs e => tups b xs (I.base.tups b xs e), fun b o xs e => frzs b o xs (I.base.frzs b o xs e), fun b ps e => ?_⟩, ?_, fun x c e => ?_, ?_, fun x c e => ?_, fun p hp => ?_, hok, I.len⟩
  · exact keep b o (neL b o e) hb (neC b o e hx) (I.base.keep b o e n hb hx) (I.base.free b o e n hx)
  · obtain ⟨sl, e1⟩ := I.base.slot b o e n hb hx
    obtain ⟨sl', e2⟩ := slot b _ (neL b o e) hb (neC b o e hx) e1 (I.base.free b o e n hx)
    exact ⟨sl', e2⟩
  · obtain ⟨o', e1⟩ := I.base.there b o e hx
    exact free b o' (neC b o e hx) e1 (I.base.free b o e n hx)
  · obtain ⟨o', e1⟩ := I.base.there b o e hx
    exact there b o' (neC b o e hx) e1
  · obtain ⟨m1, e1⟩ := I.base.tbls b ps e
    obtain ⟨m2, e2⟩ := tbls b _ e1
    exact ⟨m1 ++ m2, by rw [e2, Array.append_assoc]⟩
  · obtain ⟨m, hn, hl⟩ := I.loc
    refine ⟨m, ns m hn, fun i x v e1 e2 e3 => ?_⟩
    obtain ⟨u, r, l⟩ := hl i x v e1 e2 e3
    refine ⟨u, r, ?_⟩
    rcases l with l | ⟨k, c, e, z⟩
    · exact .inl l
    · exact .inr ⟨k, c, e, cellK x c e _ z⟩
  · obtain ⟨v, z⟩ := I.cell x c e
    exact ⟨v, cellK x c e v z⟩
  · obtain ⟨m, ⟨o, _, _, ho, _⟩, _⟩ := I.loc
    exact free _ o (fun z => (hch _ z).2.1 rfl) ho I.free
  · obtain ⟨v, o, ho, hd⟩ := I.cell x c e
    exact free c o (fun z => (hch c z).2.2.1 x c e rfl) ho (I.freeC x c e)
  · obtain ⟨e, n, ne, nf, d⟩ := I.pin p hp
    have nch : p.1 ∉ ch := fun z => (hch p.1 z).2.2.2 p hp rfl
    exact ⟨keep p.1 p.2 ne nf nch e n, free p.1 p.2 nch e n, ne, nf, d⟩
/-- .. where the frame's own object is kept too -/
theorem Inv.un {t' : Nat} (I : Inv X pins σ H s) (u : Un X.fs [] H H' s.heap h') (hok : HOk X.prog X.w H' h') : Inv X pins σ H' { s with heap := h', toks := t' } := by
  obtain ⟨m, ⟨o, es, ep, ho, r⟩, _⟩ := id I.loc
  obtain ⟨sl, hL⟩ := u.any ho I.free (by simp)
  exact I.step (g' := s.gens) (d' := s.drawn) (ch := []) (fun _ z => nomatch z) (fun b o _ hb _ e n => u.keep b o e n hb (by simp)) (fun b o _ hb _ e n => u.slot b o e n hb (by simp)) (fun b o _ e n => u.free b o e n (by simp)) (fun b o _ e => u.there b o e (by simp)) u.tups u.frzs u.tbls (fun m' hm => by
    obtain ⟨o', es', ep', ho', r'⟩ := hm
    rw [ho] at ho'; cases ho'
    exact ⟨_, es', ep', hL, r'⟩) hok I.bare
/-- behind a call (or a comprehension's block): the slots of this frame may have changed too, the records at ch may have turned -/
theorem Inv.call {g' : Array GenState} {t' : Nat} {d' : Drawn} {ch : List Addr} (I : Inv X pins σ H s) (u : Un (frs X.stack) ch H H' s.heap h') (hok : HOk X.prog X.w H' h') (hg : AllBare g')
    (hch : ∀ b ∈ ch, (b ∈ X.ex ∨ X.s₀.heap.objs.size ≤ b) ∧ b ≠ X.env.locals ∧ (∀ x c, X.env.cells.lookup x = some c → c ≠ b) ∧ ∀ p ∈ X.pn ++ pins, p.1 ≠ b) :
    Inv X pins σ H' { s with heap := h', gens := g', drawn := d', toks := t' } := by
  obtain ⟨m, ⟨o, es, ep, ho, r⟩, _⟩ := id I.loc
  obtain ⟨sl, hL⟩ := u.any ho I.free fun z => (hch _ z).2.1 rfl
  exact I.step (ch := ch) hch (fun b o hL hb hc e n => u.keep b o e n (fun z => (List.mem_cons.mp (I.stkSub b z)).elim hL hb) hc) (fun b o _ _ hc e n => u.any e n hc) (fun b o hc e n => u.free b o e n hc) (fun b o hc e => u.there b o e hc) u.tups u.frzs u.tbls (fun m' hm => by
    obtain ⟨o', es', ep', ho', r'⟩ := hm
    rw [ho] at ho'; cases ho'
    exact ⟨_, es', ep', hL, r'⟩) hok hg
/-- an untracked record of ours (an iterator) has turned -/
theorem Inv.turned {t' : Nat} {it : Addr} (I : Inv X pins σ H s) (k : ∀ b o, b ≠ it → s.heap.get? b = some o → h'.get? b = some o) (hn : H it = none) (hL : it ≠ X.env.locals)
    (h1 : it ∈ X.ex ∨ X.s₀.heap.objs.size ≤ it) (h2 : ∀ x c, X.env.cells.lookup x = some c → c ≠ it) (h3 : ∀ p ∈ X.pn ++ pins, p.1 ≠ it) : Inv X pins σ H { s with heap := h', toks := t' } := by
  have nit : ∀ b u, H b = some u → b ≠ it := fun b u e z => by rw [z, hn] at e; cases e
  refine I.step (g' := s.gens) (d' := s.drawn) (ch := [it]) (fun b hb => ?_) (fun b o _ _ hc e _ => k b o (fun z => hc (by simp [z])) e) (fun b o _ _ hc e _ => ⟨o.slots, k b o (fun z => hc (by simp [z])) e⟩) (fun _ _ _ _ n => n)
    (fun b o hc e => ⟨o, k b o (fun z => hc (by simp [z])) e⟩) (fun _ _ e => e) (fun _ _ _ e => e) (fun b ps e => ⟨#[], by rw [e]; simp⟩) (fun m hm => ?_) (fun b u e => ?_) I.bare
  · have e : b = it := by simpa using hb
    subst e
    exact ⟨h1, hL, h2, h3⟩
  · obtain ⟨o, es, ep, ho, r⟩ := hm
    exact ⟨o, es, ep, k _ o (Ne.symm hL) ho, r⟩
  · refine (I.hok b u e).stay (fun c v hc q => k c v ?_ q) (fun _ q => q) fun _ _ q => q
    rcases hc with z | z
    · rw [z]; exact nit b u e
    · exact nit c _ z
theorem Inv.tok (I : Inv X pins σ H s) (t : Nat) : Inv X pins σ H { s with toks := t } := I.un (h' := s.heap) (t' := t) Un.refl I.hok
/-- all objects kept -/
theorem Inv.kept {t' : Nat} (I : Inv X pins σ H s) (k : ∀ b u, s.heap.get? b = some u → h'.get? b = some u) : Inv X pins σ H { s with heap := h', toks := t' } := I.un (Un.kept k) (I.hok.kept k)
/-- a new object laid and tracked -/
theorem Inv.laid {a : Addr} {o : HO} {t' : Nat} (I : Inv X pins σ H s) (k : ∀ b u, s.heap.get? b = some u → h'.get? b = some u) (hp : s.heap.objs.size ≤ a) (new : ObjOk X.prog X.w (upd H a o) h' a o) :
    Inv X pins σ (upd H a o) { s with heap := h', toks := t' } := I.un (Un.laid k hp (I.hok.fresh hp)) (I.hok.laid k hp new)
/-- an object written -/
theorem Inv.write {x e : Addr} {o : HO} {t' : Nat} (I : Inv X pins σ H s) (mu : Mut (H x)) (he : e = x ∨ H e = some (.own x)) (k : ∀ b u, b ≠ e → s.heap.get? b = some u → h'.get? b = some u) (heo : ∃ u, h'.get? e = some u)
    (new : ObjOk X.prog X.w (upd H x o) h' x o) : Inv X pins σ (upd H x o) { s with heap := h', toks := t' } := I.un (Un.write mu he k heo) (I.hok.write mu he k heo new)
/-- forgetting slots, pins -/
theorem Inv.weak {σ' : List (Option V)} (I : Inv X pins σ H s) (hl : σ'.length = σ.length) (w : ∀ (i : Nat) v, σ'[i]? = some (some v) → σ[i]? = some (some v)) : Inv X pins σ' H s :=
  ⟨I.ok, I.os, I.bare, I.base, let ⟨m, hn, hl'⟩ := I.loc; ⟨m, hn, fun i x v e1 e2 e3 => hl' i x v e1 (w i v e2) e3⟩, I.cell, I.free, I.freeC, I.pin, I.hok, hl.trans I.len⟩
theorem Inv.pins_of {pins' : List (Addr × Obj)} (I : Inv X pins σ H s) (h : ∀ p ∈ pins', s.heap.get? p.1 = some p.2 ∧ H p.1 = none ∧ p.1 ≠ X.env.locals ∧ p.1 ∉ X.fs ∧ ∀ v, p.2.data ≠ .cell v) : Inv X pins' σ H s :=
  ⟨I.ok, I.os, I.bare, I.base, I.loc, I.cell, I.free, I.freeC, fun p hp => (List.mem_append.mp hp).elim (fun z => I.pin p (List.mem_append_left _ z)) (h p), I.hok, I.len⟩

theorem nodup_ix {N : List Str} (hN : N.Nodup) {i j : Nat} {x : Str} (a : N[i]? = some x) (b : N[j]? = some x) : i = j := by
  obtain ⟨h1, e1⟩ := List.getElem?_eq_some_iff.mp a
  obtain ⟨h2, e2⟩ := List.getElem?_eq_some_iff.mp b
  exact (List.getElem_inj hN).mp (e1.trans e2.symm)

/-- a name is stored; what changed -/
theorem store_ok2 {M : Model} {A : Around} {E : Value → Shared → Prop} {i : Nat} {x : Str} {v : V} {u : Value} {Q : Unit → Shared → Prop} (I : Inv X pins σ H s) (hN : X.N.Nodup) (hi : X.N[i]? = some x) (hx : Loc X.env.scope x) (r : RelV v u)
    (h : ∀ s', Inv X pins (σ.set i (some v)) H s' → (∃ a, Heap.SameBut a s.heap s'.heap ∧ (a = X.env.locals ∨ X.env.cells.lookup x = some a)) → Q () s') (hf : X.fn x = true ∨ X.env.scope.names.lookup x = some .local := by first | exact .inl rfl | exact .inr rfl | assumption) : wpAny M A (storeName X.env x u) Q E s := by
  obtain ⟨m, hn, hl⟩ := id I.loc
  have hcls : (X.env.scope.kind == .class || (X.env.scope.kind == .module && X.env.locals != X.env.globals)) = false := by rw [I.ok.kind]; rfl
  have hiσ : i < σ.length := by rw [I.len]; exact (List.getElem?_eq_some_iff.mp hi).1
  have cne := I.cne
  have tracked : ∀ {a : Addr} {h' : Heap}, (∃ o, s.heap.get? a = some o ∧ H a = none) → Heap.SameBut a s.heap h' → HOk X.prog X.w H h' := fun {a h'} ha hs b ob e => by
    obtain ⟨_, _, hfree⟩ := ha
    refine (I.hok b ob e).stay (fun c w' hc q => (hs.2 c ?_).trans q) (fun _ q => q) fun _ _ q => q
    rintro rfl
    rcases hc with rfl | hc
    · rw [hfree] at e; cases e
    · rw [hfree] at hc; cases hc
  rcases hx with hk | hk
  · refine wpAny_storeName_local hk hn (fun h' hn' hs => ?_) hcls
    obtain ⟨oL, _, _, hoL, _⟩ := id hn
    refine h _ ⟨I.ok, I.os, I.bare, ⟨fun b o e n hb hx => ?_, fun b o e n hb hx => ?_, I.base.free, fun b o e hx => ?_, I.base.tups, I.base.frzs, I.base.tbls⟩, ⟨_, hn', fun j y v' e1 e2 e3 => ?_⟩, fun y c e => ?_, I.free, I.freeC, fun p hp => ?_, tracked ⟨oL, hoL, I.free⟩ hs, by simpa using I.len⟩ ⟨_, hs, .inl rfl⟩
    · exact (hs.2 b (Nat.ne_of_lt (Nat.lt_of_lt_of_le (Heap.lt_size e) I.ok.above))).trans (I.base.keep b o e n hb hx)
    · obtain ⟨sl, e1⟩ := I.base.slot b o e n hb hx
      exact ⟨sl, (hs.2 b (Nat.ne_of_lt (Nat.lt_of_lt_of_le (Heap.lt_size e) I.ok.above))).trans e1⟩
    · obtain ⟨o', e1⟩ := I.base.there b o e hx
      exact ⟨o', (hs.2 b (Nat.ne_of_lt (Nat.lt_of_lt_of_le (Heap.lt_size e) I.ok.above))).trans e1⟩
    · by_cases hj : j = i
      · subst hj
        rw [hi] at e1; cases e1
        rw [List.getElem?_set_self hiσ] at e2
        cases e2
        exact ⟨u, r, .inl ⟨hk, by simp⟩⟩
      · rw [List.getElem?_set_ne (Ne.symm hj)] at e2
        obtain ⟨u', r', q⟩ := hl j y v' e1 e2 e3
        refine ⟨u', r', ?_⟩
        rcases q with ⟨k, e⟩ | ⟨k, c, e, z⟩
        · refine .inl ⟨k, ?_⟩
          have : y ≠ x := fun e => hj (nodup_ix hN e1 (e ▸ hi))
          simp [this, e]
        · exact .inr ⟨k, c, e, z.sameBut hs (cne y c e)⟩
    · obtain ⟨w', z⟩ := I.cell y c e
      exact ⟨w', z.sameBut hs (cne y c e)⟩
    · obtain ⟨e, n, ne, nf, d⟩ := I.pin p hp
      exact ⟨(hs.2 p.1 ne).trans e, n, ne, nf, d⟩
  · have hfn : X.fn x = true := by
      rcases hf with z | z
      · exact z
      · rw [z] at hk; cases hk
    obtain ⟨c, hc⟩ := I.ok.has x (.inl hk)
    obtain ⟨w', z⟩ := I.cell x c hc
    refine wpAny_storeName_cell I.ok.kind hk hc z (fun h' hc' hs => ?_)
    obtain ⟨oc, hoc, hocd⟩ := id z
    refine h { s with heap := h' } ⟨I.ok, I.os, I.bare, ⟨fun b o e n hb hx => ?_, fun b o e n hb hx => ?_, I.base.free, fun b o e hx => ?_, I.base.tups, I.base.frzs, I.base.tbls⟩, ⟨m, hn.sameBut hs (Ne.symm (cne x c hc)), fun j y v' e1 e2 e3 => ?_⟩, fun y c' e => ?_, I.free, I.freeC, fun p hp => ?_, tracked ⟨oc, hoc, I.freeC x c hc⟩ hs, by simpa using I.len⟩ ⟨c, hs, .inr hc⟩
    · exact (hs.2 b (Nat.ne_of_lt (Nat.lt_of_lt_of_le (Heap.lt_size e) (I.ok.cab x c hfn hc)))).trans (I.base.keep b o e n hb hx)
    · obtain ⟨sl, e1⟩ := I.base.slot b o e n hb hx
      exact ⟨sl, (hs.2 b (Nat.ne_of_lt (Nat.lt_of_lt_of_le (Heap.lt_size e) (I.ok.cab x c hfn hc)))).trans e1⟩
    · obtain ⟨o', e1⟩ := I.base.there b o e hx
      exact ⟨o', (hs.2 b (Nat.ne_of_lt (Nat.lt_of_lt_of_le (Heap.lt_size e) (I.ok.cab x c hfn hc)))).trans e1⟩
    · by_cases hj : j = i
      · subst hj
        rw [hi] at e1; cases e1
        rw [List.getElem?_set_self hiσ] at e2
        cases e2
        exact ⟨u, r, .inr ⟨.inl hk, c, hc, hc'⟩⟩
      · rw [List.getElem?_set_ne (Ne.symm hj)] at e2
        obtain ⟨u', r', q⟩ := hl j y v' e1 e2 e3
        refine ⟨u', r', ?_⟩
        rcases q with q | ⟨k, c', e, z'⟩
        · exact .inl q
        · refine .inr ⟨k, c', e, z'.sameBut hs ?_⟩
          rintro rfl
          exact hj (nodup_ix hN e1 (I.ok.inj _ _ _ e hc ▸ hi))
    · by_cases hcc : c' = c
      · subst hcc; exact ⟨_, hc'⟩
      · obtain ⟨w2, z2⟩ := I.cell y c' e
        exact ⟨w2, z2.sameBut hs hcc⟩
    · obtain ⟨e, n, ne, nf, d⟩ := I.pin p hp
      refine ⟨(hs.2 p.1 ?_).trans e, n, ne, nf, d⟩
      intro q
      rw [q, hoc] at e
      have q' : oc = p.2 := Option.some.inj e
      exact d w' (by rw [← q']; exact hocd)
theorem store_ok {M : Model} {A : Around} {E : Value → Shared → Prop} {i : Nat} {x : Str} {v : V} {u : Value} {Q : Unit → Shared → Prop} (I : Inv X pins σ H s) (hN : X.N.Nodup) (hi : X.N[i]? = some x) (hx : Loc X.env.scope x) (r : RelV v u)
    (h : ∀ s', Inv X pins (σ.set i (some v)) H s' → Q () s') (hf : X.fn x = true ∨ X.env.scope.names.lookup x = some .local := by first | exact .inl rfl | exact .inr rfl | assumption) : wpAny M A (storeName X.env x u) Q E s :=
  store_ok2 I hN hi hx r (fun s' I' _ => h s' I') hf
/-- behind a call or a block, the state as it is -/
theorem Inv.call' {s' : Shared} {ch : List Addr} (I : Inv X pins σ H s) (ho : s'.os = s.os) (u : Un (frs X.stack) ch H H' s.heap s'.heap) (hok : HOk X.prog X.w H' s'.heap) (hg : AllBare s'.gens)
    (hch : ∀ b ∈ ch, (b ∈ X.ex ∨ X.s₀.heap.objs.size ≤ b) ∧ b ≠ X.env.locals ∧ (∀ x c, X.env.cells.lookup x = some c → c ≠ b) ∧ ∀ p ∈ X.pn ++ pins, p.1 ≠ b) : Inv X pins σ H' s' := by
  obtain ⟨h', g', d', t', o'⟩ := s'
  have e : o' = s.os := ho
  subst e
  exact I.call (g' := g') (t' := t') (d' := d') u hok hg hch
end

/-! ### the judgements -/
/-- an exception: its class, its own dict's address (where it has one), the abstract heap behind it -/
abbrev XK := Value → Option Addr → Hp → Prop
abbrev St := List (Option V)
abbrev VK := V → Hp → Prop
/-- an expression's reading; a test's; an argument list's -/
abbrev TE := St → Hp → VK → Prop
abbrev TT := St → Hp → (Bool → Hp → Prop) → Prop
abbrev TA := St → Hp → (List V → Hp → Prop) → Prop
/-- what is wanted behind a statement -/
structure Ends where
  nx : St → Hp → Prop
  rt : VK
  bk : St → Hp → Prop := fun _ _ => False
  ct : St → Hp → Prop := fun _ _ => False
abbrev TS := Ends → St → Hp → Prop

def EP (X : Cx) (pins : List (Addr × Obj)) (σ : St) (Q : VK) (u : Value) (s' : Shared) : Prop := ∃ v H', Inv X pins σ H' s' ∧ RelV v u ∧ Q v H'
def TP (X : Cx) (pins : List (Addr × Obj)) (σ : St) (Q : Bool → Hp → Prop) (b : Bool) (s' : Shared) : Prop := ∃ H', Inv X pins σ H' s' ∧ Q b H'
def AP (X : Cx) (pins : List (Addr × Obj)) (σ : St) (Q : List V → Hp → Prop) (us : List Value) (s' : Shared) : Prop := ∃ vs H', Inv X pins σ H' s' ∧ Vals vs us ∧ Q vs H'
def SP (X : Cx) (pins : List (Addr × Obj)) (D : Ends) (f : Flow) (s' : Shared) : Prop :=
  match f with
  | .next => ∃ σ' H', Inv X pins σ' H' s' ∧ D.nx σ' H'
  | .brk => ∃ σ' H', Inv X pins σ' H' s' ∧ D.bk σ' H'
  | .cont => ∃ σ' H', Inv X pins σ' H' s' ∧ D.ct σ' H'
  | .ret u => ∃ v σ' H', Inv X pins σ' H' s' ∧ RelV v u ∧ D.rt v H'

def PE (X : Cx) (e : Expr) (t : TE) : Prop :=
  ∀ (pins : List (Addr × Obj)) (s : Shared) (σ : St) (H : Hp) (Q : VK), Inv X pins σ H s → t σ H Q → wpAny (model X.prog X.w) X.A (eval e X.env) (EP X pins σ Q) X.xe s
def PT (X : Cx) (e : Expr) (t : TT) : Prop :=
  ∀ (pins : List (Addr × Obj)) (s : Shared) (σ : St) (H : Hp) (Q : Bool → Hp → Prop), Inv X pins σ H s → t σ H Q → wpAny (model X.prog X.w) X.A (isTrue e X.env (eval e X.env)) (TP X pins σ Q) X.xe s
/-- a test whatever its 'whole' is (and, or) -/
def PW (X : Cx) (e : Expr) (t : TT) : Prop :=
  ∀ (whole : Sem Value) (pins : List (Addr × Obj)) (s : Shared) (σ : St) (H : Hp) (Q : Bool → Hp → Prop), Inv X pins σ H s → t σ H Q → wpAny (model X.prog X.w) X.A (isTrue e X.env whole) (TP X pins σ Q) X.xe s
theorem PW.pt {X : Cx} {e : Expr} {t : TT} (h : PW X e t) : PT X e t := h _
/-- an argument list (no star), from the left -/
def PA (X : Cx) (es : List Expr) (t : TA) : Prop :=
  ∀ (pos : Pos) (pins : List (Addr × Obj)) (s : Shared) (σ : St) (H : Hp) (Q : List V → Hp → Prop), Inv X pins σ H s → t σ H Q → wpAny (model X.prog X.w) X.A (spliced (backTo pos (starEach es X.env))) (AP X pins σ Q) X.xe s
def PS (X : Cx) (st : Stmt) (t : TS) : Prop :=
  ∀ (pins : List (Addr × Obj)) (s : Shared) (σ : St) (H : Hp) (D : Ends), Inv X pins σ H s → t D σ H → wpAny (model X.prog X.w) X.A (exec st X.env) (SP X pins D) X.xe s
def PSs (X : Cx) (st : List Stmt) (t : TS) : Prop :=
  ∀ (pins : List (Addr × Obj)) (s : Shared) (σ : St) (H : Hp) (D : Ends), Inv X pins σ H s → t D σ H → wpAny (model X.prog X.w) X.A (execs st X.env) (SP X pins D) X.xe s
/-- weaken the end -/
theorem thn {α : Type} {t : Sem α} {Q Q' : α → Shared → Prop} {M : Model} {A : Around} {E : Value → Shared → Prop} {s : Shared} (h : wpAny M A t Q E s) (hQ : ∀ a s, Q a s → Q' a s) : wpAny M A t Q' E s := wpAny_mono h hQ fun _ _ x => x
end L2

namespace L2
open PySem PySem.Spec PyProof.Rows
section
variable {X : Cx}

/-! ### names and constants -/
def tVar (i : Nat) : TE := fun σ H Q => ∃ v, σ[i]? = some (some v) ∧ Q v H
def tC (v : V) : TE := fun _ H Q => Q v H
theorem pe_var {i : Nat} {x : Str} {pos : Pos} (hN : X.N[i]? = some x) (hv : Vis X.env.scope x) (hd : (x == ("__debug__" : Str)) = false := by decide) (hcd : (x == ("__classdict__" : Str)) = false := by decide) : PE X (.Name x pos) (tVar i) := by
  intro pins s σ H Q I h
  obtain ⟨v, e, h⟩ := h
  obtain ⟨m, hn, hl⟩ := I.loc
  obtain ⟨u, r, l⟩ := hl i x v hN e hv
  have fin : EP X pins σ Q u s := ⟨v, H, I, r, h⟩
  rcases l with ⟨hk, hm⟩ | ⟨hk, c, hc, hcell⟩
  · exact wpAny_Name (wpAny_loadName_local I.ok.kind hk hn hm fin) hd
  · rcases hk with hk | hk
    · exact wpAny_Name (wpAny_loadName_cell I.ok.kind hk hc hcell fin) hd
    · exact wpAny_Name (wpAny_loadName_free I.ok.kind hk hc hcell fin hcd) hd
theorem pe_int {i j pos} : PE X (.Constant (.int i) j pos) (tC (.int i)) := fun _ _ _ H _ I h => wpAny_Constant_int ⟨.int i, H, I.tok _, ⟨_, rfl⟩, h⟩
theorem pe_bl {b j pos} : PE X (.Constant (.bool b) j pos) (tC (.bl b)) := fun _ _ _ H _ I h => Constant_bool ⟨.bl b, H, I, rfl, h⟩
theorem pe_non {j pos} : PE X (.Constant .none j pos) (tC .non) := fun _ _ _ H _ I h => Constant_none ⟨.non, H, I, rfl, h⟩
theorem pe_str {x j pos} : PE X (.Constant (.str x) j pos) (tC (.str x)) := fun _ _ _ H _ I h => Calls.Constant_str ⟨.str x, H, I.tok _, ⟨_, rfl⟩, h⟩

/-- a global name of the def -/
def Gl (X : Cx) (x : Str) : Prop := X.env.kindOf x = some .globalImplicit
theorem ld_glob {E : Value → Shared → Prop} {pins : List (Addr × Obj)} {s : Shared} {σ : St} {H : Hp} {x : Str} {u : Value} {pos : Pos} {Q : Value → Shared → Prop} (I : Inv X pins σ H s) (hg : Gl X x) (hm : X.mg x = some u) (h : Q u s)
    (hd : (x == ("__debug__" : Str)) = false := by decide) : wpAny (model X.prog X.w) X.A (eval (.Name x pos) X.env) Q E s :=
  Calls.Name_function_global I.ok.kind hg (Calls.loadGlobal_global (by rw [I.ok.glob]; exact I.mod.glob.keeps I.bk) hm h) hd
theorem ld_blt {E : Value → Shared → Prop} {pins : List (Addr × Obj)} {s : Shared} {σ : St} {H : Hp} {x : Str} {u : Value} {pos : Pos} {Q : Value → Shared → Prop} (I : Inv X pins σ H s) (hg : Gl X x) (hm : X.mg x = none) (hv : bootBuiltins x = some u) (h : Q u s)
    (hn : x ≠ "__name__" := by decide) (hd : (x == ("__debug__" : Str)) = false := by decide) : wpAny (model X.prog X.w) X.A (eval (.Name x pos) X.env) Q E s := by
  obtain ⟨mb, h1, h2⟩ := I.mod.blt
  exact Calls.Name_function_global I.ok.kind hg (Calls.loadGlobal_builtin (by rw [I.ok.glob]; exact I.mod.glob.keeps I.bk) hm (by rw [I.ok.blt]; exact h1.keeps I.bk) ((h2 x hn).trans hv) h) hd
theorem pe_bltn {x : Str} {v : V} {u : Value} {pos : Pos} (hg : Gl X x) (hm : X.mg x = none) (hv : bootBuiltins x = some u) (r : RelV v u) (hn : x ≠ "__name__" := by decide) (hd : (x == ("__debug__" : Str)) = false := by decide) : PE X (.Name x pos) (tC v) :=
  fun _ _ _ H _ I h => ld_blt I hg hm hv ⟨v, H, I, r, h⟩ hn hd

/-! ### arithmetic -/
/-- two ints -/
def t2I (ta tb : TE) (k : Int → Int → Hp → Prop) : St → Hp → Prop := fun σ H => ta σ H fun x H1 => tb σ H1 fun y H2 => ∃ i j, x = .int i ∧ y = .int j ∧ k i j H2
def tAdd (ta tb : TE) : TE := fun σ H Q => t2I ta tb (fun i j H2 => Q (.int (i + j)) H2) σ H
def tSub (ta tb : TE) : TE := fun σ H Q => t2I ta tb (fun i j H2 => Q (.int (i - j)) H2) σ H
/-- the left factor below 2^64 -/
def tMul (ta tb : TE) : TE := fun σ H Q => t2I ta tb (fun i j H2 => (-(2 ^ 64) < i ∧ i < 2 ^ 64) ∧ Q (.int (i * j)) H2) σ H
variable {a b : Expr} {ta tb : TE} {pos : Pos}
/-! ### comparisons -/
def PC (X : Cx) (op : CmpOp) (a b : Expr) (t : TE) : Prop :=
  ∀ (pins : List (Addr × Obj)) (s : Shared) (σ : St) (H : Hp) (Q : VK), Inv X pins σ H s → t σ H Q →
    wpAny (model X.prog X.w) X.A (eval a X.env) (fun v s₁ => wpAny (model X.prog X.w) X.A (eval b X.env) (fun u s₂ => wpAny (model X.prog X.w) X.A (compareOp op v u) (EP X pins σ Q) X.xe s₂) X.xe s₁) X.xe s
def tCmp (p : Int → Int → Bool) (ta tb : TE) : TE := fun σ H Q => t2I ta tb (fun i j H2 => Q (.bl (p i j)) H2) σ H
abbrev tLt : TE → TE → TE := tCmp fun i j => decide (i < j)
abbrev tLe : TE → TE → TE := tCmp fun i j => decide (i ≤ j)
abbrev tGt : TE → TE → TE := tCmp fun i j => decide (j < i)
abbrev tGe : TE → TE → TE := tCmp fun i j => decide (j ≤ i)
abbrev tEqI : TE → TE → TE := tCmp fun i j => decide (i = j)
abbrev tNeI : TE → TE → TE := tCmp fun i j => !decide (i = j)
/-- is None -/
def tIsN (ta : TE) : TE := fun σ H Q => ta σ H fun x H1 => Q (.bl (decide (x = .non))) H1
def tNotN (ta : TE) : TE := fun σ H Q => ta σ H fun x H1 => Q (.bl (!decide (x = .non))) H1
theorem RelV.none_iff {x : V} {v : Value} (r : RelV x v) : (v == Value.none) = decide (x = .non) := by
  cases x with
  | non => cases r; rfl
  | bl _ => cases r; rfl
  | int _ => obtain ⟨t, rfl⟩ := r; rfl
  | str _ => obtain ⟨t, rfl⟩ := r; rfl
  | byt _ => obtain ⟨t, rfl⟩ := r; rfl
  | flt _ => obtain ⟨t, rfl⟩ := r; rfl
  | ref _ => cases r; rfl
  | ty _ => cases r; rfl
/-- a comparison as a value, as a test -/
def tB (t : TE) : TT := fun σ H Q => t σ H fun x H1 => ∃ c, x = .bl c ∧ Q c H1
/-- an expression whose value is a bool, as a test -/
theorem pt_val {e : Expr} {t : TE} (h : PE X e t) (he : ∀ whole, isTrue e X.env whole = (do let v ← whole; standAt e.pos; holding [v] (truthy v)) := by intro _; rfl) : PT X e (tB t) := by
  intro pins s σ H Q I hw
  refine isTrue_plain (thn (h pins s σ H _ I hw) fun v s1 ⟨x, H1, I1, r1, q1⟩ => ?_) (he _)
  obtain ⟨d, rfl, q⟩ := q1
  cases r1
  exact wpAny_truthy_bool ⟨H1, I1, q⟩

/-! ### and, or, not -/
variable {tA tB' : TT} {rest : List Expr}
def tAnd (t u : TT) : TT := fun σ H Q => t σ H fun c H1 => if c = true then u σ H1 Q else Q false H1
def tOr (t u : TT) : TT := fun σ H Q => t σ H fun c H1 => if c = true then Q true H1 else u σ H1 Q
def tNot (t : TT) : TT := fun σ H Q => t σ H fun c H1 => Q (!c) H1
theorem pw_and1 (ha : PT X a tA) : PW X (.BoolOp .And [a] pos) tA := by
  intro wh pins s σ H Q I h
  refine isTrue_and (thn (ha pins s σ H Q I h) fun c s1 e => ?_)
  cases c with
  | true => exact isTrue_and_nil e
  | false => exact e
theorem pw_or1 (ha : PT X a tA) : PW X (.BoolOp .Or [a] pos) tA := by
  intro wh pins s σ H Q I h
  refine isTrue_or (thn (ha pins s σ H Q I h) fun c s1 e => ?_)
  cases c with
  | false => exact isTrue_or_nil e
  | true => exact e
theorem pw_and (ha : PT X a tA) (hb : PW X (.BoolOp .And (b :: rest) pos) tB') : PW X (.BoolOp .And (a :: b :: rest) pos) (tAnd tA tB') := by
  intro wh pins s σ H Q I h
  refine isTrue_and (thn (ha pins s σ H _ I h) fun c s1 ⟨H1, I1, q1⟩ => ?_)
  cases c with
  | true => exact hb wh pins s1 σ H1 Q I1 q1
  | false => exact ⟨H1, I1, q1⟩
theorem pw_or (ha : PT X a tA) (hb : PW X (.BoolOp .Or (b :: rest) pos) tB') : PW X (.BoolOp .Or (a :: b :: rest) pos) (tOr tA tB') := by
  intro wh pins s σ H Q I h
  refine isTrue_or (thn (ha pins s σ H _ I h) fun c s1 ⟨H1, I1, q1⟩ => ?_)
  cases c with
  | true => exact ⟨H1, I1, q1⟩
  | false => exact hb wh pins s1 σ H1 Q I1 q1
theorem pt_not (ha : PT X a tA) : PT X (.UnaryOp .Not a pos) (tNot tA) := by
  intro pins s σ H Q I h
  exact isTrue_not (ha pins s σ H (fun c H1 => Q (!c) H1) I h)
/-- .. as values (bools) -/
def tAndV (ta tb : TE) : TE := fun σ H Q => ta σ H fun x H1 => ∃ c, x = .bl c ∧ if c = true then tb σ H1 Q else Q (.bl false) H1
def tOrV (ta tb : TE) : TE := fun σ H Q => ta σ H fun x H1 => ∃ c, x = .bl c ∧ if c = true then Q (.bl true) H1 else tb σ H1 Q
def tNotV (ta : TE) : TE := fun σ H Q => ta σ H fun x H1 => ∃ c, x = .bl c ∧ Q (.bl (!c)) H1
theorem pe_one {op} {t : TE} (h : PE X a t) : PE X (.BoolOp op [a] pos) t := fun pins s σ H Q I hw => BoolOp_one (h pins s σ H Q I hw)
theorem pe_and (ha : PE X a ta) (hb : PE X (.BoolOp .And (b :: rest) pos) tb) : PE X (.BoolOp .And (a :: b :: rest) pos) (tAndV ta tb) := by
  intro pins s σ H Q I h
  refine BoolOp_and (thn (ha pins s σ H _ I h) fun v s1 ⟨x, H1, I1, r1, q1⟩ => ?_)
  obtain ⟨c, rfl, q1⟩ := q1
  cases r1
  refine wpAny_truthy_bool ?_
  cases c with
  | true => exact hb pins s1 σ H1 Q I1 q1
  | false => exact ⟨.bl false, H1, I1, rfl, q1⟩
theorem pe_or (ha : PE X a ta) (hb : PE X (.BoolOp .Or (b :: rest) pos) tb) : PE X (.BoolOp .Or (a :: b :: rest) pos) (tOrV ta tb) := by
  intro pins s σ H Q I h
  refine BoolOp_or (thn (ha pins s σ H _ I h) fun v s1 ⟨x, H1, I1, r1, q1⟩ => ?_)
  obtain ⟨c, rfl, q1⟩ := q1
  cases r1
  refine wpAny_truthy_bool ?_
  cases c with
  | false => exact hb pins s1 σ H1 Q I1 q1
  | true => exact ⟨.bl true, H1, I1, rfl, q1⟩
theorem pe_not (ha : PE X a ta) : PE X (.UnaryOp .Not a pos) (tNotV ta) := by
  intro pins s σ H Q I h
  refine UnaryOp_ (thn (ha pins s σ H _ I h) fun v s1 ⟨x, H1, I1, r1, q1⟩ => ?_)
  obtain ⟨c, rfl, q1⟩ := q1
  cases r1
  exact not_of (wpAny_truthy_bool ⟨.bl (!c), H1, I1, rfl, q1⟩)
/-- a if t else b -/
def tIf (t : TT) (ta tb : TE) : TE := fun σ H Q => t σ H fun c H1 => if c = true then ta σ H1 Q else tb σ H1 Q
theorem pe_ifExp {c : Expr} (hc : PT X c tA) (ha : PE X a ta) (hb : PE X b tb) : PE X (.IfExp c a b pos) (tIf tA ta tb) := by
  intro pins s σ H Q I h
  refine wpAny_IfExp (thn (hc pins s σ H _ I h) fun d s1 ⟨H1, I1, q1⟩ => ?_)
  cases d with
  | true => exact ha pins s1 σ H1 Q I1 q1
  | false => exact hb pins s1 σ H1 Q I1 q1
end
end L2

namespace L2
open PySem PySem.Spec PyProof.Rows

/-! ### a list, a tuple that is read: tracked, frozen, or an object of the module -/
def SqL (K : PySem.W.Frag) (H : Hp) (a : Addr) (xs : List V) : Prop :=
  Rd H a (.lst xs) ∨
    ∃ (o : Obj) (its : Array Value) (n : Nat), K.lookup a = some o ∧ o.cls = .type "list" ∧ o.dict = none ∧ o.data = .seq its n ∧ its.size ≤ sizeLine ∧ Vals xs its.toList
def SqT (K : PySem.W.Frag) (H : Hp) (a : Addr) (xs : List V) : Prop :=
  Rd H a (.tup xs) ∨
    ∃ (o : Obj) (its : Array Value) (n : Nat), K.lookup a = some o ∧ o.cls = .type "tuple" ∧ o.data = .seq its n ∧ its.size ≤ sizeLine ∧ Vals xs its.toList
def absV : Value → Option V
  | .none => some .non
  | .bool b => some (.bl b)
  | .int i _ => some (.int i)
  | .str x _ => some (.str x)
  | .bytes b _ => some (.byt b)
  | .float b _ => some (.flt b)
  | .ref a => some (.ref a)
  | .type n => some (.ty n)
  | _ => none
theorem RelV.abs {x : V} {u : Value} (r : RelV x u) : absV u = some x := by
  cases x with
  | non => cases r; rfl
  | bl _ => cases r; rfl
  | int _ => obtain ⟨t, rfl⟩ := r; rfl
  | str _ => obtain ⟨t, rfl⟩ := r; rfl
  | byt _ => obtain ⟨t, rfl⟩ := r; rfl
  | flt _ => obtain ⟨t, rfl⟩ := r; rfl
  | ref _ => cases r; rfl
  | ty _ => cases r; rfl
theorem RelV.inj {x y : V} {u : Value} (r : RelV x u) (q : RelV y u) : x = y := Option.some.inj (r.abs.symm.trans q.abs)
theorem Vals.inj : ∀ {xs ys : List V} {us : List Value}, Vals xs us → Vals ys us → xs = ys
  | _, _, _, .nil, .nil => rfl
  | _, _, _, .cons r t, .cons r' t' => by rw [r.inj r', Vals.inj t t']
section
variable {X : Cx} {pins : List (Addr × Obj)} {σ : St} {H : Hp} {s : Shared} {a : Addr} {xs ys : List V}
theorem SqL.of {K : PySem.W.Frag} (h : H a = some (.lst xs)) : SqL K H a xs := .inl (.inl h)
theorem SqT.of {K : PySem.W.Frag} (h : H a = some (.tup xs)) : SqT K H a xs := .inl (.inl h)
theorem Inv.list (I : Inv X pins σ H s) (h : SqL X.K H a xs) : ∃ its : List Value, Vals xs its ∧ PlainL s.heap a its.toArray ∧ xs.length ≤ sizeLine := by
  rcases h with h | ⟨o, its, n, hk, hc, hd, hs, hz, r⟩
  · obtain ⟨z, its, n, r, e⟩ := h.ok I.hok
    exact ⟨its, r, ⟨_, n, e, rfl, rfl, rfl⟩, z⟩
  · refine ⟨its.toList, r, ⟨o, n, I.kIn a o hk, hc, hd, by simpa using hs⟩, ?_⟩
    have e := r.length
    simp only [Array.length_toList] at e
    omega
theorem Inv.tuple (I : Inv X pins σ H s) (h : SqT X.K H a xs) : ∃ its : List Value, Vals xs its ∧ IsTup s.heap a its.toArray ∧ xs.length ≤ sizeLine := by
  rcases h with h | ⟨o, its, n, hk, hc, hs, hz, r⟩
  · obtain ⟨z, its, r, p⟩ := h.ok I.hok
    exact ⟨its, r, p, z⟩
  · refine ⟨its.toList, r, ⟨o, I.kIn a o hk, hc, n, by simpa using hs⟩, ?_⟩
    have e := r.length
    simp only [Array.length_toList] at e
    omega
theorem Inv.list_inj (I : Inv X pins σ H s) (h : SqL X.K H a xs) (h' : SqL X.K H a ys) : xs = ys := by
  obtain ⟨its, r, ⟨o, n, e, _, _, d⟩, _⟩ := I.list h
  obtain ⟨its', r', ⟨o', n', e', _, _, d'⟩, _⟩ := I.list h'
  rw [e] at e'; cases e'
  rw [d] at d'
  injection d' with d1 _
  have : its = its' := by simpa using congrArg Array.toList d1
  subst this
  exact r.inj r'
theorem Inv.tuple_inj (I : Inv X pins σ H s) (h : SqT X.K H a xs) (h' : SqT X.K H a ys) : xs = ys := by
  obtain ⟨its, r, ⟨o, e, _, n, d⟩, _⟩ := I.tuple h
  obtain ⟨its', r', ⟨o', e', _, n', d'⟩, _⟩ := I.tuple h'
  rw [e] at e'; cases e'
  rw [d] at d'
  injection d' with d1 _
  have : its = its' := by simpa using congrArg Array.toList d1
  subst this
  exact r.inj r'
end

/-! ### another wish about exceptions -/
abbrev Cx.wish (X : Cx) (E : Value → Shared → Prop) : Cx := { X with xe := E }
/-- no exception leaves -/
abbrev Cx.nox (X : Cx) : Cx := X.wish fun _ _ => False
theorem Cx.Ok.wish {X : Cx} (ok : X.Ok) (E : Value → Shared → Prop) : (X.wish E).Ok :=
  ⟨ok.mod, ok.kind, ok.glob, ok.blt, ok.above, ok.inj, ok.has, ok.cab, ok.hd, ok.frames, ok.stk, ok.exf, ok.bs, ok.bsz, ok.noex, ok.exfs, ok.funs, ok.frf⟩
theorem Cx.Ok.unwish {X : Cx} {E : Value → Shared → Prop} (ok : (X.wish E).Ok) : X.Ok :=
  ⟨ok.mod, ok.kind, ok.glob, ok.blt, ok.above, ok.inj, ok.has, ok.cab, ok.hd, ok.frames, ok.stk, ok.exf, ok.bs, ok.bsz, ok.noex, ok.exfs, ok.funs, ok.frf⟩
section
variable {X : Cx} {pins : List (Addr × Obj)} {σ : St} {H : Hp} {s : Shared} {E : Value → Shared → Prop}
theorem Inv.wish (I : Inv X pins σ H s) (E : Value → Shared → Prop) : Inv (X.wish E) pins σ H s := ⟨I.ok.wish E, I.os, I.bare, I.base, I.loc, I.cell, I.free, I.freeC, I.pin, I.hok, I.len⟩
theorem Inv.unwish (I : Inv (X.wish E) pins σ H s) : Inv X pins σ H s := ⟨I.ok.unwish, I.os, I.bare, I.base, I.loc, I.cell, I.free, I.freeC, I.pin, I.hok, I.len⟩
theorem SP.unwish {D : Ends} {f : Flow} {s' : Shared} (h : SP (X.wish E) pins D f s') : SP X pins D f s' := by
  cases f with
  | next => obtain ⟨σ', H', I, q⟩ := h; exact ⟨σ', H', I.unwish, q⟩
  | brk => obtain ⟨σ', H', I, q⟩ := h; exact ⟨σ', H', I.unwish, q⟩
  | cont => obtain ⟨σ', H', I, q⟩ := h; exact ⟨σ', H', I.unwish, q⟩
  | ret u => obtain ⟨v, σ', H', I, r, q⟩ := h; exact ⟨v, σ', H', I.unwish, r, q⟩
theorem PE.nox {e : Expr} {t : TE} (h : PE X.nox e t) : PE X e t := fun pins s σ H Q I hw =>
  wpAny_mono (h pins s σ H Q (I.wish _) hw) (fun _ _ ⟨v, H', I', r, q⟩ => ⟨v, H', I'.unwish, r, q⟩) fun _ _ z => False.elim z
theorem PT.nox {e : Expr} {t : TT} (h : PT X.nox e t) : PT X e t := fun pins s σ H Q I hw =>
  wpAny_mono (h pins s σ H Q (I.wish _) hw) (fun _ _ ⟨H', I', q⟩ => ⟨H', I'.unwish, q⟩) fun _ _ z => False.elim z
theorem PSs.nox {st : List Stmt} {t : TS} (h : PSs X.nox st t) : PSs X st t := fun pins s σ H D I hw =>
  wpAny_mono (h pins s σ H D (I.wish _) hw) (fun _ _ q => q.unwish) fun _ _ z => False.elim z
end

/-! ### blocks and small statements -/
section
variable {X : Cx} {st : Stmt} {rest : List Stmt} {t u : TS} {e : Expr} {te : TE} {pos : Pos}
def tNext : TS := fun D σ H => D.nx σ H
def tSeq (t u : TS) : TS := fun D σ H => t { D with nx := u D } σ H
theorem pss_nil : PSs X [] tNext := fun _ _ σ H _ I h => wpAny_execs_nil ⟨σ, H, I, h⟩
theorem pss_cons (h1 : PS X st t) (h2 : PSs X rest u) : PSs X (st :: rest) (tSeq t u) := by
  intro pins s σ H D I h
  refine wpAny_execs_cons (thn (h1 pins s σ H { D with nx := u D } I h) fun f s1 q => ?_)
  cases f with
  | next =>
    obtain ⟨σ', H', I', q⟩ := q
    exact h2 pins s1 σ' H' D I' q
  | ret v => exact q
  | brk => exact q
  | cont => exact q
theorem pss_one (h1 : PS X st t) : PSs X [st] t := by
  intro pins s σ H D I h
  refine wpAny_execs_cons (thn (h1 pins s σ H D I h) fun f s1 q => ?_)
  cases f with
  | next => exact wpAny_execs_nil q
  | ret v => exact q
  | brk => exact q
  | cont => exact q
def tBreak : TS := fun D σ H => D.bk σ H
def tCont : TS := fun D σ H => D.ct σ H
/-- in a def's body nothing is shown -/
theorem Inv.quiet {pins : List (Addr × Obj)} {σ : St} {H : Hp} {s : Shared} (I : Inv X pins σ H s) : interactive X.env = false := by simp [interactive, I.ok.kind]
/-- an expression whose value is dropped -/
def tDrop (te : TE) : TS := fun D σ H => te σ H fun _ H1 => D.nx σ H1
theorem ps_expr (he : PE X e te) (hs : swapsWith e none pos.line X.env = pure false := by rfl) : PS X (.Expr e pos) (tDrop te) := by
  intro pins s σ H D I h
  exact wpAny_Expr_any (thn (he pins s σ H _ I h) fun v s1 ⟨x, H1, I1, r1, q1⟩ => ⟨σ, H1, I1, q1⟩) I.quiet hs
def tRet (te : TE) : TS := fun D σ H => te σ H D.rt
theorem ps_ret (he : PE X e te) : PS X (.Return (some e) pos) (tRet te) := by
  intro pins s σ H D I h
  exact wpAny_Return_some (thn (he pins s σ H _ I h) fun v s1 ⟨x, H1, I1, r1, q1⟩ => ⟨x, σ, H1, I1, r1, q1⟩)
def tRetN : TS := fun D _ H => D.rt .non H
def tIfS (c : TT) (t u : TS) : TS := fun D σ H => c σ H fun b H1 => if b = true then t D σ H1 else u D σ H1
theorem ps_if {c : Expr} {a b : List Stmt} {tc : TT} (hc : PT X c tc) (ha : PSs X a t) (hb : PSs X b u) : PS X (.If c a b pos) (tIfS tc t u) := by
  intro pins s σ H D I h
  refine wpAny_If (thn (hc pins s σ H _ I h) fun d s1 ⟨H1, I1, q1⟩ => ?_)
  cases d with
  | true => exact ha pins s1 σ H1 D I1 q1
  | false => exact hb pins s1 σ H1 D I1 q1
/-- code that the proof never comes to -/
def tNever : TS := fun _ _ _ => False
end

/-! ### targets -/
abbrev TG := V → St → Hp → (St → Hp → Prop) → Prop
abbrev TGs := List V → St → Hp → (St → Hp → Prop) → Prop
def PG (X : Cx) (target : Expr) (t : TG) : Prop :=
  ∀ (pins : List (Addr × Obj)) (s : Shared) (σ : St) (H : Hp) (v : V) (u : Value) (Q : St → Hp → Prop), Inv X pins σ H s → RelV v u → t v σ H Q →
    wpAny (model X.prog X.w) X.A (assign target X.env u) (fun _ s' => ∃ σ' H', Inv X pins σ' H' s' ∧ Q σ' H') X.xe s
/-- several targets, one after another -/
def PGs (X : Cx) (ts : List Expr) (t : TGs) : Prop :=
  ∀ (pins : List (Addr × Obj)) (s : Shared) (σ : St) (H : Hp) (vs : List V) (us : List Value) (Q : St → Hp → Prop), Inv X pins σ H s → Vals vs us → t vs σ H Q →
    wpAny (model X.prog X.w) X.A (assignInOrder ((assignEach ts X.env).map (·.2)) us) (fun _ s' => ∃ σ' H', Inv X pins σ' H' s' ∧ Q σ' H') X.xe s
/-- o[i] = v, by values -/
abbrev TSet := V → V → V → Hp → (Hp → Prop) → Prop
def PSet (X : Cx) (t : TSet) : Prop :=
  ∀ (pins : List (Addr × Obj)) (s : Shared) (σ : St) (H : Hp) (o i v : V) (ov iv u : Value) (Q : Hp → Prop), Inv X pins σ H s → RelV o ov → RelV i iv → RelV v u → t o i v H Q →
    wpAny (model X.prog X.w) X.A (setItem ov iv u) (fun _ s' => ∃ H', Inv X pins σ H' s' ∧ Q H') X.xe s
/-- a op= b, by values -/
abbrev TIp := V → V → Hp → VK → Prop
def PIp (X : Cx) (op : Operator) (t : TIp) : Prop :=
  ∀ (pins : List (Addr × Obj)) (s : Shared) (σ : St) (H : Hp) (x y : V) (v u : Value) (Q : VK), Inv X pins σ H s → RelV x v → RelV y u → t x y H Q →
    wpAny (model X.prog X.w) X.A (inplaceOp op v u) (EP X pins σ Q) X.xe s
section
variable {X : Cx} {pos : Pos}
def gName (i : Nat) : TG := fun v σ H Q => Q (σ.set i (some v)) H
theorem pg_name {i : Nat} {x : Str} (hN : X.N.Nodup) (hi : X.N[i]? = some x) (hx : Loc X.env.scope x) (hf : X.fn x = true ∨ X.env.scope.names.lookup x = some .local := by first | exact .inl rfl | exact .inr rfl | assumption) : PG X (.Name x pos) (gName i) := by
  intro pins s σ H v u Q I r h
  exact wpAny_assign_Name (store_ok I hN hi hx r (fun s' I' => ⟨_, H, I', h⟩) hf)
def gNil : TGs := fun vs σ H Q => vs = [] ∧ Q σ H
def gCons (t : TG) (u : TGs) : TGs := fun vs σ H Q => ∃ v r, vs = v :: r ∧ t v σ H fun σ' H' => u r σ' H' Q
theorem pgs_nil : PGs X [] gNil := by
  intro pins s σ H vs us Q I r h
  obtain ⟨e, h⟩ := h
  subst e
  cases r
  exact assignInOrder_nil ⟨σ, H, I, h⟩
theorem pgs_cons {e : Expr} {es : List Expr} {t : TG} {u : TGs} (h1 : PG X e t) (h2 : PGs X es u)
    (hs : (assignEach (e :: es) X.env).map (·.2) = assign e X.env :: (assignEach es X.env).map (·.2) := by rfl) : PGs X (e :: es) (gCons t u) := by
  intro pins s σ H vs us Q I r h
  obtain ⟨v, vr, e1, h⟩ := h
  subst e1
  cases r with
  | cons r rr =>
    rw [hs]
    refine assignInOrder_cons (thn (h1 pins s σ H _ _ _ I r h) fun _ s1 ⟨σ1, H1, I1, q1⟩ => ?_)
    exact h2 pins s1 σ1 H1 _ _ Q I1 rr q1
/-- (a, b, ..) = a tuple of that length -/
def gTup (K : PySem.W.Frag) (n : Nat) (t : TGs) : TG := fun v σ H Q => ∃ a xs, v = .ref a ∧ SqT K H a xs ∧ xs.length = n ∧ t xs σ H Q
theorem pg_tup {es : List Expr} {k : Nat} {t : TGs} {n : Nat} (hc : X.calm = true) (h : PGs X es t)
    (hn : (assignEach es X.env).length = n := by rfl) (hst : (assignEach es X.env).findIdx? (·.1) = none := by rfl) : PG X (.Tuple es k pos) (gTup X.K n t) := by
  intro pins s σ H v u Q I r hw
  obtain ⟨a, xs, e1, hq, hl, hw⟩ := hw
  subst e1
  cases r
  obtain ⟨its, rv, ht, hz⟩ := I.tuple hq
  refine assign_Tuple_tuple (I.ok.hd hc) ht (by simp [hn, ← hl, rv.length]) hst fun h' hx => ?_
  have I1 : Inv X pins σ H { s with heap := h' } := I.kept (t' := s.toks) fun b o e => hx b o (Nat.ne_of_lt (Heap.lt_size e)) e
  exact h pins _ σ H xs _ Q I1 (by simpa using rv) hw
/-- o[i] = .. -/
def gSub (to ti : TE) (t : TSet) : TG := fun v σ H Q => to σ H fun o H1 => ti σ H1 fun i H2 => t o i v H2 fun H3 => Q σ H3
theorem pg_sub {o i : Expr} {to ti : TE} {t : TSet} (ho : PE X o to) (hi : PE X i ti) (hs : PSet X t)
    (ha : ∀ v, assign (.Subscript o i pos) X.env v = (do
      let ov ← holding [v] (eval o X.env)
      let iv ← holding [v, ov] (eval i X.env)
      standAt pos
      holding [v, ov, iv] (setItem ov iv v)
      release [v, ov, iv] []) := by intro _; rfl) : PG X (.Subscript o i pos) (gSub to ti t) := by
  intro pins s σ H v u Q I r h
  rw [ha]
  refine wpAny_bind (wpAny_holding (thn (ho pins s σ H _ I h) fun ov s1 ⟨x, H1, I1, r1, q1⟩ => ?_))
  refine wpAny_bind (wpAny_holding (thn (hi pins s1 σ H1 _ I1 q1) fun iv s2 ⟨y, H2, I2, r2, q2⟩ => ?_))
  refine wpAny_bind (wpAny_standAt (wpAny_bind (wpAny_holding (thn (hs pins s2 σ H2 x y v ov iv u _ I2 r1 r2 r q2) fun _ s3 ⟨H3, I3, q3⟩ => ?_))))
  exact wpAny_release ⟨σ, H3, I3, q3⟩
/-- target = value -/
def tAsg (te : TE) (g : TG) : TS := fun D σ H => te σ H fun x H1 => g x σ H1 D.nx
theorem ps_asg {tg e : Expr} {te : TE} {g : TG} (he : PE X e te) (hg : PG X tg g) (hs : swapsWithSole [tg] e pos.line X.env = pure false := by rfl) (hw : swappedStores [tg] e X.env = pure none := by rfl)
    (h1 : (assignEach [tg] X.env).map (·.2) = [assign tg X.env] := by rfl) : PS X (.Assign [tg] e pos) (tAsg te g) := by
  intro pins s σ H D I h
  refine wpAny_Assign_stores (thn (he pins s σ H _ I h) fun v s1 ⟨x, H1, I1, r1, q1⟩ => ?_) hs hw
  rw [h1]
  exact thn (hg pins s1 σ H1 x v _ I1 r1 q1) fun _ s2 q => q
/-- name = value -/
theorem ps_set {i : Nat} {x : Str} {e : Expr} {te : TE} {pos' : Pos} (hN : X.N.Nodup) (hi : X.N[i]? = some x) (hx : Loc X.env.scope x) (he : PE X e te) (hs : swapsWith e (some (.Name x pos')) pos.line X.env = pure false := by rfl) (hf : X.fn x = true ∨ X.env.scope.names.lookup x = some .local := by first | exact .inl rfl | exact .inr rfl | assumption) :
    PS X (.Assign [.Name x pos'] e pos) (tAsg te (gName i)) := by
  intro pins s σ H D I h
  refine wpAny_Assign_Name (thn (he pins s σ H _ I h) fun v s1 ⟨y, H1, I1, r1, q1⟩ => ?_) hs
  exact store_ok I1 hN hi hx r1 (fun s2 I2 => ⟨_, H1, I2, q1⟩) hf
/-- a, b = x, y with plain local names: stored from the right; the pair itself is not tracked (the opening rows as in PyProof/Rows/TupAssign.lean:23) -/
def tPar (i j : Nat) (ta : TA) : TS := fun D σ H => ta σ H fun vs H1 => ∃ v w, vs = [v, w] ∧ D.nx ((σ.set i (some v)).set j (some w)) H1
/-- name op= e -/
def tAug (i : Nat) (te : TE) (ti : TIp) : TS := fun D σ H => ∃ x, σ[i]? = some (some x) ∧ te σ H fun y H1 => ti x y H1 fun z H2 => D.nx (σ.set i (some z)) H2
theorem ps_aug {i : Nat} {x : Str} {e : Expr} {te : TE} {op : Operator} {ti : TIp} {pos' : Pos} (hN : X.N.Nodup) (hi : X.N[i]? = some x) (hx : Loc X.env.scope x) (he : PE X e te) (ho : PIp X op ti) (hf : X.fn x = true ∨ X.env.scope.names.lookup x = some .local := by first | exact .inl rfl | exact .inr rfl | assumption) :
    PS X (.AugAssign (.Name x pos') op e pos) (tAug i te ti) := by
  intro pins s σ H D I h
  obtain ⟨v, e1, h⟩ := h
  obtain ⟨m, hn, hl⟩ := I.loc
  have vis : Vis X.env.scope x := by rcases hx with k | k; exact .inl k; exact .inr (.inl k)
  obtain ⟨u, r, l⟩ := hl i x v hi e1 vis
  refine wpAny_AugAssign_Name ?_
  have go : wpAny (model X.prog X.w) X.A (eval e X.env) (fun w s₂ => wpAny (model X.prog X.w) X.A (inplaceOp op u w) (fun r s₃ => wpAny (model X.prog X.w) X.A (storeName X.env x r) (fun _ => SP X pins D .next) X.xe s₃) X.xe s₂) X.xe s := by
    refine thn (he pins s σ H _ I h) fun w s1 ⟨y, H1, I1, r1, q1⟩ => ?_
    refine thn (ho pins s1 σ H1 v y u w _ I1 r r1 q1) fun z s2 ⟨zv, H2, I2, r2, q2⟩ => ?_
    exact store_ok I2 hN hi hx r2 (fun s3 I3 => ⟨_, H2, I3, q2⟩) hf
  rcases l with ⟨hk, hm⟩ | ⟨hk, c, hc, hcell⟩
  · exact wpAny_loadName_local I.ok.kind hk hn hm go
  · rcases hk with hk | hk
    · exact wpAny_loadName_cell I.ok.kind hk hc hcell go
    · rcases hx with k | k
      · have : X.env.scope.names.lookup x = some .free := hk
        rw [k] at this; cases this
      · have : X.env.scope.names.lookup x = some .free := hk
        rw [k] at this; cases this
/-- o[i] op= e -/
def tAugS (to ti te : TE) (tget : V → V → Hp → VK → Prop) (tip : TIp) (tset : TSet) : TS := fun D σ H => to σ H fun o H1 => ti σ H1 fun i H2 => tget o i H2 fun x H3 => te σ H3 fun y H4 => tip x y H4 fun z H5 => tset o i z H5 fun H6 => D.nx σ H6
/-- o[i], by values -/
def PGet (X : Cx) (t : V → V → Hp → VK → Prop) : Prop :=
  ∀ (pins : List (Addr × Obj)) (s : Shared) (σ : St) (H : Hp) (o i : V) (ov iv : Value) (Q : VK), Inv X pins σ H s → RelV o ov → RelV i iv → t o i H Q →
    wpAny (model X.prog X.w) X.A (getItem ov iv) (EP X pins σ Q) X.xe s
/-- ints -/
def ipI (f : Int → Int → Int) : TIp := fun x y H Q => ∃ i j, x = .int i ∧ y = .int j ∧ Q (.int (f i j)) H
theorem ip_add : PIp X .Add (ipI fun i j => i + j) := by
  intro pins s σ H x y v u Q I r1 r2 h
  obtain ⟨i, j, e1, e2, q⟩ := h
  subst e1; subst e2
  obtain ⟨t, rfl⟩ := r1
  obtain ⟨t', rfl⟩ := r2
  exact iadd_int ⟨.int _, H, I.tok _, ⟨_, rfl⟩, q⟩
end

/-! ### while -/
section
variable {X : Cx} {pos : Pos}
/-- the invariant W with its measure -/
def tWhile (c : TT) (tb : TS) : TS := fun D σ H => ∃ W : Nat → St → Hp → Prop, (∃ m, W m σ H) ∧ ∀ m σ H, W m σ H →
  c σ H fun b H1 => if b = true then ∃ N : St → Hp → Prop, (∀ σ' H', N σ' H' → ∃ m', m' < m ∧ W m' σ' H') ∧ tb { D with nx := N, ct := N, bk := D.nx } σ H1 else D.nx σ H1
theorem ps_while {c : Expr} {body : List Stmt} {tc : TT} {tb : TS} (hp : PassesOwn (model X.prog X.w) X.A X.env X.xe) (hc : PT X c tc) (hb : PSs X body tb) : PS X (.While c body [] pos) (tWhile tc tb) := by
  intro pins s σ H D I h
  obtain ⟨W, ⟨m0, w0⟩, turn⟩ := h
  refine wpAny_While (codeAny_whileLoop (fun n s' => ∃ σ' H', Inv X pins σ' H' s' ∧ W n σ' H') ?_ m0 ⟨σ, H, I, w0⟩)
  rintro n s1 ⟨σ1, H1, I1, w1⟩
  refine wpAny_passesOwn hp (thn (hc pins s1 σ1 H1 _ I1 (turn n σ1 H1 w1)) fun b s2 ⟨H2, I2, q2⟩ => ?_)
  cases b with
  | true =>
    obtain ⟨N, hN, q2⟩ := q2
    rw [if_pos rfl]
    refine wpAny_passesOwn hp (thn (hb pins s2 σ1 H2 _ I2 q2) fun f s3 q3 => ?_)
    cases f with
    | next =>
      obtain ⟨σ3, H3, I3, n3⟩ := q3
      obtain ⟨m', hm, w3⟩ := hN σ3 H3 n3
      exact ⟨m', hm, σ3, H3, I3, w3⟩
    | cont =>
      obtain ⟨σ3, H3, I3, n3⟩ := q3
      obtain ⟨m', hm, w3⟩ := hN σ3 H3 n3
      exact ⟨m', hm, σ3, H3, I3, w3⟩
    | brk => exact q3
    | ret v => exact q3
  | false =>
    rw [if_neg Bool.false_ne_true]
    exact wpAny_execs_nil ⟨σ1, H2, I2, q2⟩
end

/-! ### what a loop or a comprehension walks -/
/-- at turn i: it yields x (the heap may grow), or it stops -/
structure It where
  go : Nat → Hp → Prop
  yld : Nat → Hp → V → Hp → Prop
  stop : Nat → Hp → Prop
/-- the iterator's own objects may turn: they are not the frame's, not pinned, younger than the entry (or a comprehension's own) -/
def FpOk (X : Cx) (pins : List (Addr × Obj)) (H : Hp) (b : Addr) : Prop :=
  H b = none ∧ b ≠ X.env.locals ∧ b ∉ X.fs ∧ (b ∈ X.ex ∨ X.s₀.heap.objs.size ≤ b) ∧ (∀ x c, X.env.cells.lookup x = some c → c ≠ b) ∧ ∀ p ∈ X.pn ++ pins, p.1 ≠ b
theorem Inv.fpOk {X : Cx} {pins : List (Addr × Obj)} {σ : St} {H H' : Hp} {s : Shared} {b : Addr} (I : Inv X pins σ H s) (hb : s.heap.objs.size ≤ b) (hn : H' b = none) : FpOk X pins H' b := by
  refine ⟨hn, Nat.ne_of_gt (Nat.lt_of_lt_of_le I.lt hb), I.nofs hb, .inr (Nat.le_trans I.sz hb), fun x c e z => ?_, fun p hp z => ?_⟩
  · obtain ⟨v, q⟩ := I.cell x c e
    exact absurd (Nat.lt_of_lt_of_le q.lt (by rw [z]; exact hb)) (Nat.lt_irrefl _)
  · exact absurd (Nat.lt_of_lt_of_le (Heap.lt_size (I.pin p hp).1) (by rw [z]; exact hb)) (Nat.lt_irrefl _)
structure Turn (P : Program) (w : World) (K : PySem.W.Frag) (tg : Expr) (J : It) (fp : List Addr) (it : Addr) (tn : Nat → Heap → Prop) : Prop where
  mem : it ∈ fp
  obj : ∀ i h, tn i h → ∀ b ∈ fp, ∃ o, h.get? b = some o ∧ ∀ v, o.data ≠ .cell v
  keep : ∀ i h h', tn i h → (∀ b ∈ fp, ∀ o, h.get? b = some o → h'.get? b = some o) → tn i h'
  item : ∀ (X : Cx), X.prog = P → X.w = w → X.K = K → X.calm = true → ∀ (i : Nat) (pins : List (Addr × Obj)) (s : Shared) (σ : St) (H : Hp) (E : Value → Shared → Prop), Inv X pins σ H s → (∀ b ∈ fp, FpOk X pins H b) → tn i s.heap → J.go i H →
    wpAny (model P w) X.A (pyNext (.ref it)) (fun r s1 => ∃ u, r = some u ∧
      wpAny (model P w) X.A (letOwnedTupleGo tg (.ref it) u) (fun _ s2 => ∃ x H', Inv X pins σ H' s2 ∧ RelV x u ∧ J.yld i H x H' ∧ tn (i + 1) s2.heap ∧ ∀ b ∈ fp, H' b = none) E s1) E s
  done : ∀ (X : Cx), X.prog = P → X.w = w → X.K = K → X.calm = true → ∀ (i : Nat) (pins : List (Addr × Obj)) (s : Shared) (σ : St) (H : Hp) (E : Value → Shared → Prop), Inv X pins σ H s → (∀ b ∈ fp, FpOk X pins H b) → tn i s.heap → J.stop i H →
    wpAny (model P w) X.A (pyNext (.ref it)) (fun r s1 => r = none ∧ Inv X pins σ H s1) E s
  self : ∀ (A : Around) (i : Nat) (s : Shared) (Q : Value → Shared → Prop) (E : Value → Shared → Prop), tn i s.heap → Q (.ref it) s → wpAny (model P w) A (pyIter (.ref it)) Q E s
abbrev TI := St → Hp → (It → Hp → Prop) → Prop
/-- an iterator has come -/
def PIE (X : Cx) (pins : List (Addr × Obj)) (σ : St) (tg : Expr) (R : It → Hp → Prop) (itv : Value) (s2 : Shared) : Prop :=
  ∃ (it : Addr) (fp : List Addr) (tn : Nat → Heap → Prop) (J : It) (H' : Hp), itv = .ref it ∧ Inv X pins σ H' s2 ∧ Turn X.prog X.w X.K tg J fp it tn ∧ tn 0 s2.heap ∧ (∀ b ∈ fp, FpOk X pins H' b) ∧ R J H'
def PI (X : Cx) (tg iter : Expr) (wi : TI) : Prop :=
  ∀ (pins : List (Addr × Obj)) (s : Shared) (σ : St) (H : Hp) (R : It → Hp → Prop), Inv X pins σ H s → wi σ H R →
    wpAny (model X.prog X.w) X.A (eval iter X.env) (fun v s1 => wpAny (model X.prog X.w) X.A (pyIter v) (PIE X pins σ tg R) X.xe s1) X.xe s

/-- the step ahead of the store is nothing for an iterator that keeps no tuple -/
theorem go_of {M : Model} {A : Around} {E : Value → Shared → Prop} {s : Shared} {tg : Expr} {it : Addr} {u : Value} {o : Obj} {n : String} {vs : Array Value} {Q : Unit → Shared → Prop} (ho : s.heap.get? it = some o) (hc : o.cls = .type n) (hd : o.data = .fields vs)
    (hn : ["enumerate", "zip", "dict_itemiterator", "dict_reverseitemiterator", "odict_iterator", "itertools.zip_longest", "itertools.pairwise"].contains n = false) (hQ : Q () s) : wpAny M A (letOwnedTupleGo tg (.ref it) u) Q E s := by
  unfold letOwnedTupleGo
  cases tg <;> first
    | exact wpAny_pure hQ
    | (cases u <;> first
        | exact wpAny_pure hQ
        | (refine wpAny_bind (wpAny_load ho ?_)
           rw [hc, hd]
           show wpAny M A (if (["enumerate", "zip", "dict_itemiterator", "dict_reverseitemiterator", "odict_iterator", "itertools.zip_longest", "itertools.pairwise"].contains n && vs[0]? == some (rawInt _)) = true then _ else _) Q E s
           rw [if_neg (by intro h; rw [hn, Bool.false_and] at h; cases h)]
           exact wpAny_pure hQ))

/-- the list at a, as it stands at each turn (a loop may append to it) -/
def Itl (K : PySem.W.Frag) (a : Addr) : It :=
  ⟨fun i H => ∃ xs x, SqL K H a xs ∧ xs[i]? = some x, fun i H x H' => H' = H ∧ ∀ xs, SqL K H a xs → xs[i]? = some x, fun i H => ∃ xs, SqL K H a xs ∧ xs.length ≤ i⟩
def Itt (K : PySem.W.Frag) (a : Addr) : It :=
  ⟨fun i H => ∃ xs x, SqT K H a xs ∧ xs[i]? = some x, fun i H x H' => H' = H ∧ ∀ xs, SqT K H a xs → xs[i]? = some x, fun i H => ∃ xs, SqT K H a xs ∧ xs.length ≤ i⟩
/-- lo, lo + 1, .. (n of them) -/
def Itr (lo : Int) (n : Nat) : It := ⟨fun i _ => i < n, fun i H x H' => H' = H ∧ x = .int (lo + i), fun i _ => n ≤ i⟩
theorem turn_list {P : Program} {w : World} {K : PySem.W.Frag} {tg : Expr} (a it : Addr) : Turn P w K tg (Itl K a) [it] it (fun i h => h.IsListIter it a i) where
  mem := by simp
  obj := fun i h st b hb => by
    have e : b = it := by simpa using hb
    subst e
    obtain ⟨o, e, c, d⟩ := st
    exact ⟨o, e, fun v z => by rw [d] at z; cases z⟩
  keep := fun i h h' st k => st.at fun o e => k it (by simp) o e
  item := by
    intro X hP hw hK hc i pins s σ H E I hf st hg
    subst hP hw hK
    obtain ⟨xs, x, hq, hx⟩ := hg
    obtain ⟨its, rv, p, hz⟩ := I.list hq
    obtain ⟨u, hu, ru⟩ := rv.get hx
    obtain ⟨f0, f1, f2, f3, f4, f5⟩ := hf it (by simp)
    refine wpAny_pyNext_list_item st p.isList (x := u) (by simpa using hu) fun h' st' sb => ?_
    have I1 : Inv X pins σ H { s with heap := h' } := I.turned (t' := s.toks) (fun b o hb e => (sb.2 b hb).trans e) f0 f1 f3 f4 f5
    obtain ⟨o, e, c, d⟩ := id st'
    exact ⟨u, rfl, go_of (s := { s with heap := h' }) e c d (by decide) ⟨x, H, I1, ru, ⟨rfl, fun ys hy => by rw [I.list_inj hy hq]; exact hx⟩, st', fun b hb => (hf b hb).1⟩⟩
  done := by
    intro X hP hw hK hc i pins s σ H E I hf st hg
    subst hP hw hK
    obtain ⟨xs, hq, hx⟩ := hg
    obtain ⟨its, rv, p, hz⟩ := I.list hq
    obtain ⟨f0, f1, f2, f3, f4, f5⟩ := hf it (by simp)
    have hl := rv.length
    exact wpAny_pyNext_list_end (I.ok.hd hc) st p.isList (by simp; omega) fun h' eb => ⟨rfl, I.turned (t' := s.toks) (fun b o hb e => eb b o hb e) f0 f1 f3 f4 f5⟩
  self := fun _ _ _ _ _ st h => wpAny_pyIter_listiter st h
theorem turn_tuple {P : Program} {w : World} {K : PySem.W.Frag} {tg : Expr} (a it : Addr) : Turn P w K tg (Itt K a) [it] it (fun i h => h.IsTupleIter it a i) where
  mem := by simp
  obj := fun i h st b hb => by
    have e : b = it := by simpa using hb
    subst e
    obtain ⟨o, e, c, d⟩ := st
    exact ⟨o, e, fun v z => by rw [d] at z; cases z⟩
  keep := fun i h h' st k => st.at fun o e => k it (by simp) o e
  item := by
    intro X hP hw hK hc i pins s σ H E I hf st hg
    subst hP hw hK
    obtain ⟨xs, x, hq, hx⟩ := hg
    obtain ⟨its, rv, p, hz⟩ := I.tuple hq
    obtain ⟨u, hu, ru⟩ := rv.get hx
    obtain ⟨f0, f1, f2, f3, f4, f5⟩ := hf it (by simp)
    refine wpAny_pyNext_tuple_item st (show s.heap.IsTuple a its.toArray from p) (x := u) (by simpa using hu) fun h' st' sb => ?_
    have I1 : Inv X pins σ H { s with heap := h' } := I.turned (t' := s.toks) (fun b o hb e => (sb.2 b hb).trans e) f0 f1 f3 f4 f5
    obtain ⟨o, e, c, d⟩ := id st'
    exact ⟨u, rfl, go_of (s := { s with heap := h' }) e c d (by decide) ⟨x, H, I1, ru, ⟨rfl, fun ys hy => by rw [I.tuple_inj hy hq]; exact hx⟩, st', fun b hb => (hf b hb).1⟩⟩
  done := by
    intro X hP hw hK hc i pins s σ H E I hf st hg
    subst hP hw hK
    obtain ⟨xs, hq, hx⟩ := hg
    obtain ⟨its, rv, p, hz⟩ := I.tuple hq
    obtain ⟨f0, f1, f2, f3, f4, f5⟩ := hf it (by simp)
    have hl := rv.length
    exact wpAny_pyNext_tuple_end (I.ok.hd hc) st (show s.heap.IsTuple a its.toArray from p) (by simp; omega) fun h' eb => ⟨rfl, I.turned (t' := s.toks) (fun b o hb e => eb b o hb e) f0 f1 f3 f4 f5⟩
  self := fun _ _ _ _ _ st h => wpAny_pyIter_tupleiter st h
theorem turn_range {P : Program} {w : World} {K : PySem.W.Frag} {tg : Expr} (it : Addr) (lo : Int) (n : Nat) : Turn P w K tg (Itr lo n) [it] it (fun i h => IsRangeIter h it (lo + (i : Nat) * 1) ((n : Int) - (i : Nat)) 1) where
  mem := by simp
  obj := fun i h st b hb => by
    have e : b = it := by simpa using hb
    subst e
    exact ⟨_, st, fun v z => by
      have z' : Data.fields _ = Data.cell v := z
      cases z'⟩
  keep := fun i h h' st k => k it (by simp) _ st
  item := by
    intro X hP hw hK hc i pins s σ H E I hf st hg
    subst hP hw hK
    obtain ⟨f0, f1, f2, f3, f4, f5⟩ := hf it (by simp)
    have W := Walks.range (prog := X.prog) (w := X.w) (I.ok.hd hc) it lo 1 n
    refine W.item i s _ _ hg st fun v h' tk hv st' kk => ?_
    obtain ⟨t, rfl⟩ := hv
    have I1 : Inv X pins σ H { s with heap := h', toks := tk } := I.turned (fun b o hb e => kk b o (by simpa using hb) e) f0 f1 f3 f4 f5
    refine ⟨_, rfl, go_of (s := { s with heap := h', toks := tk }) (n := "range_iterator") st' rfl rfl (by decide) ⟨.int (lo + i), H, I1, ⟨t, ?_⟩, ⟨rfl, rfl⟩, st', fun b hb => (hf b hb).1⟩⟩
    rw [Int.mul_one]
  done := by
    intro X hP hw hK hc i pins s σ H E I hf st hg
    subst hP hw hK
    obtain ⟨f0, f1, f2, f3, f4, f5⟩ := hf it (by simp)
    exact wpAny_pyNext_range_end (I.ok.hd hc) st (by have : n ≤ i := hg; omega) fun h' eb => ⟨rfl, I.turned (t' := s.toks) (fun b o hb e => eb b o hb e) f0 f1 f3 f4 f5⟩
  self := fun _ _ _ _ _ st h => wpAny_pyIter_rangeiter st h
end L2

namespace L2
open PySem PySem.Spec PyProof.Rows
section
variable {X : Cx} {tg : Expr}
def iList (K : PySem.W.Frag) (tl : TE) : TI := fun σ H R => tl σ H fun x H1 => ∃ a, x = .ref a ∧ (∃ xs, SqL K H1 a xs) ∧ R (Itl K a) H1
def iTup (K : PySem.W.Frag) (tl : TE) : TI := fun σ H R => tl σ H fun x H1 => ∃ a, x = .ref a ∧ (∃ xs, SqT K H1 a xs) ∧ R (Itt K a) H1
theorem pi_list {l : Expr} {tl : TE} (hl : PE X l tl) : PI X tg l (iList X.K tl) := by
  intro pins s σ H R I h
  refine thn (hl pins s σ H _ I h) fun v s1 ⟨x, H1, I1, r1, q1⟩ => ?_
  obtain ⟨a, e, ⟨xs, hq⟩, q⟩ := q1
  subst e
  cases r1
  obtain ⟨its, rv, p, hz⟩ := I1.list hq
  refine wpAny_pyIter_list p.isList ?_
  refine ⟨s1.heap.objs.size, [s1.heap.objs.size], _, _, H1, rfl, I1.kept (t' := s1.toks) fun b o e => Heap.get?_push_of_some _ e, turn_list a _, ⟨_, Heap.get?_push_size _ rfl, rfl, rfl⟩, fun b hb => ?_, q⟩
  have e : b = s1.heap.objs.size := by simpa using hb
  subst e
  exact I1.fpOk (Nat.le_refl _) (I1.hok.fresh (Nat.le_refl _))
/-- a range object just made, walked -/
theorem range_it {pins : List (Addr × Obj)} {σ : St} {H : Hp} {s : Shared} {R : It → Hp → Prop} {E : Value → Shared → Prop} {lo hi : Int} {t u v : Tok} {tk : Nat} (I : Inv X pins σ H s) (h1 : -(2 ^ 62) ≤ lo) (h2 : lo < 2 ^ 62) (h3 : -(2 ^ 62) ≤ hi) (h4 : hi < 2 ^ 62)
    (q : R (Itr lo (hi - lo).toNat) H) : wpAny (model X.prog X.w) X.A (pyIter (.ref s.heap.objs.size)) (PIE X pins σ tg R) E { s with heap := s.heap.push { cls := .type "range", data := .fields #[.int lo t, .int hi u, .int 1 v] }, toks := tk } := by
  refine wpAny_pyIter_range (IsRange.new ..) (small_one h1 h2 h3 h4) ?_
  have I1 : Inv X pins σ H { s with heap := s.heap.push { cls := .type "range", data := .fields #[.int lo t, .int hi u, .int 1 v] }, toks := tk } := I.kept fun b o e => Heap.get?_push_of_some _ e
  refine ⟨(s.heap.push { cls := .type "range", data := .fields #[.int lo t, .int hi u, .int 1 v] }).objs.size, [(s.heap.push { cls := .type "range", data := .fields #[.int lo t, .int hi u, .int 1 v] }).objs.size], _, _, H, rfl,
    I1.kept (t' := tk) fun b o e => Heap.get?_push_of_some _ e, turn_range _ lo (hi - lo).toNat, ?_, fun b hb => ?_, q⟩
  · have e1 : lo + ((0 : Nat) : Int) * 1 = lo := by simp
    have e2 : (((hi - lo).toNat : Nat) : Int) - ((0 : Nat) : Int) = Builtin.Range.rangeSize lo hi 1 := by rw [rangeSize_one]; split <;> omega
    show IsRangeIter _ _ (lo + ((0 : Nat) : Int) * 1) ((((hi - lo).toNat : Nat) : Int) - ((0 : Nat) : Int)) 1
    rw [e1, e2]
    exact Heap.get?_push_size _ rfl
  · have e : b = (s.heap.push { cls := .type "range", data := .fields #[.int lo t, .int hi u, .int 1 v] }).objs.size := by simpa using hb
    subst e
    exact I1.fpOk (Nat.le_refl _) (I1.hok.fresh (Nat.le_refl _))
def iRng1 (ta : TA) : TI := fun σ H R => ta σ H fun vs H1 => ∃ j : Int, vs = [.int j] ∧ -(2 ^ 62) ≤ j ∧ j < 2 ^ 62 ∧ R (Itr 0 j.toNat) H1
def iRng2 (ta : TA) : TI := fun σ H R => ta σ H fun vs H1 => ∃ i j : Int, vs = [.int i, .int j] ∧ (-(2 ^ 62) ≤ i ∧ i < 2 ^ 62 ∧ -(2 ^ 62) ≤ j ∧ j < 2 ^ 62) ∧ R (Itr i (j - i).toNat) H1
theorem pi_range1 {a : Expr} {ta : TA} {p pos : Pos} (hg : Gl X "range") (hm : X.mg "range" = none) (ha : PA X [a] ta) (hs : starEach [a] X.env = [(false, eval a X.env)] := by rfl) : PI X tg (.Call (.Name "range" p) [a] [] pos) (iRng1 ta) := by
  intro pins s σ H R I h
  refine Call_ (ld_blt I hg hm boot_range (PyProof.Rows.callWith_type1 (thn (ha pos pins s σ H _ I h) fun us s1 ⟨vs, H1, I1, r1, q1⟩ => ?_) hs rfl))
  obtain ⟨j, e, q1, q2, q⟩ := q1
  subst e
  cases r1 with
  | cons r rr =>
    cases rr
    obtain ⟨t, rfl⟩ := r
    exact call_range_1 (range_it I1 (by omega) (by omega) q1 q2 (by simpa using q))
theorem pi_range2 {a b : Expr} {ta : TA} {p pos : Pos} (hg : Gl X "range") (hm : X.mg "range" = none) (ha : PA X [a, b] ta) (hs : starEach [a, b] X.env = [(false, eval a X.env), (false, eval b X.env)] := by rfl) (hs2 : starEach [b] X.env = [(false, eval b X.env)] := by rfl) :
    PI X tg (.Call (.Name "range" p) [a, b] [] pos) (iRng2 ta) := by
  intro pins s σ H R I h
  refine Call_ (ld_blt I hg hm boot_range (PyProof.Rows.callWith_type1 (thn (ha pos pins s σ H _ I h) fun us s1 ⟨vs, H1, I1, r1, q1⟩ => ?_) (by rw [hs, hs2]) (by rw [hs2]; rfl)))
  obtain ⟨i, j, e, ⟨q1, q2, q3, q4⟩, q⟩ := q1
  subst e
  cases r1 with
  | cons r rr =>
    cases rr with
    | cons r' rr =>
      cases rr
      obtain ⟨t, rfl⟩ := r
      obtain ⟨t', rfl⟩ := r'
      exact call_range_2 (range_it I1 q1 q2 q3 q4 q)

/-! ### for -/
/-- W: the invariant by the turn and a measure; N: what the body is to reach -/
def tFor (wi : TI) (g : TG) (tb : TS) : TS := fun D σ H => wi σ H fun J H1 => ∃ W : Nat → Nat → St → Hp → Prop, (∃ m, W 0 m σ H1) ∧ ∀ i m σ H, W i m σ H →
  (J.stop i H ∧ D.nx σ H) ∨ (J.go i H ∧ ∃ N : St → Hp → Prop, (∀ σ' H', N σ' H' → ∃ m', m' < m ∧ W (i + 1) m' σ' H') ∧ ∀ x H', J.yld i H x H' → g x σ H' fun σ2 H2 => tb { D with nx := N, ct := N, bk := D.nx } σ2 H2)
/-- the records at fp as they stand -/
def pinsAt (fp : List Addr) (h : Heap) : List (Addr × Obj) := fp.filterMap fun b => (h.get? b).map fun o => (b, o)
theorem mem_pinsAt {fp : List Addr} {h : Heap} {b : Addr} {o : Obj} (hb : b ∈ fp) (e : h.get? b = some o) : (b, o) ∈ pinsAt fp h := List.mem_filterMap.mpr ⟨b, hb, by rw [e]; rfl⟩
theorem of_pinsAt {fp : List Addr} {h : Heap} {p : Addr × Obj} (hp : p ∈ pinsAt fp h) : p.1 ∈ fp ∧ h.get? p.1 = some p.2 := by
  obtain ⟨b, hb, e⟩ := List.mem_filterMap.mp hp
  cases q : h.get? b with
  | none => rw [q] at e; cases e
  | some o =>
    rw [q] at e
    have e' : (b, o) = p := Option.some.inj e
    subst e'
    exact ⟨hb, q⟩
theorem Inv.pinned {pins : List (Addr × Obj)} {σ : St} {H : Hp} {s : Shared} {fp : List Addr} (I : Inv X pins σ H s) (hf : ∀ b ∈ fp, FpOk X pins H b) (ho : ∀ b ∈ fp, ∃ o, s.heap.get? b = some o ∧ ∀ v, o.data ≠ .cell v) : Inv X (pins ++ pinsAt fp s.heap) σ H s :=
  I.pins_of fun p hp => (List.mem_append.mp hp).elim (fun z => I.pin p (List.mem_append_right _ z)) fun z => by
    obtain ⟨hb, e⟩ := of_pinsAt z
    obtain ⟨f0, f1, f2, _⟩ := hf p.1 hb
    obtain ⟨o, e', d⟩ := ho p.1 hb
    rw [e] at e'; cases e'
    exact ⟨e, f0, f1, f2, d⟩
theorem Inv.unpinned {pins pl : List (Addr × Obj)} {σ : St} {H : Hp} {s : Shared} (I : Inv X (pins ++ pl) σ H s) : Inv X pins σ H s := I.pins_of fun p hp => I.pin p (List.mem_append_right _ (List.mem_append_left _ hp))
theorem ps_for {iter : Expr} {body : List Stmt} {wi : TI} {g : TG} {tb : TS} {pos : Pos} (hp : PassesOwn (model X.prog X.w) X.A X.env X.xe) (hc : X.calm = true) (hi : PI X tg iter wi) (hg : PG X tg g) (hb : PSs X body tb)
    (hs : ∀ x, foldedSetIterable iter X.env x = pure x := by intro _; rfl) : PS X (.For tg iter body [] pos) (tFor wi g tb) := by
  intro pins s σ H D I h
  refine wpAny_For (thn (hi pins s σ H _ I h) fun v s1 h1 => thn h1 fun itv s2 h2 => ?_) hs
  obtain ⟨it, fp, tn, J, H2, e, I2, T, st2, f2, W, ⟨m0, w0⟩, turn⟩ := h2
  subst e
  -- what stays true of the iterator's objects through the loop
  have stat : ∀ {H' : Hp}, (∀ b ∈ fp, H' b = none) → ∀ b ∈ fp, FpOk X pins H' b := fun hn b hb => ⟨hn b hb, (f2 b hb).2⟩
  refine codeAny_forLoop_any (fun n s' => ∃ i σ' H', Inv X pins σ' H' s' ∧ tn i s'.heap ∧ (∀ b ∈ fp, H' b = none) ∧ W i n σ' H') ?_ m0 ⟨0, σ, H2, I2, st2, fun b hb => (f2 b hb).1, w0⟩
  rintro n s3 ⟨i, σ3, H3, I3, st3, fr3, w3⟩
  rcases turn i n σ3 H3 w3 with ⟨stop, qn⟩ | ⟨go, N, hN, step⟩
  · refine wpAny_passesOwn hp (thn (T.done X rfl rfl rfl hc i pins s3 σ3 H3 X.xe I3 (stat fr3) st3 stop) fun r s4 ⟨hr, I4⟩ => ?_)
    subst hr
    exact wpAny_execs_nil ⟨σ3, H3, I4, qn⟩
  · refine wpAny_passesOwn hp (thn (T.item X rfl rfl rfl hc i pins s3 σ3 H3 X.xe I3 (stat fr3) st3 go) fun r s4 ⟨u, hr, h4⟩ => ?_)
    subst hr
    refine wpAny_passesOwn hp (thn h4 fun _ s5 ⟨x, H5, I5, r5, y5, st5, fr5⟩ => ?_)
    have I5' := I5.pinned (stat fr5) (T.obj _ _ st5)
    refine wpAny_passesOwn hp (thn (hg _ s5 σ3 H5 x u _ I5' r5 (step x H5 y5)) fun _ s6 ⟨σ6, H6, I6, q6⟩ => ?_)
    refine wpAny_passesOwn hp (thn (hb _ s6 σ6 H6 _ I6 q6) fun f s7 q7 => ?_)
    have again : ∀ {σ7 : St} {H7 : Hp}, Inv X (pins ++ pinsAt fp s5.heap) σ7 H7 s7 → N σ7 H7 → ∃ m, m < n ∧ ∃ i σ' H', Inv X pins σ' H' s7 ∧ tn i s7.heap ∧ (∀ b ∈ fp, H' b = none) ∧ W i m σ' H' := fun {σ7 H7} I7 n7 => by
      obtain ⟨m', hm, w7⟩ := hN σ7 H7 n7
      refine ⟨m', hm, i + 1, σ7, H7, I7.unpinned, T.keep _ _ _ st5 fun b hb o e => (I7.pin (b, o) (List.mem_append_right _ (List.mem_append_right _ (mem_pinsAt hb e)))).1, fun b hb => ?_, w7⟩
      obtain ⟨o, e, d⟩ := T.obj _ _ st5 b hb
      exact (I7.pin (b, o) (List.mem_append_right _ (List.mem_append_right _ (mem_pinsAt hb e)))).2.1
    cases f with
    | next => obtain ⟨σ7, H7, I7, n7⟩ := q7; exact again I7 n7
    | cont => obtain ⟨σ7, H7, I7, n7⟩ := q7; exact again I7 n7
    | brk => obtain ⟨σ7, H7, I7, q7⟩ := q7; exact ⟨σ7, H7, I7.unpinned, q7⟩
    | ret v => obtain ⟨x7, σ7, H7, I7, r7, q7⟩ := q7; exact ⟨x7, σ7, H7, I7.unpinned, r7, q7⟩
end

/-! ### the forms one uses -/
end L2

namespace L2
open PySem PySem.Spec PyProof.Rows

abbrev R2 := V → V → Hp → VK → Prop
/-- a two-place operation on values: f is binaryOp op, inplaceOp op or compareOp op -/
def OpR (X : Cx) (f : Value → Value → Sem Value) (r : R2) : Prop :=
  ∀ (pins : List (Addr × Obj)) (s : Shared) (σ : St) (H : Hp) (x y : V) (v u : Value) (Q : VK), Inv X pins σ H s → RelV x v → RelV y u → r x y H Q →
    wpAny (model X.prog X.w) X.A (f v u) (EP X pins σ Q) X.xe s
/-- a one-place operation -/
def UnR (X : Cx) (f : Value → Sem Value) (r : V → Hp → VK → Prop) : Prop :=
  ∀ (pins : List (Addr × Obj)) (s : Shared) (σ : St) (H : Hp) (x : V) (v : Value) (Q : VK), Inv X pins σ H s → RelV x v → r x H Q →
    wpAny (model X.prog X.w) X.A (f v) (EP X pins σ Q) X.xe s
/-- a call of a value that is known (a builtin, a type) with values -/
def CallR (X : Cx) (f : Value) (r : List V → Hp → VK → Prop) : Prop :=
  ∀ (pins : List (Addr × Obj)) (s : Shared) (σ : St) (H : Hp) (xs : List V) (us : List Value) (Q : VK), Inv X pins σ H s → Vals xs us → r xs H Q →
    wpAny (model X.prog X.w) X.A (call f us) (EP X pins σ Q) X.xe s
/-- a value's truth -/
def TruR (X : Cx) (r : V → Hp → (Bool → Hp → Prop) → Prop) : Prop :=
  ∀ (pins : List (Addr × Obj)) (s : Shared) (σ : St) (H : Hp) (x : V) (v : Value) (Q : Bool → Hp → Prop), Inv X pins σ H s → RelV x v → r x H Q →
    wpAny (model X.prog X.w) X.A (truthy v) (TP X pins σ Q) X.xe s

def tOp (r : R2) (ta tb : TE) : TE := fun σ H Q => ta σ H fun x H1 => tb σ H1 fun y H2 => r x y H2 Q
def tUn (r : V → Hp → VK → Prop) (ta : TE) : TE := fun σ H Q => ta σ H fun x H1 => r x H1 Q
/-- ints in, under C, and a value out -/
def rI (C : Int → Int → Prop) (g : Int → Int → V) : R2 := fun x y H Q => ∃ i j, x = .int i ∧ y = .int j ∧ C i j ∧ Q (g i j) H
def rI0 (g : Int → Int → V) : R2 := fun x y H Q => ∃ i j, x = .int i ∧ y = .int j ∧ Q (g i j) H
def rU (g : Int → V) : V → Hp → VK → Prop := fun x H Q => ∃ i, x = .int i ∧ Q (g i) H

section
variable {X : Cx} {a b c : Expr} {ta tb tc : TE} {pos : Pos}

theorem binT (ha : PE X a ta) (hb : PE X b tb) {pins : List (Addr × Obj)} {s : Shared} {σ : St} {H : Hp} {R : V → V → Hp → Prop} (I : Inv X pins σ H s)
    (h : ta σ H fun x H1 => tb σ H1 fun y H2 => R x y H2) {Q : Value → Shared → Prop} {f : Value → Value → Sem Value}
    (hf : ∀ v u s2 x y H2, Inv X pins σ H2 s2 → RelV x v → RelV y u → R x y H2 → wpAny (model X.prog X.w) X.A (f v u) Q X.xe s2) :
    wpAny (model X.prog X.w) X.A (eval a X.env) (fun v s₁ => wpAny (model X.prog X.w) X.A (eval b X.env) (fun u s₂ => wpAny (model X.prog X.w) X.A (f v u) Q X.xe s₂) X.xe s₁) X.xe s := by
  refine thn (ha pins s σ H _ I h) fun v s1 ⟨x, H1, I1, r1, q1⟩ => ?_
  refine thn (hb pins s1 σ H1 _ I1 q1) fun u s2 ⟨y, H2, I2, r2, q2⟩ => ?_
  exact hf v u s2 x y H2 I2 r1 r2 q2

theorem pe_op {op : Operator} {r : R2} (ho : OpR X (binaryOp op) r) (ha : PE X a ta) (hb : PE X b tb) : PE X (.BinOp a op b pos) (tOp r ta tb) := by
  intro pins s σ H Q I h
  exact wpAny_BinOp (binT ha hb I h fun v u s2 x y H2 I2 rx ry q => ho pins s2 σ H2 x y v u Q I2 rx ry q)
theorem pe_un {op : UnaryOp} {r : V → Hp → VK → Prop} (ho : UnR X (unaryOp op) r) (ha : PE X a ta) : PE X (.UnaryOp op a pos) (tUn r ta) := by
  intro pins s σ H Q I h
  exact UnaryOp_ (thn (ha pins s σ H _ I h) fun v s1 ⟨x, H1, I1, r1, q1⟩ => ho pins s1 σ H1 x v Q I1 r1 q1)
/-! ### ints -/
theorem opI {f : Value → Value → Sem Value} {C : Int → Int → Prop} {g : Int → Int → Int}
    (rule : ∀ (i j : Int) (t u : Tok) (s : Shared) (Q : Value → Shared → Prop) (E : Value → Shared → Prop), C i j → Q (.int (g i j) s.toks) { s with toks := s.toks + 1 } → wpAny (model X.prog X.w) X.A (f (.int i t) (.int j u)) Q E s) :
    OpR X f (rI C fun i j => .int (g i j)) := by
  intro pins s σ H x y v u Q I rx ry h
  obtain ⟨i, j, rfl, rfl, hc, q⟩ := h
  obtain ⟨t, rfl⟩ := rx
  obtain ⟨t', rfl⟩ := ry
  exact rule i j t t' s _ _ hc ⟨.int (g i j), H, I.tok _, ⟨_, rfl⟩, q⟩
theorem opI0 {f : Value → Value → Sem Value} {g : Int → Int → Int}
    (rule : ∀ (i j : Int) (t u : Tok) (s : Shared) (Q : Value → Shared → Prop) (E : Value → Shared → Prop), Q (.int (g i j) s.toks) { s with toks := s.toks + 1 } → wpAny (model X.prog X.w) X.A (f (.int i t) (.int j u)) Q E s) :
    OpR X f (rI0 fun i j => .int (g i j)) := by
  intro pins s σ H x y v u Q I rx ry h
  obtain ⟨i, j, rfl, rfl, q⟩ := h
  obtain ⟨t, rfl⟩ := rx
  obtain ⟨t', rfl⟩ := ry
  exact rule i j t t' s _ _ ⟨.int (g i j), H, I.tok _, ⟨_, rfl⟩, q⟩
theorem opB0 {f : Value → Value → Sem Value} {g : Int → Int → Bool}
    (rule : ∀ (i j : Int) (t u : Tok) (s : Shared) (Q : Value → Shared → Prop) (E : Value → Shared → Prop), Q (.bool (g i j)) s → wpAny (model X.prog X.w) X.A (f (.int i t) (.int j u)) Q E s) :
    OpR X f (rI0 fun i j => .bl (g i j)) := by
  intro pins s σ H x y v u Q I rx ry h
  obtain ⟨i, j, rfl, rfl, q⟩ := h
  obtain ⟨t, rfl⟩ := rx
  obtain ⟨t', rfl⟩ := ry
  exact rule i j t t' s _ _ ⟨.bl (g i j), H, I, rfl, q⟩

def CDiv (i j : Int) : Prop := 0 < j ∧ j < 1073741824
def CDivN (i j : Int) : Prop := j ≠ 0 ∧ j.natAbs < 1073741824
def CPow (i j : Int) : Prop := 0 ≤ j ∧ j ≤ 1000000 ∧ i.natAbs < 2 ^ 64
def CMul (i j : Int) : Prop := (-(2 ^ 64) < i ∧ i < 2 ^ 64) ∨ (-(2 ^ 64) < j ∧ j < 2 ^ 64)
theorem CMul.ok {i j : Int} (h : CMul i j) : IntMulOk i j := by
  rcases h with ⟨h1, h2⟩ | ⟨h1, h2⟩
  · exact .of_left (intBits_le_64 h1 h2)
  · exact .of_right (intBits_le_64 h1 h2)
theorem op_add : OpR X (binaryOp .Add) (rI0 fun i j => .int (i + j)) := opI0 fun _ _ _ _ _ _ _ q => add_int q
theorem op_sub : OpR X (binaryOp .Sub) (rI0 fun i j => .int (i - j)) := opI0 fun _ _ _ _ _ _ _ q => sub_int q
theorem op_mul : OpR X (binaryOp .Mult) (rI CMul fun i j => .int (i * j)) := opI fun _ _ _ _ _ _ _ hc q => mul_int q hc.ok
/-- % by a positive divisor of any size -/
theorem op_mod : OpR X (binaryOp .Mod) (rI (fun _ j => 0 < j) fun i j => .int (i % j)) := opI fun i j _ _ _ _ _ hc q => by
  have h1 : (0 : Int) < j := hc
  exact mod_int' (by omega) (by rw [Int.fmod_eq_emod_of_nonneg i (by omega)]; exact q)
theorem op_pow : OpR X (binaryOp .Pow) (rI CPow fun i j => .int (i ^ j.toNat)) := opI fun _ _ _ _ _ _ _ hc q => pow_int_small hc.1 hc.2.1 hc.2.2 q
theorem unI {f : Value → Sem Value} {g : Int → Int}
    (rule : ∀ (i : Int) (t : Tok) (s : Shared) (Q : Value → Shared → Prop) (E : Value → Shared → Prop), Q (.int (g i) s.toks) { s with toks := s.toks + 1 } → wpAny (model X.prog X.w) X.A (f (.int i t)) Q E s) :
    UnR X f (rU fun i => .int (g i)) := by
  intro pins s σ H x v Q I rx h
  obtain ⟨i, rfl, q⟩ := h
  obtain ⟨t, rfl⟩ := rx
  exact rule i t s _ _ ⟨.int (g i), H, I.tok _, ⟨_, rfl⟩, q⟩
theorem un_neg : UnR X (unaryOp .USub) (rU fun i => .int (-i)) := unI fun _ _ _ _ _ q => neg_int q
/-! ### bools among ints: n += (a < b) -/
end

/-! ### comparisons -/
/-- the scalars that == tells apart as data does -/
def scal : V → V → Bool
  | .non, .non => true | .non, .int _ => true | .int _, .non => true | .non, .bl _ => true | .bl _, .non => true | .non, .str _ => true | .str _, .non => true
  | .int _, .int _ => true | .bl _, .bl _ => true | .str _, .str _ => true | .byt _, .byt _ => true
  | .int _, .str _ => true | .str _, .int _ => true | .bl _, .str _ => true | .str _, .bl _ => true
  | _, _ => false
def rEq : R2 := fun x y H Q => scal x y = true ∧ Q (.bl (decide (x = y))) H
def rNe : R2 := fun x y H Q => scal x y = true ∧ Q (.bl (!decide (x = y))) H

section
variable {X : Cx} {a b c : Expr} {ta tb tc : TE} {pos : Pos}
theorem fin_bl {pins : List (Addr × Obj)} {σ : St} {H : Hp} {s : Shared} {Q : VK} {k k' : Bool} (I : Inv X pins σ H s) (q : Q (.bl k) H) (e : k = k') : EP X pins σ Q (.bool k') s := by
  subst e
  exact ⟨.bl k, H, I, rfl, q⟩
theorem op_lt : OpR X (compareOp .Lt) (rI0 fun i j => .bl (decide (i < j))) := opB0 fun _ _ _ _ _ _ _ q => lt_int q
theorem op_le : OpR X (compareOp .LtE) (rI0 fun i j => .bl (decide (i ≤ j))) := opB0 fun _ _ _ _ _ _ _ q => le_int q
theorem op_gt : OpR X (compareOp .Gt) (rI0 fun i j => .bl (decide (j < i))) := opB0 fun _ _ _ _ _ _ _ q => gt_int q
/-- the one string within the other -/
theorem op_in_str : OpR X (compareOp .In) (fun x y H Q => ∃ i j, x = .str i ∧ y = .str j ∧ Q (.bl (!(Builtin.Str.occurrences j i 0 j.length 1).isEmpty)) H) := by
  intro pins s σ H x y v u Q I rx ry h
  obtain ⟨i, j, rfl, rfl, q⟩ := h
  obtain ⟨t, rfl⟩ := rx
  obtain ⟨t', rfl⟩ := ry
  exact in_str (fin_bl I q rfl)

/-- is None, is not None: the right side a value none -/
theorem op_isN : OpR X (compareOp .Is) (fun x y H Q => y = .non ∧ Q (.bl (decide (x = .non))) H) := by
  intro pins s σ H x y v u Q I rx ry h
  obtain ⟨rfl, q⟩ := h
  cases ry
  refine is_none_gen (fin_bl I q ?_)
  cases x <;> first
    | (cases rx; rfl)
    | (obtain ⟨t, rfl⟩ := rx; rfl)
theorem op_notN : OpR X (compareOp .IsNot) (fun x y H Q => y = .non ∧ Q (.bl (!decide (x = .non))) H) := by
  intro pins s σ H x y v u Q I rx ry h
  obtain ⟨rfl, q⟩ := h
  cases ry
  refine isnot_none_gen (fin_bl I q ?_)
  cases x <;> first
    | (cases rx; rfl)
    | (obtain ⟨t, rfl⟩ := rx; rfl)

/-- is, is not of two objects that are tracked lists or instances -/
def isObj : HO → Bool
  | .lst _ => true
  | .ins _ _ _ => true
  | _ => false
/-- two rules for one operation: by cases -/
theorem OpR.or {f : Value → Value → Sem Value} {r r' : R2} (h : OpR X f r) (h' : OpR X f r') : OpR X f (fun x y H Q => r x y H Q ∨ r' x y H Q) := by
  intro pins s σ H x y v u Q I rx ry q
  rcases q with q | q
  · exact h pins s σ H x y v u Q I rx ry q
  · exact h' pins s σ H x y v u Q I rx ry q

theorem nomark (b : Expr) {op : CmpOp} (h : op ≠ .In := by decide) (h2 : op ≠ .NotIn := by decide) : behindInMarks op b = false := by
  have e1 : (op == CmpOp.In) = false := by cases op <;> first | rfl | exact absurd rfl h
  have e2 : (op == CmpOp.NotIn) = false := by cases op <;> first | rfl | exact absurd rfl h2
  cases b <;> simp [behindInMarks, e1, e2]
/-- a comparison as a value; hm: nomark b, or (for in, not in) by with_unfolding_all rfl -/
theorem pe_cmpR {op : CmpOp} {r : R2} (ho : OpR X (compareOp op) r) (ha : PE X a ta) (hb : PE X b tb) (hm : behindInMarks op b = false) : PE X (.Compare a [op] [b] pos) (tOp r ta tb) := by
  intro pins s σ H Q I h
  exact wpAny_Compare1 (binT ha hb I h fun v u s2 x y H2 I2 rx ry q => ho pins s2 σ H2 x y v u Q I2 rx ry q) hm
/-- a reading of a value as a test -/
def tTest (t : TE) : TT := fun σ H Q => t σ H fun x H' => ∃ k, x = .bl k ∧ Q k H'
theorem pt_cmpR {op : CmpOp} {r : R2} (ho : OpR X (compareOp op) r) (ha : PE X a ta) (hb : PE X b tb) (hm : behindInMarks op b = false) : PT X (.Compare a [op] [b] pos) (tTest (tOp r ta tb)) := by
  intro pins s σ H Q I h
  refine wpAny_isTrue_Compare1 (thn (ha pins s σ H _ I h) fun v s1 ⟨x, H1, I1, r1, q1⟩ => thn (hb pins s1 σ H1 _ I1 q1) fun u s2 ⟨y, H2, I2, r2, q2⟩ =>
    thn (ho pins s2 σ H2 x y v u _ I2 r1 r2 q2) fun c s3 ⟨z, H3, I3, r3, k, e, q3⟩ => ?_) hm
  subst e
  cases r3
  exact wpAny_truthy_bool ⟨H3, I3, q3⟩
/-- a op1 b op2 c -/
def tChain (r r' : R2) (ta tb tc : TE) : TE := fun σ H Q => ta σ H fun x H1 => tb σ H1 fun y H2 => r x y H2 fun z H3 => ∃ k, z = .bl k ∧
  (if k = true then tc σ H3 fun w' H4 => r' y w' H4 Q else Q (.bl false) H3)
/-! ### truth -/
/-- a value's truth by the abstract heap -/
def TruV (K : PySem.W.Frag) (x : V) (H : Hp) (k : Bool) : Prop :=
  match x with
  | .non => k = false
  | .bl b => k = b
  | .int i => k = (i != 0)
  | .str y => y.length ≤ sizeLine ∧ k = ((y.length : Int) != 0)
  | .byt y => y.size ≤ sizeLine ∧ k = ((y.size : Int) != 0)
  | .ref p => (∃ xs, SqL K H p xs ∧ k = !xs.isEmpty) ∨ (∃ xs, SqT K H p xs ∧ k = !xs.isEmpty) ∨ ∃ kvs, H p = some (.dK kvs) ∧ k = !kvs.isEmpty
  | _ => False
theorem line63 : (sizeLine : Nat) < 2 ^ 63 := by rw [sizeLine_eq]; decide
/-! ### strs and bytes -/
theorem op_add_str : OpR X (binaryOp .Add) (fun x y H Q => ∃ i j, x = .str i ∧ y = .str j ∧ i.length + j.length ≤ sizeLine ∧ Q (.str (i ++ j)) H) := by
  intro pins s σ H x y v u Q I rx ry h
  obtain ⟨i, j, rfl, rfl, hz, q⟩ := h
  obtain ⟨t, rfl⟩ := rx
  obtain ⟨t', rfl⟩ := ry
  exact add_str (fun t' tk => ⟨.str (i ++ j), H, I.tok _, ⟨_, rfl⟩, q⟩) hz
def PlainIxT (b : Expr) : Prop := ∀ o i, subscripted b false o i = operate [o, i] (getItem o i)
/-! ### scalar builtins, by CallR -/
theorem vals1 {x : V} {us : List Value} (r : Vals [x] us) : ∃ u, us = [u] ∧ RelV x u := by
  cases r with
  | cons r1 r2 => cases r2; exact ⟨_, rfl, r1⟩
theorem vals2 {x y : V} {us : List Value} (r : Vals [x, y] us) : ∃ u w', us = [u, w'] ∧ RelV x u ∧ RelV y w' := by
  cases r with
  | cons r1 r2 =>
    cases r2 with
    | cons r3 r4 => cases r4; exact ⟨_, _, rfl, r1, r3⟩
theorem call_max2 (hc : X.calm = true) : CallR X (.builtin "max") (fun xs H Q => ∃ i j, xs = [.int i, .int j] ∧ Q (.int (if j > i then j else i)) H) := by
  intro pins s σ H xs us Q I r h
  obtain ⟨i, j, rfl, q⟩ := h
  obtain ⟨u, w', rfl, ⟨t, rfl⟩, ⟨t', rfl⟩⟩ := vals2 r
  refine max_two_ints (I.ok.hd hc) fun h' tk k => ⟨_, H, I.kept k, ?_, q⟩
  by_cases hj : j > i
  · rw [if_pos hj, if_pos hj]; exact ⟨_, rfl⟩
  · rw [if_neg hj, if_neg hj]; exact ⟨_, rfl⟩
theorem call_int1 : CallR X (.type "int") (fun xs H Q => (∃ i, xs = [.int i] ∧ Q (.int i) H) ∨ ∃ k, xs = [.bl k] ∧ Q (.int (if k then 1 else 0)) H) := by
  intro pins s σ H xs us Q I r h
  rcases h with ⟨i, rfl, q⟩ | ⟨k, rfl, q⟩
  · obtain ⟨u, rfl, t, rfl⟩ := vals1 r
    exact call_int_int ⟨.int i, H, I, ⟨_, rfl⟩, q⟩
  · obtain ⟨u, rfl, r1⟩ := vals1 r
    cases r1
    exact call_int_bool ⟨.int (if k then 1 else 0), H, I.tok _, ⟨_, rfl⟩, q⟩
/-- len of a str, a bytes, a list, a tuple -/
def LenV (K : PySem.W.Frag) (x : V) (H : Hp) (n : Nat) : Prop :=
  match x with
  | .str y => y.length ≤ sizeLine ∧ n = y.length
  | .byt y => y.size ≤ sizeLine ∧ n = y.size
  | .ref p => (∃ xs, SqL K H p xs ∧ n = xs.length) ∨ ∃ xs, SqT K H p xs ∧ n = xs.length
  | _ => False
end
end L2

namespace L2
open PySem PySem.Spec PyProof.Rows

/-! ### an instance, its attributes a map -/
structure ObjM (h : Heap) (x dx C : Addr) (mA : Str → Option Value) : Prop where
  obj : h.get? x = some (PySem.W.instObj C dx)
  ns : h.Ns1 dx mA
  ne : dx ≠ x

theorem lookIn_ns {h : Heap} {dx : Addr} {mA : Str → Option Value} (n : h.Ns1 dx mA) : ∃ od, h.get? dx = some od ∧ ∀ name, PySem.W.lookIn name od = some (mA name) := by
  obtain ⟨o, es, ep, ho, hd, hk, _, hm⟩ := n
  refine ⟨o, ho, fun name => ?_⟩
  have e := hm name
  unfold nsFind findBy at e
  rw [← Array.find?_toList] at e
  unfold PySem.W.lookIn
  rw [hd]
  dsimp only
  split
  · rename_i y q
    rw [q] at e
    exact congrArg some e
  · rename_i q
    rw [q] at e
    have a : es.toList.any (·.refKey) = false := by
      rw [List.any_eq_false]
      intro y hy
      obtain ⟨z, t, hkey⟩ := hk y (Array.mem_toList_iff.mp hy)
      simp [DictEntry.refKey, hkey]
    have a' : ¬ es.toList.any (·.refKey) = true := by rw [a]; exact Bool.false_ne_true
    rw [if_neg a']
    exact congrArg some e

theorem ObjM.look {h : Heap} {x dx C : Addr} {mA : Str → Option Value} (I : ObjM h x dx C mA) : ∃ od, PySem.W.InstAt h x (PySem.W.instObj C dx) C (some od) ∧ ∀ name, PySem.W.lookIn name od = some (mA name) :=
  let ⟨od, ho, hl⟩ := lookIn_ns I.ns
  ⟨od, ⟨I.obj, rfl, rfl, ho⟩, hl⟩

section
variable {prog : Program} {w : World} {A : Around} {E : Value → Shared → Prop} {s : Shared} {K : PySem.W.Frag} {x dx C f : Addr} {mA : Str → Option Value} {name : Str} {v : Value}

end

/-! ### the attributes as a list of pairs -/
def putF (f : Str) (v : V) : List (Str × V) → List (Str × V)
  | [] => [(f, v)]
  | (g, x) :: r => if g = f then (g, v) :: r else (g, x) :: putF f v r
theorem RelO.some_of {v : V} {o : Option Value} (r : RelO (some v) o) : ∃ u, o = some u ∧ RelV v u := by
  cases o with
  | none => exact (show False from r).elim
  | some u => exact ⟨u, rfl, r⟩
theorem RelO.none_of {o : Option Value} (r : RelO none o) : o = none := by
  cases o with
  | none => rfl
  | some u => exact (show False from r).elim
section
variable {P : Program} {w : World} {H H' : Hp} {h h' : Heap} {a C dx : Addr} {fs fs' : List (Str × V)}
end

/-! ### what of the text a class must have -/
structure Cls (K : PySem.W.Frag) (C : Addr) : Prop where
  pg : PySem.W.plainGet K C Str.empty = true
  hd : PySem.W.hasDictIn K C = true
  po : PySem.W.plainOver K C = true
  sa : PySem.W.findIn K (.ref C) "__setattr__" = some (some (.builtin "object.__setattr__"))
theorem Cls.get {K : PySem.W.Frag} {C : Addr} (c : Cls K C) (f : Str) : PySem.W.plainGet K C f = true := c.pg
/-- no class of it has the name -/
def NoAttr (K : PySem.W.Frag) (C : Addr) (f : Str) : Prop := PySem.W.findIn K (.ref C) f = some none
theorem NoAttr.taker {K : PySem.W.Frag} {C : Addr} {f : Str} (n : NoAttr K C f) : PySem.W.takerIn K C f = some none := by
  unfold PySem.W.takerIn
  rw [show PySem.W.findIn K (.ref C) f = some none from n]
  rfl
/-- a constant of the class -/
structure Con (K : PySem.W.Frag) (C : Addr) (f : Str) (v : V) (u : Value) : Prop where
  at_ : PySem.W.findIn K (.ref C) f = some (some u)
  rel : RelV v u
  get : PySem.W.specialIn K u "__get__" = some none
  cp : PySem.W.copiedNames.contains f = false
/-- a method: a plain def of the class or of one above it -/
structure Meth (K : PySem.W.Frag) (C : Addr) (m : Str) (f : Addr) : Prop where
  at_ : PySem.W.findIn K (.ref C) m = some (some (.ref f))
  fn : PySem.W.isFn K (.ref f) = true
  kp : PySem.W.keepIn K (.ref f) = true

section
variable {X : Cx} {pins : List (Addr × Obj)} {σ : St} {H : Hp} {s : Shared} {a C dx : Addr} {fs : List (Str × V)} {f : Str} {v : V} {A : Around} {E : Value → Shared → Prop}

/-- a new instance, tracked, without attributes -/
theorem Inv.made (I : Inv X pins σ H s) : Inv X pins σ (upd (upd H s.heap.objs.size (.own (s.heap.objs.size + 1))) (s.heap.objs.size + 1) (.ins C s.heap.objs.size []))
    { s with heap := (s.heap.push PySem.W.emptyDict).push (PySem.W.instObj C s.heap.objs.size) } := by
  have e1 : (s.heap.push PySem.W.emptyDict).get? s.heap.objs.size = some PySem.W.emptyDict := Heap.get?_push_size s.heap rfl
  have e2 : ((s.heap.push PySem.W.emptyDict).push (PySem.W.instObj C s.heap.objs.size)).get? (s.heap.objs.size + 1) = some (PySem.W.instObj C s.heap.objs.size) := by
    have := Heap.get?_push_size (s.heap.push PySem.W.emptyDict) (o := PySem.W.instObj C s.heap.objs.size) rfl
    rwa [Heap.size_push] at this
  have e3 : (s.heap.push PySem.W.emptyDict).Ns s.heap.objs.size (fun _ => none) := ⟨PySem.W.emptyDict, #[], _, e1, rfl, (fun e he => absurd he (by simp)), fun _ => rfl⟩
  have I1 := I.laid (a := s.heap.objs.size) (o := .own (s.heap.objs.size + 1)) (h' := s.heap.push PySem.W.emptyDict) (t' := s.toks) (fun b u q => Heap.get?_push_of_some _ q) (Nat.le_refl _) ⟨_, e1⟩
  refine I1.laid (a := s.heap.objs.size + 1) (o := .ins C s.heap.objs.size []) (t' := s.toks) (fun b u q => Heap.get?_push_of_some _ q) (Nat.le_of_eq (Heap.size_push _ _)) ?_
  have ne : s.heap.objs.size ≠ s.heap.objs.size + 1 := Nat.ne_of_lt (Nat.lt_succ_self _)
  refine ⟨by rw [upd_ne ne, upd_same], Nat.zero_le _, ne, e2, fun _ => none, (Heap.Ns1.of_empty e3).at fun o q => Heap.get?_push_of_some _ q, fun _ => True.intro, fun y hy => absurd rfl hy⟩

end

/-! ### readings and rules -/
/-- e.f, an attribute of the instance -/
def tFld (K : PySem.W.Frag) (ta : TE) (f : Str) : TE := fun σ H Q => ta σ H fun x H1 => ∃ a C dx fs v, x = .ref a ∧ H1 a = some (.ins C dx fs) ∧ Cls K C ∧ NoAttr K C f ∧ fs.lookup f = some v ∧ Q v H1
/-- e.f, a constant of the class -/
def tCon (K : PySem.W.Frag) (ta : TE) (f : Str) : TE := fun σ H Q => ta σ H fun x H1 => ∃ a C dx fs v u, x = .ref a ∧ H1 a = some (.ins C dx fs) ∧ Cls K C ∧ Con K C f v u ∧ fs.lookup f = none ∧ Q v H1
/-- e.f = value -/
def sFld (K : PySem.W.Frag) (ta tv : TE) (f : Str) : TS := fun D σ H => tv σ H fun y H1 => ta σ H1 fun x H2 => ∃ a C dx fs, x = .ref a ∧ H2 a = some (.ins C dx fs) ∧ Cls K C ∧ NoAttr K C f ∧ fs.length < 1000 ∧
  D.nx σ (upd H2 a (.ins C dx (putF f y fs)))
/-- an augmented operator on two values -/
def InOp (X : Cx) (op : Operator) (rd : V → V → Hp → VK → Prop) : Prop :=
  ∀ (pins : List (Addr × Obj)) (s : Shared) (σ : St) (H : Hp) (x y : V) (u v : Value) (Q : VK), Inv X pins σ H s → RelV x u → RelV y v → rd x y H Q → wpAny (model X.prog X.w) X.A (inplaceOp op u v) (EP X pins σ Q) X.xe s
/-- e.f op= value -/
def sFldAug (K : PySem.W.Frag) (ta tv : TE) (rd : V → V → Hp → VK → Prop) (f : Str) : TS := fun D σ H => ta σ H fun x H1 => ∃ a C dx fs v, x = .ref a ∧ H1 a = some (.ins C dx fs) ∧ Cls K C ∧ NoAttr K C f ∧ fs.lookup f = some v ∧
  tv σ H1 fun y H2 => rd v y H2 fun z H3 => ∃ dx' fs', H3 a = some (.ins C dx' fs') ∧ fs'.length < 1000 ∧ D.nx σ (upd H3 a (.ins C dx' (putF f z fs')))

section
variable {X : Cx} {o e value : Expr} {f : Str} {pos pos' tpos : Pos} {ta tv : TE}
def rAdd : V → V → Hp → VK → Prop := fun x y H Q => ∃ i j, x = .int i ∧ y = .int j ∧ Q (.int (i + j)) H
def rSub : V → V → Hp → VK → Prop := fun x y H Q => ∃ i j, x = .int i ∧ y = .int j ∧ Q (.int (i - j)) H
end

/-! ### isinstance -/
section
variable {X : Cx} {pins : List (Addr × Obj)} {σ : St} {H : Hp} {s : Shared} {A : Around} {E : Value → Shared → Prop} {Q : Value → Shared → Prop} {c : Value} {b : Bool}
/-- the type of a value, as the fragment's deciders take it; for an instance its class -/
inductive TyOf (K : PySem.W.Frag) (H : Hp) : V → Value → Prop where
  | non : TyOf K H .non (.type "NoneType")
  | bl (x : Bool) : TyOf K H (.bl x) (.type "bool")
  | int (i : Int) : TyOf K H (.int i) (.type "int")
  | str (x : Str) : TyOf K H (.str x) (.type "str")
  | flt (x : UInt64) : TyOf K H (.flt x) (.type "float")
  | lst {a : Addr} {xs : List V} (e : H a = some (.lst xs)) : TyOf K H (.ref a) (.type "list")
  | frz {a : Addr} {o : Obj} {xs : List V} (e : H a = some (.frz o (.lst xs))) : TyOf K H (.ref a) (.type "list")
  | tup {a : Addr} {xs : List V} (e : H a = some (.tup xs)) : TyOf K H (.ref a) (.type "tuple")
  | dK {a : Addr} {kvs : List (Key × V)} (e : H a = some (.dK kvs)) : TyOf K H (.ref a) (.type "dict")
  | dT {a : Addr} {kvs : List (List Key × V)} (e : H a = some (.dT kvs)) : TyOf K H (.ref a) (.type "dict")
  | ins {a C dx : Addr} {fs : List (Str × V)} (e : H a = some (.ins C dx fs)) (cl : Cls K C) (ha : PySem.W.findIn K (.ref C) "__class__" = some (some (.builtin "object.__class__")))
      (hn : PySem.W.specialIn K (.builtin "object.__class__") "__get__" = some (some (.builtin "getset_descriptor.__get__"))) (htk : PySem.W.takesIn K (.builtin "object.__class__") = some true)
      (hm : PySem.W.mroIn K C (.type "object") = some true) : TyOf K H (.ref a) (.ref C)
end
end L2

namespace L2
open PySem PySem.Spec PyProof.Rows

/-! ### room -/
structure Room (k : Nat) (A : Around) : Prop where
  hd : A.handled = none
  dp : A.depth + 3 * k + 5 < recursionLimit
  un : A.units + 16 * k + 200 < cLine
theorem Room.mono {j k : Nat} {A : Around} (r : Room k A) (h : j ≤ k) : Room j A := ⟨r.hd, by have := r.dp; omega, by have := r.un; omega⟩
theorem Room.deeper {k : Nat} {A : Around} (r : Room (k + 1) A) (env : Env) : Room k (A.deeper env) :=
  ⟨r.hd, by have := r.dp; show A.depth + 1 + 3 * k + 5 < _; omega, by have := r.un; show A.units + 3 + 16 * k + 200 < _; omega⟩
theorem Room.in1 {k : Nat} {A : Around} (r : Room (k + 1) A) : Room k A.in1 :=
  ⟨r.hd, by have := r.dp; show A.depth + 3 * k + 5 < _; omega, by have := r.un; show A.units + 1 + 16 * k + 200 < _; omega⟩
theorem make_depth {A : Around} {C : Addr} {us : List Value} {kw : List (Str × Value)} : (A.under (.builtin "type.__call__" ⟨.ref C :: us, kw⟩)).depth = A.depth + 1 := by
  first | rfl | simp [Around.under, Code.weight, Code.isCreation, Code.isGuard, Code.isCaller, Code.frames, Code.isFrame, guardIds]
theorem make_units {A : Around} {C : Addr} {us : List Value} {kw : List (Str × Value)} : (A.under (.builtin "type.__call__" ⟨.ref C :: us, kw⟩)).units = A.units + 1 := by
  first | rfl | simp [Around.under, Code.cUnits, Code.frames, Code.isFrame]
theorem Room.make {k : Nat} {A : Around} (r : Room (k + 1) A) (C : Addr) (us : List Value) (kw : List (Str × Value)) : Room k (A.under (.builtin "type.__call__" ⟨.ref C :: us, kw⟩)) :=
  ⟨r.hd, by have := r.dp; rw [make_depth]; omega, by have := r.un; rw [make_units]; omega⟩
theorem Room.depth {k : Nat} {A : Around} (r : Room k A) : A.depth < recursionLimit := by have := r.dp; omega
theorem Room.units {k : Nat} {A : Around} (r : Room k A) : A.units + 64 < cLine := by have := r.un; omega
theorem Room.units0 {k : Nat} {A : Around} (r : Room k A) : A.units < cLine := by have := r.un; omega

/-! ### argument lists and displays -/
def tNil : TA := fun _ H Q => Q [] H
def tCons (ta : TE) (tr : TA) : TA := fun σ H Q => ta σ H fun x H1 => tr σ H1 fun xs H2 => Q (x :: xs) H2
section
variable {X : Cx} {e : Expr} {es : List Expr} {te : TE} {t : TA} {pos : Pos}
theorem pa_nil : PA X [] tNil := fun _ _ _ _ H Q I h => Calls.spliced_nil ⟨[], H, I, .nil, h⟩
theorem pa_cons (ha : PE X e te) (hr : PA X es t) (hs : starEach (e :: es) X.env = (false, eval e X.env) :: starEach es X.env := by rfl) : PA X (e :: es) (tCons te t) := by
  intro pos pins s σ H Q I h
  rw [hs]
  show wpAny _ _ (spliced ((false, eval e X.env) :: backTo pos (starEach es X.env))) _ _ s
  refine Calls.spliced_cons (thn (ha pins s σ H _ I h) fun u s1 ⟨x, H1, I1, r1, q1⟩ => ?_)
  exact thn (hr pos pins s1 σ H1 _ I1 q1) fun us s2 ⟨xs, H2, I2, r2, q2⟩ => ⟨x :: xs, H2, I2, .cons r1 r2, q2⟩

/-- a tuple, a list of written items -/
def tTup (t : TA) : TE := fun σ H Q => t σ H fun xs H1 => xs.length ≤ sizeLine ∧ ∀ p, H1 p = none → Q (.ref p) (upd H1 p (.tup xs))
def tLst (t : TA) : TE := fun σ H Q => t σ H fun xs H1 => xs.length ≤ sizeLine ∧ ∀ p, H1 p = none → Q (.ref p) (upd H1 p (.lst xs))
theorem pe_tup {x1} (h : PA X es t) : PE X (.Tuple es x1 pos) (tTup t) := by
  intro pins s σ H Q I hq
  refine wpAny_Tuple_spliced (thn (h pos pins s σ H _ I hq) fun us s1 ⟨xs, H1, I1, r, z, q⟩ => ⟨by rw [← r.length]; exact z, ?_⟩)
  have hf : H1 s1.heap.objs.size = none := I1.hok.fresh (Nat.le_refl _)
  refine ⟨.ref s1.heap.objs.size, upd H1 s1.heap.objs.size (.tup xs), I1.laid (t' := s1.toks) (fun b u e => Heap.get?_push_of_some _ e) (Nat.le_refl _) ?_, rfl, q _ hf⟩
  exact ⟨z, us, r, ⟨_, Heap.get?_push_size _ rfl, rfl, _, rfl⟩⟩
theorem pe_lst (h : PA X es t) : PE X (.List es pos) (tLst t) := by
  intro pins s σ H Q I hq
  refine wpAny_List_spliced (thn (h pos pins s σ H _ I hq) fun us s1 ⟨xs, H1, I1, r, z, q⟩ => ⟨by rw [← r.length]; exact z, ?_⟩)
  have hf : H1 s1.heap.objs.size = none := I1.hok.fresh (Nat.le_refl _)
  refine ⟨.ref s1.heap.objs.size, upd H1 s1.heap.objs.size (.lst xs), I1.laid (t' := s1.toks) (fun b u e => Heap.get?_push_of_some _ e) (Nat.le_refl _) ?_, rfl, q _ hf⟩
  exact ⟨z, us, 0, r, Heap.get?_push_size _ rfl⟩
end

/-! ### what a def promises -/
/-- a def's promise: the bound arguments in the parameters' order, the heap, the wanted end, the wanted exception -/
abbrev Sp := List V → Hp → VK → XK → Prop
/-- how an exception lies behind a call (file 08 gives it): the callers' frames, abstract heap and state ahead of the call, the wish, the exception, the state -/
abbrev CXT := List Env → Hp → Shared → XK → Value → Shared → Prop

/-- the state at a call -/
structure Env0 (P : Program) (w : World) (K : PySem.W.Frag) (mg : Str → Option Value) (base : Heap) (A : Around) (outer : List Env) (s : Shared) (H : Hp) : Prop where
  frames : A.frames = some outer
  mod : Mod K mg base
  bs : ∀ b o, base.get? b = some o → s.heap.get? b = some o ∧ H b = none
  bsz : base.objs.size ≤ s.heap.objs.size
  funs : s.heap.FunFrames base outer
  frf : ∀ b ∈ frs outer, H b = none
  hok : HOk P w H s.heap
  bare : AllBare s.gens
/-- a call's end -/
def CE (outer : List Env) (P : Program) (w : World) (H : Hp) (s : Shared) (Q : VK) (u : Value) (s' : Shared) : Prop :=
  ∃ v H', s'.os = s.os ∧ AllBare s'.gens ∧ Un (frs outer) [] H H' s.heap s'.heap ∧ HOk P w H' s'.heap ∧ RelV v u ∧ Q v H'
def CR (CX : CXT) (outer : List Env) (P : Program) (w : World) (H : Hp) (s : Shared) (Q : VK) (E : XK) (r : Result) (s' : Shared) : Prop :=
  match r with
  | .ok (.ret u) => CE outer P w H s Q u s'
  | .ok _ => False
  | .error e => CX outer H s E e s'
structure FnOk (P : Program) (w : World) (K : PySem.W.Frag) (mg : Str → Option Value) (base : Heap) (CX : CXT) (k : Nat) (f : Addr) (fd : FuncData) (ps : List Str) (sp : Sp) : Prop where
  len : ∀ vs H Q E, sp vs H Q E → vs.length = ps.length
  run : ∀ (A : Around) (outer : List Env) (s : Shared) (H : Hp) (args : Args) (us : List Value) (vs : List V) (Q : VK) (E : XK), Room k A → Env0 P w K mg base A outer s H → BindsTo s fd args (ps.zip us) → Vals vs us → sp vs H Q E →
    codeAny (model P w) A (.call (.ref f) args) (CR CX outer P w H s Q E) s
theorem FnOk.mono {P : Program} {w : World} {K : PySem.W.Frag} {mg : Str → Option Value} {base : Heap} {CX : CXT} {j k : Nat} {f : Addr} {fd : FuncData} {ps : List Str} {sp : Sp} (F : FnOk P w K mg base CX j f fd ps sp) (h : j ≤ k) :
    FnOk P w K mg base CX k f fd ps sp := ⟨F.len, fun A outer s H args us vs Q E hr => F.run A outer s H args us vs Q E (hr.mono h)⟩
/-- a weaker promise -/
theorem FnOk.imp {P : Program} {w : World} {K : PySem.W.Frag} {mg : Str → Option Value} {base : Heap} {CX : CXT} {k : Nat} {f : Addr} {fd : FuncData} {ps : List Str} {sp sp' : Sp} (F : FnOk P w K mg base CX k f fd ps sp)
    (h : ∀ vs H Q E, sp' vs H Q E → sp vs H Q E) : FnOk P w K mg base CX k f fd ps sp' :=
  ⟨fun vs H Q E q => F.len vs H Q E (h _ _ _ _ q), fun A outer s H args us vs Q E hr he hb hv hs => F.run A outer s H args us vs Q E hr he hb hv (h _ _ _ _ hs)⟩

theorem Env0.make {P : Program} {w : World} {K : PySem.W.Frag} {mg : Str → Option Value} {base : Heap} {A : Around} {outer : List Env} {s : Shared} {H : Hp} (e : Env0 P w K mg base A outer s H) (C : Addr) (us : List Value) (kw : List (Str × Value)) :
    Env0 P w K mg base (A.under (.builtin "type.__call__" ⟨.ref C :: us, kw⟩)) outer s H := ⟨by first | exact e.frames | (simpa [Around.under, Code.envs, Code.isFrame, pushEnvs] using e.frames), e.mod, e.bs, e.bsz, e.funs, e.frf, e.hok, e.bare⟩
theorem Env0.in1 {P : Program} {w : World} {K : PySem.W.Frag} {mg : Str → Option Value} {base : Heap} {A : Around} {outer : List Env} {s : Shared} {H : Hp} (e : Env0 P w K mg base A outer s H) :
    Env0 P w K mg base A.in1 outer s H := ⟨e.frames, e.mod, e.bs, e.bsz, e.funs, e.frf, e.hok, e.bare⟩

section
variable {X : Cx} {pins : List (Addr × Obj)} {σ : St} {H : Hp} {s s' : Shared}
/-- from a body: what a callee wants -/
theorem Inv.env0 (I : Inv X pins σ H s) : Env0 X.prog X.w X.K X.mg X.base X.A X.stack s H :=
  ⟨I.ok.frames, I.ok.mod, I.bs, Nat.le_trans I.ok.bsz I.sz, I.stack, I.stkFree, I.hok, I.bare⟩
/-- behind a call -/
theorem Inv.after {Q : VK} {u : Value} (I : Inv X pins σ H s) (h : CE X.stack X.prog X.w H s Q u s') : EP X pins σ Q u s' := by
  obtain ⟨v, H', os, bare, un, hok, r, q⟩ := h
  obtain ⟨hh, g, d, t, os'⟩ := s'
  obtain rfl : os' = s.os := os
  exact ⟨v, H', I.call (h' := hh) (g' := g) (d' := d) (t' := t) (ch := []) un hok bare (fun b z => absurd z (by simp)), r, q⟩
end

/-! ### calls -/
/-- f(..): the written arguments, then the defaults dvs; E: what is wanted of an exception -/
def tCall (sp : Sp) (dvs : List V) (E : XK) (t : TA) : TE := fun σ H Q => t σ H fun vs H1 => sp (vs ++ dvs) H1 Q E
/-- o.m(..) of an instance of the class at C -/
def tMeth (C : Addr) (m : Str) (sp : Sp) (dvs : List V) (E : XK) (ta : TE) (t : TA) : TE := fun σ H Q => ta σ H fun x H1 => ∃ a dx fs, x = .ref a ∧ H1 a = some (.ins C dx fs) ∧ fs.lookup m = none ∧
  t σ H1 fun vs H2 => sp (x :: (vs ++ dvs)) H2 Q E
/-- C(..): a new instance and its dict, then __init__ -/
def tMake (C : Addr) (sp : Sp) (dvs : List V) (E : XK) (t : TA) : TE := fun σ H Q => t σ H fun vs H1 => ∀ x dx, H1 x = none → H1 dx = none → dx ≠ x →
  sp (.ref x :: (vs ++ dvs)) (upd (upd H1 dx (.own x)) x (.ins C dx [])) (fun v H2 => v = .non ∧ Q (.ref x) H2) E

/-- how the parameters are bound: us the positional arguments, kw the keywords' values by name, ds the defaults that fill up -/
def Binds (K : PySem.W.Frag) (fd : FuncData) (ps : List Str) (ds : List Value) : Prop :=
  ∀ (s : Shared) (us : List Value), K.In s.heap → (us ++ ds).length = ps.length → BindsTo s fd ⟨us, []⟩ (ps.zip (us ++ ds))
/-- every parameter is given -/
theorem Binds.all {K : PySem.W.Frag} {fd : FuncData} {ps : List Str} (h : ∀ us : List Value, us.length = ps.length → bindArgs fd ⟨us, []⟩ = pure (ps.zip us)) : Binds K fd ps [] := fun s us _ hl => by
  rw [List.append_nil] at hl ⊢
  exact .of_eq (h us hl)

/-- an exception of a callee reaches what this body wants of exceptions -/
def Passes (CX : CXT) (X : Cx) (E : XK) : Prop := ∀ (pins : List (Addr × Obj)) (σ : St) (H : Hp) (s : Shared) (e : Value) (s' : Shared), Inv X pins σ H s → CX X.stack H s E e s' → X.xe e s'

section
variable {X : Cx} {CX : CXT} {k : Nat} {f C : Addr} {fd : FuncData} {ps : List Str} {sp : Sp} {dvs : List V} {ds : List Value} {E : XK} {x m : Str} {p pos apos : Pos} {e o : Expr} {es : List Expr} {ta : TE} {t : TA}

/-- the callee runs -/
theorem run_fn {pins : List (Addr × Obj)} {σ : St} {H : Hp} {s : Shared} {Q : VK} {us : List Value} {vs : List V} (F : FnOk X.prog X.w X.K X.mg X.base CX k f fd ps sp) (hr : Room k X.A) (hb : Binds X.K fd ps ds) (hd : Vals dvs ds) (hx : Passes CX X E)
    (I : Inv X pins σ H s) (r : Vals vs us) (h : sp (vs ++ dvs) H Q E) : wpAny (model X.prog X.w) X.A (call (.ref f) us) (EP X pins σ Q) X.xe s := by
  have r2 : Vals (vs ++ dvs) (us ++ ds) := r.append hd
  have hl : (us ++ ds).length = ps.length := by rw [← r2.length]; exact F.len _ _ _ _ h
  refine wpAny_call (codeAny_mono (F.run X.A X.stack s H ⟨us, []⟩ (us ++ ds) (vs ++ dvs) Q E hr I.env0 (hb s us I.kIn hl) r2 h) fun r s' hq => ?_)
  cases r with
  | error e => exact hx pins σ H s e s' I hq
  | ok fl =>
    cases fl with
    | ret u => exact I.after hq
    | next => exact False.elim hq
    | brk => exact False.elim hq
    | cont => exact False.elim hq

theorem pe_call (F : FnOk X.prog X.w X.K X.mg X.base CX k f fd ps sp) (hr : Room k X.A) (hg : Gl X x) (hm : X.mg x = some (.ref f)) (hk : PySem.W.keepIn X.K (.ref f) = true) (hb : Binds X.K fd ps ds) (hd : Vals dvs ds) (hx : Passes CX X E)
    (ha : PA X (e :: es) t) (hdb : (x == ("__debug__" : Str)) = false := by decide) (he : starEach (e :: es) X.env = (false, eval e X.env) :: starEach es X.env := by rfl) (hpl : (backTo pos (starEach es X.env)).any (·.1) = false := by rfl) :
    PE X (.Call (.Name x p) (e :: es) [] pos) (tCall sp dvs E t) := by
  intro pins s σ H Q I h
  refine wpAny_Call_Name_kw (ld_glob I hg hm ?_ hdb)
  refine PySem.W.callWith_K (h₀ := X.base) I.ok.mod.kin hk (thn (ha pos pins s σ H _ I h) fun us s1 ⟨vs, H1, I1, r, q⟩ => ⟨I1.kIn, ?_⟩) he hpl
  exact run_fn F hr hb hd hx I1 r q
/-- what a class must have to be made -/
structure Mk (K : PySem.W.Frag) (C f : Addr) : Prop where
  makes : PySem.W.makesIn K C = true
  init : PySem.W.findIn K (.ref C) "__init__" = some (some (.ref f))
  fn : PySem.W.isFn K (.ref f) = true
  kp : PySem.W.keepIn K (.ref C) = true

end

/-! ### keywords -/
/-- the values of the keywords, from the left -/
def PK (X : Cx) (kws : List Keyword) (t : TA) : Prop :=
  ∀ (pos : Pos) (pins : List (Addr × Obj)) (s : Shared) (σ : St) (H : Hp) (Q : List V → Hp → Prop), Inv X pins σ H s → t σ H Q → wpAny (model X.prog X.w) X.A (evalAll ((backToKw pos (keywordEach kws X.env)).map (·.2))) (AP X pins σ Q) X.xe s
section
variable {X : Cx} {CX : CXT} {k : Nat} {f C : Addr} {fd : FuncData} {ps ks : List Str} {sp : Sp} {E : XK} {x m : Str} {p pos apos kpos : Pos} {e o : Expr} {es : List Expr} {kws : List Keyword} {te ta : TE} {t tk : TA} {nm : Option Str}
/-- how a call with keywords binds: g puts the positional values us and the keywords' values ws (names ks) in the parameters' order, defaults among them -/
structure KBinds (K : PySem.W.Frag) (fd : FuncData) (ps ks : List Str) (g : List Value → List Value → List Value) (gV : List V → List V → List V) : Prop where
  to : ∀ (s : Shared) (us ws : List Value), K.In s.heap → (g us ws).length = ps.length → BindsTo s fd ⟨us, ks.zip ws⟩ (ps.zip (g us ws))
  rel : ∀ {vs : List V} {us : List Value} {zs : List V} {ws : List Value}, Vals vs us → Vals zs ws → Vals (gV vs zs) (g us ws)
def tCallK (sp : Sp) (gV : List V → List V → List V) (E : XK) (t tk : TA) : TE := fun σ H Q => t σ H fun vs H1 => tk σ H1 fun zs H2 => sp (gV vs zs) H2 Q E
variable {g : List Value → List Value → List Value} {gV : List V → List V → List V}
end

/-! ### a def's body keeps its promise -/
/-- names: the parameters first -/
structure FnScope (N P : List Str) (sc : Scope) : Prop where
  kind : sc.kind = .function
  co : sc.isCoroutine = false
  gen : sc.isGenerator = false
  nd : N.Nodup
  pre : N.take P.length = P
  par : ∀ x ∈ P, sc.names.lookup x = some .local ∨ sc.names.lookup x = some .cell
  nofree : ∀ y ∈ sc.names, y.2 ≠ .free

theorem bindL_out {kindOf : Str → Option NameKind} {x : Str} : ∀ {binds : List (Str × Value)} {m : Str → Option Value}, (∀ v, (x, v) ∉ binds) → bindL kindOf binds m x = m x
  | [], _, _ => rfl
  | (n, v) :: r, m, h => by
    unfold bindL
    rw [bindL_out fun w hw => h w (List.mem_cons_of_mem _ hw)]
    split
    · have : x ≠ n := by rintro rfl; exact h v List.mem_cons_self
      simp [this]
    · rfl
theorem bindC_out {kindOf : Str → Option NameKind} {x : Str} : ∀ {binds : List (Str × Value)} {m : Str → Option Value}, (∀ v, (x, v) ∉ binds) → bindC kindOf binds m x = m x
  | [], _, _ => rfl
  | (n, v) :: r, m, h => by
    unfold bindC
    rw [bindC_out fun w hw => h w (List.mem_cons_of_mem _ hw)]
    split
    · rfl
    · have : x ≠ n := by rintro rfl; exact h v List.mem_cons_self
      simp [this]
theorem bindL_get {kindOf : Str → Option NameKind} {x : Str} {v : Value} : ∀ {P : List Str} {vs : List Value} {i : Nat} {m : Str → Option Value}, P.Nodup → P[i]? = some x → vs[i]? = some v → kindOf x = some .local →
    bindL kindOf (P.zip vs) m x = some v
  | [], _, _, _, _, h, _, _ => by simp at h
  | _ :: _, [], _, _, _, _, h, _ => by simp at h
  | p :: P, w :: vs, 0, m, nd, h1, h2, hk => by
    simp at h1 h2; subst h1; subst h2
    show bindL kindOf ((p, w) :: P.zip vs) m p = _
    unfold bindL
    rw [bindL_out fun v hv => (List.nodup_cons.mp nd).1 (List.of_mem_zip hv).1, if_pos hk]
    simp
  | p :: P, w :: vs, i + 1, m, nd, h1, h2, hk => by
    show bindL kindOf ((p, w) :: P.zip vs) m x = _
    unfold bindL
    exact bindL_get (i := i) (List.nodup_cons.mp nd).2 (by simpa using h1) (by simpa using h2) hk
theorem bindC_get {kindOf : Str → Option NameKind} {x : Str} {v : Value} : ∀ {P : List Str} {vs : List Value} {i : Nat} {m : Str → Option Value}, P.Nodup → P[i]? = some x → vs[i]? = some v → kindOf x ≠ some .local →
    bindC kindOf (P.zip vs) m x = some v
  | [], _, _, _, _, h, _, _ => by simp at h
  | _ :: _, [], _, _, _, _, h, _ => by simp at h
  | p :: P, w :: vs, 0, m, nd, h1, h2, hk => by
    simp at h1 h2; subst h1; subst h2
    show bindC kindOf ((p, w) :: P.zip vs) m p = _
    unfold bindC
    rw [bindC_out fun v hv => (List.nodup_cons.mp nd).1 (List.of_mem_zip hv).1, if_neg hk]
    simp
  | p :: P, w :: vs, i + 1, m, nd, h1, h2, hk => by
    show bindC kindOf ((p, w) :: P.zip vs) m x = _
    unfold bindC
    exact bindC_get (i := i) (List.nodup_cons.mp nd).2 (by simpa using h1) (by simpa using h2) hk

/-- the names' values at the entry -/
def start (N : List Str) (vs : List V) : St := vs.map some ++ List.replicate (N.length - vs.length) none

/-- the context of a def's body, at its entry; an exception leaves the frame, then lies as CX says -/
def cxOf (CX : CXT) (P : Program) (w : World) (K : PySem.W.Frag) (mg : Str → Option Value) (base : Heap) (N : List Str) (qual : Str) (scope : Scope) (f : Addr) (cd : Value) (A : Around) (outer : List Env) (s : Shared) (H : Hp) (E : XK) : Cx where
  prog := P
  w := w
  K := K
  mg := mg
  base := base
  A := A.deeper (envOfC qual scope s.heap.objs.size f cd)
  N := N
  s₀ := s
  H₀ := H
  env := envOfC qual scope s.heap.objs.size f cd
  outer := outer
  stack := envOfC qual scope s.heap.objs.size f cd :: outer
  ex := []
  calm := true
  fn := fun _ => true
  pn := []
  xe := fun e s' => wpAny (model P w) (A.deeper (envOfC qual scope s.heap.objs.size f cd)) (leaving (envOfC qual scope s.heap.objs.size f cd) e) (fun _ s'' => CX outer H s E e s'') (fun e' s'' => CX outer H s E e' s'') s'

theorem cell_has {sc : Scope} {n : Nat} {x : Str} (h : sc.names.lookup x = some .cell) : ∃ c, (cellsFrom n sc.names []).lookup x = some c := by
  have q := PySem.W.cellsFrom_some sc.names n [] (.inl h)
  exact Option.isSome_iff_exists.mp q

theorem inv_start {CX : CXT} {P : Program} {w : World} {K : PySem.W.Frag} {mg : Str → Option Value} {base : Heap} {N ps : List Str} {qual : Str} {scope : Scope} {f : Addr} {cd : Value} {A : Around} {outer : List Env} {s s1 : Shared} {H : Hp} {E : XK} {us : List Value} {vs : List V}
    (S : FnScope N ps scope) (hd : A.handled = none) (e0 : Env0 P w K mg base A outer s H) (hl : vs.length = ps.length) (r : Vals vs us)
    (x : InCallC s s.heap.objs.size (bindL (envOfC qual scope s.heap.objs.size f cd).kindOf (ps.zip us) fun _ => none) (cellsFrom (s.heap.objs.size + 1) scope.names []) (bindC (envOfC qual scope s.heap.objs.size f cd).kindOf (ps.zip us) fun _ => none) s1) :
    Inv (cxOf CX P w K mg base N qual scope f cd A outer s H E) [] (start N vs) H s1 := by
  have hpl : ps.length ≤ N.length := by have := congrArg List.length S.pre; rw [List.length_take] at this; omega
  obtain ⟨h1, tk, rfl, hk⟩ := x.done
  have noA : ∀ b : Addr, b ∉ (cxOf CX P w K mg base N qual scope f cd A outer s H E).ex := fun b z => absurd (show b ∈ ([] : List Addr) from z) (by simp)
  refine ⟨⟨e0.mod, S.kind, rfl, rfl, Nat.le_refl _, fun y z c h1 h2 => ?_, fun y hy => ?_, fun y c _ h => ?_, fun _ => hd, Around.frames_deeper e0.frames, .inr ⟨rfl, rfl⟩, fun b z => absurd z (noA b), e0.bs, e0.bsz, fun b _ _ => noA b, fun b z => absurd z (noA b), e0.funs, e0.frf⟩,
    rfl, e0.bare, Un.kept hk, ⟨_, x.toInCall.ns, fun i y v h1 h2 h3 => ?_⟩, fun y c h => ⟨_, x.cell y c h⟩, e0.hok.fresh (Nat.le_refl _), fun y c h => ?_, fun p hp => absurd (show p ∈ ([] : List (Addr × Obj)) from hp) (by simp), e0.hok.kept hk, ?_⟩
  · exact name_of_addr x.apart (PySem.mem_of_lookup h1) (PySem.mem_of_lookup h2)
  · have hy : scope.names.lookup y = some .cell ∨ scope.names.lookup y = some .free := hy
    rcases hy with hy | hy
    · exact cell_has hy
    · exact absurd rfl (S.nofree _ (PySem.mem_of_lookup hy))
  · exact Nat.le_of_lt (x.above y c (PySem.mem_of_lookup h))
  · have hi : i < vs.length := by
      unfold start at h2
      by_cases hi : i < vs.length
      · exact hi
      · rw [List.getElem?_append_right (by simpa using hi)] at h2
        rw [List.getElem?_replicate] at h2
        split at h2 <;> cases h2
    have ha : vs[i]? = some v := by
      unfold start at h2
      rw [List.getElem?_append_left (by simpa using hi), List.getElem?_map] at h2
      cases e : vs[i]? with
      | none => rw [e] at h2; cases h2
      | some a => rw [e] at h2; cases h2; rfl
    obtain ⟨u, hu, rv⟩ := r.get ha
    have hp : ps[i]? = some y := by
      rw [← S.pre, List.getElem?_take_of_lt (by omega)]; exact h1
    have ndP : ps.Nodup := by rw [← S.pre]; exact S.nd.sublist (List.take_sublist _ _)
    refine ⟨u, rv, ?_⟩
    rcases S.par y (List.mem_of_getElem? hp) with k | k
    · exact .inl ⟨k, bindL_get ndP hp hu k⟩
    · obtain ⟨c, e⟩ := cell_has (n := s.heap.objs.size + 1) k
      refine .inr ⟨.inl k, c, e, ?_⟩
      have q := x.cell y c e
      rw [bindC_get ndP hp hu (by show scope.names.lookup y ≠ _; rw [k]; decide)] at q
      exact q
  · exact e0.hok.fresh (Nat.le_of_lt (x.above y c (PySem.mem_of_lookup h)))
  · unfold start
    show _ = N.length
    rw [List.length_append, List.length_map, List.length_replicate]
    omega

/-- THE RULE: a def (or a method) of the text, by its body. The body's reading t is chosen for each entry; it is run at the parameters' values -/
theorem fn_of {CX : CXT} {P : Program} {w : World} {K : PySem.W.Frag} {mg : Str → Option Value} {base : Heap} {k : Nat} {f : Addr} {name qual : Str} {params : Arguments} {body : List Stmt} {scope : Scope} {dV kV doc pm cdv ct oc : Value} {an od : Option Addr}
    {osl : Array (Option Value)} {N ps : List Str} {sp : Sp} (lk : K.lookup f = some ⟨oc, od, .func (PySem.W.fnOf name qual params body scope dV kV doc pm an cdv ct), osl⟩) (hcd : PySem.W.codeIn K cdv qual = true) (S : FnScope N ps scope)
    (len : ∀ vs H Q E, sp vs H Q E → vs.length = ps.length)
    (hbody : ∀ (A : Around) (outer : List Env) (s : Shared) (H : Hp) (vs : List V) (Q : VK) (E : XK), Room k (A.deeper (envOfC qual scope s.heap.objs.size f cdv)) → sp vs H Q E →
      ∃ t, PSs (cxOf CX P w K mg base N qual scope f cdv A outer s H E) body t ∧ t { nx := fun _ H' => Q .non H', rt := Q } (start N vs) H) :
    FnOk P w K mg base CX (k + 1) f (PySem.W.fnOf name qual params body scope dV kV doc pm an cdv ct) ps sp := by
  refine ⟨len, fun A outer s H args us vs Q E hr e0 hb r hsp => ?_⟩
  have hl := len _ _ _ _ hsp
  have KX : K.In s.heap := e0.mod.kin.keeps fun b o e => (e0.bs b o e).1
  have lim : s.heap.NoLimit := e0.mod.nolimit.keeps fun b o e => (e0.bs b o e).1
  have hkind : ∀ y ∈ ps.zip us, scope.names.lookup y.1 = some .local ∨ (scope.names.lookup y.1 = some .cell ∧ ((cellsFrom (s.heap.objs.size + 1) scope.names []).lookup y.1).isSome = true) := fun ⟨n, v⟩ hy => by
    rcases S.par n (List.of_mem_zip hy).1 with q | q
    · exact .inl q
    · exact .inr ⟨q, PySem.W.cellsFrom_some _ _ _ (.inl q)⟩
  refine codeAny_call_function hr.depth (KX _ _ lk) rfl S.co S.gen rfl (PySem.W.codeRec_of KX hcd) (hb _ _ _ _ ?_)
  refine wpAny_newFunctionEnv_cells S.kind hkind fun env he s1 x => ?_
  subst he
  refine ⟨lim.keeps x.toInCall.keep, codeAny_func ?_⟩
  obtain ⟨t, ht, hq⟩ := hbody A outer s H vs Q E (hr.deeper _) hsp
  have I : Inv (cxOf CX P w K mg base N qual scope f cdv A outer s H E) [] (start N vs) H s1 := inv_start S hr.hd e0 hl r x
  refine wpAny_mono (ht [] s1 (start N vs) H _ I hq) (fun fl s' hs => ?_) fun e s' hs => hs
  have fin : ∀ {σ' : St} {H' : Hp} {v : V} {u : Value}, Inv (cxOf CX P w K mg base N qual scope f cdv A outer s H E) [] σ' H' s' → RelV v u → Q v H' → CE outer P w H s Q u s' :=
    fun {σ' H' v u} J rv q => ⟨v, H', J.os, J.bare, J.base, J.hok, rv, q⟩
  cases fl with
  | ret u =>
    obtain ⟨v, σ', H', J, rv, q⟩ := hs
    exact fin J rv q
  | next =>
    obtain ⟨σ', H', J, q⟩ := hs
    exact fin (v := V.non) (u := Value.none) J rfl q
  | brk =>
    obtain ⟨_, _, _, q⟩ := hs
    exact False.elim q
  | cont =>
    obtain ⟨_, _, _, q⟩ := hs
    exact False.elim q
end L2

namespace L2
open PySem PySem.Spec PyProof.Rows
section
variable {X : Cx} {x : Str} {p pos : Pos} {e : Expr} {es : List Expr} {t : TA} {id T : String} {r : List V → Hp → VK → Prop}

def tCB (r : List V → Hp → VK → Prop) (t : TA) : TE := fun σ H Q => t σ H fun vs H1 => r vs H1 Q
/-- f(e, ..), f a built-in function -/
theorem pe_callB (hc : CallR X (.builtin id) r) (hg : Gl X x) (hm : X.mg x = none) (hv : bootBuiltins x = some (.builtin id)) (ha : PA X (e :: es) t) (hn : x ≠ "__name__" := by decide) (hdb : (x == ("__debug__" : Str)) = false := by decide)
    (he : starEach (e :: es) X.env = (false, eval e X.env) :: starEach es X.env := by rfl) (hpl : (backTo pos (starEach es X.env)).any (·.1) = false := by rfl) : PE X (.Call (.Name x p) (e :: es) [] pos) (tCB r t) := by
  intro pins s σ H Q I h
  refine wpAny_Call_Name_kw (ld_blt I hg hm hv ?_ hn hdb)
  exact PyProof.Rows.callWith_builtin1 (thn (ha pos pins s σ H _ I h) fun us s1 ⟨vs, H1, I1, r1, q1⟩ => hc pins s1 σ H1 vs us Q I1 r1 q1) he hpl
/-- T(e, ..), T a built-in type -/
theorem pe_callTy (hc : CallR X (.type T) r) (hg : Gl X x) (hm : X.mg x = none) (hv : bootBuiltins x = some (.type T)) (ha : PA X (e :: es) t) (hn : x ≠ "__name__" := by decide) (hdb : (x == ("__debug__" : Str)) = false := by decide)
    (he : starEach (e :: es) X.env = (false, eval e X.env) :: starEach es X.env := by rfl) (hpl : (backTo pos (starEach es X.env)).any (·.1) = false := by rfl) : PE X (.Call (.Name x p) (e :: es) [] pos) (tCB r t) := by
  intro pins s σ H Q I h
  refine wpAny_Call_Name_kw (ld_blt I hg hm hv ?_ hn hdb)
  exact PyProof.Rows.callWith_type1 (thn (ha pos pins s σ H _ I h) fun us s1 ⟨vs, H1, I1, r1, q1⟩ => hc pins s1 σ H1 vs us Q I1 r1 q1) he hpl
end
end L2

namespace HT
open PySem PyProof.Rows

/-- t < u of tuples of ints -/
def lexLt : List Int → List Int → Bool
  | [], [] => false
  | [], _ :: _ => true
  | _ :: _, [] => false
  | x :: xs, y :: ys => if x = y then lexLt xs ys else decide (x < y)
section
open PySem.SeqAt
open PySem.AutoSeq1 (wpAny_loadPart')
open PySem.MeetsSeq PySem.MeetsSeq2 PySem.MeetsSeq3

end

section
variable {prog : Program} {w : World} {A : Around} {E : Value → Shared → Prop} {s : Shared}

/-- t + u, t not empty -/
theorem cat_tup {t b : Addr} {vs ws : List Value} {Q : Value → Shared → Prop} (ht : IsTup s.heap t vs.toArray) (hb : IsTup s.heap b ws.toArray) (hv : vs ≠ [])
    (h1 : ws = [] → Q (.ref t) s) (h2 : ws ≠ [] → Q (.ref s.heap.objs.size) { s with heap := s.heap.push { cls := .type "tuple", data := .seq (vs ++ ws).toArray } })
    (hsz : vs.length + ws.length ≤ sizeLine) : wpAny (model prog w) A (binaryOp .Add (.ref t) (.ref b)) Q E s := by
  obtain ⟨⟨cls, dd, data, sl⟩, ho, hc, n, hd⟩ := id ht
  obtain ⟨⟨cls2, dd2, data2, sl2⟩, ho2, hc2, n2, hd2⟩ := id hb
  simp only at hc hd hc2 hd2
  subst hc hd hc2 hd2
  have e : vs.toArray ++ ws.toArray = (vs ++ ws).toArray := by simp
  by_cases hw : ws = []
  · exact concat_meets ⟨_, ho, rfl⟩ ⟨_, ho2, rfl⟩ noFill_tuple_add seq_tuple_add PySem.F.slot_tuple_add PySem.F.entry_tuple_add (PySem.F.args_tuple_add_2 _ _)
      (tuple_addW1 t b vs.toArray ws.toArray n n2 dd dd2 sl sl2 (by simpa using hv) (by simp [hw])) ⟨ho, ho2, h1 hw⟩
  · refine concat_meets ⟨_, ho, rfl⟩ ⟨_, ho2, rfl⟩ noFill_tuple_add seq_tuple_add PySem.F.slot_tuple_add PySem.F.entry_tuple_add (PySem.F.args_tuple_add_2 _ _)
      (tuple_addW2 t b vs.toArray ws.toArray n n2 dd dd2 sl sl2 (by simpa using hv) (by simpa using hw) (by rw [List.size_toArray, List.size_toArray]; exact hsz)) ⟨ho, ho2, ?_⟩
    rw [e]
    exact h2 hw

/-! ### t[a:b], not the whole -/
/-- a slice's bound as a place among n (d where it is left out) -/
def sIx (n d : Nat) : Option Int → Nat
  | none => d
  | some v => if v < 0 then (v + (n : Int)).toNat else min v.toNat n
theorem sIx_nat (n d k : Nat) : sIx n d (some (k : Int)) = min k n := by
  show (if (k : Int) < 0 then ((k : Int) + (n : Int)).toNat else min (k : Int).toNat n) = min k n
  rw [if_neg (by omega), Int.toNat_natCast]
theorem sIx_le (n d : Nat) (hd : d ≤ n) (o : Option Int) : sIx n d o ≤ n := by
  cases o with
  | none => exact hd
  | some v =>
    show (if v < 0 then (v + (n : Int)).toNat else min v.toNat n) ≤ n
    by_cases hv : v < 0
    · rw [if_pos hv]; omega
    · rw [if_neg hv]; exact Nat.min_le_right _ _
theorem clip_eq (v : Int) (n d : Nat) : (if v < 0 then max (v + (n : Int)) 0 else min v (n : Int)) = ((sIx n d (some v) : Nat) : Int) := by
  show (if v < 0 then max (v + (n : Int)) 0 else min v (n : Int)) = (((if v < 0 then (v + (n : Int)).toNat else min v.toNat n) : Nat) : Int)
  by_cases hv : v < 0
  · simp only [if_pos hv]; omega
  · simp only [if_neg hv]; omega
theorem adjust_gen (lo hi : Option Int) (n : Nat) : Builtin.Slice.sliceAdjust lo hi 1 (n : Int) = (((sIx n 0 lo : Nat) : Int), ((sIx n n hi : Nat) : Int)) := by
  have h1 : ¬ ((1 : Int) < 0) := by omega
  unfold Builtin.Slice.sliceAdjust
  simp only [h1, if_false]
  refine Prod.ext ?_ ?_
  · cases lo with
    | none => rfl
    | some v => exact clip_eq v n 0
  · cases hi with
    | none => rfl
    | some v => exact clip_eq v n n
theorem places_gen (i j : Nat) : Builtin.Slice.slicePlaces (i : Int) (j : Int) 1 = j - i := by
  unfold Builtin.Slice.slicePlaces
  have h1 : (1 : Int) > 0 := by omega
  simp only [h1, if_true, Int.ediv_one]
  split <;> omega
theorem slicePart_ {v : Value} {o : Option Int} {Q : Option Int → Shared → Prop} (p : IsPart v o) (h : Q o s) : wpAny (model prog w) A (Builtin.Slice.slicePartIndex v) Q E s := by
  cases p with
  | none => exact slicePart_none h
  | int i t => exact slicePart_int h
theorem sliceApplied_gen {sl : Addr} {vl vu : Value} {lo hi : Option Int} {n : Nat} {Q : Int × Int × Nat → Shared → Prop} (hs : s.heap.IsSliceOf sl vl vu .none) (pl : IsPart vl lo) (pu : IsPart vu hi)
    (h : Q (((sIx n 0 lo : Nat) : Int), 1, sIx n n hi - sIx n 0 lo) s) : wpAny (model prog w) A (Builtin.Slice.sliceApplied (.ref sl) (pure (n : Int))) Q E s := by
  obtain ⟨os, hos, hcs, hds⟩ := id hs
  unfold Builtin.Slice.sliceApplied Builtin.Slice.sliceFields
  refine wpAny_bind (wpAny_bind (wpAny_field hos hds (x := vl) rfl (wpAny_bind (wpAny_field hos hds (x := vu) rfl (wpAny_bind (wpAny_field hos hds (x := .none) rfl (wpAny_pure ?_)))))))
  refine wpAny_bind (slicePart_none ?_)
  show wpAny _ _ (if ((1 : Int) == 0) = true then _ else _) _ _ s
  rw [if_neg (by decide)]
  refine wpAny_bind (slicePart_ pl (wpAny_bind (slicePart_ pu (wpAny_bind (wpAny_pure ?_)))))
  show wpAny _ _ (match Builtin.Slice.sliceAdjust lo hi 1 (n : Int) with | (lo, hi) => pure (lo, (1 : Int), Builtin.Slice.slicePlaces lo hi 1)) _ _ s
  rw [adjust_gen lo hi n]
  show wpAny _ _ (pure (((sIx n 0 lo : Nat) : Int), (1 : Int), Builtin.Slice.slicePlaces ((sIx n 0 lo : Nat) : Int) ((sIx n n hi : Nat) : Int) 1)) _ _ s
  rw [places_gen]
  exact wpAny_pure h
theorem pick_gen (xs : Array Value) (i k : Nat) : ((List.range k).filterMap fun (m : Nat) => xs[((i : Int) + (m : Int) * 1).toNat]?).toArray = ((xs.toList.drop i).take k).toArray := by
  have e : (fun (m : Nat) => xs[((i : Int) + (m : Int) * 1).toNat]?) = fun m => xs[i + m]? := by
    funext m
    have : ((i : Int) + (m : Int) * 1).toNat = i + m := by omega
    rw [this]
  rw [e]
  have := pick_run xs i k
  rw [List.filterMap_map] at this
  have e2 : ((fun x => xs[x]?) ∘ fun x => i + x) = fun m => xs[i + m]? := rfl
  rw [e2] at this
  rw [this]

theorem getItem_tuple_cut {t sl : Addr} {items : Array Value} {vl vu : Value} {lo hi : Option Int} {Q : Value → Shared → Prop} (ht : IsTup s.heap t items) (hs : s.heap.IsSliceOf sl vl vu .none) (pl : IsPart vl lo) (pu : IsPart vu hi)
    (hw : ¬ (sIx items.size 0 lo = 0 ∧ sIx items.size items.size hi = items.size))
    (h : Q (.ref s.heap.objs.size) { s with heap := s.heap.push { cls := .type "tuple", data := .seq ((items.toList.drop (sIx items.size 0 lo)).take (sIx items.size items.size hi - sIx items.size 0 lo)).toArray } })
    (hsz : items.size ≤ sizeLine) : wpAny (model prog w) A (getItem (.ref t) (.ref sl)) Q E s := by
  have htake : sizeOk (.seq ((items.toList.drop (sIx items.size 0 lo)).take (sIx items.size items.size hi - sIx items.size 0 lo)).toArray) := by
    show ((items.toList.drop (sIx items.size 0 lo)).take (sIx items.size items.size hi - sIx items.size 0 lo)).toArray.size ≤ sizeLine
    rw [List.size_toArray, List.length_take, List.length_drop, Array.length_toList]
    omega
  have hj : sIx items.size items.size hi ≤ items.size := sIx_le _ _ (Nat.le_refl _) hi
  obtain ⟨os, hos, hcs, hds⟩ := id hs
  have hTs : s.TypeIs (.ref sl) "slice" := ⟨os, hos, hcs⟩
  unfold getItem
  try with_reducible refine wpAny_holding ?_
  first | refine wpAny_bind (wpAny_pure ?_) | skip
  refine wpAny_bind (wpAny_sequenceKey ht.typeIs (by decide) ?_)
  refine wpAny_bind (wpAny_callSpecial?_slot (name := Str.ofString "__getitem__") ht.typeIs PyProof.Rows.slot_tuple_getitem
    (wpAny_call_entry PyProof.Rows.slot_tuple_getitem ht.typeIs entry_tuple_getitem ?_ (args_tuple_getitem _ _)))
  show wpAny _ _ (Builtin.Tuple.tupleItemsOf (.ref t) >>= _) _ _ s
  refine wpAny_bind (tupleItemsOf_ ht ?_)
  refine wpAny_bind (wpAny_typeOf hTs ?_)
  rw [if_pos (by decide)]
  refine wpAny_bind (sliceApplied_gen hs pl pu ?_)
  have hno : ¬ ((((sIx items.size 0 lo : Nat) : Int) == 0 && (1 : Int) == 1 && (sIx items.size items.size hi - sIx items.size 0 lo) == items.size) = true) := by
    intro q
    rw [Bool.and_eq_true, Bool.and_eq_true] at q
    have q1 : ((sIx items.size 0 lo : Nat) : Int) = 0 := eq_of_beq q.1.1
    have q2 : sIx items.size items.size hi - sIx items.size 0 lo = items.size := eq_of_beq q.2
    exact hw ⟨by omega, by omega⟩
  show wpAny _ _ (if (((sIx items.size 0 lo : Nat) : Int) == 0 && (1 : Int) == 1 && (sIx items.size items.size hi - sIx items.size 0 lo) == items.size) = true then _ else _) _ _ s
  rw [if_neg hno, pick_gen]
  first
    | exact wpAny_bind (m := Builtin.Tuple.tupleExact _) (wpAny_newObj_type (wpAny_pure ⟨_, rfl, wpAny_pure h⟩) htake)
    | exact wpAny_bind (m := Builtin.Tuple.tupleExact _) (wpAny_newObj_type (wpAny_bind (wpAny_pure (wpAny_pure ⟨_, rfl, wpAny_pure h⟩))) htake)
    | exact wpAny_bind (wpAny_bind (m := Builtin.Tuple.tupleExact _) (wpAny_newObj_type (wpAny_pure (wpAny_pure ⟨_, rfl, wpAny_pure h⟩)) htake))
    | exact wpAny_bind (wpAny_bind (m := Builtin.Tuple.tupleExact _) (wpAny_newObj_type (wpAny_pure ⟨_, rfl, wpAny_pure h⟩) htake))
end
end HT

namespace L2
open PySem PySem.Spec PyProof.Rows

/-! ### the parts of a slice -/
abbrev TO := St → Hp → (Option Int → Hp → Prop) → Prop
/-- a slice's part (left out, or an int) -/
def PO (X : Cx) (e : Option Expr) (t : TO) : Prop :=
  ∀ (pins : List (Addr × Obj)) (s : Shared) (σ : St) (H : Hp) (Q : Option Int → Hp → Prop), Inv X pins σ H s → t σ H Q →
    wpAny (model X.prog X.w) X.A (evalPart e X.env) (fun u s' => ∃ o H', Inv X pins σ H' s' ∧ IsPart u o ∧ Q o H') X.xe s
def tNoPart : TO := fun _ H Q => Q none H
def tPart (t : TE) : TO := fun σ H Q => t σ H fun x H1 => ∃ i, x = .int i ∧ Q (some i) H1

section
variable {X : Cx} {e : Expr} {te : TE} {lo hi : Option Expr} {tl th : TO} {pos p2 : Pos}

theorem po_none : PO X none tNoPart := by
  intro pins s σ H Q I h
  rw [evalPart_none]
  exact wpAny_pure ⟨none, H, I, .none, h⟩
theorem po_some (h : PE X e te) : PO X (some e) (tPart te) := by
  intro pins s σ H Q I hw
  rw [evalPart_some]
  refine thn (h pins s σ H _ I hw) fun u s1 ⟨x, H1, I1, r1, q1⟩ => ?_
  obtain ⟨i, rfl, q⟩ := q1
  obtain ⟨t, rfl⟩ := r1
  exact ⟨some i, H1, I1, .int i t, q⟩

/-- what a slice of a value is, by values: the slice object stands at sl -/
def SlR (X : Cx) (r : V → Option Int → Option Int → Hp → VK → Prop) : Prop :=
  ∀ (pins : List (Addr × Obj)) (s : Shared) (σ : St) (H : Hp) (x : V) (v vl vu : Value) (lo hi : Option Int) (sl : Addr) (Q : VK), Inv X pins σ H s → RelV x v → s.heap.IsSliceOf sl vl vu .none → IsPart vl lo → IsPart vu hi → r x lo hi H Q →
    ∃ T id, typeLookup (.type T) "__getitem__" = pure (some (.builtin id)) ∧ s.TypeIs v T ∧ wpAny (model X.prog X.w) X.A (getItem v (.ref sl)) (EP X pins σ Q) X.xe s
theorem SlR.or {r r' : V → Option Int → Option Int → Hp → VK → Prop} (h : SlR X r) (h' : SlR X r') : SlR X (fun x lo hi H Q => r x lo hi H Q ∨ r' x lo hi H Q) := by
  intro pins s σ H x v vl vu lo hi sl Q I rx hs pl pu q
  rcases q with q | q
  · exact h pins s σ H x v vl vu lo hi sl Q I rx hs pl pu q
  · exact h' pins s σ H x v vl vu lo hi sl Q I rx hs pl pu q
def tSl (r : V → Option Int → Option Int → Hp → VK → Prop) (te : TE) (tl th : TO) : TE := fun σ H Q => te σ H fun x H1 => tl σ H1 fun l H2 => th σ H2 fun u H3 => r x l u H3 Q
/-- a[lo:hi], any a -/
theorem pe_slice {r : V → Option Int → Option Int → Hp → VK → Prop} (hr : SlR X r) (he : PE X e te) (hl : PO X lo tl) (hu : PO X hi th) : PE X (.Subscript e (.Slice lo hi none p2) pos) (tSl r te tl th) := by
  intro pins s σ H Q I h
  refine Subscript_ (thn (he pins s σ H _ I h) fun v s1 ⟨x, H1, I1, r1, q1⟩ => ?_)
  refine wpAny_Slice (thn (hl pins s1 σ H1 _ I1 q1) fun vl s2 ⟨l, H2, I2, pl, q2⟩ => thn (hu pins s2 σ H2 _ I2 q2) fun vu s3 ⟨u, H3, I3, pu, q3⟩ => ?_)
  rw [evalPart_none]
  refine wpAny_pure ?_
  have I4 : Inv X pins σ H3 { s3 with heap := s3.heap.push { cls := .type "slice", data := .fields #[vl, vu, .none] } } := I3.kept (t' := s3.toks) fun b ob q => Heap.get?_push_of_some _ q
  obtain ⟨T, id, hT, ht, hg⟩ := hr pins { s3 with heap := s3.heap.push { cls := .type "slice", data := .fields #[vl, vu, .none] } } σ H3 x v vl vu l u s3.heap.objs.size Q I4 r1 (Heap.IsSliceOf.new ..) pl pu q3
  show wpAny (model X.prog X.w) X.A (subscriptTail e (.Slice lo hi none p2) v (.ref s3.heap.objs.size)) (EP X pins σ Q) X.xe { s3 with heap := s3.heap.push { cls := .type "slice", data := .fields #[vl, vu, .none] } }
  exact tail_any (ops := [.ref s3.heap.objs.size, v]) ht hT hg (by with_unfolding_all rfl)

/-- the items of xs[lo:hi] -/
def cutV (xs : List V) (lo hi : Option Int) : List V := (xs.drop (HT.sIx xs.length 0 lo)).take (HT.sIx xs.length xs.length hi - HT.sIx xs.length 0 lo)
theorem cutV_length (xs : List V) (lo hi : Option Int) : (cutV xs lo hi).length ≤ xs.length := by
  unfold cutV
  rw [List.length_take, List.length_drop]
  omega
/-- t[lo:hi], not the whole of it (the whole would be t itself) -/
def rSlT (K : PySem.W.Frag) : V → Option Int → Option Int → Hp → VK → Prop := fun x lo hi H Q => ∃ a xs, x = .ref a ∧ SqT K H a xs ∧
  ¬ (HT.sIx xs.length 0 lo = 0 ∧ HT.sIx xs.length xs.length hi = xs.length) ∧ ∀ p, H p = none → Q (.ref p) (upd H p (.tup (cutV xs lo hi)))
theorem sl_tup : SlR X (rSlT X.K) := by
  intro pins s σ H x v vl vu lo hi sl Q I rx hs pl pu h
  obtain ⟨a, xs, rfl, hx, hw, q⟩ := h
  cases rx
  obtain ⟨its, r, ht, hz⟩ := I.tuple hx
  have hlen : its.toArray.size = xs.length := by rw [List.size_toArray]; exact r.length.symm
  refine ⟨"tuple", _, PyProof.Rows.slot_tuple_getitem.lookup, ht.typeIs, ?_⟩
  refine HT.getItem_tuple_cut ht hs pl pu (by rw [hlen]; exact hw) ?_ (by rw [hlen]; exact hz)
  rw [hlen]
  refine ⟨.ref s.heap.objs.size, _, I.laid (t' := s.toks) (o := .tup (cutV xs lo hi)) (fun b ob q => Heap.get?_push_of_some _ q) (Nat.le_refl _) ?_, rfl, q _ (I.hok.fresh (Nat.le_refl _))⟩
  exact ⟨Nat.le_trans (cutV_length xs lo hi) hz, _, (r.drop (HT.sIx xs.length 0 lo)).take (HT.sIx xs.length xs.length hi - HT.sIx xs.length 0 lo), IsTup.new _ _⟩

/-! ### t < u, t + u -/
def rLtT (K : PySem.W.Frag) : R2 := fun x y H Q => ∃ a b ns ms, x = .ref a ∧ y = .ref b ∧ SqT K H a (ns.map V.int) ∧ SqT K H b (ms.map V.int) ∧ Q (.bl (HT.lexLt ns ms)) H
/-- t + u, t not empty: u empty gives t itself -/
def rCatT (K : PySem.W.Frag) : R2 := fun x y H Q => ∃ a b xs ys, x = .ref a ∧ y = .ref b ∧ SqT K H a xs ∧ SqT K H b ys ∧ xs ≠ [] ∧ xs.length + ys.length ≤ sizeLine ∧
  (ys = [] → Q (.ref a) H) ∧ (ys ≠ [] → ∀ p, H p = none → Q (.ref p) (upd H p (.tup (xs ++ ys))))
theorem Vals.nil_iff {xs : List V} {us : List Value} (r : Vals xs us) : us = [] ↔ xs = [] := by
  cases r with
  | nil => simp
  | cons _ _ => simp
theorem op_catT : OpR X (binaryOp .Add) (rCatT X.K) := by
  intro pins s σ H x y v u Q I rx ry h
  obtain ⟨a, b, xs, ys, rfl, rfl, ha, hb, hx, hz, q1, q2⟩ := h
  cases rx
  cases ry
  obtain ⟨its, r1, p1, _⟩ := I.tuple ha
  obtain ⟨its2, r2, p2, _⟩ := I.tuple hb
  refine HT.cat_tup p1 p2 (fun z => hx (r1.nil_iff.mp z)) (fun z => ⟨.ref a, H, I, rfl, q1 (r2.nil_iff.mp z)⟩) (fun z => ?_) (by rw [← r1.length, ← r2.length]; exact hz)
  refine ⟨.ref s.heap.objs.size, _, I.laid (t' := s.toks) (o := .tup (xs ++ ys)) (fun b ob q => Heap.get?_push_of_some _ q) (Nat.le_refl _) ?_, rfl, q2 (fun w => z (r2.nil_iff.mpr w)) _ (I.hok.fresh (Nat.le_refl _))⟩
  exact ⟨by rw [List.length_append]; exact hz, _, r1.append r2, IsTup.new _ _⟩
end
end L2

namespace L2
open PySem PySem.Spec PyProof.Rows

/-! ### places -/
/-- the place that an index of any sign means -/
def ixN (n : Nat) (i : Int) : Option Nat := if 0 ≤ i then (if i < n then some i.toNat else none) else if -(n : Int) ≤ i then some (i + n).toNat else none
def atI {α : Type} (xs : List α) (i : Int) : Option α := (ixN xs.length i).bind fun j => xs[j]?
theorem ixN_seq {n : Nat} {i : Int} {j : Nat} (h : ixN n i = some j) : seqIndex? i n = some j ∧ j < n ∧ -(n : Int) ≤ i ∧ i < n := by
  unfold ixN at h
  by_cases h0 : 0 ≤ i
  · rw [if_pos h0] at h
    by_cases h1 : i < n
    · rw [if_pos h1] at h
      have e : i.toNat = j := Option.some.inj h
      exact ⟨by rw [seqIndex_of h0 h1, e], by omega, by omega, h1⟩
    · rw [if_neg h1] at h; cases h
  · rw [if_neg h0] at h
    by_cases h1 : -(n : Int) ≤ i
    · rw [if_pos h1] at h
      have e : (i + n).toNat = j := Option.some.inj h
      exact ⟨by rw [seqIndex_neg (by omega) h1, e], by omega, h1, by omega⟩
    · rw [if_neg h1] at h; cases h
theorem atI_get {α : Type} {xs : List α} {i : Int} {v : α} (h : atI xs i = some v) : ∃ j, seqIndex? i xs.length = some j ∧ xs[j]? = some v ∧ j < xs.length ∧ -(xs.length : Int) ≤ i ∧ i < xs.length := by
  unfold atI at h
  cases e : ixN xs.length i with
  | none => rw [e] at h; cases h
  | some j =>
    rw [e] at h
    obtain ⟨h1, h2, h3, h4⟩ := ixN_seq e
    exact ⟨j, h1, h, h2, h3, h4⟩
theorem atI_nat {α : Type} {xs : List α} {j : Nat} {v : α} (h : xs[j]? = some v) : atI xs (j : Int) = some v := by
  have hj : j < xs.length := (List.getElem?_eq_some_iff.mp h).1
  have e : ixN xs.length (j : Int) = some j := by
    unfold ixN
    rw [if_pos (by omega), if_pos (by omega)]; simp
  unfold atI; rw [e]; exact h
/-! ### what may be subscripted -/
/-- what stands as an index of a plain subscript -/
def PlainIx (b : Expr) : Prop := ∀ o i, subscripted b false o i = operate [o, i] (getItem o i)
/-- a subscript by values -/
def IxR (X : Cx) (r : R2) : Prop :=
  ∀ (value slice : Expr) (pins : List (Addr × Obj)) (s : Shared) (σ : St) (H : Hp) (x y : V) (v u : Value) (Q : VK), Inv X pins σ H s → RelV x v → RelV y u → r x y H Q →
    subscripted slice false v u = operate [v, u] (getItem v u) → wpAny (model X.prog X.w) X.A (subscriptTail value slice v u) (EP X pins σ Q) X.xe s
/-- a call of a builtin's method by values: the receiver, the arguments -/
def MtR (X : Cx) (id : String) (r : V → List V → Hp → VK → Prop) : Prop :=
  ∀ (pins : List (Addr × Obj)) (s : Shared) (σ : St) (H : Hp) (x : V) (xs : List V) (v : Value) (us : List Value) (Q : VK), Inv X pins σ H s → RelV x v → Vals xs us → r x xs H Q →
    wpAny (model X.prog X.w) X.A (call (.builtin id) (v :: us)) (EP X pins σ Q) X.xe s
section
variable {X : Cx} {a b : Expr} {ta tb : TE} {pos : Pos}
theorem IxR.or {r r' : R2} (h : IxR X r) (h' : IxR X r') : IxR X (fun x y H Q => r x y H Q ∨ r' x y H Q) := by
  intro value slice pins s σ H x y v u Q I rx ry q hs
  rcases q with q | q
  · exact h value slice pins s σ H x y v u Q I rx ry q hs
  · exact h' value slice pins s σ H x y v u Q I rx ry q hs
theorem MtR.or {id : String} {r r' : V → List V → Hp → VK → Prop} (h : MtR X id r) (h' : MtR X id r') : MtR X id (fun x xs H Q => r x xs H Q ∨ r' x xs H Q) := by
  intro pins s σ H x xs v us Q I rx rs q
  rcases q with q | q
  · exact h pins s σ H x xs v us Q I rx rs q
  · exact h' pins s σ H x xs v us Q I rx rs q
/-- a[b] -/
theorem pe_ix {r : R2} (hr : IxR X r) (ha : PE X a ta) (hb : PE X b tb) (hs : PlainIx b) : PE X (.Subscript a b pos) (tOp r ta tb) := by
  intro pins s σ H Q I h
  exact Subscript_ (binT ha hb I h fun v u s2 x y H2 I2 rx ry q => hr a b pins s2 σ H2 x y v u Q I2 rx ry q (hs _ _))

def rIxL (K : PySem.W.Frag) : R2 := fun x y H Q => ∃ p xs i v, x = .ref p ∧ y = .int i ∧ SqL K H p xs ∧ atI xs i = some v ∧ Q v H
def rIxT (K : PySem.W.Frag) : R2 := fun x y H Q => ∃ p xs i v, x = .ref p ∧ y = .int i ∧ SqT K H p xs ∧ atI xs i = some v ∧ Q v H
def rIxS : R2 := fun x y H Q => ∃ z i c, x = .str z ∧ y = .int i ∧ z.length ≤ sizeLine ∧ atI z.cps.toList i = some c ∧ Q (.str ⟨#[c]⟩) H
theorem ix_list : IxR X (rIxL X.K) := by
  intro value slice pins s σ H x y v u Q I rx ry h hs
  obtain ⟨p, xs, i, z, rfl, rfl, hq, he, q⟩ := h
  cases rx
  obtain ⟨t, rfl⟩ := ry
  obtain ⟨its, r, pl, hz⟩ := I.list hq
  obtain ⟨j, h1, h2, h3, h4, h5⟩ := atI_get he
  obtain ⟨w, ew, rw'⟩ := r.get h2
  have hl := r.length
  have hn := line63
  have fin : EP X pins σ Q w s := ⟨z, H, I, rw', q⟩
  by_cases h0 : 0 ≤ i
  · have hj : i.toNat = j := by
      rw [seqIndex_of h0 h5] at h1
      exact Option.some.inj h1
    exact item_listR pl.isList h0 (by omega) (by rw [hj]; simpa using ew) fin hs
  · have hj : (i + (its.toArray.size : Int)).toNat = j := by
      rw [seqIndex_neg (by omega) h4] at h1
      rw [List.size_toArray, ← hl]
      exact Option.some.inj h1
    exact subscriptTail_builtinR (x := w) pl.isList.typeIs slot_list_getitem.lookup
      (wpAny_getItem_list_neg (Q := fun r s' => r = w ∧ EP X pins σ Q r s') pl.isList (by omega) (by rw [List.size_toArray] <;> omega) (by omega) (by rw [hj]; simpa using ew) ⟨rfl, fin⟩) hs
theorem ix_tup : IxR X (rIxT X.K) := by
  intro value slice pins s σ H x y v u Q I rx ry h hs
  obtain ⟨p, xs, i, z, rfl, rfl, hq, he, q⟩ := h
  cases rx
  obtain ⟨t, rfl⟩ := ry
  obtain ⟨its, r, pl, hz⟩ := I.tuple hq
  obtain ⟨j, h1, h2, h3, h4, h5⟩ := atI_get he
  obtain ⟨w, ew, rw'⟩ := r.get h2
  have hl := r.length
  have hn := line63
  have fin : EP X pins σ Q w s := ⟨z, H, I, rw', q⟩
  exact subscriptTail_builtinR (x := w) pl.typeIs slot_tuple_getitem.lookup
    (getItem_tuple (j := j) (Q := fun r s' => r = w ∧ EP X pins σ Q r s') pl (by omega) (by omega) (by rw [List.size_toArray, ← hl]; exact h1) (by simpa using ew) ⟨rfl, fin⟩) hs
theorem ix_str : IxR X rIxS := by
  intro value slice pins s σ H x y v u Q I rx ry h hs
  obtain ⟨z, i, c, rfl, rfl, hz, he, q⟩ := h
  obtain ⟨t, rfl⟩ := rx
  obtain ⟨t', rfl⟩ := ry
  obtain ⟨j, h1, h2, h3, h4, h5⟩ := atI_get he
  have hl : z.cps.toList.length = z.length := by simp [Str.length]
  rw [hl] at h1 h4 h5
  have hn := line63
  exact tail_any (typeIs_str s z t) slot_str_getitem.lookup (getItem_str (c := c) (by
    have e1 : decide (i < -(2 ^ 63 : Int)) = false := decide_eq_false (by omega)
    have e2 : decide (i ≥ 2 ^ 63) = false := decide_eq_false (by omega)
    rw [e1, e2, Bool.or_false]) (by rw [h1]; simpa using h2) ⟨.str ⟨#[c]⟩, H, I.tok _, ⟨_, rfl⟩, q⟩) hs
/-- list, tuple or str -/
def rIx (K : PySem.W.Frag) : R2 := fun x y H Q => rIxL K x y H Q ∨ rIxT K x y H Q ∨ rIxS x y H Q
theorem ix_seq : IxR X (rIx X.K) := ix_list.or (ix_tup.or ix_str)

/-! ### xs[i] = v, any sign -/
/-- the list's object behind a store -/
theorem mapSeq_set (its : List Value) (n j : Nat) (u : Value) : Obj.mapSeq (·.setIfInBounds j u) { cls := .type "list", data := .seq its.toArray n } = { cls := .type "list", data := .seq (its.set j u).toArray n } := by
  simp [Obj.mapSeq]
theorem Inv.lst {pins : List (Addr × Obj)} {σ : St} {H : Hp} {s : Shared} {p : Addr} {xs : List V} (I : Inv X pins σ H s) (h : H p = some (.lst xs)) :
    ∃ (its : List Value) (n : Nat), Vals xs its ∧ s.heap.get? p = some { cls := .type "list", data := .seq its.toArray n } ∧ xs.length ≤ sizeLine := by
  obtain ⟨z, its, n, r, e⟩ := I.hok p _ h
  exact ⟨its, n, r, e, z⟩
/-- the list at p is written by an update of its object -/
theorem Inv.lstUpd {pins : List (Addr × Obj)} {σ : St} {H : Hp} {s : Shared} {p : Addr} {xs ys : List V} {its its' : List Value} {n n' : Nat} {f : Obj → Obj} (I : Inv X pins σ H s) (h : H p = some (.lst xs))
    (ho : s.heap.get? p = some { cls := .type "list", data := .seq its.toArray n }) (hf : f { cls := .type "list", data := .seq its.toArray n } = { cls := .type "list", data := .seq its'.toArray n' }) (r : Vals ys its') (hz : ys.length ≤ sizeLine) (t : Nat) :
    Inv X pins σ (upd H p (.lst ys)) { s with heap := s.heap.update p f, toks := t } := by
  have e : (s.heap.update p f).get? p = some { cls := .type "list", data := .seq its'.toArray n' } := by
    rw [Heap.get?_update_self f ho (by rw [hf] <;> rfl), hf]
  refine I.write (x := p) (e := p) (by rw [h]; trivial) (.inl rfl) (fun b u hb q => (Heap.get?_update_other _ _ (Ne.symm hb)).trans q) ⟨_, e⟩ ?_
  exact ⟨hz, its', n', r, e⟩
def rSetL : V → V → V → Hp → (Hp → Prop) → Prop := fun o i v H Q => ∃ p xs k j, o = .ref p ∧ i = .int k ∧ H p = some (.lst xs) ∧ ixN xs.length k = some j ∧ Q (upd H p (.lst (xs.set j v)))
theorem set_list : PSet X rSetL := by
  intro pins s σ H o i v ov iv u Q I ro ri rv h
  obtain ⟨p, xs, k, j, rfl, rfl, hp, hj, q⟩ := h
  cases ro
  obtain ⟨t, rfl⟩ := ri
  obtain ⟨its, n, r, ho, hz⟩ := I.lst hp
  obtain ⟨h1, h2, h3, h4⟩ := ixN_seq hj
  have hl := r.length
  have hn := line63
  have I' : Inv X pins σ (upd H p (.lst (xs.set j v))) { s with heap := s.heap.update p (Obj.mapSeq (·.setIfInBounds j u)) } :=
    I.lstUpd hp ho (mapSeq_set its n j u) (r.set rv j) (by rw [List.length_set]; exact hz) s.toks
  by_cases h0 : 0 ≤ k
  · have hk : k.toNat = j := by
      rw [seqIndex_of h0 h4] at h1
      exact Option.some.inj h1
    exact PySem.W.ki_setAt ho h0 (by omega) (by rw [List.size_toArray, ← hl]; exact h4) (by rw [hk]; exact ⟨_, I', q⟩)
  · have hk : (k + (its.toArray.size : Int)).toNat = j := by
      rw [seqIndex_neg (by omega) h3] at h1
      rw [List.size_toArray, ← hl]
      exact Option.some.inj h1
    exact PySem.W.ki_setBack ho (by omega) (by rw [List.size_toArray, ← hl]; exact h3) (by omega) (by rw [hk]; exact ⟨_, I', q⟩)

/-! ### slices -/
theorem slice_bounds (lo hi : Option Int) (n : Nat) : (sliceBounds lo hi none n).1 = ((HT.sIx n 0 lo : Nat) : Int) ∧ (sliceBounds lo hi none n).2.1 = ((HT.sIx n n hi : Nat) : Int) ∧ (sliceBounds lo hi none n).2.2 = 1 := by
  refine ⟨?_, ?_, rfl⟩
  · cases lo with
    | none => simp [sliceBounds, HT.sIx]
    | some i =>
      simp only [sliceBounds, HT.sIx, Option.getD_none, show (1 : Int) > 0 by decide, if_true]
      by_cases h : i < 0
      · simp only [h, if_true] <;> omega
      · simp only [h, if_false] <;> omega
  · cases hi with
    | none => simp [sliceBounds, HT.sIx]
    | some i =>
      simp only [sliceBounds, HT.sIx, Option.getD_none, show (1 : Int) > 0 by decide, if_true]
      by_cases h : i < 0
      · simp only [h, if_true] <;> omega
      · simp only [h, if_false] <;> omega
theorem slicePick_cut (its : List Value) (lo hi : Option Int) : slicePick its.toArray lo hi none = ((its.drop (HT.sIx its.length 0 lo)).take (HT.sIx its.length its.length hi - HT.sIx its.length 0 lo)).toArray := by
  obtain ⟨h1, h2, h3⟩ := slice_bounds lo hi its.toArray.size
  unfold slicePick
  rw [h1, h2, h3]
  simp only [sliceRange_one, pick_run, List.size_toArray] <;> rfl
/-- xs[lo:hi] of a list: a new list -/
def rSlL (K : PySem.W.Frag) : V → Option Int → Option Int → Hp → VK → Prop := fun x lo hi H Q => ∃ a xs, x = .ref a ∧ SqL K H a xs ∧ ∀ p, H p = none → Q (.ref p) (upd H p (.lst (cutV xs lo hi)))
theorem sl_list : SlR X (rSlL X.K) := by
  intro pins s σ H x v vl vu lo hi sl Q I rx hs pl pu h
  obtain ⟨a, xs, rfl, hx, q⟩ := h
  cases rx
  obtain ⟨its, r, ht, hz⟩ := I.list hx
  have hlen := r.length
  refine ⟨"list", _, slot_list_getitem.lookup, ht.isList.typeIs, ?_⟩
  refine wpAny_getItem_list_slice ht.isList hs pl pu .none (by simp) ?_ (by rw [List.size_toArray] <;> omega)
  rw [slicePick_cut, ← hlen]
  refine ⟨.ref s.heap.objs.size, _, I.laid (t' := s.toks) (o := .lst (cutV xs lo hi)) (fun b ob q => Heap.get?_push_of_some _ q) (Nat.le_refl _) ?_, rfl, q _ (I.hok.fresh (Nat.le_refl _))⟩
  exact ⟨Nat.le_trans (cutV_length xs lo hi) hz, _, 0, (r.drop (HT.sIx xs.length 0 lo)).take (HT.sIx xs.length xs.length hi - HT.sIx xs.length 0 lo), Heap.get?_push_size _ rfl⟩

/-! ### in, not in: flat items -/
def flatV : V → Bool
  | .non => true
  | .bl _ => true
  | .int _ => true
  | .str _ => true
  | _ => false
/-- == of flat values -/
def eqV : V → V → Bool
  | .non, .non => true
  | .bl a, .bl b => a == b
  | .bl a, .int b => (if a then 1 else 0) == b
  | .int a, .bl b => a == (if b then 1 else 0)
  | .int a, .int b => a == b
  | .str a, .str b => a == b
  | _, _ => false
/-- the items' answers, read off the values (a value's own answer does not lean on its token) -/
def eqU (x : V) (u : Value) : Bool := match u with
  | .none => eqV .non x
  | .bool b => eqV (.bl b) x
  | .int i _ => eqV (.int i) x
  | .str z _ => eqV (.str z) x
  | _ => false
def inV (x : V) (xs : List V) : Bool := xs.any fun y => eqV y x
/-- x in a list or tuple of flat items -/
def rIn (K : PySem.W.Frag) (neg : Bool) : R2 := fun x y H Q => ∃ p xs, y = .ref p ∧ (SqL K H p xs ∨ SqT K H p xs) ∧ flatV x = true ∧ xs.all flatV = true ∧ Q (.bl (if neg then !inV x xs else inV x xs)) H
/-! ### len, list(x), tuple(x) of any list or tuple that is read -/
theorem call_len_seq : CallR X (.builtin "len") (fun xs H Q => ∃ p ys, xs = [.ref p] ∧ (SqL X.K H p ys ∨ SqT X.K H p ys) ∧ Q (.int ys.length) H) := by
  intro pins s σ H xs us Q I r h
  obtain ⟨p, ys, rfl, hq, q⟩ := h
  obtain ⟨u, rfl, rx⟩ := vals1 r
  cases rx
  have hn := line63
  rcases hq with hq | hq
  · obtain ⟨its, r', pl, hz⟩ := I.list hq
    have hlen := r'.length
    exact Calls.call_len_list pl.isList (by simp only [List.size_toArray] <;> omega) ⟨.int ys.length, H, I.tok _, ⟨s.toks + 1, by rw [List.size_toArray, hlen]⟩, q⟩
  · obtain ⟨its, r', pl, hz⟩ := I.tuple hq
    have hlen := r'.length
    exact len_tuple pl (by simp only [List.size_toArray] <;> omega) ⟨.int ys.length, H, I.tok _, ⟨s.toks + 1, by rw [List.size_toArray, hlen]⟩, q⟩
theorem call_len_str : CallR X (.builtin "len") (fun xs H Q => ∃ z, xs = [.str z] ∧ z.length ≤ sizeLine ∧ Q (.int z.length) H) := by
  intro pins s σ H xs us Q I r h
  obtain ⟨z, rfl, hz, q⟩ := h
  obtain ⟨u, rfl, t, rfl⟩ := vals1 r
  have hn := line63
  exact len_str (by omega) ⟨.int z.length, H, I.tok _, ⟨_, rfl⟩, q⟩
theorem CallR.or {f : Value} {r r' : List V → Hp → VK → Prop} (h : CallR X f r) (h' : CallR X f r') : CallR X f (fun xs H Q => r xs H Q ∨ r' xs H Q) := by
  intro pins s σ H xs us Q I rs q
  rcases q with q | q
  · exact h pins s σ H xs us Q I rs q
  · exact h' pins s σ H xs us Q I rs q
/-! ### the call of a builtin's method: o.m(..) -/
/-- the value is of that builtin type -/
def tyV (K : PySem.W.Frag) (T : String) (x : V) (H : Hp) : Prop := match x with
  | .str _ => T = "str"
  | .int _ => T = "int"
  | .ref p => (T = "list" ∧ ∃ xs, SqL K H p xs) ∨ (T = "tuple" ∧ ∃ o, K.lookup p = some o ∧ o.cls = .type "tuple" ∧ o.dict = none) ∨
      (T = "dict" ∧ ((∃ kvs, H p = some (.dK kvs)) ∨ ∃ kvs, H p = some (.dT kvs))) ∨ (T = "set" ∧ ∃ S n, H p = some (.set S n))
  | _ => False
theorem tyV_is {pins : List (Addr × Obj)} {σ : St} {H : Hp} {s : Shared} {T : String} {x : V} {v : Value} (I : Inv X pins σ H s) (r : RelV x v) (ty : tyV X.K T x H) :
    s.TypeIs v T ∧ ∀ a, v = .ref a → ∃ ob, s.heap.get? a = some ob ∧ ob.dict = none := by
  cases x with
  | str z =>
    obtain ⟨t, rfl⟩ := r
    cases (show T = "str" from ty)
    exact ⟨typeIs_str s z t, fun _ e => nomatch e⟩
  | int i =>
    obtain ⟨t, rfl⟩ := r
    cases (show T = "int" from ty)
    exact ⟨typeIs_int s i t, fun _ e => nomatch e⟩
  | ref p =>
    cases r
    rcases ty with ⟨rfl, xs, hq⟩ | ⟨rfl, o, hk, hc, hd⟩ | ⟨rfl, hk⟩ | ⟨rfl, S, n, hk⟩
    · obtain ⟨its, _, pl, _⟩ := I.list hq
      refine ⟨pl.isList.typeIs, fun a e => ?_⟩
      cases e
      obtain ⟨o, n, e, c, hd, _⟩ := pl
      exact ⟨o, e, hd⟩
    · refine ⟨⟨o, I.kIn p o hk, hc⟩, fun a e => ?_⟩
      cases e
      exact ⟨o, I.kIn _ o hk, hd⟩
    · have z : ∃ o, s.heap.get? p = some o ∧ o.ExactDict := by
        rcases hk with ⟨kvs, hk⟩ | ⟨kvs, hk⟩
        · obtain ⟨_, _, _, _, o, _, _, e, ex, _⟩ := I.hok p _ hk
          exact ⟨o, e, ex⟩
        · obtain ⟨_, _, _, _, o, _, _, e, ex, _⟩ := I.hok p _ hk
          exact ⟨o, e, ex⟩
      obtain ⟨o, e, ex⟩ := z
      refine ⟨⟨o, e, ex.1⟩, fun a e2 => ?_⟩
      cases e2
      exact ⟨o, e, ex.2.1⟩
    · obtain ⟨o, _, _, _, e, ex, _⟩ := I.hok p _ hk
      refine ⟨⟨o, e, ex.1⟩, fun a e2 => ?_⟩
      cases e2
      exact ⟨o, e, ex.2.1⟩
  | _ => exact False.elim ty
def tBM0 (K : PySem.W.Frag) (T : String) (r : V → List V → Hp → VK → Prop) (to : TE) : TE := fun σ H Q => to σ H fun x H1 => tyV K T x H1 ∧ r x [] H1 Q
def tBM (K : PySem.W.Frag) (T : String) (r : V → List V → Hp → VK → Prop) (to : TE) (t : TA) : TE := fun σ H Q => to σ H fun x H1 => tyV K T x H1 ∧ t σ H1 fun xs H2 => r x xs H2 Q
variable {o e : Expr} {es : List Expr} {to : TE} {t : TA} {name : Str} {apos cpos : Pos} {T id : String} {r : V → List V → Hp → VK → Prop}
theorem pe_bm (pa : PlainAttrs T) (slot : Slot T name id) (hty : typeOf (.builtin id) = pure (.type "method_descriptor")) (hm : MtR X id r) (ho : PE X o to) (ha : PA X (e :: es) t)
    (hbase : attributeBase o name X.env (eval o X.env) = eval o X.env := by rfl)
    (hfew : ((backTo cpos (starEach (e :: es) X.env)).all (fun x => !x.1) && (backToKw cpos (keywordEach [] X.env)).all (fun x => x.1.isSome)
      && decide ((e :: es).length + ([] : List Keyword).length + (if ([] : List Keyword).isEmpty then 0 else 1) < 30)) = true := by rfl)
    (hline : (apos.endLine == cpos.line) = true := by rfl) (hs : starEach (e :: es) X.env = (false, eval e X.env) :: starEach es X.env := by rfl) (hplain : (backTo cpos (starEach es X.env)).any (·.1) = false := by rfl) :
    PE X (.Call (.Attribute o name apos) (e :: es) [] cpos) (tBM X.K T r to t) := by
  intro pins s σ H Q I h
  refine wpAny_Call_method_late hbase hfew hline rfl (thn (ho pins s σ H _ I h) fun v s1 ⟨x, H1, I1, r1, ty, q1⟩ => ?_)
  obtain ⟨h1, h2⟩ := tyV_is I1 r1 ty
  refine ⟨T, id, pa, slot, hty, h1, h2, ?_⟩
  have hA := ha cpos pins s1 σ H1 _ I1 q1
  rw [hs] at hA ⊢
  refine Calls.callWith_builtin (by show (false || (backTo cpos (starEach es X.env)).any (·.1)) = false; rw [hplain] <;> rfl) (Calls.evalArgs_plain ?_)
  exact thn hA fun us s2 ⟨vs, H2, I2, r2, q2⟩ => hm pins s2 σ H2 x vs v us Q I2 r1 r2 q2
/- xs.append(e), list.index on a module's tuple .. are MtR facts of 06m -/
end
end L2

namespace L2
open PySem PySem.Spec PyProof.Rows

def MtM (X : Cx) (id : String) (r : V → List V → Hp → VK → Prop) : Prop :=
  ∀ (pins : List (Addr × Obj)) (s : Shared) (σ : St) (H : Hp) (x : V) (xs : List V) (v : Value) (us : List Value) (Q : VK), Inv X pins σ H s → RelV x v → Vals xs us → r x xs H Q →
    wpAny (model X.prog X.w) X.A (call (.builtin id) (v :: us)) (EP X pins σ Q) X.xe s

/-! ### lists of values -/
theorem Vals.one : ∀ {x : V} {us : List Value}, Vals [x] us → ∃ u, us = [u] ∧ RelV x u
  | _, _, .cons r .nil => ⟨_, rfl, r⟩
theorem Vals.two : ∀ {x y : V} {us : List Value}, Vals [x, y] us → ∃ u v, us = [u, v] ∧ RelV x u ∧ RelV y v
  | _, _, _, .cons r (.cons q .nil) => ⟨_, _, rfl, r, q⟩
theorem Vals.zero : ∀ {us : List Value}, Vals [] us → us = []
  | _, .nil => rfl
theorem Vals.dropLast {xs : List V} {us : List Value} (h : Vals xs us) : Vals xs.dropLast us.dropLast := by
  induction h with
  | nil => exact .nil
  | cons r t ih =>
    cases t with
    | nil => exact .nil
    | cons q t' => exact .cons r ih
theorem Vals.eraseIdx : ∀ {xs : List V} {us : List Value} (i : Nat), Vals xs us → Vals (xs.eraseIdx i) (us.eraseIdx i)
  | _, _, _, .nil => .nil
  | _, _, 0, .cons _ t => t
  | _, _, i + 1, .cons r t => .cons r (Vals.eraseIdx i t)
theorem Vals.reverse {xs : List V} {us : List Value} (h : Vals xs us) : Vals xs.reverse us.reverse := by
  induction h with
  | nil => exact .nil
  | cons r t ih => rw [List.reverse_cons, List.reverse_cons]; exact Vals.append ih (.cons r .nil)
theorem Vals.rep {xs : List V} {us : List Value} (h : Vals xs us) : ∀ k : Nat, Vals (List.replicate k xs).flatten (List.replicate k us).flatten
  | 0 => .nil
  | k + 1 => by
    rw [List.replicate_succ, List.replicate_succ, List.flatten_cons, List.flatten_cons]
    exact Vals.append h (Vals.rep h k)
theorem foldl_rep (its : List Value) : ∀ (k : Nat) (acc : List Value),
    List.foldl (fun x1 x2 => x1 ++ x2) acc.toArray (List.replicate k its.toArray) = (acc ++ (List.replicate k its).flatten).toArray
  | 0, acc => by simp
  | k + 1, acc => by
    have e : acc.toArray ++ its.toArray = (acc ++ its).toArray := by simp
    have e2 : (acc ++ its) ++ (List.replicate k its).flatten = acc ++ (List.replicate (k + 1) its).flatten := by
      rw [List.replicate_succ, List.flatten_cons, List.append_assoc]
    rw [← e2, ← foldl_rep its k (acc ++ its), ← e, List.replicate_succ, List.foldl_cons]

section
variable {X : Cx} {pins : List (Addr × Obj)} {σ : St} {H : Hp} {s : Shared} {l b : Addr} {xs ys zs : List V}

/-! ### the two steps: a tracked list is rewritten, a new list is laid -/
theorem Inv.lset {its its' : List Value} {n : Nat} {f : Array Value → Array Value} {t' : Nat} (I : Inv X pins σ H s) (hH : H l = some (.lst xs))
    (e : s.heap.get? l = some { cls := .type "list", data := .seq its.toArray n }) (hf : f its.toArray = its'.toArray) (hv : Vals ys its') (hz : ys.length ≤ sizeLine) :
    Inv X pins σ (upd H l (.lst ys)) { s with heap := s.heap.update l (Obj.mapSeq f), toks := t' } := by
  have q := PySem.IsL.update e f
  rw [hf] at q
  refine I.write (x := l) (e := l) (by rw [hH]; exact trivial) (.inl rfl) (fun b' u hb hu => (Heap.get?_update_other s.heap (Obj.mapSeq f) (Ne.symm hb)).trans hu) ⟨_, q⟩ ?_
  exact ⟨hz, its', _, hv, q⟩
theorem Inv.lnew {its : List Value} {t' : Nat} (I : Inv X pins σ H s) (hv : Vals ys its) (hz : ys.length ≤ sizeLine) :
    Inv X pins σ (upd H s.heap.objs.size (.lst ys)) { s with heap := s.heap.push { cls := .type "list", data := .seq its.toArray }, toks := t' } :=
  I.laid (fun _ _ q => Heap.get?_push_of_some _ q) (Nat.le_refl _) ⟨hz, its, 0, hv, Heap.get?_push_size _ rfl⟩
theorem Inv.fresh (I : Inv X pins σ H s) : H s.heap.objs.size = none := I.hok.fresh (Nat.le_refl _)
theorem Inv.lstM (I : Inv X pins σ H s) (hH : H l = some (.lst xs)) : xs.length ≤ sizeLine ∧ ∃ (its : List Value) (n : Nat), Vals xs its ∧ xs.length = its.length ∧ s.heap.get? l = some { cls := .type "list", data := .seq its.toArray n } := by
  obtain ⟨z, its, n, r, e⟩ := I.hok l _ hH
  exact ⟨z, its, n, r, r.length, e⟩

theorem notLongL {n : Nat} (h : n ≤ sizeLine) : Builtin.List.listTooLong n = false := by
  unfold Builtin.List.listTooLong
  exact decide_eq_false (by omega)
end

section
variable {X : Cx}

/-! ### methods -/
def rAppend : V → List V → Hp → VK → Prop := fun x vs H Q => ∃ l xs y, x = .ref l ∧ vs = [y] ∧ H l = some (.lst xs) ∧ xs.length < sizeLine ∧ Q .non (upd H l (.lst (xs ++ [y])))
theorem mt_append : MtM X "list.append" rAppend := by
  intro pins s σ H x vs v us Q I rx rv h
  obtain ⟨l, xs, y, rfl, rfl, hH, hz, q⟩ := h
  cases rx
  obtain ⟨u, rfl, ru⟩ := rv.one
  obtain ⟨z, its, n, r, hl, e⟩ := I.lstM hH
  refine call_meets F.slot_list_append ⟨_, e, rfl⟩ F.entry_list_append (F.args_list_append_2 _ _) (PySem.list_append l its.toArray n u (by rw [List.size_toArray]; omega)) ⟨e, ?_⟩
  refine ⟨.non, _, I.lset (its' := its ++ [u]) hH e (by simp) (r.append (.cons ru .nil)) ?_, rfl, q⟩
  rw [List.length_append, List.length_singleton]
  omega

def rExtend : V → List V → Hp → VK → Prop := fun x vs H Q => ∃ l b xs zs, x = .ref l ∧ vs = [.ref b] ∧ H l = some (.lst xs) ∧ H b = some (.lst zs) ∧ xs.length + zs.length ≤ sizeLine ∧ Q .non (upd H l (.lst (xs ++ zs)))
def rPop : V → List V → Hp → VK → Prop := fun x vs H Q => ∃ l xs y, x = .ref l ∧ vs = [] ∧ H l = some (.lst xs) ∧ xs[xs.length - 1]? = some y ∧ Q y (upd H l (.lst xs.dropLast))
def rPopAt : V → List V → Hp → VK → Prop := fun x vs H Q => ∃ l xs i k y, x = .ref l ∧ vs = [.int i] ∧ H l = some (.lst xs) ∧ -(2 ^ 63) ≤ i ∧ i < 2 ^ 63 ∧ seqIndex? i xs.length = some k ∧ xs[k]? = some y ∧ Q y (upd H l (.lst (xs.eraseIdx k)))
def rReverse : V → List V → Hp → VK → Prop := fun x vs H Q => ∃ l xs, x = .ref l ∧ vs = [] ∧ H l = some (.lst xs) ∧ Q .non (upd H l (.lst xs.reverse))
def rClear : V → List V → Hp → VK → Prop := fun x vs H Q => ∃ l xs, x = .ref l ∧ vs = [] ∧ H l = some (.lst xs) ∧ Q .non (upd H l (.lst []))
/-! ### list + list, list += list, list * int -/
def rCat : R2 := fun x y H Q => ∃ l b xs zs, x = .ref l ∧ y = .ref b ∧ H l = some (.lst xs) ∧ H b = some (.lst zs) ∧ xs.length + zs.length ≤ sizeLine ∧ ∀ p, H p = none → Q (.ref p) (upd H p (.lst (xs ++ zs)))
/-- a list times an int (a negative one is nothing) -/
def rRep : R2 := fun x y H Q => ∃ l k xs, x = .ref l ∧ y = .int k ∧ H l = some (.lst xs) ∧ -(2 ^ 63) ≤ k ∧ k < 2 ^ 63 ∧ xs.length * k.toNat ≤ sizeLine ∧
  ∀ p, H p = none → Q (.ref p) (upd H p (.lst (List.replicate k.toNat xs).flatten))
theorem len_rep {α : Type} (xs : List α) (k : Nat) : (List.replicate k xs).flatten.length = k * xs.length := by
  induction k with
  | zero => simp
  | succ k ih => rw [List.replicate_succ, List.flatten_cons, List.length_append, ih, Nat.succ_mul, Nat.add_comm]
theorem op_rep : OpR X (binaryOp .Mult) rRep := by
  intro pins s σ H x y v u Q I rx ry h
  obtain ⟨l, k, xs, rfl, rfl, hH, h1, h2, hz, q⟩ := h
  cases rx
  obtain ⟨t, rfl⟩ := ry
  obtain ⟨z, its, n, r, hl, e⟩ := I.lstM hH
  have hlen : its.toArray.size * k.toNat ≤ sizeLine := by rw [List.size_toArray, ← hl]; exact hz
  have hcap : ¬ its.toArray.size * k.toNat > (2 ^ 63 - 1) / 8 := by
    have : (sizeLine : Nat) ≤ (2 ^ 63 - 1) / 8 := by decide
    omega
  have hfit : ¬ (!Builtin.List.listFitsIndex k) = true := by
    rw [fitsIndex_both h1 h2]
    exact Bool.false_ne_true
  have hlong : ¬ Builtin.List.listTooLong (its.toArray.size * k.toNat) = true := by
    rw [notLongL hlen]
    exact Bool.false_ne_true
  have hnew : List.foldl (fun x1 x2 => x1 ++ x2) #[] (List.replicate (if its.toArray.isEmpty = true then 0 else k.toNat) its.toArray) = (List.replicate k.toNat its).flatten.toArray := by
    have f0 : ∀ m : Nat, List.foldl (fun x1 x2 => x1 ++ x2) #[] (List.replicate m its.toArray) = (List.replicate m its).flatten.toArray := fun m => by
      have := foldl_rep its m []
      rw [List.nil_append] at this
      exact this
    rw [f0]
    cases its with
    | nil => simp
    | cons a r' => rw [if_neg (by simp)]
  refine wpAny_binaryOp_repeat_ref (T := "list") (U := "int") (by decide) ⟨_, e, rfl⟩ (fun s' => typeIs_int s' k t) noFill_list_mul F.fills_int_mul F.slot_int_rmul repeat_list F.slot_int_index.lookup
    (call_meets F.slot_int_rmul (typeIs_int s k t) F.entry_int_rmul (F.args_int_rmul_2 _ _) (int___rmul___int_list k t l its.toArray n)
      ⟨e, rfl, ⟨_, e, rfl⟩, call_meets F.slot_list_mul ⟨_, e, rfl⟩ F.entry_list_mul (F.args_list_mul_2 _ _) (AutoListH.list___mul___list_int_3 l its.toArray n k t hfit hcap hlong) ⟨e, ?_⟩⟩)
  rw [hnew]
  exact ⟨.ref _, _, I.lnew (t' := s.toks) (r.rep k.toNat) (by rw [len_rep, Nat.mul_comm]; exact hz), rfl, q _ I.fresh⟩

/-! ### del xs[i] -/
end

/-! ### xs[a:b] = ys -/
section
variable {prog : Program} {w : World} {A : Around} {E : Value → Shared → Prop} {s : Shared}
end

section
variable {X : Cx}
end
end L2

namespace Att
open PySem PySem.W PySem.Calls PyProof.Rows

/-! ### the script -/
theorem ints_of_wellAll {P : Params} {h : Heap} : ∀ (ns : List Int) (vs : List Value), WellAll P h vs (ns.map WData.int) → IntsAre vs ns := by
  intro ns
  induction ns with
  | nil =>
    intro vs w
    rw [List.map_nil] at w
    cases w
    exact .nil
  | cons n ns ih =>
    intro vs w
    rw [List.map_cons] at w
    cases w with
    | cons a b =>
      cases a
      exact .cons _ _ (ih _ b)

theorem script_of {l : OpenLaw} {n : Nat} (hn : l.most = some n) {P : Params} {h : Heap} {args : List WData} {vals : List Value}
    (hpre : l.row.toRowW.claim.pre args = true) (hwl : WellAll P h vals args) :
    ∃ a vs ns, vals = [Value.ref a] ∧ args = [WData.list (ns.map WData.int)] ∧ h.get? a = some { cls := .type "list", data := .seq vs.toArray } ∧ IntsAre vs ns ∧ ns.length ≤ n := by
  have hsh : WShape.hasAll [] args [.list .int] = true := (pre_splitW hpre).1
  have hc : l.pre.holds [] { args := args } = true := (pre_splitW hpre).2
  obtain ⟨d, r, rfl, h1, h2⟩ := hasAllW_cons hsh
  obtain rfl := hasAllW_nil h2
  obtain ⟨xs, rfl, h3⟩ := hasW_list h1
  obtain ⟨ns, rfl⟩ := items_int h3
  have hlen : ns.length ≤ n := by
    unfold OpenLaw.pre at hc
    have h4 : (WTm.not (.lt (.lit (.int (n : Int))) (.len (.arg 0)))).holds [] { args := [.list (ns.map .int)] } = true := by
      have h4 := (holds_andW hc).1
      rw [hn] at h4
      exact h4
    have h5 := condW_of h4 (w_not (w_lt w_lit (w_len_list (w_arg rfl))))
    rw [List.length_map] at h5
    refine Nat.le_of_not_lt fun q => ?_
    have q' : (n : Int) < ((ns.length : Nat) : Int) := by omega
    first
      | (rw [decide_eq_true q'] at h5; exact absurd h5 (by decide))
      | (simp at h5; omega)
  cases hwl with
  | cons w1 w2 =>
    cases w2
    cases w1 with
    | list ho hall => exact ⟨_, _, ns, rfl, rfl, ho, ints_of_wellAll ns _ hall, hlen⟩

theorem post_true (l : OpenLaw) (args : List WData) : l.row.toRowW.claim.post args (.bool true) args = true :=
  postW_of (r := l.row.toRowW) (X := (true == true))
    (show WShape.has [] (.bool true) .bool = true by first | rfl | decide | simp [WShape.has, WShape.arms, WShape.armsAll])
    (show (WTm.eq .res (.lit (.bool true))).value [] { args := args, res := some (.bool true), after := args } = some (.bool (true == true)) from w_eq_bool (w_res rfl) w_lit) rfl

/-! ### the attachment: holds_open's last premise (the goal 'hc' behind k_head) from a wpAny of the law's body -/
/-- the same from a codeAny of the CALL (for a layer whose function contracts speak of calls) -/
theorem attach_call {l : OpenLaw} {n : Nat} {q : Program} {loose : List Str} {XP : (Str → Option Value) → Heap → Prop} {YP : World → Heap → Prop} {d : DefRec}
    (hn : l.most = some n) (hdf : d.params.defaults = [])
    (call : ∀ (w : World) (s₀ s₁ : Shared) (mg mb : Str → Option Value) (fa : Addr) (o : Obj) (pm cd doc : Value) (a : Addr) (vs : List Value) (ns : List Int),
      Ground q loose [] XP w s₀ mg mb s₁.heap → YP w s₁.heap →
      s₁.heap.get? fa = some o → o.data = .func (docDef d.name d.params d.body d.scope pm cd doc) → s₁.heap.CodeRec cd d.name → mg d.name = some (.ref fa) →
      s₁.heap.get? a = some { cls := .type "list", data := .seq vs.toArray } → IntsAre vs ns → ns.length ≤ n → s₁.gens = #[] →
      codeAny (model l.prog w) callerA (.call (.ref fa) ⟨[.ref a], []⟩) (fun r s' => r = .ok (.ret (.bool true)) ∧ OldK s₁.heap s'.heap ∧ s'.os = s₁.os ∧ AllBare s'.gens) s₁) :
    WalkO q loose XP YP l.row.toRowW d [] (fun f vs => PySem.call f vs) := by
  intro w s₀ s₁ mg mb G Y fa o pm cd doc dV kV ho hd hcd hD hmg hg args vals as hpre hlay hrd hwl hlo
  obtain rfl : dV = .none := Dflts.none hD hdf
  obtain rfl : kV = .none := Dflts.noKw hD
  obtain ⟨a, vs, ns, rfl, rfl, hobj, hints, hlen⟩ := script_of hn hpre hwl
  refine enter_call (codeAny_mono (call w s₀ s₁ mg mb fa o pm cd doc a vs ns G Y ho (fd_plain hd) hcd hmg hobj hints hlen hg) fun r s' hq => ?_)
  obtain ⟨rfl, h2, h3, h4⟩ := hq
  exact ⟨.inl ⟨.bool true, .bool true, [], rfl, fun _ => rfl, .bool true, post_true l _, fun _ => ⟨List.Pairwise.nil, fun _ hm => (nomatch hm)⟩⟩, h2, h3, h4⟩

/-! ### rules over ANY heap (no ledger) from facts about the written part K: the library's own take a ledger (News) for what they write -/
section
variable {prog : Program} {w : World} {A : Around} {E : Value → Shared → Prop} {s : Shared} {K : Frag}

/-! the whole heap as the ledger: makes every rule that writes through a ledger a rule over any heap -/
def noObjs (h : Heap) : Heap := { h with objs := #[] }
def ledger (h : Heap) (L d : Addr) : List (Addr × Obj) := (List.range h.objs.size).filterMap fun a => if a = L ∨ a = d then none else (h.get? a).map fun o => (a, o)
end
end Att

namespace L2
open PySem PySem.Spec PyProof.Rows

theorem vals_ints : ∀ {vs : List Value} {ns : List Int}, IntsAre vs ns → Vals (ns.map V.int) vs
  | _, _, .nil => .nil
  | _, _, .cons n t h => .cons ⟨t, rfl⟩ (vals_ints h)

/-- nothing is tracked but the script, known to the object (or it is an object of the module) -/
def Only (H : Hp) : Prop := ∀ b, H b = none ∨ ∃ o xs, H b = some (.frz o (.lst xs))

/-- THE HEAD: the law's promise, at the heap behind the top. F, the promise of the law's def, may use that base is part of the heap (so K.In base, base.Ns mainGlobals mg stand in Mod) -/
theorem law_call {P : Program} {w : World} {K : PySem.W.Frag} {mg mb : Str → Option Value} {CX : CXT} {k : Nat} {fa a : Addr} {fd : FuncData} {x : Str} {sp : Sp} {s₁ : Shared} {vs : List Value} {ns : List Int}
    (KX : K.In s₁.heap) (hns : s₁.heap.Ns mainGlobals mg) (hb : s₁.heap.Ns builtinsNs mb) (hbb : ∀ x : Str, x ≠ "__name__" → mb x = bootBuiltins x) (hlim : s₁.heap.NoLimit) (hg : s₁.gens = #[])
    (ha : s₁.heap.get? a = some { cls := .type "list", data := .seq vs.toArray }) (hi : IntsAre vs ns) (hl : ns.length ≤ sizeLine) (hr : Room k callerA)
    (F : ∀ base : Heap, K.In base → base.Ns mainGlobals mg → FnOk P w K mg base CX k fa fd [x] sp) (hbind : ∀ (s : Shared) (u : Value), BindsTo s fd ⟨[u], []⟩ [(x, u)])
    (hsp : ∀ H : Hp, Only H → SqL K H a (ns.map V.int) → sp [.ref a] H (fun v _ => v = .bl true) fun _ _ _ => False)
    (hCX : ∀ H e s', CX [] H s₁ (fun _ _ _ => False) e s' → False) :
    codeAny (model P w) callerA (.call (.ref fa) ⟨[.ref a], []⟩) (fun r s' => r = .ok (.ret (.bool true)) ∧ OldK s₁.heap s'.heap ∧ s'.os = s₁.os ∧ AllBare s'.gens) s₁ := by
  have rv := vals_ints hi
  have lenV := hi.length
  -- from an abstract heap in which nothing but the script may be tracked
  have core : ∀ H : Hp, Only H → SqL K H a (ns.map V.int) → HOk P w H s₁.heap → (∀ b, H b ≠ none → b = a) → (H a ≠ none → K.lookup a = none) →
      codeAny (model P w) callerA (.call (.ref fa) ⟨[.ref a], []⟩) (fun r s' => r = .ok (.ret (.bool true)) ∧ OldK s₁.heap s'.heap ∧ s'.os = s₁.os ∧ AllBare s'.gens) s₁ := by
    intro H hO hS hok hA hK
    have base_of : ∀ {b : Addr} {o : Obj}, s₁.heap.get? b = some o → H b = none → (hidT s₁.heap H).get? b = some o := fun e n => hidT_get e n
    have noA : ∀ {b : Addr} {o : Obj} {es : Array DictEntry} {ep : Nat}, s₁.heap.get? b = some o → o.data = .dict es ep → H b = none := fun {b o es ep} e d => by
      cases q : H b with
      | none => rfl
      | some u =>
        have e' : b = a := hA b (by rw [q]; simp)
        subst e'
        rw [ha] at e; cases e
        have d' : Data.seq vs.toArray _ = Data.dict es ep := d
        cases d'
    have nsK : ∀ {b : Addr} {m : Str → Option Value}, s₁.heap.Ns b m → (hidT s₁.heap H).Ns b m := fun {b m} ⟨o, es, ep, e, d, r⟩ => ⟨o, es, ep, base_of e (noA e d), d, r⟩
    have hKb : K.In (hidT s₁.heap H) := fun b o e => base_of (KX b o e) (by
      cases q : H b with
      | none => rfl
      | some u =>
        have e' : b = a := hA b (by rw [q]; simp)
        subst e'
        rw [hK (by rw [q]; simp)] at e; cases e)
    have hM : Mod K mg (hidT s₁.heap H) := ⟨hKb, nsK hns, ⟨mb, nsK hb, hbb⟩, let ⟨mc, h1, h2⟩ := hlim; ⟨mc, nsK h1, h2⟩⟩
    have e0 : Env0 P w K mg (hidT s₁.heap H) callerA [] s₁ H := ⟨rfl, hM, fun b o e => of_hidT e, Nat.le_of_eq (hidT_size _ _), trivial, fun b hb => absurd (show b ∈ ([] : List Addr) from hb) (by simp), hok, .of_eq hg⟩
    refine codeAny_mono ((F _ hKb (nsK hns)).run callerA [] s₁ H ⟨[.ref a], []⟩ [.ref a] [.ref a] _ _ hr e0 (hbind s₁ (.ref a)) (.cons rfl .nil) (hsp H hO hS)) fun r s' h => ?_
    cases r with
    | error e => exact (hCX H e s' h).elim
    | ok fl =>
      cases fl with
      | next => exact False.elim h
      | brk => exact False.elim h
      | cont => exact False.elim h
      | ret u =>
        obtain ⟨v, H', os, bare, un, hok', r', q⟩ := h
        have q' : v = .bl true := q
        subst q'
        obtain rfl : u = Value.bool true := r'
        refine ⟨rfl, OldK.of_keep fun b o e => ?_, os, bare⟩
        cases q : H b with
        | none => exact un.keep b o e q (by intro z; exact absurd (show b ∈ ([] : List Addr) from z) (by simp)) (by simp)
        | some u =>
          rcases hO b with z | ⟨ob, xs, z⟩
          · rw [q] at z; cases z
          · have z2 := un.frzs b ob _ z
            obtain ⟨e1, _⟩ := hok b _ z
            obtain ⟨e2, _⟩ := hok' b _ z2
            rw [e] at e1; cases e1
            exact e2
  cases hk : K.lookup a with
  | some o =>
    -- the script is one of the module's own objects
    have e := KX a o hk
    rw [ha] at e
    cases e
    refine core (fun _ => none) (fun _ => .inl rfl) (.inr ⟨_, vs.toArray, _, hk, rfl, rfl, rfl, by rw [List.size_toArray, lenV]; exact hl, by simpa using rv⟩) (fun b u z => by have z' : (none : Option HO) = some u := z; cases z') (fun b z => absurd rfl z) fun z => absurd rfl z
  | none =>
    refine core (fun b => if b = a then some (.frz { cls := .type "list", data := .seq vs.toArray } (.lst (ns.map V.int))) else none) (fun b => ?_) (.inl (.inr ⟨{ cls := .type "list", data := .seq vs.toArray }, if_pos rfl⟩)) (fun b u z => ?_) (fun b z => ?_) fun _ => hk
    · by_cases hb : b = a
      · exact .inr ⟨_, _, if_pos hb⟩
      · exact .inl (if_neg hb)
    · by_cases hb : b = a
      · have z' := (if_pos hb).symm.trans z
        cases z'
        subst hb
        exact ⟨ha, by rw [List.length_map]; exact hl, vs, _, rv, ha⟩
      · have z' := (if_neg hb).symm.trans z
        cases z'
    · by_cases hb : b = a
      · exact hb
      · exact absurd (if_neg hb) z
end L2

namespace L2
open PySem PySem.Spec PyProof.Rows

abbrev KOf {K : PySem.W.Frag} {h : Heap} (_ : K.In h) : PySem.W.Frag := K

/-- the goal that k_head leaves (case hc), from the law's promise. F gives the function object fd (K's own) once, then the promise over every base -/
theorem walk_of {l : PySem.W.OpenLaw} {n k : Nat} {q : Program} {loose : List Str} {XP : (Str → Option Value) → Heap → Prop} {YP : World → Heap → Prop} {d : DefRec} {K : Params → PySem.W.Frag} {CX : World → CXT} {sp : World → Sp} {x : Str}
    (hn : l.most = some n) (hn2 : n ≤ sizeLine) (hdf : d.params.defaults = []) (hr : Room k callerA)
    (hY : ∀ (w : World) (h : Heap), YP w h → (K w.params).In h)
    (F : ∀ (w : World) (mg : Str → Option Value) (fa : Addr) (h : Heap), (K w.params).In h → h.Ns mainGlobals mg → mg d.name = some (.ref fa) →
      ∃ fd : FuncData, (∀ (s : Shared) (u : Value), BindsTo s fd ⟨[u], []⟩ [(x, u)]) ∧
        ∀ base : Heap, (K w.params).In base → base.Ns mainGlobals mg → FnOk l.prog w (K w.params) mg base (CX w) k fa fd [x] (sp w))
    (hsp : ∀ (w : World) (H : Hp) (a : Addr) (ns : List Int), ns.length ≤ n → Only H → SqL (K w.params) H a (ns.map V.int) → sp w [.ref a] H (fun v _ => v = .bl true) fun _ _ _ => False)
    (hCX : ∀ (w : World) (H : Hp) (s : Shared) (e : Value) (s' : Shared), CX w [] H s (fun _ _ _ => False) e s' → False) :
    PySem.W.WalkO q loose XP YP l.row.toRowW d [] (fun f vs => PySem.call f vs) := by
  refine Att.attach_call hn hdf fun w s₀ s₁ mg mb fa o pm cd doc a vs ns G Y ho hd hcd hmg hobj hints hlen hg => ?_
  have KX := hY w _ Y
  obtain ⟨fd, hb, hF⟩ := F w mg fa _ KX G.T.g hmg
  exact law_call KX G.T.g G.T.b G.T.builtins G.T.nolimit hg hobj hints (Nat.le_trans hlen hn2) hr hF hb (fun H hO hS => hsp w H a ns hlen hO hS) fun H e s' => hCX w H s₁ e s'
end L2

/- THE LAST THEOREM (shape; LID, My.* are yours):
   My.Adr: a structure of the addresses that your layer names (classes, functions); My.Txt K t: a structure (Prop) of the equations over K;
   My.txt_mk : {K} {implicit addresses ..} (e1 : nsIn K mainGlobals "law" = some (some (.ref f))) (e2 : K.lookup f = some ⟨oc, od, .func (fnOf "law" "law" params body scope dV kV doc pm an cdv ct), sl⟩) (e3 : codeIn K cdv "law" = true) .. : ∃ t, My.Txt K t

theorem PySem.Challenge.cw_LID_holds : PySem.Challenge.rw_LID.Holds := by
  w_on; o_law; k_head; (case hw => w_witness2)
  k_fill
  refine L2.walk_of (l := PySem.Challenge.rw_LID) (n := 63) (k := 40) (x := "script") (CX := fun w => ..) (sp := fun _ => My.sp_law) rfl (by decide) rfl ⟨rfl, by decide, by decide⟩ (fun w h Y => PySem.W.kIn_of Y) ?F ?S ?C
  case F =>
    intro w mg fa h KX G hmg
    have T : ∃ t, My.Txt (L2.KOf KX) t := by
      dsimp only [L2.KOf]                          -- K must stand as «<heap const> w.params» for k_is
      refine' My.txt_mk ?e1 ?e2 ?e3 ..
      (case e1 => PySem.W.k_is)                    -- in the order: a name -> its address -> its object -> its parts
      (case e2 => PySem.W.k_is)
      ..
    obtain ⟨t, T⟩ := T
    have e0 := hmg.symm.trans (PySem.W.mg_of KX G T.law)
    cases e0                                       -- fa is the law's own address
    exact ⟨_, fun s u => .of_eq rfl, fun base kb nb => My.law_fn T kb nb⟩     -- if «.of_eq rfl» comes too early: refine' ⟨_, ?b, fun base kb nb => My.law_fn T kb nb⟩; exact fun s u => .of_eq rfl
  case S => exact fun w H a ns hl hO hS => ..
  case C => exact ..
(the tactic k_is has no namespace: write k_is) -/

/-! SHORT WORDS over the layer: a def of the text, its body, what a loop and a test want. -/
namespace L2
open PySem PySem.Spec PyProof.Rows

/-! ### the text by places -/
/-- the j-th statement of a class's body -/
def inClass (s : Stmt) (j : Nat) : Stmt := match s with
  | .ClassDef _ _ _ body _ _ _ _ _ _ _ => body.getD j (.Pass ⟨0, 0, 0, 0⟩)
  | _ => .Pass ⟨0, 0, 0, 0⟩
def defArgs (s : Stmt) : Arguments := match s with
  | .FunctionDef _ a _ _ _ _ _ _ _ _ => a
  | _ => { posonlyargs := [], args := [], vararg := none, kwonlyargs := [], kw_defaults := [], kwarg := none, defaults := [] }
def defBody (s : Stmt) : List Stmt := match s with
  | .FunctionDef _ _ b _ _ _ _ _ _ _ => b
  | _ => []
def defScope (s : Stmt) : Scope := match s with
  | .FunctionDef _ _ _ _ _ _ sc _ _ _ => sc
  | _ => { kind := .function, names := [], isGenerator := false, isCoroutine := false }

/-! ### no exception leaves a def -/
abbrev CX0 : CXT := fun _ _ _ _ _ _ => False
abbrev E0 : XK := fun _ _ _ => False
theorem pass0 {X : Cx} : Passes CX0 X E0 := fun _ _ _ _ _ _ _ h => h.elim

/-! ### a def (or method) of the text as it stands behind the top -/
structure Fun (K : PySem.W.Frag) (x qual : Str) (st : Stmt) (f : Addr) (fd : FuncData) : Prop where
  ex : ∃ (oc : Value) (od : Option Addr) (kV doc pm : Value) (an : Option Addr) (cdv ct : Value) (osl : Array (Option Value)),
    fd = PySem.W.fnOf x qual (defArgs st) (defBody st) (defScope st) .none kV doc pm an cdv ct ∧ K.lookup f = some ⟨oc, od, .func fd, osl⟩ ∧ PySem.W.codeIn K cdv qual = true
  kp : PySem.W.keepIn K (.ref f) = true
section
variable {P : Program} {w : World} {K : PySem.W.Frag} {mg : Str → Option Value} {base : Heap}
/-- THE RULE for a def: its body as a term of rules, and the reading of that term -/
theorem Fun.ok {x qual : Str} {st : Stmt} {f : Addr} {fd : FuncData} {N ps : List Str} {k : Nat} {sp : Sp} (F : Fun K x qual st f fd) (S : FnScope N ps (defScope st)) (len : ∀ vs H Q E, sp vs H Q E → vs.length = ps.length)
    (hbody : ∀ (cdv : Value) (A : Around) (outer : List Env) (s : Shared) (H : Hp) (vs : List V) (Q : VK) (E : XK), Room k (A.deeper (envOfC qual (defScope st) s.heap.objs.size f cdv)) → sp vs H Q E →
      ∃ t, PSs (cxOf CX0 P w K mg base N qual (defScope st) f cdv A outer s H E).nox (defBody st) t ∧ t { nx := fun _ H' => Q .non H', rt := Q } (start N vs) H) : FnOk P w K mg base CX0 (k + 1) f fd ps sp := by
  obtain ⟨oc, od, kV, doc, pm, an, cdv, ct, osl, rfl, lk, hcd⟩ := F.ex
  refine fn_of lk hcd S len fun A outer s H vs Q E hr hsp => ?_
  obtain ⟨t, h, q⟩ := hbody cdv A outer s H vs Q E hr hsp
  exact ⟨t, h.nox, q⟩
/-- how its arguments bind (no defaults): h is «fun _ _ _ _ _ _ us hl => match us, hl with | [_, _], _ => rfl», one _ a parameter -/
theorem Fun.binds {x qual : Str} {st : Stmt} {f : Addr} {fd : FuncData} {ps : List Str} (F : Fun K x qual st f fd)
    (h : ∀ (kV doc pm : Value) (an : Option Addr) (cdv ct : Value) (us : List Value), us.length = ps.length → bindArgs (PySem.W.fnOf x qual (defArgs st) (defBody st) (defScope st) .none kV doc pm an cdv ct) ⟨us, []⟩ = pure (ps.zip us)) : Binds K fd ps [] := by
  obtain ⟨oc, od, kV, doc, pm, an, cdv, ct, osl, rfl, lk, hcd⟩ := F.ex
  exact .all (h kV doc pm an cdv ct)
theorem fun_mk {x qual : Str} {st : Stmt} {f : Addr} {oc : Value} {od an : Option Addr} {osl : Array (Option Value)} {kV doc pm cdv ct : Value} (l : K.lookup f = some ⟨oc, od, .func (PySem.W.fnOf x qual (defArgs st) (defBody st) (defScope st) .none kV doc pm an cdv ct), osl⟩)
    (c : PySem.W.codeIn K cdv qual = true) (k : PySem.W.keepIn K (.ref f) = true) : Fun K x qual st f (PySem.W.fnOf x qual (defArgs st) (defBody st) (defScope st) .none kV doc pm an cdv ct) := ⟨⟨oc, od, kV, doc, pm, an, cdv, ct, osl, rfl, l, c⟩, k⟩
end
/-! ### expressions in short: the name that stands in the i-th slot -/
section
variable {X : Cx}
theorem pv (i : Nat) {x : Str} {pos : Pos} (hN : X.N[i]? = some x := by rfl) (hv : Vis X.env.scope x := by first | exact Or.inl rfl | exact Or.inr (Or.inl rfl) | exact Or.inr (Or.inr rfl)) (hd : (x == ("__debug__" : Str)) = false := by decide)
    (hcd : (x == ("__classdict__" : Str)) = false := by decide) : PE X (.Name x pos) (tVar i) := pe_var hN hv hd hcd
end

/-! ### tests -/
/-! ### heaps -/
/-- all that was tracked is as it was -/
def Same (H H' : Hp) : Prop := ∀ b o, H b = some o → H' b = some o
theorem Same.refl (H : Hp) : Same H H := fun _ _ h => h
theorem Same.trans {H H1 H2 : Hp} (a : Same H H1) (b : Same H1 H2) : Same H H2 := fun c o h => b c o (a c o h)
theorem Same.free {H H' : Hp} (e : Same H H') {l : Addr} (h : H' l = Option.none) : H l = Option.none := by
  cases q : H l with
  | none => rfl
  | some o =>
    rw [e l o q] at h
    cases h
theorem Same.seq {K : PySem.W.Frag} {H H' : Hp} {a : Addr} {xs : List V} (e : Same H H') (h : SqL K H a xs) : SqL K H' a xs := by
  rcases h with (h | ⟨o, h⟩) | h
  · exact .inl (.inl (e _ _ h))
  · exact .inl (.inr ⟨o, e _ _ h⟩)
  · exact .inr h

end L2
/-! THE DATA LAYER: what a def does, as a function over plain data (no heap), above the hand layer's judgements. -/
namespace DL
open PySem PySem.Spec PyProof.Rows L2

abbrev D := PyData
abbrev St := L2.St
/-- an own exception: its class by its name, what its fields hold -/
structure XD where
  cls : Str
  flds : List (Str × D)
/-- a result: no claim, a value, an exception -/
abbrev M (α : Type) := Option (Except XD α)
def M.ret {α : Type} (a : α) : M α := some (.ok a)
def M.thn {α β : Type} (r : M α) (f : α → M β) : M β := match r with
  | none => none
  | some (.ok a) => f a
  | some (.error x) => some (.error x)
def M.lift {α : Type} (r : Option α) : M α := match r with
  | none => none
  | some a => some (.ok a)
/-- r is a value with k, or an exception with G -/
def ok {α : Type} (G : XD → Prop) (r : M α) (k : α → Prop) : Prop := match r with
  | none => False
  | some (.ok a) => k a
  | some (.error x) => G x
/-- an exception's wish at every later heap -/
def GS (G : XD → Hp → Prop) (Hr : Hp) (x : XD) : Prop := ∀ H', Same Hr H' → G x H'
theorem ok_mono {α : Type} {G : XD → Prop} {r : M α} {k k' : α → Prop} (h : ok G r k) (f : ∀ a, k a → k' a) : ok G r k' := by
  match r, h with
  | some (.ok a), h => exact f a h
  | some (.error x), h => exact h
theorem ok_thn {α β : Type} {G : XD → Prop} {r : M α} {f : α → M β} {k : β → Prop} (h : ok G (r.thn f) k) : ok G r (fun a => ok G (f a) k) := by
  match r, h with
  | some (.ok a), h => exact h
  | some (.error x), h => exact h
theorem ok_lift {α : Type} {G : XD → Prop} {r : Option α} {k : α → Prop} (h : ok G (M.lift r) k) : ∃ a, r = some a ∧ k a := by
  match r, h with
  | some a, h => exact ⟨a, rfl, h⟩
theorem thn_ret {α β : Type} (a : α) (f : α → M β) : (M.ret a).thn f = f a := rfl
theorem thn_some {α β : Type} (a : α) (f : α → M β) : M.thn (some (.ok a)) f = f a := rfl
theorem lift_some {α : Type} (a : α) : M.lift (some a) = M.ret a := rfl

/-! ### data in the heap: O, the lists that are being built (owned): nothing else leans on them -/
/-- a list of the text's own -/
def KL (K : PySem.W.Frag) (a : Addr) (xs : List V) : Prop :=
  ∃ (o : Obj) (its : Array Value) (n : Nat), K.lookup a = some o ∧ o.cls = .type "list" ∧ o.dict = none ∧ o.data = .seq its n ∧ its.size ≤ sizeLine ∧ Vals xs its.toList
/-- a key as data -/
def keyD : Key → D
  | .inl i => .int i
  | .inr x => .str x
/-- an instance as data: its class, its attributes -/
abbrev insD (nm : Str) (es : List (Str × D)) : D := .dict [(.none, .tuple (.str nm :: es.map fun e => .tuple [.str e.1, e.2]))]
/-- what can be owned: a list, a dict -/
def Mu (H : Hp) (l : Addr) : Prop := (∃ xs, H l = some (.lst xs)) ∨ ∃ kvs, H l = some (.dK kvs)
mutual
inductive Rep (K : PySem.W.Frag) (O : List Addr) (H : Hp) : V → D → Prop
  | non : Rep K O H .non .none
  | bl (b : Bool) : Rep K O H (.bl b) (.bool b)
  | int (i : Int) : Rep K O H (.int i) (.int i)
  | str (x : Str) : Rep K O H (.str x) (.str x)
  | tup {a : Addr} {xs : List V} {ds : List D} (h : SqT K H a xs) (r : Reps K O H xs ds) : Rep K O H (.ref a) (.tuple ds)
  | lst {a : Addr} {xs : List V} {ds : List D} (h : Rd H a (.lst xs)) (n : a ∉ O) (r : Reps K O H xs ds) : Rep K O H (.ref a) (.list ds)
  | lstK {a : Addr} {xs : List V} {ds : List D} (h : KL K a xs) (r : Reps K O H xs ds) : Rep K O H (.ref a) (.list ds)
  | dct {a : Addr} {kvs : List (Key × V)} {es : List (Key × D)} (h : Rd H a (.dK kvs)) (n : a ∉ O) (hk : kvs.map (·.1) = es.map (·.1)) (r : Reps K O H (kvs.map (·.2)) (es.map (·.2))) : Rep K O H (.ref a) (.dict (es.map fun e => (keyD e.1, e.2)))
  /-- an instance of a class of the text -/
  | ins {a C dx : Addr} {nm : Str} {fs : List (Str × V)} {es : List (Str × D)} (hN : PySem.W.nsIn K mainGlobals nm = some (some (.ref C))) (h : H a = some (.ins C dx fs)) (n : a ∉ O) (hk : fs.map (·.1) = es.map (·.1)) (r : Reps K O H (fs.map (·.2)) (es.map (·.2))) : Rep K O H (.ref a) (insD nm es)
inductive Reps (K : PySem.W.Frag) (O : List Addr) (H : Hp) : List V → List D → Prop
  | nil : Reps K O H [] []
  | cons {v : V} {d : D} {vs : List V} {ds : List D} (r : Rep K O H v d) (rs : Reps K O H vs ds) : Reps K O H (v :: vs) (d :: ds)
end

/-- how a heap goes over into another one: tuples stay, and lists that are not owned -/
structure To (O O' : List Addr) (H H' : Hp) : Prop where
  t : ∀ b xs, Rd H b (.tup xs) → Rd H' b (.tup xs)
  l : ∀ b xs, b ∉ O → Rd H b (.lst xs) → b ∉ O' ∧ Rd H' b (.lst xs)
  d : ∀ b xs, b ∉ O → Rd H b (.dK xs) → b ∉ O' ∧ Rd H' b (.dK xs)
  i : ∀ b C dx fs, b ∉ O → H b = some (.ins C dx fs) → b ∉ O' ∧ H' b = some (.ins C dx fs)
section
variable {K : PySem.W.Frag} {O O' : List Addr} {H H' : Hp}
theorem To.sqT (k : To O O' H H') {a : Addr} {xs : List V} (h : SqT K H a xs) : SqT K H' a xs := by
  rcases h with h | h
  · exact .inl (k.t a xs h)
  · exact .inr h
mutual
theorem Rep.to (k : To O O' H H') : ∀ {v : V} {d : D}, Rep K O H v d → Rep K O' H' v d
  | _, _, .non => .non
  | _, _, .bl b => .bl b
  | _, _, .int i => .int i
  | _, _, .str x => .str x
  | _, _, .tup h r => .tup (k.sqT h) (Reps.to k r)
  | _, _, .lst h n r => .lst (k.l _ _ n h).2 (k.l _ _ n h).1 (Reps.to k r)
  | _, _, .lstK h r => .lstK h (Reps.to k r)
  | _, _, .dct h n hk r => .dct (k.d _ _ n h).2 (k.d _ _ n h).1 hk (Reps.to k r)
  | _, _, .ins hN h n hk r => .ins hN (k.i _ _ _ _ n h).2 (k.i _ _ _ _ n h).1 hk (Reps.to k r)
theorem Reps.to (k : To O O' H H') : ∀ {vs : List V} {ds : List D}, Reps K O H vs ds → Reps K O' H' vs ds
  | _, _, .nil => .nil
  | _, _, .cons r rs => .cons (Rep.to k r) (Reps.to k rs)
end
theorem Same.rd (s : Same H H') {b : Addr} {o : HO} (h : Rd H b o) : Rd H' b o := by
  rcases h with h | ⟨u, h⟩
  · exact .inl (s _ _ h)
  · exact .inr ⟨u, s _ _ h⟩
theorem To.same (s : Same H H') : To O O H H' := ⟨fun b xs h => Same.rd s h, fun b xs n h => ⟨n, Same.rd s h⟩, fun b xs n h => ⟨n, Same.rd s h⟩, fun b C dx fs n h => ⟨n, s _ _ h⟩⟩
theorem To.less (s : ∀ b, b ∈ O' → b ∈ O) : To O O' H H := ⟨fun b xs h => h, fun b xs n h => ⟨fun z => n (s b z), h⟩, fun b xs n h => ⟨fun z => n (s b z), h⟩, fun b C dx fs n h => ⟨fun z => n (s b z), h⟩⟩
theorem Rep.same (s : Same H H') {v : V} {d : D} (r : Rep K O H v d) : Rep K O H' v d := r.to (.same s)
theorem Reps.same (s : Same H H') {v : List V} {d : List D} (r : Reps K O H v d) : Reps K O H' v d := r.to (.same s)
theorem Rd.ne_new {b l : Addr} {o : HO} (h : Rd H b o) (hl : H l = none) : b ≠ l := by
  rcases h with h | ⟨u, h⟩
  · exact ne_of_none h hl
  · exact ne_of_none h hl
theorem same_new {l : Addr} {o : HO} (hl : H l = none) : Same H (upd H l o) := fun b u e => by
  rw [upd_ne (ne_of_none e hl)]
  exact e
/-- a new list that is owned from now on -/
theorem To.own {l : Addr} {o : HO} (hl : H l = none) : To O (l :: O) H (upd H l o) :=
  ⟨fun b xs h => Same.rd (same_new hl) h, fun b xs n h => ⟨fun z => by
    rcases List.mem_cons.mp z with z | z
    · exact Rd.ne_new h hl z
    · exact n z, Same.rd (same_new hl) h⟩, fun b xs n h => ⟨fun z => by
    rcases List.mem_cons.mp z with z | z
    · exact Rd.ne_new h hl z
    · exact n z, Same.rd (same_new hl) h⟩, fun b C dx fs n h => ⟨fun z => by
    rcases List.mem_cons.mp z with z | z
    · exact ne_of_none h hl z
    · exact n z, same_new hl _ _ h⟩⟩
/-- an owned list is changed -/
theorem To.set {l : Addr} {xs ys : List V} (hl : H l = some (.lst xs)) (ho : l ∈ O) : To O O H (upd H l (.lst ys)) := by
  have keep : ∀ {b : Addr} {o : HO}, b ≠ l → Rd H b o → Rd (upd H l (.lst ys)) b o := fun {b o} hb h => by
    rcases h with h | ⟨u, h⟩
    · exact .inl (by rw [upd_ne hb]; exact h)
    · exact .inr ⟨u, by rw [upd_ne hb]; exact h⟩
  refine ⟨fun b zs h => keep ?_ h, fun b zs n h => ⟨n, keep (fun z => n (z ▸ ho)) h⟩, fun b zs n h => ⟨n, keep (fun z => n (z ▸ ho)) h⟩, fun b C dx fs n h => ⟨n, by rw [upd_ne (show b ≠ l from fun z => n (z ▸ ho))]; exact h⟩⟩
  rintro rfl
  rcases h with h | ⟨u, h⟩
  · rw [hl] at h; cases h
  · rw [hl] at h; cases h
/-- an owned dict is changed -/
theorem To.setD {l : Addr} {xs : List (Key × V)} {o : HO} (hl : H l = some (.dK xs)) (ho : l ∈ O) : To O O H (upd H l o) := by
  have keep : ∀ {b : Addr} {u : HO}, b ≠ l → Rd H b u → Rd (upd H l o) b u := fun {b u} hb h => by
    rcases h with h | ⟨u, h⟩
    · exact .inl (by rw [upd_ne hb]; exact h)
    · exact .inr ⟨u, by rw [upd_ne hb]; exact h⟩
  refine ⟨fun b zs h => keep ?_ h, fun b zs n h => ⟨n, keep (fun z => n (z ▸ ho)) h⟩, fun b zs n h => ⟨n, keep (fun z => n (z ▸ ho)) h⟩, fun b C dx fs n h => ⟨n, by rw [upd_ne (show b ≠ l from fun z => n (z ▸ ho))]; exact h⟩⟩
  rintro rfl
  rcases h with h | ⟨u, h⟩
  · rw [hl] at h; cases h
  · rw [hl] at h; cases h
/-! inversions -/
theorem Rep.int_inv {v : V} {i : Int} (r : Rep K O H v (.int i)) : v = .int i := by cases r; rfl
theorem Rep.bool_inv {v : V} {i : Bool} (r : Rep K O H v (.bool i)) : v = .bl i := by cases r; rfl
theorem Rep.str_inv {v : V} {i : Str} (r : Rep K O H v (.str i)) : v = .str i := by cases r; rfl
theorem Rep.none_inv {v : V} (r : Rep K O H v .none) : v = .non := by cases r; rfl
theorem Rep.tup_inv {v : V} {ds : List D} (r : Rep K O H v (.tuple ds)) : ∃ a xs, v = .ref a ∧ SqT K H a xs ∧ Reps K O H xs ds := by
  cases r with
  | tup h r => exact ⟨_, _, rfl, h, r⟩
theorem Rep.lst_inv {v : V} {ds : List D} (r : Rep K O H v (.list ds)) : ∃ a xs, v = .ref a ∧ SqL K H a xs ∧ Reps K O H xs ds := by
  cases r with
  | lst h n r => exact ⟨_, _, rfl, .inl h, r⟩
  | lstK h r => exact ⟨_, _, rfl, .inr h, r⟩
/-- no instance -/
def noIns : D → Bool
  | .dict [(.none, _)] => false
  | _ => true
theorem Rep.dct_inv {v : V} {X : List (D × D)} (r : Rep K O H v (.dict X)) (hi : noIns (.dict X) = true) : ∃ (a : Addr) (kvs : List (Key × V)) (es : List (Key × D)), v = .ref a ∧ X = es.map (fun e => (keyD e.1, e.2)) ∧ Rd H a (.dK kvs) ∧ a ∉ O ∧ kvs.map (·.1) = es.map (·.1) ∧ Reps K O H (kvs.map (·.2)) (es.map (·.2)) := by
  generalize hd : PyData.dict X = d at r
  cases r with
  | dct h n hk r =>
    cases hd
    exact ⟨_, _, _, rfl, rfl, h, n, hk, r⟩
  | ins hN h n hk r =>
    rw [hd] at hi
    cases hi
  | _ => cases hd
theorem Rep.ins_inv {v : V} {nm : Str} {es : List (Str × D)} (r : Rep K O H v (insD nm es)) : ∃ (a C dx : Addr) (fs : List (Str × V)), v = .ref a ∧ PySem.W.nsIn K mainGlobals nm = some (some (.ref C)) ∧ H a = some (.ins C dx fs) ∧ a ∉ O ∧ fs.map (·.1) = es.map (·.1) ∧ Reps K O H (fs.map (·.2)) (es.map (·.2)) := by
  generalize hd : insD nm es = d at r
  cases r with
  | dct h n hk r =>
    rename_i a kvs es2
    cases es2 with
    | nil => cases hd
    | cons e es2 =>
      obtain ⟨k, x⟩ := e
      unfold insD at hd
      rw [List.map_cons] at hd
      injection hd with hd
      injection hd with hd _
      have := congrArg Prod.fst hd
      cases k <;> cases this
  | ins hN h n hk r =>
    rename_i a C dx nm2 fs es2
    unfold insD at hd
    injection hd with hd
    injection hd with hd _
    have hd := congrArg Prod.snd hd
    injection hd with hd
    injection hd with h1 h2
    injection h1 with h1
    subst h1
    have : es = es2 := by
      clear hk r h n hN
      induction es generalizing es2 with
      | nil =>
        cases es2 with
        | nil => rfl
        | cons => cases h2
      | cons e es ih =>
        cases es2 with
        | nil => cases h2
        | cons e2 es2 =>
          rw [List.map_cons, List.map_cons] at h2
          injection h2 with q1 q2
          injection q1 with q1
          injection q1 with q3 q4
          injection q3 with q3
          injection q4 with q4 _
          rw [ih q2 (by rw [q2])]
          congr 1
          exact Prod.ext q3 q4
    subst this
    exact ⟨_, _, _, _, rfl, hN, h, n, hk, r⟩
  | _ => cases hd
theorem Reps.length : ∀ {vs : List V} {ds : List D}, Reps K O H vs ds → vs.length = ds.length
  | _, _, .nil => rfl
  | _, _, .cons _ rs => congrArg (· + 1) (Reps.length rs)
theorem Reps.get : ∀ {vs : List V} {ds : List D} {i : Nat} {d : D}, Reps K O H vs ds → ds[i]? = some d → ∃ v, vs[i]? = some v ∧ Rep K O H v d
  | _, _, _, _, .nil, e => by simp at e
  | _, _, 0, _, .cons r _, e => by simp at e; subst e; exact ⟨_, rfl, r⟩
  | _, _, i + 1, d, .cons _ rs, e => by
    obtain ⟨u, h1, h2⟩ := Reps.get (i := i) (d := d) rs (by simpa using e)
    exact ⟨u, by simpa using h1, h2⟩
theorem Reps.getV : ∀ {vs : List V} {ds : List D} {i : Nat} {v : V}, Reps K O H vs ds → vs[i]? = some v → ∃ d, ds[i]? = some d ∧ Rep K O H v d
  | _, _, _, _, .nil, e => by simp at e
  | _, _, 0, _, .cons r _, e => by simp at e; subst e; exact ⟨_, rfl, r⟩
  | _, _, i + 1, v, .cons _ rs, e => by
    obtain ⟨u, h1, h2⟩ := Reps.getV (i := i) (v := v) rs (by simpa using e)
    exact ⟨u, by simpa using h1, h2⟩
theorem Reps.append : ∀ {xs ys : List V} {ds es : List D}, Reps K O H xs ds → Reps K O H ys es → Reps K O H (xs ++ ys) (ds ++ es)
  | _, _, _, _, .nil, s => s
  | _, _, _, _, .cons r t, s => .cons r (Reps.append t s)
theorem Reps.take : ∀ {xs : List V} {ds : List D} (n : Nat), Reps K O H xs ds → Reps K O H (xs.take n) (ds.take n)
  | _, _, 0, _ => .nil
  | _, _, _ + 1, .nil => .nil
  | _, _, n + 1, .cons r t => .cons r (Reps.take n t)
theorem Reps.drop : ∀ {xs : List V} {ds : List D} (n : Nat), Reps K O H xs ds → Reps K O H (xs.drop n) (ds.drop n)
  | _, _, 0, r => r
  | _, _, _ + 1, .nil => .nil
  | _, _, n + 1, .cons _ t => Reps.drop n t
theorem Reps.ints (ns : List Int) : Reps K O H (ns.map V.int) (ns.map PyData.int) := by
  induction ns with
  | nil => exact .nil
  | cons n ns ih => exact .cons (.int n) ih
theorem Reps.atI {vs : List V} {ds : List D} {i : Int} {d : D} (r : Reps K O H vs ds) (h : L2.atI ds i = some d) : ∃ v, L2.atI vs i = some v ∧ Rep K O H v d := by
  unfold L2.atI at h ⊢
  rw [r.length]
  cases e : ixN ds.length i with
  | none => rw [e] at h; cases h
  | some j =>
    rw [e] at h
    exact r.get h
end

/-! ### a def's names: unset, a value, a list that is being built -/
inductive Sl where
  | un
  | vl (d : D)
  | ow (ds : List D)
  /-- a dict of one's own -/
  | od (es : List (Key × D))
  /-- an exception that is held -/
  | ex (a : Addr)
abbrev DS := List Sl
def SlOk (K : PySem.W.Frag) (O : List Addr) (H : Hp) (o : Option (Option V)) : Sl → Prop
  | .un => True
  | .vl d => ∃ v, o = some (some v) ∧ Rep K O H v d
  | .ow ds => ∃ l xs, o = some (some (.ref l)) ∧ l ∈ O ∧ H l = some (.lst xs) ∧ Reps K O H xs ds
  | .od es => ∃ l kvs, o = some (some (.ref l)) ∧ l ∈ O ∧ H l = some (.dK kvs) ∧ kvs.map (·.1) = es.map (·.1) ∧ Reps K O H (kvs.map (·.2)) (es.map (·.2))
  | .ex a => o = some (some (.ref a))
/-- a slot of one's own -/
def Sl.own : Sl → Prop
  | .ow _ => True
  | .od _ => True
  | _ => False
theorem Mu.same {H H' : Hp} {l : Addr} (s : Same H H') (h : Mu H l) : Mu H' l := by
  rcases h with ⟨xs, h⟩ | ⟨xs, h⟩
  · exact .inl ⟨xs, s _ _ h⟩
  · exact .inr ⟨xs, s _ _ h⟩
theorem Mu.upd_ne {H : Hp} {a l : Addr} {o : HO} (n : a ≠ l) (h : Mu H a) : Mu (upd H l o) a := by
  rcases h with ⟨xs, h⟩ | ⟨xs, h⟩
  · exact .inl ⟨xs, by rw [L2.upd_ne n]; exact h⟩
  · exact .inr ⟨xs, by rw [L2.upd_ne n]; exact h⟩
theorem Mu.new {H : Hp} {a l : Addr} {o : HO} (hl : H l = none) (h : Mu H a) : Mu (upd H l o) a := h.same (same_new hl)
theorem Mu.lst {H : Hp} {l : Addr} {xs : List V} (h : H l = some (.lst xs)) : Mu H l := .inl ⟨xs, h⟩
theorem Mu.some {H : Hp} {l : Addr} (h : Mu H l) : ∃ o, H l = some o := by
  rcases h with ⟨xs, h⟩ | ⟨xs, h⟩
  · exact ⟨_, h⟩
  · exact ⟨_, h⟩
structure Ev (K : PySem.W.Frag) (Hr : Hp) (O : List Addr) (H : Hp) (σ : St) (δ : DS) : Prop where
  root : Same Hr H
  oo : ∀ l ∈ O, Mu H l
  len : σ.length = δ.length
  at_ : ∀ (i : Nat) (s : Sl), δ[i]? = some s → SlOk K O H σ[i]? s
  dis : ∀ (i j : Nat) (l : Addr) (ds es : List D), i ≠ j → δ[i]? = some (.ow ds) → δ[j]? = some (.ow es) → σ[i]? = some (some (.ref l)) → σ[j]? ≠ some (some (.ref l))
section
variable {K : PySem.W.Frag} {Hr : Hp} {O : List Addr} {H H' : Hp} {σ : St} {δ : DS}
theorem Ev.same (s : Same H H') (e : Ev K Hr O H σ δ) : Ev K Hr O H' σ δ := by
  refine ⟨e.root.trans s, fun l hl => (e.oo l hl).same s, e.len, fun i sl h => ?_, e.dis⟩
  have q := e.at_ i sl h
  cases sl with
  | un => trivial
  | ex a => exact q
  | vl d =>
    obtain ⟨v, h1, r⟩ := q
    exact ⟨v, h1, r.same s⟩
  | ow ds =>
    obtain ⟨l, xs, h1, h2, h3, r⟩ := q
    exact ⟨l, xs, h1, h2, s _ _ h3, r.same s⟩
  | od es =>
    obtain ⟨l, kvs, h1, h2, h3, hk, r⟩ := q
    exact ⟨l, kvs, h1, h2, s _ _ h3, hk, r.same s⟩
theorem Ev.val {i : Nat} {d : D} (e : Ev K Hr O H σ δ) (h : δ[i]? = some (.vl d)) : ∃ v, σ[i]? = some (some v) ∧ Rep K O H v d := e.at_ i _ h
theorem get_set {α : Type} {l : List α} {i j : Nat} {a : α} : (l.set i a)[j]? = if i = j then (if i < l.length then some a else none) else l[j]? := by
  rw [List.getElem?_set]
theorem Ev.set {i : Nat} {v : V} {d : D} (e : Ev K Hr O H σ δ) (r : Rep K O H v d) : Ev K Hr O H (σ.set i (some v)) (δ.set i (.vl d)) := by
  refine ⟨e.root, e.oo, by rw [List.length_set, List.length_set]; exact e.len, fun j sl h => ?_, fun j k l ds es hjk h1 h2 h3 h4 => ?_⟩
  · rw [get_set] at h ⊢
    by_cases hij : i = j
    · rw [if_pos hij] at h ⊢
      by_cases hl : i < δ.length
      · rw [if_pos hl] at h
        rw [if_pos (by rw [e.len]; exact hl)]
        cases h
        exact ⟨v, rfl, r⟩
      · rw [if_neg hl] at h; cases h
    · rw [if_neg hij] at h ⊢
      exact e.at_ j sl h
  · rw [get_set] at h1 h2 h3 h4
    by_cases hij : i = j
    · rw [if_pos hij] at h1
      split at h1 <;> cases h1
    · by_cases hik : i = k
      · rw [if_pos hik] at h2
        split at h2 <;> cases h2
      · rw [if_neg hij] at h1 h3
        rw [if_neg hik] at h2 h4
        exact e.dis j k l ds es hjk h1 h2 h3 h4
end
end DL
namespace DL
open PySem PySem.Spec PyProof.Rows L2

/-! ### judgements -/
/-- an expression's value -/
def PD (X : Cx) (G : XD → Hp → Prop) (e : Expr) (f : DS → M D) : Prop :=
  ∃ t, PE X e t ∧ ∀ {Hr : Hp} (δ : DS) (O : List Addr) (σ : St) (H : Hp) (Q : VK), Ev X.K Hr O H σ δ → ok (GS G Hr) (f δ) (fun d => ∀ v H', Same H H' → Rep X.K O H' v d → Q v H') → t σ H Q
/-- a test -/
def PDT (X : Cx) (G : XD → Hp → Prop) (e : Expr) (f : DS → M Bool) : Prop :=
  ∃ t, PT X e t ∧ ∀ {Hr : Hp} (δ : DS) (O : List Addr) (σ : St) (H : Hp) (Q : Bool → Hp → Prop), Ev X.K Hr O H σ δ → ok (GS G Hr) (f δ) (fun b => ∀ H', Same H H' → Q b H') → t σ H Q
def PDW (X : Cx) (G : XD → Hp → Prop) (e : Expr) (f : DS → M Bool) : Prop :=
  ∃ t, PW X e t ∧ ∀ {Hr : Hp} (δ : DS) (O : List Addr) (σ : St) (H : Hp) (Q : Bool → Hp → Prop), Ev X.K Hr O H σ δ → ok (GS G Hr) (f δ) (fun b => ∀ H', Same H H' → Q b H') → t σ H Q
/-- arguments -/
def PDA (X : Cx) (G : XD → Hp → Prop) (es : List Expr) (f : DS → M (List D)) : Prop :=
  (∀ δ ds, f δ = some (.ok ds) → ds.length = es.length) ∧ ∃ t, PA X es t ∧ ∀ {Hr : Hp} (δ : DS) (O : List Addr) (σ : St) (H : Hp) (Q : List V → Hp → Prop), Ev X.K Hr O H σ δ → ok (GS G Hr) (f δ) (fun ds => ∀ vs H', Same H H' → Reps X.K O H' vs ds → Q vs H') → t σ H Q

section
variable {X : Cx} {G : XD → Hp → Prop} {a b c e : Expr} {es rest : List Expr} {f g h : DS → M D} {fb gb : DS → M Bool} {fa : DS → M (List D)} {pos : Pos}

/-! ### names, constants -/
def dVar (i : Nat) : DS → M D := fun δ => match δ[i]? with
  | some (.vl d) => M.ret d
  | _ => none
theorem pd_var {i : Nat} (h : PE X e (tVar i)) : PD X G e (dVar i) := by
  refine ⟨_, h, fun δ O σ H Q E k => ?_⟩
  unfold dVar at k
  split at k
  · rename_i d hd
    obtain ⟨v, e1, r⟩ := E.val hd
    exact ⟨v, e1, k v H (Same.refl H) r⟩
  · exact k.elim
def dC (d : D) : DS → M D := fun _ => M.ret d
theorem pd_int {i j pos} : PD X G (.Constant (.int i) j pos) (dC (.int i)) := ⟨_, pe_int, fun _ _ _ H Q _ k => k _ H (Same.refl H) (.int i)⟩
theorem pd_bl {i j pos} : PD X G (.Constant (.bool i) j pos) (dC (.bool i)) := ⟨_, pe_bl, fun _ _ _ H Q _ k => k _ H (Same.refl H) (.bl i)⟩
theorem pd_non {j pos} : PD X G (.Constant .none j pos) (dC .none) := ⟨_, pe_non, fun _ _ _ H Q _ k => k _ H (Same.refl H) .non⟩
theorem pd_str {x j pos} : PD X G (.Constant (.str x) j pos) (dC (.str x)) := ⟨_, pe_str, fun _ _ _ H Q _ k => k _ H (Same.refl H) (.str x)⟩

/-! ### two operands -/
/-- an operation on two values -/
def DOp (X : Cx) (sem : Value → Value → Sem Value) (h : D → D → Option D) : Prop :=
  ∃ r : R2, OpR X sem r ∧ ∀ (O : List Addr) (H : Hp) (x y d : D) (v u : V) (Q : VK), (∀ l ∈ O, Mu H l) → Rep X.K O H v x → Rep X.K O H u y → h x y = some d → (∀ v' H', Same H H' → Rep X.K O H' v' d → Q v' H') → r v u H Q
def d2 (h : D → D → Option D) (f g : DS → M D) : DS → M D := fun δ => (f δ).thn fun x => (g δ).thn fun y => M.lift (h x y)
theorem pd_two {r : R2} {h : D → D → Option D} {ta tb : TE}
    (ho : ∀ (O : List Addr) (H : Hp) (x y d : D) (v u : V) (Q : VK), (∀ l ∈ O, Mu H l) → Rep X.K O H v x → Rep X.K O H u y → h x y = some d → (∀ v' H', Same H H' → Rep X.K O H' v' d → Q v' H') → r v u H Q)
    (ha : ∀ {Hr : Hp} (δ : DS) (O : List Addr) (σ : St) (H : Hp) (Q : VK), Ev X.K Hr O H σ δ → ok (GS G Hr) (f δ) (fun d => ∀ v H', Same H H' → Rep X.K O H' v d → Q v H') → ta σ H Q)
    (hb : ∀ {Hr : Hp} (δ : DS) (O : List Addr) (σ : St) (H : Hp) (Q : VK), Ev X.K Hr O H σ δ → ok (GS G Hr) (g δ) (fun d => ∀ v H', Same H H' → Rep X.K O H' v d → Q v H') → tb σ H Q)
    {Hr : Hp} (δ : DS) (O : List Addr) (σ : St) (H : Hp) (Q : VK) (E : Ev X.K Hr O H σ δ) (k : ok (GS G Hr) (d2 h f g δ) (fun d => ∀ v H', Same H H' → Rep X.K O H' v d → Q v H')) : tOp r ta tb σ H Q := by
  refine ha δ O σ H _ E (ok_mono (ok_thn k) fun x kx v H1 s1 rx => ?_)
  refine hb δ O σ H1 _ (E.same s1) (ok_mono (ok_thn kx) fun y ky u H2 s2 ry => ?_)
  obtain ⟨d, hd, kd⟩ := ok_lift ky
  exact ho O H2 x y d v u Q (E.same (s1.trans s2)).oo (rx.same s2) ry hd fun v' H3 s3 r3 => kd v' H3 ((s1.trans s2).trans s3) r3
theorem pd_op {op : Operator} {h : D → D → Option D} (ho : DOp X (binaryOp op) h) (ha : PD X G a f) (hb : PD X G b g) : PD X G (.BinOp a op b pos) (d2 h f g) := by
  obtain ⟨r, hr, ho⟩ := ho
  obtain ⟨ta, pa, ha⟩ := ha
  obtain ⟨tb, pb, hb⟩ := hb
  exact ⟨_, pe_op hr pa pb, pd_two ho ha hb⟩
theorem pd_cmp {op : CmpOp} {h : D → D → Option D} (ho : DOp X (compareOp op) h) (ha : PD X G a f) (hb : PD X G b g) (hm : behindInMarks op b = false) : PD X G (.Compare a [op] [b] pos) (d2 h f g) := by
  obtain ⟨r, hr, ho⟩ := ho
  obtain ⟨ta, pa, ha⟩ := ha
  obtain ⟨tb, pb, hb⟩ := hb
  exact ⟨_, pe_cmpR hr pa pb hm, pd_two ho ha hb⟩
/-- the truth of what is a bool -/
def dB (f : DS → M D) : DS → M Bool := fun δ => (f δ).thn fun d => match d with
  | .bool b => M.ret b
  | _ => none
theorem ok_dB {Hr : Hp} {δ : DS} {k : Bool → Prop} (q : ok (GS G Hr) (dB f δ) k) : ok (GS G Hr) (f δ) (fun d => ∃ b, d = .bool b ∧ k b) := by
  refine ok_mono (ok_thn q) fun d z => ?_
  cases d with
  | bool b => exact ⟨b, rfl, z⟩
  | _ => exact z.elim
theorem pdt_cmp {op : CmpOp} {h : D → D → Option D} (ho : DOp X (compareOp op) h) (ha : PD X G a f) (hb : PD X G b g) (hm : behindInMarks op b = false) : PDT X G (.Compare a [op] [b] pos) (dB (d2 h f g)) := by
  obtain ⟨r, hr, ho⟩ := ho
  obtain ⟨ta, pa, ha⟩ := ha
  obtain ⟨tb, pb, hb⟩ := hb
  refine ⟨_, pt_cmpR hr pa pb hm, fun δ O σ H Q E k => ?_⟩
  refine pd_two ho ha hb δ O σ H _ E (ok_mono (ok_dB k) fun d z v H' s r => ?_)
  obtain ⟨b, rfl, z⟩ := z
  exact ⟨b, r.bool_inv, z H' s⟩
theorem pdt_val (he : PD X G e f) (h1 : ∀ whole, isTrue e X.env whole = (do let v ← whole; standAt e.pos; holding [v] (truthy v)) := by intro _; rfl) : PDT X G e (dB f) := by
  obtain ⟨t, p, he⟩ := he
  refine ⟨_, pt_val p h1, fun δ O σ H Q E k => ?_⟩
  refine he δ O σ H _ E (ok_mono (ok_dB k) fun d z v H' s r => ?_)
  obtain ⟨b, rfl, z⟩ := z
  exact ⟨b, r.bool_inv, z H' s⟩

/-! ### and, or, not, if -/
def dAnd (fb gb : DS → M Bool) : DS → M Bool := fun δ => (fb δ).thn fun c => if c = true then gb δ else M.ret false
def dOr (fb gb : DS → M Bool) : DS → M Bool := fun δ => (fb δ).thn fun c => if c = true then M.ret true else gb δ
def dNot (fb : DS → M Bool) : DS → M Bool := fun δ => (fb δ).thn fun c => M.ret (!c)
theorem pdw_and1 (ha : PDT X G a fb) : PDW X G (.BoolOp .And [a] pos) fb := by
  obtain ⟨t, p, ha⟩ := ha
  exact ⟨_, pw_and1 p, ha⟩
theorem pdw_or1 (ha : PDT X G a fb) : PDW X G (.BoolOp .Or [a] pos) fb := by
  obtain ⟨t, p, ha⟩ := ha
  exact ⟨_, pw_or1 p, ha⟩
theorem pdw_and (ha : PDT X G a fb) (hb : PDW X G (.BoolOp .And (b :: rest) pos) gb) : PDW X G (.BoolOp .And (a :: b :: rest) pos) (dAnd fb gb) := by
  obtain ⟨t, p, ha⟩ := ha
  obtain ⟨u, q, hb⟩ := hb
  refine ⟨_, pw_and p q, fun δ O σ H Q E k => ?_⟩
  refine ha δ O σ H _ E (ok_mono (ok_thn k) fun c z H1 s1 => ?_)
  cases c with
  | true =>
    rw [if_pos rfl] at z ⊢
    exact hb δ O σ H1 Q (E.same s1) (ok_mono z fun b y H2 s2 => y H2 (s1.trans s2))
  | false =>
    rw [if_neg Bool.false_ne_true] at z ⊢
    exact z H1 s1
theorem pdw_or (ha : PDT X G a fb) (hb : PDW X G (.BoolOp .Or (b :: rest) pos) gb) : PDW X G (.BoolOp .Or (a :: b :: rest) pos) (dOr fb gb) := by
  obtain ⟨t, p, ha⟩ := ha
  obtain ⟨u, q, hb⟩ := hb
  refine ⟨_, pw_or p q, fun δ O σ H Q E k => ?_⟩
  refine ha δ O σ H _ E (ok_mono (ok_thn k) fun c z H1 s1 => ?_)
  cases c with
  | true =>
    rw [if_pos rfl] at z ⊢
    exact z H1 s1
  | false =>
    rw [if_neg Bool.false_ne_true] at z ⊢
    exact hb δ O σ H1 Q (E.same s1) (ok_mono z fun b y H2 s2 => y H2 (s1.trans s2))
theorem PDW.t (h : PDW X G e fb) : PDT X G e fb := by
  obtain ⟨t, p, h⟩ := h
  exact ⟨_, p.pt, h⟩
theorem pdt_not (ha : PDT X G a fb) : PDT X G (.UnaryOp .Not a pos) (dNot fb) := by
  obtain ⟨t, p, ha⟩ := ha
  refine ⟨_, pt_not p, fun δ O σ H Q E k => ?_⟩
  exact ha δ O σ H _ E (ok_mono (ok_thn k) fun c z H1 s1 => z H1 s1)
/-- .. as values (of bools) -/
def dAndV (f g : DS → M D) : DS → M D := fun δ => (dB f δ).thn fun c => if c = true then g δ else M.ret (.bool false)
def dOrV (f g : DS → M D) : DS → M D := fun δ => (dB f δ).thn fun c => if c = true then M.ret (.bool true) else g δ
def dNotV (f : DS → M D) : DS → M D := fun δ => (dB f δ).thn fun c => M.ret (.bool (!c))
theorem pd_one {op} (ha : PD X G a f) : PD X G (.BoolOp op [a] pos) f := by
  obtain ⟨t, p, ha⟩ := ha
  exact ⟨_, pe_one p, ha⟩
theorem pd_and (ha : PD X G a f) (hb : PD X G (.BoolOp .And (b :: rest) pos) g) : PD X G (.BoolOp .And (a :: b :: rest) pos) (dAndV f g) := by
  obtain ⟨t, p, ha⟩ := ha
  obtain ⟨u, q, hb⟩ := hb
  refine ⟨_, pe_and p q, fun δ O σ H Q E k => ?_⟩
  refine ha δ O σ H _ E (ok_mono (ok_dB (ok_thn k)) fun d z v H1 s1 r => ?_)
  obtain ⟨c, rfl, z⟩ := z
  refine ⟨c, r.bool_inv, ?_⟩
  cases c with
  | true =>
    rw [if_pos rfl] at z ⊢
    exact hb δ O σ H1 Q (E.same s1) (ok_mono z fun b y v H2 s2 => y v H2 (s1.trans s2))
  | false =>
    rw [if_neg Bool.false_ne_true] at z ⊢
    exact z _ H1 s1 (.bl false)
theorem pd_or (ha : PD X G a f) (hb : PD X G (.BoolOp .Or (b :: rest) pos) g) : PD X G (.BoolOp .Or (a :: b :: rest) pos) (dOrV f g) := by
  obtain ⟨t, p, ha⟩ := ha
  obtain ⟨u, q, hb⟩ := hb
  refine ⟨_, pe_or p q, fun δ O σ H Q E k => ?_⟩
  refine ha δ O σ H _ E (ok_mono (ok_dB (ok_thn k)) fun d z v H1 s1 r => ?_)
  obtain ⟨c, rfl, z⟩ := z
  refine ⟨c, r.bool_inv, ?_⟩
  cases c with
  | true =>
    rw [if_pos rfl] at z ⊢
    exact z _ H1 s1 (.bl true)
  | false =>
    rw [if_neg Bool.false_ne_true] at z ⊢
    exact hb δ O σ H1 Q (E.same s1) (ok_mono z fun b y v H2 s2 => y v H2 (s1.trans s2))
theorem pd_not (ha : PD X G a f) : PD X G (.UnaryOp .Not a pos) (dNotV f) := by
  obtain ⟨t, p, ha⟩ := ha
  refine ⟨_, pe_not p, fun δ O σ H Q E k => ?_⟩
  refine ha δ O σ H _ E (ok_mono (ok_dB (ok_thn k)) fun d z v H1 s1 r => ?_)
  obtain ⟨c, rfl, z⟩ := z
  exact ⟨c, r.bool_inv, z _ H1 s1 (.bl _)⟩
def dIf (c : DS → M Bool) (f g : DS → M D) : DS → M D := fun δ => (c δ).thn fun b => if b = true then f δ else g δ
theorem pd_if (hc : PDT X G c fb) (ha : PD X G a f) (hb : PD X G b g) : PD X G (.IfExp c a b pos) (dIf fb f g) := by
  obtain ⟨t, p, hc⟩ := hc
  obtain ⟨ta, pa, ha⟩ := ha
  obtain ⟨tb, pb, hb⟩ := hb
  refine ⟨_, pe_ifExp p pa pb, fun δ O σ H Q E k => ?_⟩
  refine hc δ O σ H _ E (ok_mono (ok_thn k) fun d z H1 s1 => ?_)
  cases d with
  | true =>
    rw [if_pos rfl] at z ⊢
    exact ha δ O σ H1 Q (E.same s1) (ok_mono z fun b y v H2 s2 => y v H2 (s1.trans s2))
  | false =>
    rw [if_neg Bool.false_ne_true] at z ⊢
    exact hb δ O σ H1 Q (E.same s1) (ok_mono z fun b y v H2 s2 => y v H2 (s1.trans s2))

/-! ### arguments, displays -/
def dNil : DS → M (List D) := fun _ => M.ret []
def dCons (f : DS → M D) (g : DS → M (List D)) : DS → M (List D) := fun δ => (f δ).thn fun x => (g δ).thn fun xs => M.ret (x :: xs)
theorem pda_nil : PDA X G [] dNil := ⟨fun δ ds h => by cases h; rfl, _, pa_nil, fun _ _ _ H Q _ k => k [] H (Same.refl H) .nil⟩
theorem pda_cons (ha : PD X G e f) (hr : PDA X G es fa) (hs : starEach (e :: es) X.env = (false, eval e X.env) :: starEach es X.env := by rfl) : PDA X G (e :: es) (dCons f fa) := by
  obtain ⟨t, p, ha⟩ := ha
  obtain ⟨hl, u, q, hr⟩ := hr
  refine ⟨fun δ ds h => ?_, _, pa_cons p q hs, fun δ O σ H Q E k => ?_⟩
  · unfold dCons at h
    cases e1 : f δ with
    | none => rw [e1] at h; cases h
    | some r =>
      rw [e1] at h
      cases r with
      | error x => cases h
      | ok x =>
        cases e2 : fa δ with
        | none => rw [thn_some, e2] at h; cases h
        | some r2 =>
          rw [thn_some, e2] at h
          cases r2 with
          | error x => cases h
          | ok xs =>
            cases h
            rw [List.length_cons, List.length_cons, hl δ xs e2]
  · refine ha δ O σ H _ E (ok_mono (ok_thn k) fun d z v H1 s1 r => ?_)
    refine hr δ O σ H1 _ (E.same s1) (ok_mono (ok_thn z) fun ds y vs H2 s2 rs => ?_)
    exact y (v :: vs) H2 (s1.trans s2) (.cons (r.same s2) rs)
def small (n : Nat) : Bool := decide (n ≤ 16000000)
theorem small_le {n : Nat} (h : small n = true) : n ≤ sizeLine := by
  have := of_decide_eq_true h
  rw [sizeLine_eq]
  omega
def dTup (fa : DS → M (List D)) : DS → M D := fun δ => (fa δ).thn fun ds => if small ds.length then M.ret (.tuple ds) else none
def dLst (fa : DS → M (List D)) : DS → M D := fun δ => (fa δ).thn fun ds => if small ds.length then M.ret (.list ds) else none
theorem rep_newT {K : PySem.W.Frag} {O : List Addr} {H : Hp} {p : Addr} {vs : List V} {ds : List D} (hp : H p = none) (r : Reps K O H vs ds) : Rep K O (upd H p (.tup vs)) (.ref p) (.tuple ds) :=
  .tup (SqT.of upd_same) (r.same (same_new hp))
theorem pd_tup {x1} (h : PDA X G es fa) : PD X G (.Tuple es x1 pos) (dTup fa) := by
  obtain ⟨_, t, p, h⟩ := h
  refine ⟨_, pe_tup p, fun δ O σ H Q E k => ?_⟩
  refine h δ O σ H _ E (ok_mono (ok_thn k) fun ds z vs H1 s1 rs => ?_)
  by_cases hz : small ds.length = true
  · rw [if_pos hz] at z
    exact ⟨by rw [rs.length]; exact small_le hz, fun p hp => z _ _ (s1.trans (same_new hp)) (rep_newT hp rs)⟩
  · rw [if_neg hz] at z
    exact z.elim
end
end DL
namespace DL
open PySem PySem.Spec PyProof.Rows L2

section
variable {X : Cx} {G : XD → Hp → Prop} {a b c e : Expr} {es rest : List Expr} {f g h : DS → M D} {fb gb : DS → M Bool} {fa : DS → M (List D)} {pos : Pos}
/-! ### ints -/
def ii (h : Int → Int → Option D) : D → D → Option D
  | .int i, .int j => h i j
  | _, _ => none
theorem ii_some {h : Int → Int → Option D} {x y d : D} (e : ii h x y = some d) : ∃ i j, x = .int i ∧ y = .int j ∧ h i j = some d := by
  unfold ii at e
  split at e
  · exact ⟨_, _, rfl, rfl, e⟩
  · cases e
theorem dop_I0 {sem : Value → Value → Sem Value} {g : Int → Int → V} {gd : Int → Int → D} (h : OpR X sem (rI0 g)) (hg : ∀ O H i j, Rep X.K O H (g i j) (gd i j)) : DOp X sem (ii fun i j => some (gd i j)) := by
  refine ⟨_, h, fun O H x y d v u Q oo rx ry e k => ?_⟩
  obtain ⟨i, j, rfl, rfl, e⟩ := ii_some e
  cases e
  exact ⟨i, j, rx.int_inv, ry.int_inv, k _ H (Same.refl H) (hg O H i j)⟩
theorem dop_IC {sem : Value → Value → Sem Value} {C : Int → Int → Prop} {B : Int → Int → Bool} {g : Int → Int → V} {gd : Int → Int → D} (h : OpR X sem (rI C g)) (hC : ∀ i j, B i j = true → C i j) (hg : ∀ O H i j, Rep X.K O H (g i j) (gd i j)) :
    DOp X sem (ii fun i j => if B i j = true then some (gd i j) else none) := by
  refine ⟨_, h, fun O H x y d v u Q oo rx ry e k => ?_⟩
  obtain ⟨i, j, rfl, rfl, e1⟩ := ii_some e
  by_cases hb : B i j = true
  · rw [if_pos hb] at e1
    cases e1
    exact ⟨i, j, rx.int_inv, ry.int_inv, hC i j hb, k _ H (Same.refl H) (hg O H i j)⟩
  · rw [if_neg hb] at e1; cases e1
abbrev oSub : D → D → Option D := ii fun i j => some (.int (i - j))
def bMul (i j : Int) : Bool := decide ((-18446744073709551616 < i ∧ i < 18446744073709551616) ∨ (-18446744073709551616 < j ∧ j < 18446744073709551616))
abbrev oMul : D → D → Option D := ii fun i j => if bMul i j = true then some (.int (i * j)) else none
def bDiv (j : Int) : Bool := decide (0 < j ∧ j < 1267650600228229401496703205376)
abbrev oDiv : D → D → Option D := ii fun i j => if bDiv j = true then some (.int (i / j)) else none
abbrev oMod : D → D → Option D := ii fun i j => if decide (0 < j) = true then some (.int (i % j)) else none
def bPow (i j : Int) : Bool := decide (0 ≤ j ∧ j ≤ 1000000 ∧ i.natAbs < 18446744073709551616)
abbrev oPow : D → D → Option D := ii fun i j => if bPow i j = true then some (.int (i ^ j.toNat)) else none
theorem dop_sub : DOp X (binaryOp .Sub) oSub := dop_I0 op_sub fun _ _ _ _ => .int _
theorem dop_mul : DOp X (binaryOp .Mult) oMul := dop_IC op_mul (fun i j h => by
  have h := of_decide_eq_true h
  unfold CMul
  have e : (2 : Int) ^ 64 = 18446744073709551616 := by decide
  rw [e]
  exact h) fun _ _ _ _ => .int _
theorem natAbs_log2 {j : Int} (h : 0 < j ∧ j < 1267650600228229401496703205376) : j.natAbs.log2 < 9000 := by
  have h2 : j.natAbs < 2 ^ 100 := by
    have e : (2 : Nat) ^ 100 = 1267650600228229401496703205376 := by decide
    omega
  exact Nat.lt_trans ((Nat.log2_lt (by omega)).mpr h2) (by decide)
theorem op_fdivW : OpR X (binaryOp .FloorDiv) (rI (fun _ j => 0 < j ∧ j < 1267650600228229401496703205376) fun i j => .int (i / j)) := opI fun i j _ _ _ _ _ hc q => by
  rw [← Int.fdiv_eq_ediv_of_nonneg _ (Int.le_of_lt hc.1)] at q
  exact floordiv_int (by omega) q (.inl (PyProof.noPylong_of_log2 (natAbs_log2 hc)))
theorem dop_div : DOp X (binaryOp .FloorDiv) oDiv := dop_IC op_fdivW (fun i j h => of_decide_eq_true h) fun _ _ _ _ => .int _
theorem dop_mod : DOp X (binaryOp .Mod) oMod := dop_IC op_mod (fun i j h => of_decide_eq_true h) fun _ _ _ _ => .int _
theorem dop_pow : DOp X (binaryOp .Pow) oPow := dop_IC op_pow (fun i j h => by
  have h := of_decide_eq_true h
  unfold CPow
  have e : (2 : Nat) ^ 64 = 18446744073709551616 := by decide
  rw [e]
  exact h) fun _ _ _ _ => .int _
abbrev oLt : D → D → Option D := ii fun i j => some (.bool (decide (i < j)))
abbrev oLe : D → D → Option D := ii fun i j => some (.bool (decide (i ≤ j)))
abbrev oGt : D → D → Option D := ii fun i j => some (.bool (decide (j < i)))
abbrev oGe : D → D → Option D := ii fun i j => some (.bool (decide (j ≤ i)))
theorem dop_lt : DOp X (compareOp .Lt) oLt := dop_I0 op_lt fun _ _ _ _ => .bl _
theorem dop_gt : DOp X (compareOp .Gt) oGt := dop_I0 op_gt fun _ _ _ _ => .bl _
/-! ### x + y: ints, texts, tuples, lists -/
theorem nin {O : List Addr} {H : Hp} (oo : ∀ l ∈ O, Mu H l) {p : Addr} (hp : H p = none) : p ∉ O := fun z => by
  obtain ⟨o, ho⟩ := (oo p z).some
  rw [hp] at ho; cases ho
theorem rep_newL {K : PySem.W.Frag} {O : List Addr} {H : Hp} {p : Addr} {vs : List V} {ds : List D} (oo : ∀ l ∈ O, Mu H l) (hp : H p = none) (r : Reps K O H vs ds) : Rep K O (upd H p (.lst vs)) (.ref p) (.list ds) :=
  .lst (.inl upd_same) (nin oo hp) (r.same (same_new hp))
/-- () + t -/
theorem op_cat0 : OpR X (binaryOp .Add) (fun x y H Q => ∃ a b ys, x = .ref a ∧ y = .ref b ∧ SqT X.K H a [] ∧ SqT X.K H b ys ∧ Q (.ref b) H) := by
  intro pins s σ H x y v u Q I rx ry h
  obtain ⟨a, b, ys, rfl, rfl, ha, hb, q⟩ := h
  cases rx
  cases ry
  obtain ⟨its, r1, p1, _⟩ := I.tuple ha
  obtain ⟨its2, r2, p2, _⟩ := I.tuple hb
  cases r1
  obtain ⟨⟨cls, dd, data, sl⟩, ho, hc, n, hd⟩ := id p1
  obtain ⟨⟨cls2, dd2, data2, sl2⟩, ho2, hc2, n2, hd2⟩ := id p2
  simp only at hc hd hc2 hd2
  subst hc hd hc2 hd2
  exact concat_meets ⟨_, ho, rfl⟩ ⟨_, ho2, rfl⟩ noFill_tuple_add seq_tuple_add PySem.F.slot_tuple_add PySem.F.entry_tuple_add (PySem.F.args_tuple_add_2 _ _)
    (tuple_addW0 a b _ its2.toArray n n2 dd dd2 sl sl2 rfl) ⟨ho, ho2, ⟨.ref b, H, I, rfl, q⟩⟩
/-- lists, whoever holds them -/
theorem op_catS : OpR X (binaryOp .Add) (fun x y H Q => ∃ l b xs zs, x = .ref l ∧ y = .ref b ∧ SqL X.K H l xs ∧ SqL X.K H b zs ∧ xs.length + zs.length ≤ sizeLine ∧ ∀ p, H p = none → Q (.ref p) (upd H p (.lst (xs ++ zs)))) := by
  intro pins s σ H x y v u Q I rx ry h
  obtain ⟨l, b, xs, zs, rfl, rfl, hH, hB, hz, q⟩ := h
  cases rx
  cases ry
  obtain ⟨its, r, ⟨⟨cls, dd, data, sl⟩, n, e, hc, hdd, hd⟩, z⟩ := I.list hH
  obtain ⟨its2, r2, ⟨⟨cls2, dd2, data2, sl2⟩, n2, e2, hc2, hdd2, hd2⟩, z2⟩ := I.list hB
  have hl := r.length
  have hl2 := r2.length
  simp only at hc hd hc2 hd2 hdd hdd2
  subst hc hd hc2 hd2 hdd hdd2
  have ea : its.toArray ++ its2.toArray = (its ++ its2).toArray := by simp
  refine concat_meets ⟨_, e, rfl⟩ ⟨_, e2, rfl⟩ noFill_list_add seq_list_add PySem.F.slot_list_add PySem.F.entry_list_add (PySem.F.args_list_add_2 _ _) (list_addW l b its.toArray its2.toArray n n2 none none sl sl2 (by rw [List.size_toArray, List.size_toArray]; omega)) ⟨e, e2, ?_⟩
  rw [ea]
  exact ⟨.ref _, _, I.lnew (t' := s.toks) (r.append r2) (by rw [List.length_append]; omega), rfl, q _ I.fresh⟩
def oAdd : D → D → Option D
  | .int i, .int j => some (.int (i + j))
  | .str i, .str j => if small (i.length + j.length) then some (.str (i ++ j)) else none
  | .tuple xs, .tuple ys => if small (xs.length + ys.length) then some (.tuple (xs ++ ys)) else none
  | .list xs, .list ys => if small (xs.length + ys.length) then some (.list (xs ++ ys)) else none
  | _, _ => none
theorem dop_add : DOp X (binaryOp .Add) oAdd := by
  refine ⟨_, op_add.or (op_add_str.or (op_catT.or (op_cat0.or op_catS))), fun O H x y d v u Q oo rx ry e k => ?_⟩
  unfold oAdd at e
  split at e
  · rename_i i j
    cases e
    exact .inl ⟨i, j, rx.int_inv, ry.int_inv, k _ H (Same.refl H) (.int _)⟩
  · rename_i i j
    by_cases hz : small (i.length + j.length) = true
    · rw [if_pos hz] at e
      cases e
      exact .inr (.inl ⟨i, j, rx.str_inv, ry.str_inv, small_le hz, k _ H (Same.refl H) (.str _)⟩)
    · rw [if_neg hz] at e; cases e
  · rename_i xs ys
    by_cases hz : small (xs.length + ys.length) = true
    · rw [if_pos hz] at e
      cases e
      obtain ⟨p, vs, rfl, h1, r1⟩ := rx.tup_inv
      obtain ⟨q, ws, rfl, h2, r2⟩ := ry.tup_inv
      by_cases hx : xs = []
      · subst hx
        cases r1
        exact .inr (.inr (.inr (.inl ⟨p, q, ws, rfl, rfl, h1, h2, k _ H (Same.refl H) (.tup h2 r2)⟩)))
      · refine .inr (.inr (.inl ⟨p, q, vs, ws, rfl, rfl, h1, h2, fun z => ?_, by rw [r1.length, r2.length]; exact small_le hz, fun z => ?_, fun z l hl => ?_⟩))
        · subst z
          cases r1
          exact hx rfl
        · subst z
          have z2 := r2
          cases z2
          refine k _ H (Same.refl H) ?_
          rw [List.append_nil]
          exact .tup h1 r1
        · exact k _ _ (same_new hl) (rep_newT hl (r1.append r2))
    · rw [if_neg hz] at e; cases e
  · rename_i xs ys
    by_cases hz : small (xs.length + ys.length) = true
    · rw [if_pos hz] at e
      cases e
      obtain ⟨p, vs, rfl, h1, r1⟩ := rx.lst_inv
      obtain ⟨q, ws, rfl, h2, r2⟩ := ry.lst_inv
      exact .inr (.inr (.inr (.inr ⟨p, q, vs, ws, rfl, rfl, h1, h2, by rw [r1.length, r2.length]; exact small_le hz, fun l hl => k _ _ (same_new hl) (rep_newL oo hl (r1.append r2))⟩)))
    · rw [if_neg hz] at e; cases e
  · cases e

/-! ### == and != over data -/
mutual
theorem Rep.reads {pins : List (Addr × Obj)} {σ : St} {H : Hp} {s : Shared} {O : List Addr} (I : Inv X pins σ H s) : ∀ {v : V} {d : D} {u : Value}, d.canLay0 = true → Rep X.K O H v d → RelV v u → ∃ as, Reads s.heap u d as
  | _, _, u, _, .non, q => by cases (show u = Value.none from q); exact ⟨_, .none⟩
  | _, _, u, _, .bl b, q => by cases (show u = Value.bool b from q); exact ⟨_, .bool b⟩
  | _, _, u, _, .int i, q => by obtain ⟨t, rfl⟩ := (show ∃ t, u = Value.int i t from q); exact ⟨_, .int i t⟩
  | _, _, u, _, .str x, q => by obtain ⟨t, rfl⟩ := (show ∃ t, u = Value.str x t from q); exact ⟨_, .str x t⟩
  | .ref a, _, u, hc, .tup h r, q => by
    cases (show u = Value.ref a from q)
    obtain ⟨its, rv, ⟨o, h1, h2, n, h3⟩, _⟩ := I.tuple h
    obtain ⟨as, ra⟩ := Reps.reads I (by simpa [PyData.canLay0] using hc) r rv
    exact ⟨_, .tuple h1 h2 h3 ra⟩
  | .ref a, _, u, hc, .lst h n r, q => by
    cases (show u = Value.ref a from q)
    obtain ⟨its, rv, ⟨o, n, h1, h2, _, h3⟩, _⟩ := I.list (.inl h)
    obtain ⟨as, ra⟩ := Reps.reads I (by simpa [PyData.canLay0] using hc) r rv
    exact ⟨_, .list h1 h2 h3 ra⟩
  | .ref a, _, u, hc, .lstK h r, q => by
    cases (show u = Value.ref a from q)
    obtain ⟨its, rv, ⟨o, n, h1, h2, _, h3⟩, _⟩ := I.list (.inr h)
    obtain ⟨as, ra⟩ := Reps.reads I (by simpa [PyData.canLay0] using hc) r rv
    exact ⟨_, .list h1 h2 h3 ra⟩
  | .ref a, _, u, hc, .dct _ _ _ _, q => by simp [PyData.canLay0] at hc
  | .ref a, _, u, hc, .ins _ _ _ _ _, q => by simp [PyData.canLay0, insD] at hc
theorem Reps.reads {pins : List (Addr × Obj)} {σ : St} {H : Hp} {s : Shared} {O : List Addr} (I : Inv X pins σ H s) : ∀ {vs : List V} {ds : List D} {us : List Value}, PyData.canLayAll0 ds = true → Reps X.K O H vs ds → Vals vs us → ∃ as, ReadsAll s.heap us ds as
  | _, _, _, _, .nil, q => by cases q; exact ⟨_, .nil⟩
  | _, _, _, hc, .cons r rs, q => by
    rw [PyData.canLayAll0, Bool.and_eq_true] at hc
    cases q with
    | cons p ps =>
      obtain ⟨as, h1⟩ := Rep.reads I hc.1 r p
      obtain ⟨bs, h2⟩ := Reps.reads I hc.2 rs ps
      exact ⟨_, .cons h1 h2⟩
end
def flat (x y : D) : Bool := x.canLay0 && y.canLay0 && decide (min x.depth y.depth ≤ 60)
def oEq (x y : D) : Option D := if flat x y = true then some (.bool (PyData.eqv x y)) else none
def oNe (x y : D) : Option D := if flat x y = true then some (.bool (!PyData.eqv x y)) else none
def rDat (X : Cx) (p : D → D → Bool) : R2 := fun v u H Q => ∃ O x y, Rep X.K O H v x ∧ Rep X.K O H u y ∧ flat x y = true ∧ Q (.bl (p x y)) H
theorem flat_of {x y : D} (h : flat x y = true) : x.canLay0 = true ∧ y.canLay0 = true ∧ min x.depth y.depth ≤ 60 := by
  unfold flat at h
  rw [Bool.and_eq_true, Bool.and_eq_true] at h
  exact ⟨h.1.1, h.1.2, of_decide_eq_true h.2⟩
theorem op_eqD (hu : X.A.units + 64 < cLine) : OpR X (compareOp .Eq) (rDat X PyData.eqv) := by
  intro pins s σ H v u v' u' Q I rv ru h
  obtain ⟨O, x, y, rx, ry, hf, q⟩ := h
  obtain ⟨h1, h2, h3⟩ := flat_of hf
  obtain ⟨as, r1⟩ := rx.reads I h1 rv
  obtain ⟨bs, r2⟩ := ry.reads I h2 ru
  exact SeqAt.compareEq_reads r1 r2 h1 h2 (by omega) ⟨.bl _, H, I, rfl, q⟩
theorem op_neD (hu : X.A.units + 64 < cLine) : OpR X (compareOp .NotEq) (rDat X fun x y => !PyData.eqv x y) := by
  intro pins s σ H v u v' u' Q I rv ru h
  obtain ⟨O, x, y, rx, ry, hf, q⟩ := h
  obtain ⟨h1, h2, h3⟩ := flat_of hf
  obtain ⟨as, r1⟩ := rx.reads I h1 rv
  obtain ⟨bs, r2⟩ := ry.reads I h2 ru
  exact SeqAt.compareNe_reads r1 r2 h1 h2 (by omega) ⟨.bl _, H, I, rfl, q⟩
theorem dop_eq (hu : X.A.units + 64 < cLine) : DOp X (compareOp .Eq) oEq := by
  refine ⟨_, op_eqD hu, fun O H x y d v u Q oo rx ry e k => ?_⟩
  unfold oEq at e
  by_cases hf : flat x y = true
  · rw [if_pos hf] at e
    cases e
    exact ⟨O, x, y, rx, ry, hf, k _ H (Same.refl H) (.bl _)⟩
  · rw [if_neg hf] at e; cases e
theorem dop_ne (hu : X.A.units + 64 < cLine) : DOp X (compareOp .NotEq) oNe := by
  refine ⟨_, op_neD hu, fun O H x y d v u Q oo rx ry e k => ?_⟩
  unfold oNe at e
  by_cases hf : flat x y = true
  · rw [if_pos hf] at e
    cases e
    exact ⟨O, x, y, rx, ry, hf, k _ H (Same.refl H) (.bl _)⟩
  · rw [if_neg hf] at e; cases e

/-! ### o[i] -/
def oIx : D → D → Option D
  | .tuple ds, .int i => L2.atI ds i
  | .list ds, .int i => L2.atI ds i
  | .str z, .int i => if small z.length then (L2.atI z.cps.toList i).map (fun c => .str ⟨#[c]⟩) else none
  | _, _ => none
theorem pd_ix (ha : PD X G a f) (hb : PD X G b g) (hs : PlainIx b) : PD X G (.Subscript a b pos) (d2 oIx f g) := by
  obtain ⟨ta, pa, ha⟩ := ha
  obtain ⟨tb, pb, hb⟩ := hb
  refine ⟨_, pe_ix ix_seq pa pb hs, pd_two (fun O H x y d v u Q oo rx ry e k => ?_) ha hb⟩
  unfold oIx at e
  split at e
  · rename_i ds i
    obtain ⟨p, vs, rfl, h1, r1⟩ := rx.tup_inv
    obtain ⟨w, hw, rw'⟩ := r1.atI e
    exact .inr (.inl ⟨p, vs, i, w, rfl, ry.int_inv, h1, hw, k w H (Same.refl H) rw'⟩)
  · rename_i ds i
    obtain ⟨p, vs, rfl, h1, r1⟩ := rx.lst_inv
    obtain ⟨w, hw, rw'⟩ := r1.atI e
    exact .inl ⟨p, vs, i, w, rfl, ry.int_inv, h1, hw, k w H (Same.refl H) rw'⟩
  · rename_i z i
    by_cases hz : small z.length = true
    · rw [if_pos hz] at e
      cases e2 : L2.atI z.cps.toList i with
      | none => rw [e2] at e; cases e
      | some c =>
        rw [e2] at e
        cases e
        exact .inr (.inr ⟨z, i, c, rx.str_inv, ry.int_inv, small_le hz, e2, k _ H (Same.refl H) (.str _)⟩)
    · rw [if_neg hz] at e; cases e
  · cases e
end
end DL
namespace DL
open PySem PySem.Spec PyProof.Rows L2

section
variable {X : Cx} {G : XD → Hp → Prop} {a b c e : Expr} {es rest : List Expr} {f g h : DS → M D} {fb gb : DS → M Bool} {fa : DS → M (List D)} {pos : Pos}
/-! ### o[lo:hi] -/
def PDO (X : Cx) (G : XD → Hp → Prop) (e : Option Expr) (f : DS → M (Option Int)) : Prop :=
  ∃ t, PO X e t ∧ ∀ {Hr : Hp} (δ : DS) (O : List Addr) (σ : St) (H : Hp) (Q : Option Int → Hp → Prop), Ev X.K Hr O H σ δ → ok (GS G Hr) (f δ) (fun d => ∀ H', Same H H' → Q d H') → t σ H Q
def dNoPart : DS → M (Option Int) := fun _ => M.ret none
def dPart (f : DS → M D) : DS → M (Option Int) := fun δ => (f δ).thn fun d => match d with
  | .int i => M.ret (some i)
  | _ => none
theorem pdo_none : PDO X G none dNoPart := ⟨_, po_none, fun _ _ _ H Q _ k => k H (Same.refl H)⟩
theorem pdo_some (he : PD X G e f) : PDO X G (some e) (dPart f) := by
  obtain ⟨t, p, he⟩ := he
  refine ⟨_, po_some p, fun δ O σ H Q E k => ?_⟩
  refine he δ O σ H _ E (ok_mono (ok_thn k) fun d z v H1 s1 r => ?_)
  cases d with
  | int i => exact ⟨i, r.int_inv, z H1 s1⟩
  | _ => exact z.elim
def cutD {α : Type} (xs : List α) (lo hi : Option Int) : List α := (xs.drop (HT.sIx xs.length 0 lo)).take (HT.sIx xs.length xs.length hi - HT.sIx xs.length 0 lo)
theorem Reps.cut {K : PySem.W.Frag} {O : List Addr} {H : Hp} {xs : List V} {ds : List D} (r : Reps K O H xs ds) (lo hi : Option Int) : Reps K O H (cutV xs lo hi) (cutD ds lo hi) := by
  unfold cutV cutD
  rw [r.length]
  exact (r.drop _).take _
/-- what slicing makes (of a tuple: not the whole of it) -/
def oCut (lo hi : Option Int) : D → Option D
  | .list ds => some (.list (cutD ds lo hi))
  | .tuple ds => if HT.sIx ds.length 0 lo = 0 ∧ HT.sIx ds.length ds.length hi = ds.length then none else some (.tuple (cutD ds lo hi))
  | _ => none
variable {lo hi : Option Expr} {fl fh : DS → M (Option Int)} {p2 : Pos}
def dCut (f : DS → M D) (fl fh : DS → M (Option Int)) : DS → M D := fun δ => (f δ).thn fun x => (fl δ).thn fun l => (fh δ).thn fun u => M.lift (oCut l u x)
theorem pd_lst (h : PDA X G es fa) : PD X G (.List es pos) (dLst fa) := by
  obtain ⟨_, t, p, h⟩ := h
  refine ⟨_, pe_lst p, fun δ O σ H Q E k => ?_⟩
  refine h δ O σ H _ E (ok_mono (ok_thn k) fun ds z vs H1 s1 rs => ?_)
  by_cases hz : small ds.length = true
  · rw [if_pos hz] at z
    exact ⟨by rw [rs.length]; exact small_le hz, fun p hp => z _ _ (s1.trans (same_new hp)) (rep_newL (E.same s1).oo hp rs)⟩
  · rw [if_neg hz] at z
    exact z.elim

/-! ### calls of built-ins -/
def DCall (X : Cx) (fn : Value) (h : List D → Option D) : Prop :=
  ∃ r, CallR X fn r ∧ ∀ (O : List Addr) (H : Hp) (ds : List D) (d : D) (vs : List V) (Q : VK), (∀ l ∈ O, Mu H l) → Reps X.K O H vs ds → h ds = some d → (∀ v' H', Same H H' → Rep X.K O H' v' d → Q v' H') → r vs H Q
def dCB (h : List D → Option D) (fa : DS → M (List D)) : DS → M D := fun δ => (fa δ).thn fun ds => M.lift (h ds)
theorem pd_callB {x : Str} {p : Pos} {id : String} {h : List D → Option D} (hc : DCall X (.builtin id) h) (hg : Gl X x) (hm : X.mg x = none) (hv : bootBuiltins x = some (.builtin id)) (ha : PDA X G (e :: es) fa) (hn : x ≠ "__name__" := by decide) (hdb : (x == ("__debug__" : Str)) = false := by decide)
    (he : starEach (e :: es) X.env = (false, eval e X.env) :: starEach es X.env := by rfl) (hpl : (backTo pos (starEach es X.env)).any (·.1) = false := by rfl) : PD X G (.Call (.Name x p) (e :: es) [] pos) (dCB h fa) := by
  obtain ⟨r, hr, hc⟩ := hc
  obtain ⟨_, t, pa, ha⟩ := ha
  refine ⟨_, pe_callB hr hg hm hv pa hn hdb he hpl, fun δ O σ H Q E k => ?_⟩
  refine ha δ O σ H _ E (ok_mono (ok_thn k) fun ds z vs H1 s1 rs => ?_)
  obtain ⟨d, hd, z⟩ := ok_lift z
  exact hc O H1 ds d vs Q (E.same s1).oo rs hd fun v' H2 s2 r2 => z v' H2 (s1.trans s2) r2
theorem pd_callTy {x : Str} {p : Pos} {id : String} {h : List D → Option D} (hc : DCall X (.type id) h) (hg : Gl X x) (hm : X.mg x = none) (hv : bootBuiltins x = some (.type id)) (ha : PDA X G (e :: es) fa) (hn : x ≠ "__name__" := by decide) (hdb : (x == ("__debug__" : Str)) = false := by decide)
    (he : starEach (e :: es) X.env = (false, eval e X.env) :: starEach es X.env := by rfl) (hpl : (backTo pos (starEach es X.env)).any (·.1) = false := by rfl) : PD X G (.Call (.Name x p) (e :: es) [] pos) (dCB h fa) := by
  obtain ⟨r, hr, hc⟩ := hc
  obtain ⟨_, t, pa, ha⟩ := ha
  refine ⟨_, pe_callTy hr hg hm hv pa hn hdb he hpl, fun δ O σ H Q E k => ?_⟩
  refine ha δ O σ H _ E (ok_mono (ok_thn k) fun ds z vs H1 s1 rs => ?_)
  obtain ⟨d, hd, z⟩ := ok_lift z
  exact hc O H1 ds d vs Q (E.same s1).oo rs hd fun v' H2 s2 r2 => z v' H2 (s1.trans s2) r2
theorem reps1 {K : PySem.W.Frag} {O : List Addr} {H : Hp} {vs : List V} {d : D} (r : Reps K O H vs [d]) : ∃ v, vs = [v] ∧ Rep K O H v d := by
  cases r with
  | cons r rs => cases rs; exact ⟨_, rfl, r⟩
theorem reps2 {K : PySem.W.Frag} {O : List Addr} {H : Hp} {vs : List V} {d d' : D} (r : Reps K O H vs [d, d']) : ∃ v v', vs = [v, v'] ∧ Rep K O H v d ∧ Rep K O H v' d' := by
  cases r with
  | cons r rs =>
    obtain ⟨v', rfl, r'⟩ := reps1 rs
    exact ⟨_, _, rfl, r, r'⟩
def oLen : List D → Option D
  | [.list ds] => some (.int ds.length)
  | [.tuple ds] => some (.int ds.length)
  | [.str z] => if small z.length then some (.int z.length) else none
  | _ => none
theorem dcall_len : DCall X (.builtin "len") oLen := by
  refine ⟨_, call_len_seq.or call_len_str, fun O H ds d vs Q oo rs e k => ?_⟩
  unfold oLen at e
  split at e
  · rename_i es
    cases e
    obtain ⟨v, rfl, r⟩ := reps1 rs
    obtain ⟨p, xs, rfl, h1, rx⟩ := r.lst_inv
    refine .inl ⟨p, xs, rfl, .inl h1, k _ H (Same.refl H) ?_⟩
    rw [rx.length]
    exact .int _
  · rename_i es
    cases e
    obtain ⟨v, rfl, r⟩ := reps1 rs
    obtain ⟨p, xs, rfl, h1, rx⟩ := r.tup_inv
    refine .inl ⟨p, xs, rfl, .inr h1, k _ H (Same.refl H) ?_⟩
    rw [rx.length]
    exact .int _
  · rename_i z
    by_cases hz : small z.length = true
    · rw [if_pos hz] at e
      cases e
      obtain ⟨v, rfl, r⟩ := reps1 rs
      refine .inr ⟨z, by rw [r.str_inv], small_le hz, k _ H (Same.refl H) (.int _)⟩
    · rw [if_neg hz] at e; cases e
  · cases e
def oMin : List D → Option D
  | [.int i, .int j] => some (.int (min i j))
  | _ => none
def oMax : List D → Option D
  | [.int i, .int j] => some (.int (max i j))
  | _ => none
theorem dcall_max (hc : X.calm = true) : DCall X (.builtin "max") oMax := by
  refine ⟨_, call_max2 hc, fun O H ds d vs Q oo rs e k => ?_⟩
  unfold oMax at e
  split at e
  · rename_i i j
    cases e
    obtain ⟨v, v', rfl, r, r'⟩ := reps2 rs
    refine ⟨i, j, by rw [r.int_inv, r'.int_inv], k _ H (Same.refl H) ?_⟩
    have : (if j > i then j else i) = max i j := by
      rcases Int.lt_or_le i j with h | h
      · rw [if_pos h]; omega
      · rw [if_neg (by omega)]; omega
    rw [this]
    exact .int _
  · cases e
/-- list(x): a new one -/
def oListOf : List D → Option D
  | [.list ds] => some (.list ds)
  | [.tuple ds] => some (.list ds)
  | _ => none
/-! ### isinstance(x, T), T a built-in type -/
def tyD : D → String
  | .none => "NoneType"
  | .bool _ => "bool"
  | .int _ => "int"
  | .str _ => "str"
  | .list _ => "list"
  | .tuple _ => "tuple"
  | .dict _ => "dict"
def isD (T : String) (d : D) : Bool := tyD d == T || (T == "int" && tyD d == "bool")
/-- the types that the rule knows -/
def tys : List String := ["int", "bool", "str", "list", "tuple"]
def KitAll (K : PySem.W.Frag) (T : String) : Prop := ∀ d : D, PySem.W.kitOne K (.type (tyD d)) (.type T) = some (isD T d)
theorem kit_int (K : PySem.W.Frag) : KitAll K "int" := fun d => by cases d <;> kernel_rfl
theorem kit_bool (K : PySem.W.Frag) : KitAll K "bool" := fun d => by cases d <;> kernel_rfl
theorem kit_list (K : PySem.W.Frag) : KitAll K "list" := fun d => by cases d <;> kernel_rfl
theorem call_isinst {T : String} (hk : KitAll X.K T) : CallR X (.builtin "isinstance") (fun xs H Q => ∃ v O d, xs = [v, .ty T] ∧ Rep X.K O H v d ∧ noIns d = true ∧ Q (.bl (isD T d)) H) := by
  intro pins s σ H xs us Q I r h
  obtain ⟨v, O, d, rfl, rd, hi, q⟩ := h
  obtain ⟨u, w', rfl, r1, r2⟩ := vals2 r
  cases (show w' = Value.type T from r2)
  have fin : ∀ tk, EP X pins σ Q (.bool (isD T d)) { s with toks := tk } := fun tk => ⟨.bl _, H, I.tok _, rfl, q⟩
  have e := hk d
  cases rd with
  | non => cases (show u = Value.none from r1); exact PySem.W.kia_one PySem.W.kitx_none I.kIn True.intro e (fun z => nomatch z) fin
  | bl y => cases (show u = Value.bool y from r1); exact PySem.W.kia_one PySem.W.kitx_bool I.kIn True.intro e (fun z => nomatch z) fin
  | int i => obtain ⟨t, q⟩ := (show ∃ t, u = Value.int i t from r1); cases q; exact PySem.W.kia_one PySem.W.kitx_int I.kIn True.intro e (fun z => nomatch z) fin
  | str y => obtain ⟨t, q⟩ := (show ∃ t, u = Value.str y t from r1); cases q; exact PySem.W.kia_one PySem.W.kitx_str I.kIn True.intro e (fun z => nomatch z) fin
  | @tup a ys ds h rr =>
    cases (show u = Value.ref a from r1)
    obtain ⟨its, rv, ⟨o, h1, h2, _⟩, _⟩ := I.tuple h
    exact PySem.W.kia_one PySem.W.kitx_tuple I.kIn ⟨o, h1, h2⟩ e (fun z => nomatch z) fin
  | @lst a ys ds h n rr =>
    cases (show u = Value.ref a from r1)
    obtain ⟨its, rv, ⟨o, n, h1, h2, _⟩, _⟩ := I.list (.inl h)
    exact PySem.W.kia_one PySem.W.kitx_list I.kIn ⟨o, h1, h2⟩ e (fun z => nomatch z) fin
  | @lstK a ys ds h rr =>
    cases (show u = Value.ref a from r1)
    obtain ⟨its, rv, ⟨o, n, h1, h2, _⟩, _⟩ := I.list (.inr h)
    exact PySem.W.kia_one PySem.W.kitx_list I.kIn ⟨o, h1, h2⟩ e (fun z => nomatch z) fin
  | @dct a kvs es h n hk rr =>
    cases (show u = Value.ref a from r1)
    obtain ⟨_, _, _, _, o, _, _, h1, h2, _⟩ := h.ok I.hok
    exact PySem.W.kia_one PySem.W.kitx_dict I.kIn ⟨o, h1, h2.1⟩ e (fun z => nomatch z) fin
  | ins hN h n hk rr => cases hi
def dIs (T : String) (f : DS → M D) : DS → M D := fun δ => (f δ).thn fun d => if noIns d = true then M.ret (.bool (isD T d)) else none
theorem pd_isinst {T : String} {x y : Str} {p p2 : Pos} (hx : x = "isinstance") (hk : KitAll X.K T) (hg : Gl X x) (hm : X.mg x = none) (hg2 : Gl X y) (hm2 : X.mg y = none) (hb2 : bootBuiltins y = some (.type T)) (he : PD X G e f)
    (hn2 : y ≠ "__name__" := by decide) (hd2 : (y == ("__debug__" : Str)) = false := by decide)
    (hs1 : starEach [e, .Name y p2] X.env = (false, eval e X.env) :: starEach [.Name y p2] X.env := by rfl) (hs2 : starEach [.Name y p2] X.env = (false, eval (.Name y p2) X.env) :: starEach [] X.env := by rfl)
    (hpl : (backTo pos (starEach [.Name y p2] X.env)).any (·.1) = false := by rfl) : PD X G (.Call (.Name x p) [e, .Name y p2] [] pos) (dIs T f) := by
  subst hx
  obtain ⟨t, pe, he⟩ := he
  refine ⟨_, pe_callB (call_isinst hk) hg hm boot_isinstance (pa_cons pe (pa_cons (pe_bltn (v := .ty T) hg2 hm2 hb2 rfl hn2 hd2) pa_nil hs2) hs1) (by decide) (by decide) hs1 hpl, fun δ O σ H Q E k => ?_⟩
  refine he δ O σ H _ E (ok_mono (ok_thn k) fun d z v H1 s1 r => ?_)
  by_cases hi : noIns d = true
  · rw [if_pos hi] at z
    exact ⟨v, O, d, rfl, r, hi, z _ H1 s1 (.bl _)⟩
  · rw [if_neg hi] at z
    exact z.elim
end
end DL
namespace DL
open PySem PySem.Spec PyProof.Rows L2

/-! ### -x -/
def d1 (h : D → Option D) (f : DS → M D) : DS → M D := fun δ => (f δ).thn fun x => M.lift (h x)
def oNeg : D → Option D
  | .int i => some (.int (-i))
  | _ => none
theorem pd_neg {X : Cx} {G : XD → Hp → Prop} {a : Expr} {f : DS → M D} {pos : Pos} (ha : PD X G a f) : PD X G (.UnaryOp .USub a pos) (d1 oNeg f) := by
  obtain ⟨t, p, ha⟩ := ha
  refine ⟨_, pe_un un_neg p, fun δ O σ H Q E k => ?_⟩
  refine ha δ O σ H _ E (ok_mono (ok_thn k) fun d z v H1 s1 r => ?_)
  obtain ⟨y, hy, z⟩ := ok_lift z
  cases d with
  | int i => cases hy; exact ⟨i, r.int_inv, z _ H1 s1 (.int _)⟩
  | _ => cases hy

/-! ### statements -/
inductive Out where
  | nx (δ : DS)
  | rt (d : D)
  | bk (δ : DS)
  | ct (δ : DS)
/-- the state in a def's body: R0, the callers' owned lists; P0, what may be changed of what stood in H0 -/
structure EI (K : PySem.W.Frag) (Hr : Hp) (R0 : List Addr) (P0 : Addr → Prop) (H0 : Hp) (O : List Addr) (H : Hp) (σ : St) (δ : DS) : Prop where
  ev : Ev K Hr O H σ δ
  omr : ∀ l ∈ O, l ∈ R0 ∨ Hr l = none
  keep : ∀ b o, ¬ P0 b → H0 b = some o → H b = some o
  om : ∀ l ∈ O, l ∈ R0 ∨ P0 l ∨ H0 l = none
  nr1 : ∀ (i : Nat) (s : Sl) (l : Addr), δ[i]? = some s → s.own → σ[i]? = some (some (.ref l)) → l ∉ R0
  sub : ∀ l ∈ R0, l ∈ O
theorem EI.nr {K : PySem.W.Frag} {Hr : Hp} {R0 : List Addr} {P0 : Addr → Prop} {H0 : Hp} {O : List Addr} {H : Hp} {σ : St} {δ : DS} (E : EI K Hr R0 P0 H0 O H σ δ) : ∀ (i : Nat) (ds : List D) (l : Addr), δ[i]? = some (.ow ds) → σ[i]? = some (some (.ref l)) → l ∉ R0 := fun i ds l h1 h2 => E.nr1 i _ l h1 trivial h2
def Fin (K : PySem.W.Frag) (Hr : Hp) (R0 : List Addr) (P0 : Addr → Prop) (H0 : Hp) (Dn : Ends) : Out → Prop
  | .nx δ => ∀ O σ H, EI K Hr R0 P0 H0 O H σ δ → Dn.nx σ H
  | .rt d => ∀ v H, (∀ b o, ¬ P0 b → H0 b = some o → H b = some o) → Rep K R0 H v d → Dn.rt v H
  | .bk δ => ∀ O σ H, EI K Hr R0 P0 H0 O H σ δ → Dn.bk σ H
  | .ct δ => ∀ O σ H, EI K Hr R0 P0 H0 O H σ δ → Dn.ct σ H
def PDS (X : Cx) (G : XD → Hp → Prop) (st : Stmt) (g : DS → M Out) : Prop :=
  ∃ t, PS X st t ∧ ∀ {Hr : Hp} (R0 : List Addr) (P0 : Addr → Prop) (H0 : Hp) (δ : DS) (O : List Addr) (σ : St) (H : Hp) (Dn : Ends), EI X.K Hr R0 P0 H0 O H σ δ → ok (GS G Hr) (g δ) (Fin X.K Hr R0 P0 H0 Dn) → t Dn σ H
def PDSs (X : Cx) (G : XD → Hp → Prop) (st : List Stmt) (g : DS → M Out) : Prop :=
  ∃ t, PSs X st t ∧ ∀ {Hr : Hp} (R0 : List Addr) (P0 : Addr → Prop) (H0 : Hp) (δ : DS) (O : List Addr) (σ : St) (H : Hp) (Dn : Ends), EI X.K Hr R0 P0 H0 O H σ δ → ok (GS G Hr) (g δ) (Fin X.K Hr R0 P0 H0 Dn) → t Dn σ H

section
variable {X : Cx} {G : XD → Hp → Prop} {a b c e : Expr} {es rest : List Expr} {f g h : DS → M D} {fb gb : DS → M Bool} {fa : DS → M (List D)} {pos : Pos} {st : Stmt} {sts st1 st2 : List Stmt} {gs gt gu : DS → M Out}
variable {K : PySem.W.Frag} {Hr : Hp} {R0 : List Addr} {P0 : Addr → Prop} {H0 H H' : Hp} {O : List Addr} {σ : St} {δ : DS}
theorem EI.same (E : EI K Hr R0 P0 H0 O H σ δ) (s : Same H H') : EI K Hr R0 P0 H0 O H' σ δ := ⟨E.ev.same s, E.omr, fun b o n h => s _ _ (E.keep b o n h), E.om, E.nr1, E.sub⟩
theorem EI.set {i : Nat} {v : V} {d : D} (E : EI K Hr R0 P0 H0 O H σ δ) (r : Rep K O H v d) : EI K Hr R0 P0 H0 O H (σ.set i (some v)) (δ.set i (.vl d)) := by
  refine ⟨E.ev.set r, E.omr, E.keep, E.om, fun j ds l h1 ho h2 => ?_, E.sub⟩
  rw [get_set] at h1 h2
  by_cases hij : i = j
  · rw [if_pos hij] at h1
    split at h1
    · cases h1; exact ho.elim
    · cases h1
  · rw [if_neg hij] at h1 h2
    exact E.nr1 j ds l h1 ho h2
theorem EI.less (E : EI K Hr R0 P0 H0 O H σ δ) {v : V} {d : D} (r : Rep K O H v d) : Rep K R0 H v d := r.to (.less E.sub)

def gNext : DS → M Out := fun δ => M.ret (.nx δ)
def gSeq (g h : DS → M Out) : DS → M Out := fun δ => (g δ).thn fun o => match o with
  | .nx δ' => h δ'
  | o => M.ret o
theorem pds_nil : PDSs X G [] gNext := ⟨_, pss_nil, fun R0 P0 H0 δ O σ H Dn E k => k O σ H E⟩
theorem pds_one (h1 : PDS X G st gs) : PDSs X G [st] gs := by
  obtain ⟨t, p, h1⟩ := h1
  exact ⟨_, pss_one p, h1⟩
theorem pds_cons (h1 : PDS X G st gs) (h2 : PDSs X G sts gt) : PDSs X G (st :: sts) (gSeq gs gt) := by
  obtain ⟨t, p, h1⟩ := h1
  obtain ⟨u, q, h2⟩ := h2
  refine ⟨_, pss_cons p q, fun R0 P0 H0 δ O σ H Dn E k => ?_⟩
  refine h1 R0 P0 H0 δ O σ H _ E (ok_mono (ok_thn k) fun o z => ?_)
  cases o with
  | nx δ' => exact fun O' σ' H' E' => h2 R0 P0 H0 δ' O' σ' H' Dn E' z
  | rt d => exact z
  | bk δ' => exact z
  | ct δ' => exact z
def gBreak : DS → M Out := fun δ => M.ret (.bk δ)
def gCont : DS → M Out := fun δ => M.ret (.ct δ)
def gRet (f : DS → M D) : DS → M Out := fun δ => (f δ).thn fun d => M.ret (.rt d)
theorem pd_ret (he : PD X G e f) : PDS X G (.Return (some e) pos) (gRet f) := by
  obtain ⟨t, p, he⟩ := he
  refine ⟨_, ps_ret p, fun R0 P0 H0 δ O σ H Dn E k => ?_⟩
  exact he δ O σ H _ E.ev (ok_mono (ok_thn k) fun d z v H1 s1 r => z v H1 (fun b o n q => s1 _ _ (E.keep b o n q)) ((E.same s1).less r))
def gRetN : DS → M Out := fun δ => M.ret (.rt .none)
def gDrop (f : DS → M D) : DS → M Out := fun δ => (f δ).thn fun _ => M.ret (.nx δ)
def gIf (c : DS → M Bool) (g h : DS → M Out) : DS → M Out := fun δ => (c δ).thn fun b => if b = true then g δ else h δ
theorem pd_ifS (hc : PDT X G c fb) (h1 : PDSs X G st1 gs) (h2 : PDSs X G st2 gt) : PDS X G (.If c st1 st2 pos) (gIf fb gs gt) := by
  obtain ⟨t, p, hc⟩ := hc
  obtain ⟨u, q, h1⟩ := h1
  obtain ⟨w, r, h2⟩ := h2
  refine ⟨_, ps_if p q r, fun R0 P0 H0 δ O σ H Dn E k => ?_⟩
  refine hc δ O σ H _ E.ev (ok_mono (ok_thn k) fun d z H1 s1 => ?_)
  cases d with
  | true =>
    rw [if_pos rfl] at z ⊢
    exact h1 R0 P0 H0 δ O σ H1 Dn (E.same s1) z
  | false =>
    rw [if_neg Bool.false_ne_true] at z ⊢
    exact h2 R0 P0 H0 δ O σ H1 Dn (E.same s1) z
/-- code that is not come to -/
def gNever : DS → M Out := fun _ => none
/-! ### targets -/
def PDG (X : Cx) (target : Expr) (g : D → DS → Option DS) : Prop :=
  ∃ t, PG X target t ∧ ∀ {Hr : Hp} (R0 : List Addr) (P0 : Addr → Prop) (H0 : Hp) (δ δ' : DS) (d : D) (v : V) (O : List Addr) (σ : St) (H : Hp) (Q : St → Hp → Prop), EI X.K Hr R0 P0 H0 O H σ δ → Rep X.K O H v d → g d δ = some δ' →
    (∀ σ' H', EI X.K Hr R0 P0 H0 O H' σ' δ' → Same H H' → Q σ' H') → t v σ H Q
def PDGs (X : Cx) (ts : List Expr) (g : List D → DS → Option DS) : Prop :=
  ∃ t, PGs X ts t ∧ ∀ {Hr : Hp} (R0 : List Addr) (P0 : Addr → Prop) (H0 : Hp) (δ δ' : DS) (ds : List D) (vs : List V) (O : List Addr) (σ : St) (H : Hp) (Q : St → Hp → Prop), EI X.K Hr R0 P0 H0 O H σ δ → Reps X.K O H vs ds → g ds δ = some δ' →
    (∀ σ' H', EI X.K Hr R0 P0 H0 O H' σ' δ' → Same H H' → Q σ' H') → t vs σ H Q
def tgN (i : Nat) : D → DS → Option DS := fun d δ => some (δ.set i (.vl d))
theorem pdg_name {i : Nat} (h : PG X e (gName i)) : PDG X e (tgN i) := by
  refine ⟨_, h, fun R0 P0 H0 δ δ' d v O σ H Q E r e k => ?_⟩
  cases e
  exact k _ H (E.set r) (Same.refl H)
def tgNil : List D → DS → Option DS := fun ds δ => match ds with
  | [] => some δ
  | _ => none
def tgCons (t : D → DS → Option DS) (u : List D → DS → Option DS) : List D → DS → Option DS := fun ds δ => match ds with
  | d :: r => (t d δ).bind (u r)
  | [] => none
theorem pdgs_nil : PDGs X [] tgNil := by
  refine ⟨_, pgs_nil, fun R0 P0 H0 δ δ' ds vs O σ H Q E r e k => ?_⟩
  cases ds with
  | nil => cases r; cases e; exact ⟨rfl, k σ H E (Same.refl H)⟩
  | cons d ds => cases e
theorem pdgs_cons {t : D → DS → Option DS} {u : List D → DS → Option DS} (h1 : PDG X e t) (h2 : PDGs X es u)
    (hs : (assignEach (e :: es) X.env).map (·.2) = assign e X.env :: (assignEach es X.env).map (·.2) := by rfl) : PDGs X (e :: es) (tgCons t u) := by
  obtain ⟨t1, p1, h1⟩ := h1
  obtain ⟨t2, p2, h2⟩ := h2
  refine ⟨_, pgs_cons p1 p2 hs, fun R0 P0 H0 δ δ' ds vs O σ H Q E r e k => ?_⟩
  cases ds with
  | nil => cases e
  | cons d ds =>
    cases r with
    | @cons v _ vs _ r rs =>
      have e : (t d δ).bind (u ds) = some δ' := e
      cases e1 : t d δ with
      | none => rw [e1] at e; cases e
      | some δ1 =>
        rw [e1] at e
        refine ⟨v, vs, rfl, h1 R0 P0 H0 δ δ1 d v O σ H _ E r e1 fun σ1 H1 E1 s1 => ?_⟩
        exact h2 R0 P0 H0 δ1 δ' ds vs O σ1 H1 Q E1 (rs.same s1) e fun σ2 H2 E2 s2 => k σ2 H2 E2 (s1.trans s2)
def tgTup (n : Nat) (u : List D → DS → Option DS) : D → DS → Option DS := fun d δ => match d with
  | .tuple ds => if ds.length = n then u ds δ else none
  | _ => none
theorem pdg_tup {k : Nat} {u : List D → DS → Option DS} {n : Nat} (hc : X.calm = true) (h : PDGs X es u)
    (hn : (assignEach es X.env).length = n := by rfl) (hst : (assignEach es X.env).findIdx? (·.1) = none := by rfl) : PDG X (.Tuple es k pos) (tgTup n u) := by
  obtain ⟨t, p, h⟩ := h
  refine ⟨_, pg_tup hc p hn hst, fun R0 P0 H0 δ δ' d v O σ H Q E r e k => ?_⟩
  cases d with
  | tuple ds =>
    have e : (if ds.length = n then u ds δ else none) = some δ' := e
    by_cases hl : ds.length = n
    · rw [if_pos hl] at e
      obtain ⟨a, xs, rfl, h1, rs⟩ := r.tup_inv
      exact ⟨a, xs, rfl, h1, by rw [rs.length]; exact hl, h R0 P0 H0 δ δ' ds xs O σ H Q E rs e k⟩
    · rw [if_neg hl] at e; cases e
  | _ => cases e
/-- target = value -/
def gAsg (f : DS → M D) (g : D → DS → Option DS) : DS → M Out := fun δ => (f δ).thn fun d => (M.lift (g d δ)).thn fun δ' => M.ret (.nx δ')
/-- name = value -/
theorem pd_set {i : Nat} {x : Str} {pos' : Pos} (hN : X.N.Nodup) (hi : X.N[i]? = some x) (hx : Loc X.env.scope x) (he : PD X G e f) (hs : swapsWith e (some (.Name x pos')) pos.line X.env = pure false := by rfl) (hf : X.fn x = true ∨ X.env.scope.names.lookup x = some .local := by first | exact .inl rfl | exact .inr rfl | assumption) :
    PDS X G (.Assign [.Name x pos'] e pos) (gAsg f (tgN i)) := by
  obtain ⟨t, p, he⟩ := he
  refine ⟨_, ps_set hN hi hx p hs hf, fun R0 P0 H0 δ O σ H Dn E k => ?_⟩
  refine he δ O σ H _ E.ev (ok_mono (ok_thn k) fun d z v H1 s1 r => ?_)
  obtain ⟨δ', hd, z⟩ := ok_lift (ok_thn z)
  cases hd
  exact z O _ H1 ((E.same s1).set r)

/-! ### for -/
def forD (body : D → DS → M Out) : List D → DS → M Out
  | [], δ => M.ret (.nx δ)
  | x :: xs, δ => (body x δ).thn fun o => match o with
    | .nx δ' => forD body xs δ'
    | .ct δ' => forD body xs δ'
    | .bk δ' => M.ret (.nx δ')
    | .rt d => M.ret (.rt d)
def bodyD (t : D → DS → Option DS) (g : DS → M Out) : D → DS → M Out := fun d δ => (M.lift (t d δ)).thn g
/-- the list or tuple that a loop walks -/
def seqD : D → Option (List D)
  | .list ds => some ds
  | .tuple ds => some ds
  | _ => none
def gFor (f : DS → M D) (t : D → DS → Option DS) (g : DS → M Out) : DS → M Out := fun δ => (f δ).thn fun d => (M.lift (seqD d)).thn fun ds => forD (bodyD t g) ds δ
def iSeq (K : PySem.W.Frag) (tl : TE) : TI := fun σ H R => tl σ H fun x H1 => ∃ a, x = .ref a ∧ (((∃ xs, SqL K H1 a xs) ∧ R (Itl K a) H1) ∨ ((∃ xs, SqT K H1 a xs) ∧ R (Itt K a) H1))
theorem pi_seq {tg l : Expr} {tl : TE} (hl : PE X l tl) : PI X tg l (iSeq X.K tl) := by
  intro pins s σ H R I h
  refine thn (hl pins s σ H _ I h) fun v s1 ⟨x, H1, I1, r1, q1⟩ => ?_
  obtain ⟨a, e, q⟩ := q1
  subst e
  cases r1
  rcases q with ⟨⟨xs, hq⟩, q⟩ | ⟨⟨xs, hq⟩, q⟩
  · obtain ⟨its, rv, p, hz⟩ := I1.list hq
    refine wpAny_pyIter_list p.isList ?_
    refine ⟨s1.heap.objs.size, [s1.heap.objs.size], _, _, H1, rfl, I1.kept (t' := s1.toks) fun b o e => Heap.get?_push_of_some _ e, turn_list a _, ⟨_, Heap.get?_push_size _ rfl, rfl, rfl⟩, fun b hb => ?_, q⟩
    have e : b = s1.heap.objs.size := by simpa using hb
    subst e
    exact I1.fpOk (Nat.le_refl _) (I1.hok.fresh (Nat.le_refl _))
  · obtain ⟨its, rv, p, hz⟩ := I1.tuple hq
    refine wpAny_pyIter_tuple (show s1.heap.IsTuple a its.toArray from p) ?_
    refine ⟨s1.heap.objs.size, [s1.heap.objs.size], _, _, H1, rfl, I1.kept (t' := s1.toks) fun b o e => Heap.get?_push_of_some _ e, turn_tuple a _, ⟨_, Heap.get?_push_size _ rfl, rfl, rfl⟩, fun b hb => ?_, q⟩
    have e : b = s1.heap.objs.size := by simpa using hb
    subst e
    exact I1.fpOk (Nat.le_refl _) (I1.hok.fresh (Nat.le_refl _))

/-- what a loop may change -/
def Ch (O R0 : List Addr) (l : Addr) : Prop := l ∈ O ∧ l ∉ R0
theorem EI.noCh (E : EI K Hr R0 P0 H0 O H σ δ) {b : Addr} {o : HO} (n : ¬ P0 b) (h : H0 b = some o) : ¬ Ch O R0 b := fun ⟨z1, z2⟩ => by
  rcases E.om b z1 with q | q | q
  · exact z2 q
  · exact n q
  · rw [h] at q; cases q
theorem EI.inner (E : EI K Hr R0 P0 H0 O H σ δ) : EI K Hr R0 (Ch O R0) H O H σ δ :=
  ⟨E.ev, E.omr, fun b o _ h => h, fun l hl => (Classical.em (l ∈ R0)).elim .inl fun n => .inr (.inl ⟨hl, n⟩), E.nr1, E.sub⟩
theorem EI.outer {O1 : List Addr} {H1 : Hp} {σ1 : St} {δ1 : DS} (E : EI K Hr R0 P0 H0 O H σ δ) (E1 : EI K Hr R0 (Ch O R0) H O1 H1 σ1 δ1) : EI K Hr R0 P0 H0 O1 H1 σ1 δ1 := by
  refine ⟨E1.ev, E1.omr, fun b o n h => E1.keep b o (E.noCh n h) (E.keep b o n h), fun l hl => ?_, E1.nr1, E1.sub⟩
  rcases E1.om l hl with q | q | q
  · exact .inl q
  · exact E.om l q.1
  · refine .inr ?_
    by_cases hp : P0 l
    · exact .inl hp
    · cases e : H0 l with
      | none => exact .inr rfl
      | some o =>
        rw [E.keep l o hp e] at q
        cases q
theorem Fin.outer {Dn : Ends} (E : EI K Hr R0 P0 H0 O H σ δ) {o : Out} (h : Fin K Hr R0 P0 H0 Dn o) : Fin K Hr R0 (Ch O R0) H Dn o := by
  cases o with
  | nx δ1 => exact fun O1 σ1 H1 E1 => h O1 σ1 H1 (E.outer E1)
  | bk δ1 => exact fun O1 σ1 H1 E1 => h O1 σ1 H1 (E.outer E1)
  | ct δ1 => exact fun O1 σ1 H1 E1 => h O1 σ1 H1 (E.outer E1)
  | rt d => exact fun v H1 kp r => h v H1 (fun b o n q => kp b o (E.noCh n q) (E.keep b o n q)) r
/-- what the loop walks stays as it is -/
theorem EI.to {O1 : List Addr} {H1 : Hp} {σ1 : St} {δ1 : DS} (E : EI K Hr R0 P0 H0 O H σ δ) (E1 : EI K Hr R0 (Ch O R0) H O1 H1 σ1 δ1) : To O O1 H H1 := by
  have nt : ∀ {b : Addr} {o : HO}, (∀ xs, o ≠ .lst xs) → (∀ xs, o ≠ .dK xs) → H b = some o → ¬ Ch O R0 b := fun {b o} ho ho2 h z => by
    rcases E.ev.oo b z.1 with ⟨ys, hl⟩ | ⟨ys, hl⟩
    · rw [h] at hl
      exact ho _ (Option.some.inj hl)
    · rw [h] at hl
      exact ho2 _ (Option.some.inj hl)
  have kp : ∀ {b : Addr} {o : HO}, b ∉ O → Rd H b o → b ∉ O1 ∧ Rd H1 b o := fun {b o} n h => by
    refine ⟨fun z => ?_, ?_⟩
    · rcases E1.om b z with q | q | q
      · exact n (E.sub b q)
      · exact n q.1
      · rcases h with h | ⟨u, h⟩
        · rw [h] at q; cases q
        · rw [h] at q; cases q
    · rcases h with h | ⟨u, h⟩
      · exact .inl (E1.keep _ _ (fun z => n z.1) h)
      · exact .inr ⟨u, E1.keep _ _ (fun z => n z.1) h⟩
  refine ⟨fun b xs h => ?_, fun b xs n h => kp n h, fun b xs n h => kp n h, fun b C dx fs n h => ⟨(kp n (.inl h)).1, E1.keep _ _ (fun z => n z.1) h⟩⟩
  · rcases h with h | ⟨u, h⟩
    · exact .inl (E1.keep _ _ (nt (fun _ z => by cases z) (fun _ z => by cases z) h) h)
    · exact .inr ⟨u, E1.keep _ _ (nt (fun _ z => by cases z) (fun _ z => by cases z) h) h⟩
theorem drop_get {ds : List D} {i : Nat} {d : D} (h : ds[i]? = some d) : ds.drop i = d :: ds.drop (i + 1) := by
  obtain ⟨hl, e⟩ := List.getElem?_eq_some_iff.mp h
  rw [List.drop_eq_getElem_cons hl, e]
/-- for over range(n), range(a, b) -/
def rngD (lo : Int) (n : Nat) : List D := (List.range n).map fun (i : Nat) => PyData.int (lo + (i : Int))
def b62 (j : Int) : Bool := decide (-4611686018427387904 ≤ j ∧ j < 4611686018427387904)
def rng1 : List D → Option (List D)
  | [.int j] => if b62 j = true then some (rngD 0 j.toNat) else none
  | _ => none
def rng2 : List D → Option (List D)
  | [.int i, .int j] => if (b62 i && b62 j) = true then some (rngD i (j - i).toNat) else none
  | _ => none
def gForR (rng : List D → Option (List D)) (fa : DS → M (List D)) (t : D → DS → Option DS) (g : DS → M Out) : DS → M Out := fun δ => (fa δ).thn fun ds => (M.lift (rng ds)).thn fun xs => forD (bodyD t g) xs δ
theorem b62_of {j : Int} (h : b62 j = true) : -(2 ^ 62) ≤ j ∧ j < 2 ^ 62 := by
  have e62 : (2 : Int) ^ 62 = 4611686018427387904 := by decide
  rw [e62]
  exact of_decide_eq_true h
end

/-! ### defs -/
/-- a def does what F says -/
def spD (K : PySem.W.Frag) (n : Nat) (F : List D → M D) : Sp := fun vs H Q _ => ∃ O ds, vs.length = n ∧ (∀ l ∈ O, Mu H l) ∧ Reps K O H vs ds ∧ ok (fun _ => False) (F ds) (fun d => ∀ v H', Same H H' → Rep K O H' v d → Q v H')
structure Def (P : Program) (w : World) (K : PySem.W.Frag) (mg : Str → Option Value) (base : Heap) (k : Nat) (x : Str) (n : Nat) (F : List D → M D) : Prop where
  ex : ∃ (f : Addr) (fd : FuncData) (ps : List Str), FnOk P w K mg base CX0 k f fd ps (spD K n F) ∧ mg x = some (.ref f) ∧ PySem.W.keepIn K (.ref f) = true ∧ Binds K fd ps []
def dCall (F : List D → M D) (fa : DS → M (List D)) : DS → M D := fun δ => (fa δ).thn F
section
variable {X : Cx} {G : XD → Hp → Prop} {a b c e : Expr} {es rest : List Expr} {f g h : DS → M D} {fb gb : DS → M Bool} {fa : DS → M (List D)} {pos : Pos}
theorem ok_false {α : Type} {G : XD → Prop} {r : M α} {k : α → Prop} (h : ok (fun _ => False) r k) : ok G r k := by
  match r, h with
  | some (.ok a), h => exact h
/-- no exception comes out of the call -/
def noX {α : Type} (r : M α) : M α := match r with
  | some (.error _) => none
  | r => r
theorem ok_noX {α : Type} {G : XD → Prop} {r : M α} {k : α → Prop} (h : ok G (noX r) k) : ok (fun _ => False) r k := by
  match r, h with
  | some (.ok a), h => exact h
theorem pd_call {k n : Nat} {x : Str} {p : Pos} {F : List D → M D} (h : Def X.prog X.w X.K X.mg X.base k x n F) (hr : Room k X.A) (hg : Gl X x) (hn : (e :: es).length = n) (ha : PDA X G (e :: es) fa)
    (hdb : (x == ("__debug__" : Str)) = false := by decide) (he : starEach (e :: es) X.env = (false, eval e X.env) :: starEach es X.env := by rfl) (hpl : (backTo pos (starEach es X.env)).any (·.1) = false := by rfl) :
    PD X G (.Call (.Name x p) (e :: es) [] pos) (dCall (fun ds => noX (F ds)) fa) := by
  obtain ⟨f, fd, ps, F1, hm, hk, hb⟩ := h.ex
  obtain ⟨hl, t, pa, ha⟩ := ha
  refine ⟨_, pe_call F1 hr hg hm hk hb .nil pass0 pa hdb he hpl, fun δ O σ H Q E k => ?_⟩
  have k1 := ok_thn k
  refine ha δ O σ H _ E ?_
  cases e1 : fa δ with
  | none => rw [e1] at k1; exact k1.elim
  | some r =>
    rw [e1] at k1
    cases r with
    | error x => exact k1
    | ok ds =>
      refine fun vs H1 s1 rs => ?_
      refine ⟨O, ds, ?_, (E.same s1).oo, ?_, ok_mono (ok_noX k1) fun d z v H2 s2 r => z v H2 (s1.trans s2) r⟩
      · rw [List.append_nil, rs.length, hl δ ds e1]
        exact hn
      · rw [List.append_nil]
        exact rs
end
/-- a def's run: its names at the entry, its end -/
def startD (n : Nat) (ds : List D) : DS := ds.map Sl.vl ++ List.replicate (n - ds.length) Sl.un
def endD (o : Out) : M D := match o with
  | .rt d => M.ret d
  | .nx _ => M.ret .none
  | _ => none
def run (n : Nat) (g : DS → M Out) (ds : List D) : M D := (g (startD n ds)).thn endD
section
variable {P : Program} {w : World} {K : PySem.W.Frag} {mg : Str → Option Value} {base : Heap}
theorem start_no {n i : Nat} {ds : List D} {s : Sl} (h1 : (startD n ds)[i]? = some s) (ho : s.own) : False := by
  unfold startD at h1
  by_cases hi : i < ds.length
  · rw [List.getElem?_append_left (by simpa using hi), List.getElem?_map] at h1
    cases e : ds[i]? with
    | none => rw [e] at h1; cases h1
    | some d => rw [e] at h1; cases h1; exact ho
  · rw [List.getElem?_append_right (by simpa using hi), List.getElem?_replicate] at h1
    split at h1
    · cases h1; exact ho
    · cases h1
theorem ev_start {O : List Addr} {H : Hp} {vs : List V} {ds : List D} (N : List Str) (oo : ∀ l ∈ O, Mu H l) (r : Reps K O H vs ds) : Ev K H O H (L2.start N vs) (startD N.length ds) := by
  have get : ∀ (i : Nat) (s : Sl), (startD N.length ds)[i]? = some s → (∃ d, ds[i]? = some d ∧ s = .vl d) ∨ s = .un := fun i s h => by
    unfold startD at h
    by_cases hi : i < ds.length
    · rw [List.getElem?_append_left (by simpa using hi), List.getElem?_map] at h
      cases e : ds[i]? with
      | none => rw [e] at h; cases h
      | some d => rw [e] at h; cases h; exact .inl ⟨d, rfl, rfl⟩
    · rw [List.getElem?_append_right (by simpa using hi), List.getElem?_replicate] at h
      split at h
      · cases h; exact .inr rfl
      · cases h
  refine ⟨Same.refl H, oo, ?_, fun i s h => ?_, fun i j l es fs hij h1 h2 h3 => ?_⟩
  · unfold L2.start startD
    simp [r.length]
  · rcases get i s h with ⟨d, hd, rfl⟩ | rfl
    · obtain ⟨v, hv, rd⟩ := r.get hd
      refine ⟨v, ?_, rd⟩
      unfold L2.start
      have hi : i < vs.length := (List.getElem?_eq_some_iff.mp hv).1
      rw [List.getElem?_append_left (by simpa using hi), List.getElem?_map, hv]
      rfl
    · trivial
  · rcases get i _ h1 with ⟨d, _, z⟩ | z <;> cases z
theorem fn_ofD {x qual : Str} {st : Stmt} {f : Addr} {fd : FuncData} {N ps : List Str} {k : Nat} {g : DS → M Out} (F0 : Fun K x qual st f fd) (S : FnScope N ps (defScope st))
    (hbody : ∀ (cdv : Value) (A : Around) (outer : List Env) (s : Shared) (H : Hp) (E : XK), Room k (A.deeper (envOfC qual (defScope st) s.heap.objs.size f cdv)) →
      PDSs (cxOf CX0 P w K mg base N qual (defScope st) f cdv A outer s H E).nox (fun _ _ => False) (defBody st) g) : FnOk P w K mg base CX0 (k + 1) f fd ps (spD K ps.length (run N.length g)) := by
  refine F0.ok S (fun vs H Q E h => ?_) (fun cdv A outer s H vs Q E hr h => ?_)
  · obtain ⟨O, ds, hl, _⟩ := h
    exact hl
  · obtain ⟨O, ds, hl, oo, r, q⟩ := h
    obtain ⟨t, p, hB⟩ := hbody cdv A outer s H E hr
    refine ⟨t, p, hB O (fun _ => False) H (startD N.length ds) O (L2.start N vs) H _ ⟨ev_start N oo r, fun l hl => .inl hl, fun b o _ h => h, fun l hl => .inl hl, fun i es l h1 ho h2 => ?_, fun l hl => hl⟩ (ok_mono (ok_false (ok_thn q)) fun o z => ?_)⟩
    · exact (start_no h1 ho).elim
    · cases o with
      | rt d => exact fun v H' kp r => z v H' (fun b o h => kp b o (fun w => w) h) r
      | nx δ => exact fun O' σ' H' E' => z .non H' (fun b o h => E'.keep b o (fun w => w) h) .non
      | bk δ => exact z.elim
      | ct δ => exact z.elim
theorem def_of {x qual : Str} {st : Stmt} {f : Addr} {fd : FuncData} {N ps : List Str} {k : Nat} {g : DS → M Out} (F0 : Fun K x qual st f fd) (S : FnScope N ps (defScope st)) (hm : mg x = some (.ref f)) (hb : Binds K fd ps [])
    (hbody : ∀ (cdv : Value) (A : Around) (outer : List Env) (s : Shared) (H : Hp) (E : XK), Room k (A.deeper (envOfC qual (defScope st) s.heap.objs.size f cdv)) →
      PDSs (cxOf CX0 P w K mg base N qual (defScope st) f cdv A outer s H E).nox (fun _ _ => False) (defBody st) g) : Def P w K mg base (k + 1) x ps.length (run N.length g) :=
  ⟨f, fd, ps, fn_ofD F0 S hbody, hm, F0.kp, hb⟩
/-- the law's promise from its run -/
def spLaw (K : PySem.W.Frag) : Sp := fun vs H Q _ => ∃ (a : Addr) (ns : List Int), vs = [.ref a] ∧ SqL K H a (ns.map V.int) ∧ ns.length ≤ 63 ∧ ∀ H', Q (.bl true) H'
theorem law_sp {F : List D → M D} (hF : ∀ ns : List Int, ns.length ≤ 63 → F [.list (ns.map PyData.int)] = M.ret (.bool true)) (vs : List V) (H : Hp) (Q : VK) (E : XK) (h : spLaw K vs H Q E) : spD K 1 F vs H Q E := by
  obtain ⟨a, ns, rfl, hS, hl, k⟩ := h
  refine ⟨[], [.list (ns.map PyData.int)], rfl, (fun l z => nomatch z), .cons ?_ .nil, ?_⟩
  · rcases hS with hS | hS
    · exact .lst hS (fun z => nomatch z) (Reps.ints ns)
    · exact .lstK hS (Reps.ints ns)
  · rw [hF ns hl]
    intro v H' s r
    rw [r.bool_inv]
    exact k H'
theorem walk {l : PySem.W.OpenLaw} {q : Program} {loose : List Str} {XP : (Str → Option Value) → Heap → Prop} {YP : World → Heap → Prop} {d : DefRec} {K : Params → PySem.W.Frag} {k : Nat} {F : List D → M D} {x : Str} (hn : l.most = some 63) (hdf : d.params.defaults = [])
    (hF : ∀ ns : List Int, ns.length ≤ 63 → F [.list (ns.map PyData.int)] = M.ret (.bool true)) (hr : Room k callerA)
    (hY : ∀ (w : World) (h : Heap), YP w h → (K w.params).In h)
    (T : ∀ (w : World) (mg : Str → Option Value) (fa : Addr) (h : Heap), (K w.params).In h → h.Ns mainGlobals mg → mg d.name = some (.ref fa) →
      ∃ fd : FuncData, (∀ (s : Shared) (u : Value), BindsTo s fd ⟨[u], []⟩ [(x, u)]) ∧ ∀ base : Heap, (K w.params).In base → base.Ns mainGlobals mg → FnOk l.prog w (K w.params) mg base CX0 k fa fd [x] (spD (K w.params) 1 F)) :
    PySem.W.WalkO q loose XP YP l.row.toRowW d [] (fun f vs => PySem.call f vs) :=
  L2.walk_of (n := 63) (k := k) (x := x) (CX := fun _ => CX0) (sp := fun w => spD (K w.params) 1 F) hn (by decide) hdf hr hY T (fun w H a ns hl _ hS => law_sp hF _ _ _ _ ⟨a, ns, rfl, hS, hl, fun _ => rfl⟩) fun _ _ _ _ _ z => z
end
end DL
/-! EVALUATION of runs: one lemma a form, applied from the outside -/
namespace DL
open PySem PySem.Spec L2
section
variable {δ δ' : DS} {f g : DS → M D} {fb gb : DS → M Bool} {fa : DS → M (List D)} {gs gt g1 g2 : DS → M Out} {d x y : D} {b b1 b2 : Bool} {ds xs : List D} {i j : Int} {r : M Out} {o : Out}
theorem ev_var {n : Nat} (h : δ[n]? = some (.vl d)) : dVar n δ = M.ret d := by unfold dVar; rw [h]
theorem ev_c : dC d δ = M.ret d := rfl
theorem ev_2 {h : D → D → Option D} (h1 : f δ = M.ret x) (h2 : g δ = M.ret y) (h3 : h x y = some d) : d2 h f g δ = M.ret d := by
  unfold d2; rw [h1, thn_ret, h2, thn_ret, h3]; rfl
theorem ev_1 {h : D → Option D} (h1 : f δ = M.ret x) (h3 : h x = some d) : d1 h f δ = M.ret d := by
  unfold d1; rw [h1, thn_ret, h3]; rfl
theorem o_add : oAdd (.int i) (.int j) = some (.int (i + j)) := rfl
theorem o_sub : oSub (.int i) (.int j) = some (.int (i - j)) := rfl
theorem o_mul (h : bMul i j = true) : oMul (.int i) (.int j) = some (.int (i * j)) := if_pos h
theorem o_div (h : bDiv j = true) : oDiv (.int i) (.int j) = some (.int (i / j)) := if_pos h
theorem o_mod (h : 0 < j) : oMod (.int i) (.int j) = some (.int (i % j)) := if_pos (decide_eq_true h)
theorem o_lt : oLt (.int i) (.int j) = some (.bool (decide (i < j))) := rfl
theorem o_le : oLe (.int i) (.int j) = some (.bool (decide (i ≤ j))) := rfl
theorem o_gt : oGt (.int i) (.int j) = some (.bool (decide (j < i))) := rfl
theorem o_ge : oGe (.int i) (.int j) = some (.bool (decide (j ≤ i))) := rfl
theorem o_pow18 : oPow (.int 10) (.int 18) = some (.int 1000000000000000000) := rfl
theorem o_pow15 : oPow (.int 10) (.int 15) = some (.int 1000000000000000) := rfl
theorem o_pow9 : oPow (.int 10) (.int 9) = some (.int 1000000000) := rfl
theorem o_pow6 : oPow (.int 10) (.int 6) = some (.int 1000000) := rfl
theorem o_max : oMax [.int i, .int j] = some (.int (max i j)) := rfl
theorem o_min : oMin [.int i, .int j] = some (.int (min i j)) := rfl
theorem o_lenL : oLen [.list ds] = some (.int ds.length) := rfl
theorem o_lenT : oLen [.tuple ds] = some (.int ds.length) := rfl
theorem o_eq : oEq (.int i) (.int j) = some (.bool (decide (i = j))) := by
  show some (PyData.bool (i == j)) = _
  rw [Bool.beq_eq_decide_eq]
theorem o_ne : oNe (.int i) (.int j) = some (.bool (!decide (i = j))) := by
  show some (PyData.bool (!(i == j))) = _
  rw [Bool.beq_eq_decide_eq]
theorem bMul_l (h1 : -18446744073709551616 < i) (h2 : i < 18446744073709551616) : bMul i j = true := decide_eq_true (.inl ⟨h1, h2⟩)
theorem bMul_r (h1 : -18446744073709551616 < j) (h2 : j < 18446744073709551616) : bMul i j = true := decide_eq_true (.inr ⟨h1, h2⟩)
theorem bDiv_of (h1 : 0 < j) (h2 : j < 1267650600228229401496703205376) : bDiv j = true := decide_eq_true ⟨h1, h2⟩
theorem ev_b (h : f δ = M.ret (.bool b)) : dB f δ = M.ret b := by unfold dB; rw [h]; rfl
theorem ev_not (h : fb δ = M.ret b) : dNot fb δ = M.ret (!b) := by unfold dNot; rw [h]; rfl
theorem ev_and (h1 : fb δ = M.ret b1) (h2 : gb δ = M.ret b2) : dAnd fb gb δ = M.ret (b1 && b2) := by
  unfold dAnd; rw [h1, thn_ret, h2]; cases b1 <;> rfl
theorem ev_or (h1 : fb δ = M.ret b1) (h2 : gb δ = M.ret b2) : dOr fb gb δ = M.ret (b1 || b2) := by
  unfold dOr; rw [h1, thn_ret, h2]; cases b1 <;> rfl
theorem ev_or_t (h1 : fb δ = M.ret true) : dOr fb gb δ = M.ret true := by unfold dOr; rw [h1]; rfl
theorem ev_or_f (h1 : fb δ = M.ret false) (h2 : gb δ = M.ret b) : dOr fb gb δ = M.ret b := by unfold dOr; rw [h1, thn_ret, if_neg Bool.false_ne_true]; exact h2
theorem ev_and_f (h1 : fb δ = M.ret false) : dAnd fb gb δ = M.ret false := by unfold dAnd; rw [h1]; rfl
theorem ev_and_t (h1 : fb δ = M.ret true) (h2 : gb δ = M.ret b) : dAnd fb gb δ = M.ret b := by unfold dAnd; rw [h1, thn_ret, if_pos rfl]; exact h2
theorem ev_notV (h : f δ = M.ret (.bool b)) : dNotV f δ = M.ret (.bool (!b)) := by unfold dNotV; rw [ev_b h]; rfl
theorem ev_andV (h1 : f δ = M.ret (.bool b1)) (h2 : g δ = M.ret (.bool b2)) : dAndV f g δ = M.ret (.bool (b1 && b2)) := by
  unfold dAndV; rw [ev_b h1, thn_ret, h2]; cases b1 <;> rfl
theorem ev_orV (h1 : f δ = M.ret (.bool b1)) (h2 : g δ = M.ret (.bool b2)) : dOrV f g δ = M.ret (.bool (b1 || b2)) := by
  unfold dOrV; rw [ev_b h1, thn_ret, h2]; cases b1 <;> rfl
theorem ev_andV_t (h1 : f δ = M.ret (.bool true)) (h2 : g δ = M.ret d) : dAndV f g δ = M.ret d := by unfold dAndV; rw [ev_b h1, thn_ret, if_pos rfl]; exact h2
theorem ev_is {T : String} (h : f δ = M.ret d) (hi : noIns d = true := by rfl) : dIs T f δ = M.ret (.bool (isD T d)) := by unfold dIs; rw [h, thn_ret, if_pos hi]
theorem ev_nil : dNil δ = M.ret [] := rfl
theorem ev_cons (h1 : f δ = M.ret x) (h2 : fa δ = M.ret xs) : dCons f fa δ = M.ret (x :: xs) := by unfold dCons; rw [h1, thn_ret, h2]; rfl
theorem ev_tup (h : fa δ = M.ret ds) (hz : small ds.length = true) : dTup fa δ = M.ret (.tuple ds) := by unfold dTup; rw [h, thn_ret, if_pos hz]
theorem ev_lst (h : fa δ = M.ret ds) (hz : small ds.length = true) : dLst fa δ = M.ret (.list ds) := by unfold dLst; rw [h, thn_ret, if_pos hz]
theorem ev_cb {h : List D → Option D} (h1 : fa δ = M.ret ds) (h2 : h ds = some d) : dCB h fa δ = M.ret d := by unfold dCB; rw [h1, thn_ret, h2]; rfl
theorem ev_call {F : List D → M D} (h1 : fa δ = M.ret ds) (h2 : F ds = M.ret d) : dCall (fun ds => noX (F ds)) fa δ = M.ret d := by
  unfold dCall; rw [h1, thn_ret, h2]; rfl
theorem ev_cut {fl fh : DS → M (Option Int)} {lo hi : Option Int} (h1 : f δ = M.ret x) (h2 : fl δ = M.ret lo) (h3 : fh δ = M.ret hi) (h4 : oCut lo hi x = some d) : dCut f fl fh δ = M.ret d := by
  unfold dCut; rw [h1, thn_ret, h2, thn_ret, h3, thn_ret, h4]; rfl
theorem ev_part (h : f δ = M.ret (.int i)) : dPart f δ = M.ret (some i) := by unfold dPart; rw [h]; rfl
theorem ev_nopart : dNoPart δ = M.ret none := rfl
theorem ev_if (h1 : fb δ = M.ret b) {r : M D} (h2 : (if b = true then f δ else g δ) = r) : dIf fb f g δ = r := by unfold dIf; rw [h1]; exact h2
/-! statements -/
theorem ev_seq (h1 : gs δ = M.ret (.nx δ')) (h2 : gt δ' = r) : gSeq gs gt δ = r := by unfold gSeq; rw [h1]; exact h2
theorem ev_seqR (h1 : gs δ = M.ret (.rt d)) : gSeq gs gt δ = M.ret (.rt d) := by unfold gSeq; rw [h1]; rfl
theorem ev_seqIf (h1 : fb δ = M.ret b) (h2 : (if b = true then gSeq g1 gt δ else gSeq g2 gt δ) = r) : gSeq (gIf fb g1 g2) gt δ = r := by
  unfold gSeq gIf; rw [h1, thn_ret]; unfold gSeq at h2; cases b <;> exact h2
theorem ev_ifS (h1 : fb δ = M.ret b) (h2 : (if b = true then g1 δ else g2 δ) = r) : gIf fb g1 g2 δ = r := by unfold gIf; rw [h1]; exact h2
theorem ev_next : gNext δ = M.ret (.nx δ) := rfl
theorem ev_seqN (h : gt δ = r) : gSeq gNext gt δ = r := h
theorem ev_asg {n : Nat} (h : f δ = M.ret d) : gAsg f (tgN n) δ = M.ret (.nx (δ.set n (.vl d))) := by unfold gAsg; rw [h]; rfl
theorem ev_asgT {t : D → DS → Option DS} (h : f δ = M.ret d) (h2 : t d δ = some δ') : gAsg f t δ = M.ret (.nx δ') := by unfold gAsg; rw [h, thn_ret, h2]; rfl
theorem ev_ret (h : f δ = M.ret d) : gRet f δ = M.ret (.rt d) := by unfold gRet; rw [h]; rfl
theorem ev_run {n : Nat} (h : gs (startD n ds) = M.ret (.rt d)) : run n gs ds = M.ret d := by unfold run; rw [h]; rfl
theorem ite_t {α : Type} {p : Prop} [Decidable p] {A B r : α} (h : p) (k : A = r) : (if decide p = true then A else B) = r := by rw [if_pos (decide_eq_true h)]; exact k
theorem ite_f {α : Type} {p : Prop} [Decidable p] {A B r : α} (h : ¬ p) (k : B = r) : (if decide p = true then A else B) = r := by rw [if_neg (by rw [decide_eq_false h]; exact Bool.false_ne_true)]; exact k
theorem ite_T {α : Type} {A B r : α} {b : Bool} (h : b = true) (k : A = r) : (if b = true then A else B) = r := by rw [if_pos h]; exact k
theorem ite_F {α : Type} {A B r : α} {b : Bool} (h : b = false) (k : B = r) : (if b = true then A else B) = r := by rw [h, if_neg Bool.false_ne_true]; exact k
theorem ev_body {t : D → DS → Option DS} (h1 : t d δ = some δ') (h2 : gs δ' = r) : bodyD t gs d δ = r := by unfold bodyD; rw [h1]; exact h2
/-- an item of a list at a place within -/
theorem ix_in {ds : List D} {i : Int} (h0 : 0 ≤ i) (h1 : i < ds.length) : ∃ d, d ∈ ds ∧ oIx (.list ds) (.int i) = some d := by
  have hl : i.toNat < ds.length := by omega
  refine ⟨ds[i.toNat], List.getElem_mem hl, ?_⟩
  show L2.atI ds i = _
  unfold L2.atI L2.ixN
  rw [if_pos h0, if_pos h1]
  show ds[i.toNat]? = _
  rw [List.getElem?_eq_getElem hl]
end
end DL
/-! A COMPREHENSION of one clause without tests, whose element names no local of the def -/
namespace L2
open PySem PySem.Spec PyProof.Rows
def compEnv (scope : Scope) (C : Addr) (env : Env) : Env := { scope := scope, locals := C, globals := env.globals, cells := [], qual := env.qual, func := none, code := env.code, frame := env.frame, builtins := env.builtins }
/-- the context of a comprehension's block -/
def compCx (X : Cx) (scope : Scope) (x : Str) (C : Addr) (s3 : Shared) (H3 : Hp) (fp : List Addr) : Cx where
  prog := X.prog
  w := X.w
  K := X.K
  mg := X.mg
  base := X.base
  A := X.A
  N := [x]
  s₀ := s3
  H₀ := H3
  env := compEnv scope C X.env
  outer := X.stack
  stack := X.stack
  ex := fp
  fn := fun _ => false
  calm := X.calm
  pn := []
  xe := fun _ _ => False
def tComp (wi : TI) (te : TE) : TE := fun σ H Q => wi σ H fun J H1 => ∀ l, H1 l = none → ∃ W : Nat → Nat → List V → Hp → Prop, (∃ m, W 0 m [] (upd H1 l (.lst []))) ∧
  ∀ i m xs H2, W i m xs H2 → H2 l = some (.lst xs) ∧ ((J.stop i H2 ∧ Q (.ref l) H2) ∨ (J.go i H2 ∧ xs.length < sizeLine ∧ ∀ x H3, J.yld i H2 x H3 → te [some x] H3 fun v H4 => H4 l = some (.lst xs) ∧ ∃ m', m' < m ∧ W (i + 1) m' (xs ++ [v]) (upd H4 l (.lst (xs ++ [v])))))
section
variable {X : Cx}
end
end L2

namespace DL
open PySem PySem.Spec PyProof.Rows L2
/-- the reading that a run asks for -/
def tD (K : PySem.W.Frag) (G : XD → Hp → Prop) (f : DS → M D) : TE := fun σ H Q => ∃ Hr δ O, Ev K Hr O H σ δ ∧ ok (GS G Hr) (f δ) (fun d => ∀ v H', Same H H' → Rep K O H' v d → Q v H')
theorem PD.can {X : Cx} {G : XD → Hp → Prop} {e : Expr} {f : DS → M D} (h : PD X G e f) : PE X e (tD X.K G f) := by
  obtain ⟨t, p, h⟩ := h
  intro pins s σ H Q I hw
  obtain ⟨Hr, δ, O, E, k⟩ := hw
  exact p pins s σ H Q I (h δ O σ H Q E k)
def mapD (f : D → M D) : List D → M (List D)
  | [] => M.ret []
  | x :: xs => (f x).thn fun y => (mapD f xs).thn fun ys => M.ret (y :: ys)
def dComp (fi f : DS → M D) : DS → M D := fun δ => (fi δ).thn fun d => (M.lift (seqD d)).thn fun ds => if small ds.length then (mapD (fun x => noX (f [.vl x])) ds).thn fun ys => M.ret (.list ys) else none
section
variable {K : PySem.W.Frag} {G : XD → Prop} {f : DS → M D}
/-- all but the list at l stays -/
def Kp (l : Addr) (H H' : Hp) : Prop := ∀ b o, b ≠ l → H b = some o → H' b = some o
theorem Kp.to {O : List Addr} {H H' : Hp} {l : Addr} (k : Kp l H H') (hl : H l = none) : To O (l :: O) H H' := by
  have rd : ∀ {b : Addr} {o : HO}, Rd H b o → Rd H' b o := fun {b o} h => by
    have hb := Rd.ne_new h hl
    rcases h with h | ⟨u, h⟩
    · exact .inl (k _ _ hb h)
    · exact .inr ⟨u, k _ _ hb h⟩
  have no : ∀ {b : Addr} {o : HO}, b ∉ O → Rd H b o → b ∉ l :: O := fun {b o} n h z => by
    rcases List.mem_cons.mp z with z | z
    · exact Rd.ne_new h hl z
    · exact n z
  exact ⟨fun b xs h => rd h, fun b xs n h => ⟨no n h, rd h⟩, fun b xs n h => ⟨no n h, rd h⟩, fun b C dx fs n h => ⟨no n (.inl h), k _ _ (ne_of_none h hl) h⟩⟩
theorem Kp.same {H H' : Hp} {l : Addr} (k : Kp l H H') (hl : H l = none) : Same H H' := fun b o e => k b o (ne_of_none e hl) e
end
section
variable {X : Cx} {G : XD → Hp → Prop} {fi f : DS → M D}
/-! ### all, any of a list of bools -/
def bools : List D → Option (List Bool)
  | [] => some []
  | .bool b :: r => (bools r).map (b :: ·)
  | _ => none
theorem bools_get : ∀ {ds : List D} {bs : List Bool}, bools ds = some bs → ds = bs.map PyData.bool
  | [], bs, h => by cases h; rfl
  | .bool b :: r, bs, h => by
    have h : (bools r).map (b :: ·) = some bs := h
    cases e : bools r with
    | none => rw [e] at h; cases h
    | some cs => rw [e] at h; cases h; rw [bools_get e]; rfl
theorem reps_bools {K : PySem.W.Frag} {O : List Addr} {H : Hp} : ∀ {bs : List Bool} {vs : List V}, Reps K O H vs (bs.map PyData.bool) → vs = bs.map V.bl
  | [], _, .nil => rfl
  | b :: bs, _, .cons r rs => by rw [r.bool_inv, reps_bools rs]; rfl
theorem call_allL (hc : X.calm = true) : CallR X (.builtin "all") (fun xs H Q => ∃ (p : Addr) (bs : List Bool), xs = [.ref p] ∧ SqL X.K H p (bs.map V.bl) ∧ Q (.bl (bs.all id)) H) := by
  intro pins s σ H xs us Q I r h
  obtain ⟨l, bs, rfl, hq, q⟩ := h
  obtain ⟨u, rfl, rx⟩ := vals1 r
  cases rx
  obtain ⟨its, rv, pl, hz⟩ := I.list hq
  have hl := pl.isList
  have hlt : l < s.heap.objs.size := by obtain ⟨_, e, _⟩ := hl; exact Heap.lt_size e
  have hlen : its.length = bs.length := by rw [← rv.length, List.length_map]
  refine call_all_walk (wpAny_pyIter_list hl ?_)
  refine ⟨s.heap.objs.size, [s.heap.objs.size, l], [s.heap.objs.size], its.toArray.size, _, _, fun i => (bs[i]?).getD true, rfl, Walks.list (A := X.A.in1) (I.ok.hd hc) _ l (Nat.ne_of_lt hlt) its.toArray,
    ⟨⟨_, Heap.get?_push_size _ rfl, rfl, rfl⟩, hl.push _⟩, fun i v s' Q' E' hP hQ => ?_, fun h' tk hk => ?_⟩
  · have hv : its[i]? = some v := by simpa using hP
    have hi : i < bs.length := by rw [← hlen]; exact (List.getElem?_eq_some_iff.mp hv).1
    obtain ⟨w', e1, e2⟩ := rv.get (i := i) (x := V.bl bs[i]) (by rw [List.getElem?_map, List.getElem?_eq_getElem hi]; rfl)
    rw [hv] at e1
    cases e1
    cases (show v = Value.bool bs[i] from e2)
    dsimp only at hQ
    rw [List.getElem?_eq_getElem hi] at hQ
    exact wpAny_truthy_bool hQ
  · have e : ((List.range its.toArray.size).all fun i => (bs[i]?).getD true) = bs.all id := by
      rw [List.size_toArray, hlen]; exact LSm.range_all bs
    rw [e]
    exact ⟨.bl _, H, I.kept fun b o e => LSm.kept_iter hk b o e, rfl, q⟩
def oAll : List D → Option D
  | [.list ds] => (bools ds).map fun bs => .bool (bs.all id)
  | _ => none
theorem dcall_all (hc : X.calm = true) : DCall X (.builtin "all") oAll := by
  refine ⟨_, call_allL hc, fun O H ds d vs Q oo rs e k => ?_⟩
  unfold oAll at e
  split at e
  · rename_i es
    cases e1 : bools es with
    | none => rw [e1] at e; cases e
    | some bs =>
      rw [e1] at e
      cases e
      obtain ⟨v, rfl, r⟩ := reps1 rs
      obtain ⟨p, xs, rfl, h1, rx⟩ := r.lst_inv
      rw [bools_get e1] at rx
      rw [reps_bools rx] at h1
      exact ⟨p, bs, rfl, h1, k _ H (Same.refl H) (.bl _)⟩
  · cases e
end
section
variable {δ : DS} {fi f : DS → M D} {x y : D} {ds ys : List D}
end
end DL
/-! A COMPREHENSION whose element names locals of the def: fr, their places and names; cl, their cells -/
namespace L2
open PySem PySem.Spec PyProof.Rows
def compCxF (X : Cx) (scope : Scope) (cl : List (Str × Addr)) (fr : List (Nat × Str)) (x : Str) (C : Addr) (s3 : Shared) (H3 : Hp) (fp : List Addr) : Cx where
  prog := X.prog
  w := X.w
  K := X.K
  mg := X.mg
  base := X.base
  A := X.A
  N := x :: fr.map (·.2)
  s₀ := s3
  H₀ := H3
  env := compEnvC scope cl C X.env
  outer := X.stack
  stack := X.stack
  ex := fp
  fn := fun _ => false
  calm := X.calm
  pn := []
  xe := fun _ _ => False
def tCompF (fr : List (Nat × Str)) (wi : TI) (te : TE) : TE := fun σ H Q => wi σ H fun J H1 => ∀ l, H1 l = none → ∃ W : Nat → Nat → List V → Hp → Prop, (∃ m, W 0 m [] (upd H1 l (.lst []))) ∧
  ∀ i m xs H2, W i m xs H2 → H2 l = some (.lst xs) ∧ ((J.stop i H2 ∧ Q (.ref l) H2) ∨ (J.go i H2 ∧ xs.length < sizeLine ∧ ∀ x H3, J.yld i H2 x H3 → te (some x :: fr.map fun p => (σ[p.1]?).join) H3 fun v H4 => H4 l = some (.lst xs) ∧ ∃ m', m' < m ∧ W (i + 1) m' (xs ++ [v]) (upd H4 l (.lst (xs ++ [v])))))
section
variable {X : Cx}
end
end L2

namespace DL
open PySem PySem.Spec PyProof.Rows L2
def slotAt (δ : DS) (j : Nat) : Sl := match δ[j]? with
  | some (.vl d) => .vl d
  | _ => .un
def dCompF (js : List Nat) (fi f : DS → M D) : DS → M D := fun δ => (fi δ).thn fun d => (M.lift (seqD d)).thn fun ds => if small ds.length then (mapD (fun x => noX (f (.vl x :: js.map (slotAt δ)))) ds).thn fun ys => M.ret (.list ys) else none
section
variable {K : PySem.W.Frag} {G : XD → Prop} {f : DS → M D}
end
section
variable {X : Cx} {G : XD → Hp → Prop} {fi f : DS → M D}
end
section
variable {δ : DS} {fi f : DS → M D} {x : D} {ds ys : List D} {js : List Nat}
end
end DL
/-! LISTS that a def builds: x = [], x.append(e), return x; and x read from now on as a value -/
namespace DL
open PySem PySem.Spec PyProof.Rows L2
section
variable {X : Cx} {G : XD → Hp → Prop} {a b c e : Expr} {f : DS → M D} {pos pos' : Pos} {sts : List Stmt} {gs : DS → M Out}
variable {K : PySem.W.Frag} {Hr : Hp} {R0 : List Addr} {P0 : Addr → Prop} {H0 H H' : Hp} {O : List Addr} {σ : St} {δ : DS}
/-- the slots behind a change of the heap that leaves what they lean on -/
theorem SlOk.to {O' : List Addr} {o : Option (Option V)} {s : Sl} (t : To O O' H H') (hd : ∀ l kvs, l ∈ O → H l = some (.dK kvs) → l ∈ O' ∧ H' l = some (.dK kvs)) (hs : ∀ l xs, l ∈ O → H l = some (.lst xs) → o = some (some (.ref l)) → (∃ ds, s = .ow ds) → l ∈ O' ∧ H' l = some (.lst xs)) (h : SlOk K O H o s) : SlOk K O' H' o s := by
  cases s with
  | un => trivial
  | ex a => exact h
  | vl d =>
    obtain ⟨v, h1, r⟩ := h
    exact ⟨v, h1, r.to t⟩
  | ow ds =>
    obtain ⟨l, xs, h1, h2, h3, r⟩ := h
    obtain ⟨q1, q2⟩ := hs l xs h2 h3 h1 ⟨ds, rfl⟩
    exact ⟨l, xs, h1, q1, q2, r.to t⟩
  | od es =>
    obtain ⟨l, kvs, h1, h2, h3, hk, r⟩ := h
    obtain ⟨q1, q2⟩ := hd l kvs h2 h3
    exact ⟨l, kvs, h1, q1, q2, hk, r.to t⟩
theorem hd_new {l : Addr} {o : HO} (hl : H l = none) : ∀ a kvs, a ∈ O → H a = some (.dK kvs) → a ∈ l :: O ∧ upd H l o a = some (.dK kvs) := fun a kvs h1 h2 => ⟨List.mem_cons_of_mem _ h1, by rw [upd_ne (ne_of_none h2 hl)]; exact h2⟩
theorem hd_set {l : Addr} {xs : List V} {o : HO} (hl : H l = some (.lst xs)) : ∀ a kvs, a ∈ O → H a = some (.dK kvs) → a ∈ O ∧ upd H l o a = some (.dK kvs) := fun a kvs h1 h2 => ⟨h1, by rw [upd_ne (ne_of h2 hl (by intro z; cases z))]; exact h2⟩
theorem EI.new {i : Nat} {l : Addr} (E : EI K Hr R0 P0 H0 O H σ δ) (hl : H l = none) : EI K Hr R0 P0 H0 (l :: O) (upd H l (.lst [])) (σ.set i (some (.ref l))) (δ.set i (.ow [])) := by
  have nO : l ∉ O := nin E.ev.oo hl
  have tO : To O (l :: O) H (upd H l (.lst [])) := To.own hl
  refine ⟨⟨fun b o h => by have q := E.ev.root b o h; rw [upd_ne (ne_of_none q hl)]; exact q, fun a ha => ?_, by rw [List.length_set, List.length_set]; exact E.ev.len, fun j s h => ?_, fun j k a ds es hjk h1 h2 h3 h4 => ?_⟩, fun a ha => ?_, fun b o n h => ?_, fun a ha => ?_, fun j ds a h1 ho h2 => ?_, fun a ha => List.mem_cons_of_mem _ (E.sub a ha)⟩
  · rcases List.mem_cons.mp ha with rfl | ha
    · exact .lst upd_same
    · exact (E.ev.oo a ha).new hl
  · rw [get_set] at h ⊢
    by_cases hij : i = j
    · rw [if_pos hij] at h ⊢
      by_cases hz : i < δ.length
      · rw [if_pos hz] at h
        rw [if_pos (by rw [E.ev.len]; exact hz)]
        cases h
        exact ⟨l, [], rfl, List.mem_cons_self, upd_same, .nil⟩
      · rw [if_neg hz] at h; cases h
    · rw [if_neg hij] at h ⊢
      exact (E.ev.at_ j s h).to tO (hd_new hl) fun a xs h1 h2 _ _ => ⟨List.mem_cons_of_mem _ h1, by rw [upd_ne (ne_of_none h2 hl)]; exact h2⟩
  · rw [get_set] at h1 h2 h3 h4
    by_cases hij : i = j
    · rw [if_pos hij] at h1 h3
      have ha : a = l := by
        split at h3
        · cases h3; rfl
        · cases h3
      have hik : ¬ i = k := fun z => hjk (hij.symm.trans z)
      rw [if_neg hik] at h2 h4
      obtain ⟨l', xs, q1, q2, q3, _⟩ := E.ev.at_ k _ h2
      rw [h4] at q1
      cases q1
      rw [ha] at q2
      exact nO q2
    · rw [if_neg hij] at h1 h3
      by_cases hik : i = k
      · rw [if_pos hik] at h4
        have ha : a = l := by
          split at h4
          · cases h4; rfl
          · cases h4
        obtain ⟨l', xs, q1, q2, q3, _⟩ := E.ev.at_ j _ h1
        rw [h3] at q1
        cases q1
        rw [ha] at q2
        exact nO q2
      · rw [if_neg hik] at h2 h4
        exact E.ev.dis j k a ds es hjk h1 h2 h3 h4
  · rcases List.mem_cons.mp ha with rfl | ha
    · refine .inr ?_
      cases q : Hr a with
      | none => rfl
      | some o =>
        rw [E.ev.root a o q] at hl
        cases hl
    · exact E.omr a ha
  · have q := E.keep b o n h
    rw [upd_ne (ne_of_none q hl)]
    exact q
  · rcases List.mem_cons.mp ha with rfl | ha
    · by_cases hp : P0 a
      · exact .inr (.inl hp)
      · refine .inr (.inr ?_)
        cases q : H0 a with
        | none => rfl
        | some o =>
          rw [E.keep a o hp q] at hl
          cases hl
    · exact E.om a ha
  · rw [get_set] at h1 h2
    by_cases hij : i = j
    · rw [if_pos hij] at h2
      have ha : a = l := by
        split at h2
        · cases h2; rfl
        · cases h2
      rw [ha]
      exact fun z => nO (E.sub l z)
    · rw [if_neg hij] at h1 h2
      exact E.nr1 j ds a h1 ho h2
def gNew (i : Nat) : DS → M Out := fun δ => M.ret (.nx (δ.set i (.ow [])))
theorem EI.app {i : Nat} {l : Addr} {xs : List V} {ds : List D} {v : V} {d : D} (E : EI K Hr R0 P0 H0 O H σ δ) (hd : δ[i]? = some (.ow ds)) (hσ : σ[i]? = some (some (.ref l))) (hl : H l = some (.lst xs)) (rx : Reps K O H xs ds) (r : Rep K O H v d) :
    EI K Hr R0 P0 H0 O (upd H l (.lst (xs ++ [v]))) σ (δ.set i (.ow (ds ++ [d]))) := by
  obtain ⟨l', xs', q1, lO, q3, _⟩ := E.ev.at_ i _ hd
  rw [hσ] at q1
  cases q1
  have tO : To O O H (upd H l (.lst (xs ++ [v]))) := To.set hl lO
  refine ⟨⟨fun b o h => ?_, fun a ha => ?_, by rw [List.length_set]; exact E.ev.len, fun j s h => ?_, fun j k a es es' hjk h1 h2 h3 => ?_⟩, E.omr, fun b o n h => ?_, E.om, fun j es a h1 ho h2 => ?_, E.sub⟩
  · have q := E.ev.root b o h
    have hne : b ≠ l := fun z => by
      subst z
      rcases E.omr b lO with w | w
      · exact E.nr i ds b hd hσ w
      · rw [h] at w; cases w
    rw [upd_ne hne]
    exact q
  · by_cases hb : a = l
    · rw [hb]; exact .lst upd_same
    · exact (E.ev.oo a ha).upd_ne hb
  · rw [get_set] at h
    by_cases hij : i = j
    · rw [if_pos hij] at h
      split at h
      · cases h
        rw [← hij, hσ]
        exact ⟨l, _, rfl, lO, upd_same, (rx.to tO).append (.cons (r.to tO) .nil)⟩
      · cases h
    · rw [if_neg hij] at h
      refine (E.ev.at_ j s h).to tO (hd_set hl) fun a ys h1 h2 h3 h4 => ⟨h1, ?_⟩
      obtain ⟨es, rfl⟩ := h4
      have hne : a ≠ l := fun z => by
        subst z
        exact E.ev.dis i j a ds es hij hd h hσ h3
      rw [upd_ne hne]
      exact h2
  · have old : ∀ (j : Nat) (es : List D), (δ.set i (.ow (ds ++ [d])))[j]? = some (.ow es) → ∃ es', δ[j]? = some (.ow es') := fun j es h => by
      rw [get_set] at h
      by_cases hij : i = j
      · rw [← hij]; exact ⟨ds, hd⟩
      · rw [if_neg hij] at h; exact ⟨es, h⟩
    obtain ⟨e1, h1⟩ := old j es h1
    obtain ⟨e2, h2⟩ := old k es' h2
    exact E.ev.dis j k a e1 e2 hjk h1 h2 h3
  · have q := E.keep b o n h
    have hne : b ≠ l := fun z => by
      subst z
      rcases E.om b lO with w | w | w
      · exact E.nr i ds b hd hσ w
      · exact n w
      · rw [h] at w; cases w
    rw [upd_ne hne]
    exact q
  · rw [get_set] at h1
    by_cases hij : i = j
    · exact E.nr i ds a hd (by rw [hij]; exact h2)
    · rw [if_neg hij] at h1
      exact E.nr1 j es a h1 ho h2
def gApp (i : Nat) (f : DS → M D) : DS → M Out := fun δ => match δ[i]? with
  | some (.ow ds) => (f δ).thn fun d => if small (ds.length + 1) then M.ret (.nx (δ.set i (.ow (ds ++ [d])))) else none
  | _ => none
theorem small_lt {n : Nat} (h : small (n + 1) = true) : n < sizeLine := by
  have := small_le h
  omega
theorem pd_app {i : Nat} {x : Str} {xp apos cpos : Pos} (hv : PE X (.Name x xp) (tVar i)) (he : PD X G e f)
    (hst : starEach [e] X.env = (false, eval e X.env) :: starEach [] X.env := by rfl)
    (hbase : attributeBase (.Name x xp) "append" X.env (eval (.Name x xp) X.env) = eval (.Name x xp) X.env := by rfl)
    (hfew : ((backTo cpos (starEach [e] X.env)).all (fun x => !x.1) && (backToKw cpos (keywordEach [] X.env)).all (fun x => x.1.isSome)
      && decide ([e].length + ([] : List Keyword).length + (if ([] : List Keyword).isEmpty then 0 else 1) < 30)) = true := by rfl)
    (hline : (apos.endLine == cpos.line) = true := by rfl) (hplain : (backTo cpos (starEach [] X.env)).any (·.1) = false := by rfl)
    (hs : swapsWith (.Call (.Attribute (.Name x xp) "append" apos) [e] [] cpos) none pos.line X.env = pure false := by rfl) :
    PDS X G (.Expr (.Call (.Attribute (.Name x xp) "append" apos) [e] [] cpos) pos) (gApp i f) := by
  obtain ⟨t, p, he⟩ := he
  refine ⟨_, ps_expr (pe_bm PySem.F.plainAttrs_list PySem.F.slot_list_append PySem.F.type_list_append mt_append hv (pa_cons p pa_nil hst) hbase hfew hline hst hplain) hs, fun R0 P0 H0 δ O σ H Dn E k => ?_⟩
  unfold gApp at k
  split at k
  · rename_i ds hd
    obtain ⟨l, xs, q1, q2, q3, q4⟩ := E.ev.at_ i _ hd
    refine ⟨.ref l, q1, .inl ⟨rfl, xs, .inl (.inl q3)⟩, ?_⟩
    refine he δ O σ H _ E.ev (ok_mono (ok_thn k) fun d z v H1 s1 r => ?_)
    by_cases hz : small (ds.length + 1) = true
    · rw [if_pos hz] at z
      refine ⟨l, xs, v, rfl, rfl, s1 _ _ q3, by rw [q4.length]; exact small_lt hz, ?_⟩
      exact z O σ _ ((E.same s1).app hd q1 (s1 _ _ q3) (q4.same s1) r)
    · rw [if_neg hz] at z
      exact z.elim
  · exact k.elim
def gRetO (i : Nat) : DS → M Out := fun δ => match δ[i]? with
  | some (.ow ds) => M.ret (.rt (.list ds))
  | _ => none
theorem pd_retO {i : Nat} (he : PE X e (tVar i)) : PDS X G (.Return (some e) pos) (gRetO i) := by
  refine ⟨_, ps_ret he, fun R0 P0 H0 δ O σ H Dn E k => ?_⟩
  unfold gRetO at k
  split at k
  · rename_i ds hd
    obtain ⟨l, xs, q1, q2, q3, q4⟩ := E.ev.at_ i _ hd
    exact ⟨.ref l, q1, k _ H E.keep (.lst (.inl q3) (E.nr i ds l hd q1) (q4.to (.less E.sub)))⟩
  · exact k.elim
/-- from now on a value -/
def frz (i : Nat) (δ : DS) : DS := match δ[i]? with
  | some (.ow ds) => δ.set i (.vl (.list ds))
  | _ => δ
theorem EI.frz {i : Nat} (E : EI K Hr R0 P0 H0 O H σ δ) : ∃ O', EI K Hr R0 P0 H0 O' H σ (DL.frz i δ) := by
  unfold DL.frz
  split
  · rename_i ds hd
    obtain ⟨l, xs, q1, q2, q3, q4⟩ := E.ev.at_ i _ hd
    have nr := E.nr i ds l hd q1
    refine ⟨O.filter (fun a => decide (a ≠ l)), ⟨E.ev.root, fun a ha => E.ev.oo a (List.mem_filter.mp ha).1, by rw [List.length_set]; exact E.ev.len, fun j s h => ?_, fun j k a es es' hjk h1 h2 h3 => ?_⟩, fun a ha => E.omr a (List.mem_filter.mp ha).1, E.keep, fun a ha => E.om a (List.mem_filter.mp ha).1, fun j es a h1 ho h2 => ?_, fun a ha => ?_⟩
    · have tl : To O (O.filter (fun a => decide (a ≠ l))) H H := To.less fun b hb => (List.mem_filter.mp hb).1
      rw [get_set] at h
      by_cases hij : i = j
      · rw [if_pos hij] at h
        split at h
        · cases h
          rw [← hij, q1]
          exact ⟨.ref l, rfl, .lst (.inl q3) (fun z => absurd rfl (of_decide_eq_true (List.mem_filter.mp z).2)) (q4.to tl)⟩
        · cases h
      · rw [if_neg hij] at h
        refine (E.ev.at_ j s h).to tl (fun a kvs h1 h2 => ⟨List.mem_filter.mpr ⟨h1, decide_eq_true (ne_of h2 q3 (by intro z; cases z))⟩, h2⟩) fun a ys h1 h2 h3 h4 => ⟨List.mem_filter.mpr ⟨h1, decide_eq_true fun z => ?_⟩, h2⟩
        obtain ⟨es, rfl⟩ := h4
        subst z
        exact E.ev.dis i j a ds es hij hd h q1 h3
    · have old : ∀ (j : Nat) (es : List D), (δ.set i (.vl (.list ds)))[j]? = some (.ow es) → δ[j]? = some (.ow es) := fun j es h => by
        rw [get_set] at h
        by_cases hij : i = j
        · rw [if_pos hij] at h
          split at h <;> cases h
        · rw [if_neg hij] at h; exact h
      exact E.ev.dis j k a es es' hjk (old j es h1) (old k es' h2) h3
    · rw [get_set] at h1
      by_cases hij : i = j
      · rw [if_pos hij] at h1
        split at h1
        · cases h1; exact ho.elim
        · cases h1
      · rw [if_neg hij] at h1
        exact E.nr1 j es a h1 ho h2
    · exact List.mem_filter.mpr ⟨E.sub a ha, decide_eq_true fun z => nr (z ▸ ha)⟩
  · exact ⟨O, E⟩
def gFrz (i : Nat) (g : DS → M Out) : DS → M Out := fun δ => g (frz i δ)
end
/-! ### t < u of tuples of ints -/
def intsOf : List D → Option (List Int)
  | [] => some []
  | .int i :: r => (intsOf r).map (i :: ·)
  | _ => none
theorem intsOf_get : ∀ {ds : List D} {ns : List Int}, intsOf ds = some ns → ds = ns.map PyData.int
  | [], ns, h => by cases h; rfl
  | .int i :: r, ns, h => by
    have h : (intsOf r).map (i :: ·) = some ns := h
    cases e : intsOf r with
    | none => rw [e] at h; cases h
    | some cs => rw [e] at h; cases h; rw [intsOf_get e]; rfl
theorem reps_ints {K : PySem.W.Frag} {O : List Addr} {H : Hp} : ∀ {ns : List Int} {vs : List V}, Reps K O H vs (ns.map PyData.int) → vs = ns.map V.int
  | [], _, .nil => rfl
  | b :: bs, _, .cons r rs => by rw [r.int_inv, reps_ints rs]; rfl
/-- x < y: ints, tuples of ints -/
def oLtD : D → D → Option D
  | .int i, .int j => some (.bool (decide (i < j)))
  | .tuple xs, .tuple ys => (intsOf xs).bind fun ns => (intsOf ys).map fun ms => .bool (HT.lexLt ns ms)
  | _, _ => none
theorem o_ltD {i j : Int} : oLtD (.int i) (.int j) = some (.bool (decide (i < j))) := rfl
/-! ### the premises of a comprehension that names locals -/
theorem hhas_of {names : List (Str × NameKind)} {cl : List (Str × Addr)} (h : names.all (fun y => !(y.2 == .cell || y.2 == .free) || (cl.lookup y.1).isSome) = true) : ∀ y ∈ names, (y.2 = .cell ∨ y.2 = .free) → ∃ c, cl.lookup y.1 = some c := fun y hy hk => by
  have q := List.all_eq_true.mp h y hy
  have k : (y.2 == NameKind.cell || y.2 == NameKind.free) = true := by
    rcases hk with e | e <;> rw [e] <;> rfl
  rw [k] at q
  exact Option.isSome_iff_exists.mp (by simpa using q)
section
variable {X : Cx} {scope : Scope} {cl : List (Str × Addr)}
theorem fr_nil : ∀ p ∈ ([] : List (Nat × Str)), X.N[p.1]? = some p.2 ∧ X.env.kindOf p.2 = some .cell ∧ (compEnvC scope cl 0 X.env).kindOf p.2 = some .cell ∧ ∃ c, cl.lookup p.2 = some c := fun p hp => nomatch hp
end
/-! ### evaluation: built lists, loops by what they have taken -/
section
variable {δ δ' : DS} {f : DS → M D} {d : D} {ds : List D} {r : M Out} {g : DS → M Out}
theorem ev_app {i : Nat} (h : δ[i]? = some (.ow ds)) (h1 : f δ = M.ret d) (hz : small (ds.length + 1) = true) : gApp i f δ = M.ret (.nx (δ.set i (.ow (ds ++ [d])))) := by
  unfold gApp; rw [h, h1]; show (if small (ds.length + 1) = true then _ else _) = _; rw [if_pos hz]
theorem forD_pre {body : D → DS → M Out} (S : List D → DS → Prop) : ∀ (ds pre : List D) (δ : DS), S pre δ → (∀ p d q δ, pre ++ ds = p ++ d :: q → S p δ → ∃ δ', body d δ = M.ret (.nx δ') ∧ S (p ++ [d]) δ') → ∃ δ', forD body ds δ = M.ret (.nx δ') ∧ S (pre ++ ds) δ'
  | [], pre, δ, h, _ => ⟨δ, rfl, by rw [List.append_nil]; exact h⟩
  | d :: ds, pre, δ, h, hs => by
    obtain ⟨δ1, h1, p1⟩ := hs pre d ds δ rfl h
    obtain ⟨δ2, h2, p2⟩ := forD_pre S ds (pre ++ [d]) δ1 p1 fun p e q δ he => hs p e q δ (by rw [← he]; simp)
    refine ⟨δ2, ?_, by simpa using p2⟩
    show (body d δ).thn _ = _
    rw [h1]
    exact h2
theorem ix_nat {ds : List D} {i : Int} {d : D} (h0 : 0 ≤ i) (h : ds[i.toNat]? = some d) : oIx (.list ds) (.int i) = some d := by
  have e := L2.atI_nat h
  rw [Int.toNat_of_nonneg h0] at e
  exact e
theorem small_of {n : Nat} (h : n ≤ 16000000) : small n = true := decide_eq_true h
/-- flat data of little depth -/
theorem flat_all : ∀ {ds : List D}, (∀ d ∈ ds, d.canLay0 = true ∧ d.depth ≤ 5) → PyData.canLayAll0 ds = true ∧ PyData.depthAll ds ≤ 5
  | [], _ => ⟨rfl, Nat.zero_le _⟩
  | d :: ds, h => by
    obtain ⟨h1, h2⟩ := h d List.mem_cons_self
    obtain ⟨h3, h4⟩ := flat_all fun e he => h e (List.mem_cons_of_mem _ he)
    refine ⟨?_, ?_⟩
    · show (d.canLay0 && PyData.canLayAll0 ds) = true
      rw [h1, h3]
      rfl
    · show max d.depth (PyData.depthAll ds) ≤ 5
      omega
end
end DL
/-! EXCEPTIONS: an own class without __init__, raised in a def, passed on by its callers -/
namespace L2
open PySem PySem.Spec PyProof.Rows
/-- how an exception lies behind a call: B, all that stood when it was raised, but the frames -/
structure Fly (P : Program) (w : World) (outer : List Env) (H : Hp) (s : Shared) (E : XK) (ea C t : Addr) (H' : Hp) (B : Heap) (s' : Shared) : Prop where
  fl : Heap.FlyingW B outer ea (.ref C) (.ref t) s'.heap
  os : s'.os = s.os
  bare : AllBare s'.gens
  un : Un (frs outer) [] H H' s.heap s'.heap
  hok : HOk P w H' s'.heap
  old : ∀ b o, s.heap.get? b = some o → b ∉ frs outer → ∃ ob, B.get? b = some ob
  trk : ∀ b o, H' b = some o → ∃ ob, B.get? b = some ob
  wish : E (.ref C) none H'
def CXE (P : Program) (w : World) : CXT := fun outer H s E e s' => ∃ (ea C t : Addr) (H' : Hp) (B : Heap), e = .ref ea ∧ Fly P w outer H s E ea C t H' B s'
section
variable {P : Program} {w : World} {K : PySem.W.Frag} {mg : Str → Option Value} {base : Heap} {N : List Str} {qual : Str} {scope : Scope} {f : Addr} {cdv : Value} {A : Around} {outer : List Env} {s0 : Shared} {H0 : Hp} {E : XK}
/-- a raise in a def's body -/
def Raises (X : Cx) (C : Addr) (Eh : Hp → Prop) : Prop := ∀ (pins : List (Addr × Obj)) (σ : St) (H : Hp) (s : Shared) (h' : Heap) (e : Addr) (vs : List Value), Inv X pins σ H s → Heap.MadeExcOf s.heap h' e (.ref C) vs → Eh H → X.xe (.ref e) { s with heap := h' }
/-- a promise that names no exception is one that might -/
theorem FnOk.cx0 {k : Nat} {fd : FuncData} {ps : List Str} {sp : Sp} (F : FnOk P w K mg base CX0 k f fd ps sp) : FnOk P w K mg base (CXE P w) k f fd ps sp :=
  ⟨F.len, fun A outer s H args us vs Q E hr he hb hv hs => codeAny_mono (F.run A outer s H args us vs Q E hr he hb hv hs) fun r s' q => by
    cases r with
    | error e => exact (show False from q).elim
    | ok fl =>
      cases fl with
      | ret u => exact q
      | next => exact (show False from q).elim
      | brk => exact (show False from q).elim
      | cont => exact (show False from q).elim⟩
end
section
variable {X : Cx}
end
end L2
/-! DEFS that raise, over data -/
namespace DL
open PySem PySem.Spec PyProof.Rows L2
/-- the wish about an exception of that name -/
def GX (mg : Str → Option Value) (E : XK) (x : XD) (H : Hp) : Prop := ∀ C, mg x.cls = some (.ref C) → E (.ref C) none H
/-- a def does what F says, exceptions too -/
def spX (K : PySem.W.Frag) (mg : Str → Option Value) (n : Nat) (F : List D → M D) : Sp := fun vs H Q E => ∃ O ds, vs.length = n ∧ (∀ l ∈ O, Mu H l) ∧ Reps K O H vs ds ∧ ok (GS (GX mg E) H) (F ds) (fun d => ∀ v H', Same H H' → Rep K O H' v d → Q v H')
structure DefX (P : Program) (w : World) (K : PySem.W.Frag) (mg : Str → Option Value) (base : Heap) (k : Nat) (x : Str) (n : Nat) (F : List D → M D) : Prop where
  ex : ∃ (f : Addr) (fd : FuncData) (ps : List Str), FnOk P w K mg base (CXE P w) k f fd ps (spX K mg n F) ∧ mg x = some (.ref f) ∧ PySem.W.keepIn K (.ref f) = true ∧ Binds K fd ps []
section
variable {X : Cx} {G : XD → Hp → Prop} {e : Expr} {es : List Expr} {fa : DS → M (List D)} {pos : Pos}
/-- raise C(..) -/
def gRaise (x : Str) (fa : DS → M (List D)) : DS → M Out := fun δ => (fa δ).thn fun ds => if small ds.length then some (.error ⟨x, []⟩) else none
end
section
variable {P : Program} {w : World} {K : PySem.W.Frag} {mg : Str → Option Value} {base : Heap}
/-- a def that raises nothing -/
theorem Def.x {k n : Nat} {x : Str} {F : List D → M D} (h : Def P w K mg base k x n F) : DefX P w K mg base k x n (fun ds => noX (F ds)) := by
  obtain ⟨f, fd, ps, F1, hm, hk, hb⟩ := h.ex
  exact ⟨f, fd, ps, F1.cx0.imp fun vs H Q E ⟨O, ds, hl, oo, r, q⟩ => ⟨O, ds, hl, oo, r, ok_noX q⟩, hm, hk, hb⟩
end
end DL
/-! TRY with one clause «except C as n», C the very class that is raised -/
namespace L2
open PySem PySem.Spec PyProof.Rows
section
variable {X : Cx}
/-- the def's own names, changed -/
theorem Inv.names {pins : List (Addr × Obj)} {σ σ' : St} {H : Hp} {s : Shared} {h' : Heap} (I : Inv X pins σ H s) (hs : Heap.SameBut X.env.locals s.heap h') (hl : σ'.length = σ.length)
    (hn : ∃ m, h'.Ns X.env.locals m ∧ ∀ (i : Nat) (x : Str) (v : V), X.N[i]? = some x → σ'[i]? = some (some v) → Vis X.env.scope x → ∃ u, RelV v u ∧ Look X.env h' m x u) : Inv X pins σ' H { s with heap := h' } := by
  have old : ∀ {b : Addr} {o : Obj}, X.s₀.heap.get? b = some o → b ≠ X.env.locals := fun e => Nat.ne_of_lt (Nat.lt_of_lt_of_le (Heap.lt_size e) I.ok.above)
  refine ⟨I.ok, I.os, I.bare, ⟨fun b o e n hb hx => (hs.2 b (old e)).trans (I.base.keep b o e n hb hx), fun b o e n hb hx => ?_, I.base.free, fun b o e hx => ?_, I.base.tups, I.base.frzs, I.base.tbls⟩, hn, fun y c e => ?_, I.free, I.freeC, fun p hp => ?_, fun a o e => ?_, hl.trans I.len⟩
  · obtain ⟨sl, q⟩ := I.base.slot b o e n hb hx
    exact ⟨sl, (hs.2 b (old e)).trans q⟩
  · obtain ⟨o', q⟩ := I.base.there b o e hx
    exact ⟨o', (hs.2 b (old e)).trans q⟩
  · obtain ⟨v, z⟩ := I.cell y c e
    exact ⟨v, z.sameBut hs (I.cne y c e)⟩
  · obtain ⟨e, n, ne, nf, d⟩ := I.pin p hp
    exact ⟨(hs.2 p.1 ne).trans e, n, ne, nf, d⟩
  · refine (I.hok a o e).stay (fun b u hb q => (hs.2 b ?_).trans q) (fun _ q => q) fun _ _ q => q
    rcases hb with rfl | hb
    · exact ne_of_none e I.free
    · exact ne_of_none hb I.free
/-- the body's context: the state's pins are borne by every state in it -/
abbrev Cx.tri (X : Cx) (pn : List (Addr × Obj)) (xe : Value → Shared → Prop) : Cx := { X with pn := pn, xe := xe }
theorem Inv.tri {pins : List (Addr × Obj)} {σ : St} {H : Hp} {s : Shared} (I : Inv X pins σ H s) (xe : Value → Shared → Prop) : Inv (X.tri (X.pn ++ pins) xe) [] σ H s :=
  ⟨⟨I.ok.mod, I.ok.kind, I.ok.glob, I.ok.blt, I.ok.above, I.ok.inj, I.ok.has, I.ok.cab, I.ok.hd, I.ok.frames, I.ok.stk, I.ok.exf, I.ok.bs, I.ok.bsz, I.ok.noex, I.ok.exfs, I.ok.funs, I.ok.frf⟩,
    I.os, I.bare, I.base, I.loc, I.cell, I.free, I.freeC, fun p hp => I.pin p (by simpa using hp), I.hok, I.len⟩
theorem Inv.untri {pins pins' : List (Addr × Obj)} {σ : St} {H : Hp} {s : Shared} {xe : Value → Shared → Prop} (I : Inv (X.tri (X.pn ++ pins) xe) pins' σ H s) : Inv X pins σ H s :=
  ⟨⟨I.ok.mod, I.ok.kind, I.ok.glob, I.ok.blt, I.ok.above, I.ok.inj, I.ok.has, I.ok.cab, I.ok.hd, I.ok.frames, I.ok.stk, I.ok.exf, I.ok.bs, I.ok.bsz, I.ok.noex, I.ok.exfs, I.ok.funs, I.ok.frf⟩,
    I.os, I.bare, I.base, I.loc, I.cell, I.free, I.freeC, fun p hp => I.pin p (List.mem_append_left _ hp), I.hok, I.len⟩
/-- the suite's context: the exception is held -/
abbrev Cx.held (X : Cx) (pn : List (Addr × Obj)) (e : Addr) : Cx := { X with A := X.A.mark (some (.ref e)), calm := false, pn := pn, xe := fun _ _ => False }
theorem Inv.held {pins : List (Addr × Obj)} {σ : St} {H : Hp} {s : Shared} {e : Addr} {oe : Obj} (I : Inv X pins σ H s) (he : s.heap.get? e = some oe ∧ H e = none ∧ e ≠ X.env.locals ∧ e ∉ X.fs ∧ ∀ v, oe.data ≠ .cell v) : Inv (X.held (X.pn ++ pins ++ [(e, oe)]) e) [] σ H s :=
  ⟨⟨I.ok.mod, I.ok.kind, I.ok.glob, I.ok.blt, I.ok.above, I.ok.inj, I.ok.has, I.ok.cab, (fun z => nomatch z), I.ok.frames, I.ok.stk, I.ok.exf, I.ok.bs, I.ok.bsz, I.ok.noex, I.ok.exfs, I.ok.funs, I.ok.frf⟩,
    I.os, I.bare, I.base, I.loc, I.cell, I.free, I.freeC, fun p hp => by
      have hp : p ∈ (X.pn ++ pins ++ [(e, oe)]) ++ [] := hp
      rw [List.append_nil] at hp
      rcases List.mem_append.mp hp with hp | hp
      · exact I.pin p hp
      · rw [List.mem_singleton.mp hp]; exact he, I.hok, I.len⟩
theorem Inv.unheld {pins pins' : List (Addr × Obj)} {σ : St} {H : Hp} {s : Shared} {e : Addr} {oe : Obj} (hd : X.calm = true → X.A.handled = none) (I : Inv (X.held (X.pn ++ pins ++ [(e, oe)]) e) pins' σ H s) : Inv X pins σ H s :=
  ⟨⟨I.ok.mod, I.ok.kind, I.ok.glob, I.ok.blt, I.ok.above, I.ok.inj, I.ok.has, I.ok.cab, hd, I.ok.frames, I.ok.stk, I.ok.exf, I.ok.bs, I.ok.bsz, I.ok.noex, I.ok.exfs, I.ok.funs, I.ok.frf⟩,
    I.os, I.bare, I.base, I.loc, I.cell, I.free, I.freeC, fun p hp => I.pin p (List.mem_append_left _ (List.mem_append_left _ hp)), I.hok, I.len⟩
end
end L2
/-! TRY: the rule -/
namespace L2
open PySem PySem.Spec PyProof.Rows
section
variable {X : Cx}
/-- the widest reading of statements -/
def tCan (X : Cx) (sts : List Stmt) : TS := fun D σ H => ∃ t, PSs X sts t ∧ t D σ H
/-- behind the suite its name is gone -/
def Ends.gone (D : Ends) (i : Nat) : Ends := ⟨fun σ H => D.nx (σ.set i none) H, D.rt, fun σ H => D.bk (σ.set i none) H, fun σ H => D.ct (σ.set i none) H⟩
/-- try: .. except C as n: .. ; the suite knows no name but n -/
def tTry (X : Cx) (C : Addr) (i : Nat) (body suite : List Stmt) : TS := fun D σ H => ∃ Ex : XK,
  (∀ pn xe, Passes (CXE X.prog X.w) (X.tri pn xe) Ex → tCan (X.tri pn xe) body D σ H) ∧
  ∀ c d H', Ex c d H' → c = .ref C ∧ ∀ pn ea oe, (ea, oe) ∈ pn → oe.cls = .ref C → tCan (X.held pn ea) suite (D.gone i) ((List.replicate X.N.length none).set i (some (.ref ea))) H'
end
end L2
/-! TRY over data -/
namespace DL
open PySem PySem.Spec PyProof.Rows L2
section
variable {K : PySem.W.Frag} {Hr : Hp} {R0 : List Addr} {P0 : Addr → Prop} {H0 H H' : Hp} {O O' : List Addr} {σ : St} {δ : DS}
/-- the lists that are being built, forgotten -/
def Sl.noOw : Sl → Sl
  | .ow _ => .un
  | .od _ => .un
  | s => s
def noOw (δ : DS) : DS := δ.map Sl.noOw
def Out.gone (i : Nat) : Out → Out
  | .nx δ => .nx (δ.set i .un)
  | .rt d => .rt d
  | .bk δ => .bk (δ.set i .un)
  | .ct δ => .ct (δ.set i .un)
/-- from here on all that stands stays -/
theorem EI.fresh (E : EI K Hr R0 P0 H0 O H σ δ) : EI K H O (fun _ => False) H O H σ (noOw δ) := by
  have no : ∀ {i : Nat} {s : Sl}, (noOw δ)[i]? = some s → s.own → False := fun {i s} h ho => by
    unfold noOw at h
    rw [List.getElem?_map] at h
    cases e : δ[i]? with
    | none => rw [e] at h; cases h
    | some s => rw [e] at h; cases s <;> (cases h; exact ho)
  refine ⟨⟨fun _ _ h => h, E.ev.oo, by unfold noOw; rw [List.length_map]; exact E.ev.len, fun i s h => ?_, fun i j l ds es _ h1 => (no h1 trivial).elim⟩, fun l hl => .inl hl, fun b o _ h => h, fun l hl => .inl hl, fun i ds l h1 ho => (no h1 ho).elim, fun l hl => hl⟩
  unfold noOw at h
  rw [List.getElem?_map] at h
  cases e : δ[i]? with
  | none => rw [e] at h; cases h
  | some s' =>
    rw [e] at h
    have q := E.ev.at_ i s' e
    cases s' <;> cases h
    · trivial
    · exact q
    · trivial
    · trivial
    · exact q
theorem EI.back {σ' : St} {δ' : DS} (E : EI K Hr R0 P0 H0 O H σ δ) (F : EI K H O (fun _ => False) H O' H' σ' δ') : EI K Hr R0 P0 H0 O' H' σ' δ' := by
  refine ⟨⟨E.ev.root.trans F.ev.root, F.ev.oo, F.ev.len, F.ev.at_, F.ev.dis⟩, fun l hl => ?_, fun b o n h => F.keep b o (fun z => z) (E.keep b o n h), fun l hl => ?_, fun i ds l h1 ho h2 h3 => F.nr1 i ds l h1 ho h2 (E.sub l h3), fun l hl => F.sub l (E.sub l hl)⟩
  · rcases F.omr l hl with z | z
    · exact E.omr l z
    · refine .inr ?_
      cases e : Hr l with
      | none => rfl
      | some o => rw [E.ev.root l o e] at z; cases z
  · rcases F.omr l hl with z | z
    · exact E.om l z
    · by_cases hp : P0 l
      · exact .inr (.inl hp)
      · refine .inr (.inr ?_)
        cases e : H0 l with
        | none => rfl
        | some o => rw [E.keep l o hp e] at z; cases z
theorem Fin.fresh {Dn : Ends} {o : Out} (E : EI K Hr R0 P0 H0 O H σ δ) (h : Fin K Hr R0 P0 H0 Dn o) : Fin K H O (fun _ => False) H Dn o := by
  cases o with
  | nx δ' => exact fun O' σ' H' F => h O' σ' H' (E.back F)
  | rt d => exact fun v H' kp r => h v H' (fun b o n q => kp b o (fun z => z) (E.keep b o n q)) (r.to (.less E.sub))
  | bk δ' => exact fun O' σ' H' F => h O' σ' H' (E.back F)
  | ct δ' => exact fun O' σ' H' F => h O' σ' H' (E.back F)
theorem EI.unset {i : Nat} (E : EI K Hr R0 P0 H0 O H σ δ) : EI K Hr R0 P0 H0 O H (σ.set i none) (δ.set i .un) := by
  have ne : ∀ {j : Nat} {ds : List D}, (δ.set i .un)[j]? = some (.ow ds) → i ≠ j ∧ δ[j]? = some (.ow ds) := fun {j ds} h => by
    rw [get_set] at h
    by_cases hij : i = j
    · rw [if_pos hij] at h
      split at h <;> cases h
    · rw [if_neg hij] at h
      exact ⟨hij, h⟩
  refine ⟨⟨E.ev.root, E.ev.oo, by rw [List.length_set, List.length_set]; exact E.ev.len, fun j s h => ?_, fun j k l ds es hjk h1 h2 h3 h4 => ?_⟩, E.omr, E.keep, E.om, fun j ds l h1 ho h2 => ?_, E.sub⟩
  · rw [get_set] at h ⊢
    by_cases hij : i = j
    · rw [if_pos hij] at h
      split at h
      · cases h; trivial
      · cases h
    · rw [if_neg hij] at h ⊢
      exact E.ev.at_ j s h
  · obtain ⟨n1, h1⟩ := ne h1
    obtain ⟨n2, h2⟩ := ne h2
    rw [get_set, if_neg n1] at h3
    rw [get_set, if_neg n2] at h4
    exact E.ev.dis j k l ds es hjk h1 h2 h3 h4
  · rw [get_set] at h1 h2
    by_cases hij : i = j
    · rw [if_pos hij] at h1
      split at h1
      · cases h1; exact ho.elim
      · cases h1
    · rw [if_neg hij] at h1 h2
      exact E.nr1 j ds l h1 ho h2
theorem Fin.gone {Dn : Ends} {i : Nat} {o : Out} (h : Fin K Hr R0 P0 H0 Dn (o.gone i)) : Fin K Hr R0 P0 H0 (Dn.gone i) o := by
  cases o with
  | nx δ' => exact fun O' σ' H' F => h O' _ H' F.unset
  | rt d => exact h
  | bk δ' => exact fun O' σ' H' F => h O' _ H' F.unset
  | ct δ' => exact fun O' σ' H' F => h O' _ H' F.unset
/-- the names in the suite -/
def exS (N i : Nat) (a : Addr) : DS := (List.replicate N Sl.un).set i (.ex a)
open Classical in
/-- what the suite does, whichever object the exception is -/
noncomputable def trySuite (N i : Nat) (gs : Addr → DS → M Out) : M Out :=
  if h : ∃ r, ∀ a, (noX (gs a (exS N i a))).thn (fun o => M.ret (o.gone i)) = r then choose h else none
open Classical in
noncomputable def gTry (x : Str) (N i : Nat) (gb : DS → M Out) (gs : Addr → DS → M Out) : DS → M Out := fun δ => match gb (noOw δ) with
  | none => none
  | some (.ok o) => some (.ok o)
  | some (.error y) => if y.cls = x then trySuite N i gs else none
end
section
variable {X : Cx} {G : XD → Hp → Prop}
end
end DL
/-! ISINSTANCE of a held exception -/
namespace L2
open PySem PySem.Spec PySem.W PySem.Calls PyProof.Rows
open PySem.Builtin.ObjectAttr PySem.Builtin PySem.Builtin.Getset_descriptor
/-- an object of the own exception class D -/
def ExcAt (x D : Addr) (h : Heap) : Prop := ∃ o, h.get? x = some o ∧ o.cls = .ref D
/-- what the class must show for isinstance to end in False -/
def excKit (K : Frag) (D : Addr) : Bool :=
  (clsIn K D).isSome && (findIn K (.ref D) "__getattribute__" == some (some (.builtin "BaseException.__getattribute__"))) && (findIn K (.ref D) "__getattr__" == some none) &&
  (findIn K (.ref D) "__class__" == some (some (.builtin "object.__class__"))) && (specialIn K (.builtin "object.__class__") "__get__" == some (some (.builtin "getset_descriptor.__get__"))) &&
  (takesIn K (.builtin "object.__class__") == some true) && (mroIn K D (.type "object") == some true) && (mroIn K D (.type "BaseException") == some true)
section
variable {prog : Program} {w : World} {A : Around} {E : Value → Shared → Prop} {K : Frag} {x D : Addr} {h : Heap} {g : Array GenState} {d : Drawn} {t : Nat} {os : OsState}
end
end L2
/-! isinstance(e, ..) over data, e a held exception -/
namespace DL
open PySem PySem.Spec PyProof.Rows L2
section
variable {X : Cx} {G : XD → Hp → Prop} {pos : Pos}
/-- a class as a value -/
def clsV : V → Option Value
  | .ref a => some (.ref a)
  | .ty n => some (.type n)
  | _ => none
/-- classes that are named, as arguments -/
def tV (vs : List V) : TA := fun _ H Q => Q vs H
def dIsX (a : Addr) (i : Nat) (b : Bool) : DS → M D := fun δ => match δ[i]? with
  | some (.ex a') => if a' = a then M.ret (.bool b) else none
  | _ => none
end
end DL
/-! x is True, x is not False, x is None -/
namespace DL
open PySem PySem.Spec PyProof.Rows L2
section
variable {X : Cx}
/-- what is one object alone -/
def one? : D → Bool
  | .bool _ => true
  | .none => true
  | _ => false
def sameOne : D → D → Bool
  | .bool a, .bool b => a == b
  | .none, .none => true
  | _, _ => false
def oIs (x y : D) : Option D := if one? y then some (.bool (sameOne x y)) else none
def oIsNot (x y : D) : Option D := if one? y then some (.bool (!sameOne x y)) else none
theorem op_isB : OpR X (compareOp .Is) (fun x y H Q => ∃ b, y = .bl b ∧ Q (.bl (decide (x = .bl b))) H) := by
  intro pins s σ H x y v u Q I rx ry h
  obtain ⟨b, rfl, q⟩ := h
  cases (show u = Value.bool b from ry)
  have fin : ∀ c : Bool, decide (x = V.bl b) = c → EP X pins σ Q (.bool c) s := fun c e => ⟨.bl _, H, I, rfl, e ▸ q⟩
  cases x with
  | non => cases (show v = Value.none from rx); exact wpAny_pure (fin _ (by simp))
  | bl c => cases (show v = Value.bool c from rx); exact wpAny_pure (fin _ (by cases b <;> cases c <;> rfl))
  | int i => obtain ⟨t, z⟩ := (show ∃ t, v = Value.int i t from rx); cases z; exact wpAny_pure (fin _ (by simp))
  | str i => obtain ⟨t, z⟩ := (show ∃ t, v = Value.str i t from rx); cases z; exact wpAny_pure (fin _ (by simp))
  | byt i => obtain ⟨t, z⟩ := (show ∃ t, v = Value.bytes i t from rx); cases z; exact wpAny_pure (fin _ (by simp))
  | flt i => obtain ⟨t, z⟩ := (show ∃ t, v = Value.float i t from rx); cases z; exact wpAny_pure (fin _ (by simp))
  | ref p => cases (show v = Value.ref p from rx); exact wpAny_pure (fin _ (by simp))
  | ty p => cases (show v = Value.type p from rx); exact wpAny_pure (fin _ (by simp))
theorem op_notB : OpR X (compareOp .IsNot) (fun x y H Q => ∃ b, y = .bl b ∧ Q (.bl (!decide (x = .bl b))) H) := by
  intro pins s σ H x y v u Q I rx ry h
  obtain ⟨b, rfl, q⟩ := h
  cases (show u = Value.bool b from ry)
  have fin : ∀ c : Bool, decide (x = V.bl b) = c → EP X pins σ Q (.bool (!c)) s := fun c e => ⟨.bl _, H, I, rfl, e ▸ q⟩
  cases x with
  | non => cases (show v = Value.none from rx); exact wpAny_pure (fin false (by simp))
  | bl c => cases (show v = Value.bool c from rx); exact wpAny_pure (fin (Value.bool c == Value.bool b) (by cases b <;> cases c <;> rfl))
  | int i => obtain ⟨t, z⟩ := (show ∃ t, v = Value.int i t from rx); cases z; exact wpAny_pure (fin false (by simp))
  | str i => obtain ⟨t, z⟩ := (show ∃ t, v = Value.str i t from rx); cases z; exact wpAny_pure (fin false (by simp))
  | byt i => obtain ⟨t, z⟩ := (show ∃ t, v = Value.bytes i t from rx); cases z; exact wpAny_pure (fin false (by simp))
  | flt i => obtain ⟨t, z⟩ := (show ∃ t, v = Value.float i t from rx); cases z; exact wpAny_pure (fin false (by simp))
  | ref p => cases (show v = Value.ref p from rx); exact wpAny_pure (fin false (by simp))
  | ty p => cases (show v = Value.type p from rx); exact wpAny_pure (fin false (by simp))
theorem sameOne_bl {K : PySem.W.Frag} {O : List Addr} {H : Hp} {v u : V} {x y : D} (rv : Rep K O H v x) (ru : Rep K O H u y) (h1 : one? y = true) : (∃ b, u = .bl b ∧ decide (v = .bl b) = sameOne x y) ∨ (u = .non ∧ decide (v = .non) = sameOne x y) := by
  cases ru with
  | non => refine .inr ⟨rfl, ?_⟩; cases rv <;> simp [sameOne]
  | bl d => refine .inl ⟨d, rfl, ?_⟩; cases rv <;> simp [sameOne] <;> exact decide_eq_decide.mpr Iff.rfl
  | _ => cases h1
theorem dop_is : DOp X (compareOp .Is) oIs := by
  refine ⟨_, op_isB.or op_isN, fun O H x y d v u Q oo rx ry e k => ?_⟩
  unfold oIs at e
  by_cases h1 : one? y = true
  · rw [if_pos h1] at e
    cases e
    rcases sameOne_bl rx ry h1 with ⟨b, h2, h3⟩ | ⟨h2, h3⟩
    · exact .inl ⟨b, h2, h3 ▸ k _ _ (fun _ _ h => h) (h3 ▸ .bl _)⟩
    · exact .inr ⟨h2, h3 ▸ k _ _ (fun _ _ h => h) (h3 ▸ .bl _)⟩
  · rw [if_neg h1] at e; cases e
theorem dop_isnot : DOp X (compareOp .IsNot) oIsNot := by
  refine ⟨_, op_notB.or op_notN, fun O H x y d v u Q oo rx ry e k => ?_⟩
  unfold oIsNot at e
  by_cases h1 : one? y = true
  · rw [if_pos h1] at e
    cases e
    rcases sameOne_bl rx ry h1 with ⟨b, h2, h3⟩ | ⟨h2, h3⟩
    · exact .inl ⟨b, h2, h3 ▸ k _ _ (fun _ _ h => h) (h3 ▸ .bl _)⟩
    · exact .inr ⟨h2, h3 ▸ k _ _ (fun _ _ h => h) (h3 ▸ .bl _)⟩
  · rw [if_neg h1] at e; cases e
end
end DL
/-! str(n) -/
namespace DL
open PySem PySem.Spec PyProof.Rows L2
section
variable {X : Cx}
/-- str(n) -/
def oStr : List D → Option D
  | [.int i] => if i.natAbs.log2 < 1920 then some (.str (Str.ofString (toString i))) else none
  | _ => none
end
end DL
/-! evaluation: exceptions -/
namespace DL
open PySem PySem.Spec PyProof.Rows L2
section
variable {δ : DS} {y : XD} {x : Str} {N i : Nat} {gb : DS → M Out} {gs : Addr → DS → M Out} {o : Out}
end
end DL
/-! while; a, b = x, y; int(x) of an int or a bool -/
namespace DL
open PySem PySem.Spec PyProof.Rows L2
section
variable {X : Cx} {G : XD → Hp → Prop} {a b c e : Expr} {es : List Expr} {f : DS → M D} {fb : DS → M Bool} {fa : DS → M (List D)} {pos : Pos} {sts : List Stmt} {gs : DS → M Out}
def whileD (c : DS → M Bool) (g : DS → M Out) : Nat → DS → M Out
  | 0, _ => none
  | n + 1, δ => (c δ).thn fun b => if b = true then (g δ).thn fun o => match o with
      | .nx δ' => whileD c g n δ'
      | .ct δ' => whileD c g n δ'
      | .bk δ' => M.ret (.nx δ')
      | .rt d => M.ret (.rt d)
    else M.ret (.nx δ)
theorem while_more {c : DS → M Bool} {g : DS → M Out} : ∀ {n : Nat} {δ : DS} {r : Except XD Out} (k : Nat), whileD c g n δ = some r → whileD c g (n + k) δ = some r
  | 0, _, _, _, h => by cases h
  | n + 1, δ, r, k, h => by
    have e : n + 1 + k = (n + k) + 1 := by omega
    rw [e]
    unfold whileD at h ⊢
    match hc : c δ, h with
    | some (.ok true), h =>
      have h : M.thn (g δ) _ = _ := h
      show M.thn (g δ) _ = _
      match hg : g δ, h with
      | some (.ok (.nx δ')), h => exact while_more k h
      | some (.ok (.ct δ')), h => exact while_more k h
      | some (.ok (.bk δ')), h => exact h
      | some (.ok (.rt d)), h => exact h
      | some (.error x), h => exact h
    | some (.ok false), h => exact h
    | some (.error x), h => exact h
noncomputable def gWhile (c : DS → M Bool) (g : DS → M Out) : DS → M Out := fun δ =>
  open Classical in if h : ∃ n r, whileD c g n δ = some r then whileD c g (Classical.choose h) δ else none
theorem gWhile_some {c : DS → M Bool} {g : DS → M Out} {n : Nat} {δ : DS} {r : Except XD Out} (h : whileD c g n δ = some r) : gWhile c g δ = some r := by
  have hx : ∃ n r, whileD c g n δ = some r := ⟨n, r, h⟩
  unfold gWhile
  rw [dif_pos hx]
  obtain ⟨r', hr⟩ := Classical.choose_spec hx
  have h1 := while_more (Classical.choose hx) h
  have h2 := while_more n hr
  rw [Nat.add_comm] at h2
  rw [h2] at h1
  rw [hr, h1]
theorem gWhile_inv {c : DS → M Bool} {g : DS → M Out} {δ : DS} {r : Except XD Out} (h : gWhile c g δ = some r) : ∃ n, whileD c g n δ = some r := by
  unfold gWhile at h
  split at h
  · exact ⟨_, h⟩
  · cases h
theorem pd_while {body : List Stmt} (hp : PassesOwn (model X.prog X.w) X.A X.env X.xe) (hc : PDT X G c fb) (hb : PDSs X G body gs) : PDS X G (.While c body [] pos) (gWhile fb gs) := by
  obtain ⟨tc, pc, hc⟩ := hc
  obtain ⟨tb, pb, hb⟩ := hb
  refine ⟨_, ps_while hp pc pb, fun {Hr} R0 P0 H0 δ O σ H Dn E k => ?_⟩
  obtain ⟨n, hn⟩ : ∃ n, ok (GS G Hr) (whileD fb gs n δ) (Fin X.K Hr R0 P0 H0 Dn) := by
    cases e : gWhile fb gs δ with
    | none => rw [e] at k; exact k.elim
    | some r =>
      obtain ⟨n, hn⟩ := gWhile_inv e
      rw [e] at k
      exact ⟨n, by rw [hn]; exact k⟩
  refine ⟨fun m σ H => ∃ δ O, EI X.K Hr R0 P0 H0 O H σ δ ∧ ok (GS G Hr) (whileD fb gs m δ) (Fin X.K Hr R0 P0 H0 Dn), ⟨n, δ, O, E, hn⟩, fun m σ H hw => ?_⟩
  obtain ⟨δ, O, E, k⟩ := hw
  cases m with
  | zero => exact k.elim
  | succ m =>
    unfold whileD at k
    refine hc δ O σ H _ E.ev (ok_mono (ok_thn k) fun b z H1 s1 => ?_)
    cases b with
    | false => exact z O σ H1 (E.same s1)
    | true =>
      have z : ok (GS G Hr) (M.thn (gs δ) _) _ := z
      refine ⟨fun σ' H' => ∃ δ O, EI X.K Hr R0 P0 H0 O H' σ' δ ∧ ok (GS G Hr) (whileD fb gs m δ) (Fin X.K Hr R0 P0 H0 Dn), fun σ' H' hN => ⟨m, Nat.lt_succ_self m, hN⟩, ?_⟩
      refine hb R0 P0 H0 δ O σ H1 _ (E.same s1) (ok_mono (ok_thn z) fun o q => ?_)
      cases o with
      | nx δ' => exact fun O' σ' H' E' => ⟨δ', O', E', q⟩
      | ct δ' => exact fun O' σ' H' E' => ⟨δ', O', E', q⟩
      | bk δ' => exact q
      | rt d => exact q
/-! a, b = x, y -/
def gPar (i j : Nat) (fa : DS → M (List D)) : DS → M Out := fun δ => (fa δ).thn fun ds => match ds with
  | [x, y] => M.ret (.nx ((δ.set i (.vl x)).set j (.vl y)))
  | _ => none
end
/-! int(x) -/
section
variable {X : Cx}
def oInt : List D → Option D
  | [.int i] => some (.int i)
  | [.bool b] => some (.int (if b then 1 else 0))
  | _ => none
end
/-! evaluation -/
section
variable {δ δ' : DS} {f : DS → M D} {fb : DS → M Bool} {fa : DS → M (List D)} {gs gt g1 g2 : DS → M Out} {d x y : D} {b : Bool} {ds : List D} {r : M Out} {o : Out}
theorem ev_while_t {r : Except XD Out} (h1 : fb δ = M.ret true) (h2 : gs δ = M.ret (.nx δ')) (h3 : gWhile fb gs δ' = some r) : gWhile fb gs δ = some r := by
  obtain ⟨n, hn⟩ := gWhile_inv h3
  refine gWhile_some (n := n + 1) ?_
  unfold whileD
  rw [h1, thn_ret, if_pos rfl, h2, thn_ret]
  exact hn
theorem ev_while_f (h1 : fb δ = M.ret false) : gWhile fb gs δ = M.ret (.nx δ) := by
  refine gWhile_some (n := 1) ?_
  unfold whileD
  rw [h1, thn_ret, if_neg Bool.false_ne_true]
  rfl
theorem ev_par {i j : Nat} (h : fa δ = M.ret [x, y]) : gPar i j fa δ = M.ret (.nx ((δ.set i (.vl x)).set j (.vl y))) := by unfold gPar; rw [h]; rfl
theorem o_intI {i : Int} : oInt [.int i] = some (.int i) := rfl
theorem o_intB {b : Bool} : oInt [.bool b] = some (.int (if b then 1 else 0)) := rfl
/-- if c: return ..: not taken -/
theorem ev_pass (h1 : fb δ = M.ret b) (hb : b = false) (h2 : gt δ = r) : gSeq (gIf fb g1 gNext) gt δ = r := by
  subst hb
  unfold gSeq gIf; rw [h1, thn_ret, if_neg Bool.false_ne_true]; exact h2
theorem ev_pass1 (h1 : fb δ = M.ret b) (hb : b = false) : gIf fb g1 gNext δ = M.ret (.nx δ) := by
  subst hb
  unfold gIf; rw [h1, thn_ret, if_neg Bool.false_ne_true]; rfl
theorem o_pow4 : oPow (.int 10) (.int 4) = some (.int 10000) := rfl
theorem o_pow7 : oPow (.int 10) (.int 7) = some (.int 10000000) := rfl
theorem o_pow8 : oPow (.int 10) (.int 8) = some (.int 100000000) := rfl
theorem o_pow10 : oPow (.int 10) (.int 10) = some (.int 10000000000) := rfl
theorem o_pow12 : oPow (.int 10) (.int 12) = some (.int 1000000000000) := rfl
theorem o_pow19 : oPow (.int 10) (.int 19) = some (.int 10000000000000000000) := rfl
theorem o_pow20 : oPow (.int 10) (.int 20) = some (.int 100000000000000000000) := rfl
theorem o_pow24 : oPow (.int 10) (.int 24) = some (.int 1000000000000000000000000) := rfl
theorem o_addL {xs ys : List D} (h : small (xs.length + ys.length) = true) : oAdd (.list xs) (.list ys) = some (.list (xs ++ ys)) := by
  show (if small (xs.length + ys.length) = true then _ else _) = _
  rw [if_pos h]
theorem o_addS {xs ys : Str} (h : small (xs.length + ys.length) = true) : oAdd (.str xs) (.str ys) = some (.str (xs ++ ys)) := by
  show (if small (xs.length + ys.length) = true then _ else _) = _
  rw [if_pos h]
end
end DL
/-! WALKS over zip(a, b), enumerate(a), a text -/
namespace L2
open PySem PySem.Spec PyProof.Rows
section
variable {X : Cx}
/-- the records of an iterator have turned, and a new object is laid -/
theorem Inv.turnNew {pins : List (Addr × Obj)} {σ : St} {H : Hp} {s : Shared} {h' : Heap} {t' : Nat} {ch : List Addr} {a : Addr} {o : HO} (I : Inv X pins σ H s) (hf : ∀ b ∈ ch, FpOk X pins H b)
    (k : ∀ b u, b ∉ ch → s.heap.get? b = some u → h'.get? b = some u) (hp : s.heap.objs.size ≤ a) (new : ObjOk X.prog X.w (upd H a o) h' a o) : Inv X pins σ (upd H a o) { s with heap := h', toks := t' } := by
  have hn := I.hok.fresh hp
  have nc : ∀ {b : Addr} {u : HO}, H b = some u → b ∉ ch := fun e z => by rw [(hf _ z).1] at e; cases e
  refine I.call (g' := s.gens) (d' := s.drawn) (ch := ch) ⟨fun b u q _ _ hc => k b u hc q, fun b u q _ _ hc => ⟨u.slots, k b u hc q⟩, fun b u q n _ => ?_, fun b u q hc => ⟨u, k b u hc q⟩, fun b xs q => ?_, fun b u xs q => ?_, fun b ps q => ⟨#[], ?_⟩⟩ (fun b u e => ?_) I.bare fun b hb => ?_
  · rw [upd_ne (Nat.ne_of_lt (Nat.lt_of_lt_of_le (Heap.lt_size q) hp))]; exact n
  · rw [upd_ne (ne_of_none q hn)]; exact q
  · rw [upd_ne (ne_of_none q hn)]; exact q
  · rw [upd_ne (ne_of_none q hn), q]; simp
  · by_cases hb : b = a
    · subst hb; rw [upd_same] at e; cases e; exact new
    · rw [upd_ne hb] at e
      refine (I.hok b u e).stay (fun c v hc q => k c v ?_ q) (fun c q => by rw [upd_ne (ne_of_none q hn)]; exact q) fun c xs q => by rw [upd_ne (ne_of_none q hn)]; exact q
      rcases hc with rfl | hc
      · exact nc e
      · exact nc hc
  · obtain ⟨_, f1, _, f3, f4, f5⟩ := hf b hb
    exact ⟨f3, f1, f4, f5⟩
/-- .. and nothing new -/
theorem Inv.turnAll {pins : List (Addr × Obj)} {σ : St} {H : Hp} {s : Shared} {h' : Heap} {t' : Nat} {ch : List Addr} (I : Inv X pins σ H s) (hf : ∀ b ∈ ch, FpOk X pins H b)
    (k : ∀ b u, b ∉ ch → s.heap.get? b = some u → h'.get? b = some u) : Inv X pins σ H { s with heap := h', toks := t' } := by
  have nc : ∀ {b : Addr} {u : HO}, H b = some u → b ∉ ch := fun e z => by rw [(hf _ z).1] at e; cases e
  refine I.call (g' := s.gens) (d' := s.drawn) (ch := ch) ⟨fun b u q _ _ hc => k b u hc q, fun b u q _ _ hc => ⟨u.slots, k b u hc q⟩, fun b u q n _ => n, fun b u q hc => ⟨u, k b u hc q⟩, fun b xs q => q, fun b u xs q => q, fun b ps q => ⟨#[], by rw [q]; simp⟩⟩ (fun b u e => ?_) I.bare fun b hb => ?_
  · refine (I.hok b u e).stay (fun c v hc q => k c v ?_ q) (fun c q => q) fun c xs q => q
    rcases hc with rfl | hc
    · exact nc e
    · exact nc hc
  · obtain ⟨_, f1, _, f3, f4, f5⟩ := hf b hb
    exact ⟨f3, f1, f4, f5⟩
end
/-- two lists beside one another -/
def Itz (K : PySem.W.Frag) (a b : Addr) : It :=
  ⟨fun i H => ∃ xs ys x y, SqL K H a xs ∧ SqL K H b ys ∧ xs[i]? = some x ∧ ys[i]? = some y,
   fun i H v H' => ∃ T, v = .ref T ∧ H T = none ∧ ∀ xs ys x y, SqL K H a xs → SqL K H b ys → xs[i]? = some x → ys[i]? = some y → H' = upd H T (.tup [x, y]),
   fun i H => ∃ xs ys, SqL K H a xs ∧ SqL K H b ys ∧ (xs.length ≤ i ∨ ys.length ≤ i)⟩
/-- a list, numbered -/
def Ite (K : PySem.W.Frag) (a : Addr) : It :=
  ⟨fun i H => ∃ xs x, SqL K H a xs ∧ xs[i]? = some x,
   fun i H v H' => ∃ T, v = .ref T ∧ H T = none ∧ ∀ xs x, SqL K H a xs → xs[i]? = some x → H' = upd H T (.tup [.int i, x]),
   fun i H => ∃ xs, SqL K H a xs ∧ xs.length ≤ i⟩
/-- a text's signs -/
def Its (x : Str) : It := ⟨fun i _ => i < x.length, fun i H v H' => H' = H ∧ ∃ c, x.cps[i]? = some c ∧ v = .str ⟨#[c]⟩, fun i _ => x.length ≤ i⟩
/-! ### the expressions -/
section
variable {X : Cx} {elts : List Expr} {x1 : Nat} {tpos : Pos}
def iZip (K : PySem.W.Frag) (ta : TA) : TI := fun σ H R => ta σ H fun vs H1 => ∃ a b, vs = [.ref a, .ref b] ∧ (∃ xs, SqL K H1 a xs) ∧ (∃ ys, SqL K H1 b ys) ∧ R (Itz K a b) H1
def iEnum (K : PySem.W.Frag) (ta : TA) : TI := fun σ H R => ta σ H fun vs H1 => ∃ a, vs = [.ref a] ∧ (∃ xs, SqL K H1 a xs) ∧ R (Ite K a) H1
def iStr (tl : TE) : TI := fun σ H R => tl σ H fun x H1 => ∃ z, x = .str z ∧ R (Its z) H1
theorem turn_str_ascii {P : Program} {w : World} {K : PySem.W.Frag} {tg : Expr} (it : Addr) (x : Str) (t : Tok) : Turn P w K tg (Its x) [it] it (fun i h => h.IsStrIter it "str_ascii_iterator" x t i) where
  mem := by simp
  obj := fun i h st b hb => by
    have e : b = it := by simpa using hb
    subst e
    obtain ⟨o, e, c, d⟩ := st
    exact ⟨o, e, fun v z => by rw [d] at z; cases z⟩
  keep := fun i h h' st k => let ⟨o, ho, r⟩ := st; ⟨o, k it (by simp) o ho, r⟩
  item := by
    intro X hP hw hK hc i pins s σ H E I hf st hg
    subst hP hw hK
    obtain ⟨f0, f1, f2, f3, f4, f5⟩ := hf it (by simp)
    have hg : i < x.cps.size := hg
    refine wpAny_pyNext_ascii_item st (c := x.cps[i]) (by simp [hg]) fun h' st' sb => ?_
    have I1 : Inv X pins σ H { s with heap := h', toks := s.toks + 1 } := I.turned (fun b o hb e => (sb.2 b hb).trans e) f0 f1 f3 f4 f5
    obtain ⟨o, e, c1, d1⟩ := id st'
    exact ⟨_, rfl, go_of (s := { s with heap := h', toks := s.toks + 1 }) e c1 d1 (by decide) ⟨.str ⟨#[x.cps[i]]⟩, H, I1, ⟨_, rfl⟩, ⟨rfl, x.cps[i], by simp [hg], rfl⟩, st', fun b hb => (hf b hb).1⟩⟩
  done := by
    intro X hP hw hK hc i pins s σ H E I hf st hg
    subst hP hw hK
    obtain ⟨f0, f1, f2, f3, f4, f5⟩ := hf it (by simp)
    have hg : x.cps.size ≤ i := hg
    exact wpAny_pyNext_ascii_end (I.ok.hd hc) st (by simp; omega) fun h' eb => ⟨rfl, I.turned (t' := s.toks) (fun b o hb e => eb b o hb e) f0 f1 f3 f4 f5⟩
  self := fun _ _ _ _ _ st h => wpAny_pyIter_striter_ascii st h
theorem turn_str_wide {P : Program} {w : World} {K : PySem.W.Frag} {tg : Expr} (it : Addr) (x : Str) (t : Tok) : Turn P w K tg (Its x) [it] it (fun i h => h.IsStrIter it "str_iterator" x t i) where
  mem := by simp
  obj := fun i h st b hb => by
    have e : b = it := by simpa using hb
    subst e
    obtain ⟨o, e, c, d⟩ := st
    exact ⟨o, e, fun v z => by rw [d] at z; cases z⟩
  keep := fun i h h' st k => let ⟨o, ho, r⟩ := st; ⟨o, k it (by simp) o ho, r⟩
  item := by
    intro X hP hw hK hc i pins s σ H E I hf st hg
    subst hP hw hK
    obtain ⟨f0, f1, f2, f3, f4, f5⟩ := hf it (by simp)
    have hg : i < x.cps.size := hg
    refine wpAny_pyNext_wide_item st (c := x.cps[i]) (by simp [hg]) fun h' st' sb => ?_
    have I1 : Inv X pins σ H { s with heap := h', toks := s.toks + 1 } := I.turned (fun b o hb e => (sb.2 b hb).trans e) f0 f1 f3 f4 f5
    obtain ⟨o, e, c1, d1⟩ := id st'
    exact ⟨_, rfl, go_of (s := { s with heap := h', toks := s.toks + 1 }) e c1 d1 (by decide) ⟨.str ⟨#[x.cps[i]]⟩, H, I1, ⟨_, rfl⟩, ⟨rfl, x.cps[i], by simp [hg], rfl⟩, st', fun b hb => (hf b hb).1⟩⟩
  done := by
    intro X hP hw hK hc i pins s σ H E I hf st hg
    subst hP hw hK
    obtain ⟨f0, f1, f2, f3, f4, f5⟩ := hf it (by simp)
    have hg : x.cps.size ≤ i := hg
    exact wpAny_pyNext_wide_end (I.ok.hd hc) st (by simp; omega) fun h' eb => ⟨rfl, I.turned (t' := s.toks) (fun b o hb e => eb b o hb e) f0 f1 f3 f4 f5⟩
  self := fun _ _ _ _ _ st h => wpAny_pyIter_striter_wide st h
theorem pi_str {l : Expr} {tl : TE} {tg : Expr} (hl : PE X l tl) : PI X tg l (iStr tl) := by
  intro pins s σ H R I h
  refine thn (hl pins s σ H _ I h) fun v s1 ⟨x, H1, I1, r1, q1⟩ => ?_
  obtain ⟨z, e, q⟩ := q1
  subst e
  obtain ⟨t, rfl⟩ := r1
  have fp : ∀ b ∈ [s1.heap.objs.size], FpOk X pins H1 b := fun b hb => by
    have e : b = s1.heap.objs.size := by simpa using hb
    subst e
    exact I1.fpOk (Nat.le_refl _) (I1.hok.fresh (Nat.le_refl _))
  cases ha : z.cps.all (· < 128)
  · exact wpAny_pyIter_wide ha ⟨s1.heap.objs.size, [s1.heap.objs.size], _, _, H1, rfl, I1.kept (t' := s1.toks) fun b o e => Heap.get?_push_of_some _ e, turn_str_wide _ z t, ⟨_, Heap.get?_push_size _ rfl, rfl, rfl⟩, fp, q⟩
  · exact wpAny_pyIter_ascii ha ⟨s1.heap.objs.size, [s1.heap.objs.size], _, _, H1, rfl, I1.kept (t' := s1.toks) fun b o e => Heap.get?_push_of_some _ e, turn_str_ascii _ z t, ⟨_, Heap.get?_push_size _ rfl, rfl, rfl⟩, fp, q⟩
end
end L2
/-! COMPREHENSIONS in general: any target, free names, at most one test -/
namespace L2
open PySem PySem.Spec PyProof.Rows
def compCxG (X : Cx) (scope : Scope) (cl : List (Str × Addr)) (fr : List (Nat × Str)) (tn : List Str) (C : Addr) (s3 : Shared) (H3 : Hp) (fp : List Addr) : Cx where
  prog := X.prog
  w := X.w
  K := X.K
  mg := X.mg
  base := X.base
  A := X.A
  N := tn ++ fr.map (·.2)
  s₀ := s3
  H₀ := H3
  env := compEnvC scope cl C X.env
  outer := X.stack
  stack := X.stack
  ex := fp
  fn := fun _ => false
  calm := X.calm
  pn := []
  xe := fun _ _ => False
/-- the state of a comprehension's block -/
def compSt (n : Nat) (fr : List (Nat × Str)) (σ : St) : St := List.replicate n none ++ fr.map fun p => (σ[p.1]?).join
def tCompG (n : Nat) (fr : List (Nat × Str)) (wi : TI) (g : TG) (tc : TT) (te : TE) : TE := fun σ H Q => wi σ H fun J H1 => ∀ l, H1 l = none → ∃ W : Nat → Nat → St → List V → Hp → Prop, (∃ m, W 0 m (compSt n fr σ) [] (upd H1 l (.lst []))) ∧
  ∀ i m τ xs H2, W i m τ xs H2 → H2 l = some (.lst xs) ∧ ((J.stop i H2 ∧ Q (.ref l) H2) ∨ (J.go i H2 ∧ xs.length < sizeLine ∧ ∀ x H3, J.yld i H2 x H3 → g x τ H3 fun τ' H4 => tc τ' H4 fun b H5 => if b = true then te τ' H5 fun v H6 => H6 l = some (.lst xs) ∧ ∃ m', m' < m ∧ W (i + 1) m' τ' (xs ++ [v]) (upd H6 l (.lst (xs ++ [v]))) else ∃ m', m' < m ∧ W (i + 1) m' τ' xs H5))
section
variable {X : Cx}
theorem compG_ok {cl : List (Str × Addr)} {fr : List (Nat × Str)} {scope : Scope} {tn : List Str} {C : Addr} {s3 : Shared} {H3 : Hp} {fp : List Addr} {pins : List (Addr × Obj)} {σ : St} (I : Inv X pins σ H3 s3) (hkind : scope.kind = .function) (hsub : ∀ y c, cl.lookup y = some c → X.env.cells.lookup y = some c) (hhas : ∀ y ∈ (relabel scope X.env).names, (y.2 = .cell ∨ y.2 = .free) → ∃ c, cl.lookup y.1 = some c)
    (hC : s3.heap.objs.size ≤ C) (hf : ∀ b ∈ fp, FpOk X pins H3 b ∧ ∃ o, s3.heap.get? b = some o) (hfs : ∀ b ∈ fp, b ∉ frs X.stack) (hbase : ∀ b ∈ fp, X.base.get? b = none) : (compCxG X scope cl fr tn C s3 H3 fp).Ok where
  mod := I.ok.mod
  kind := hkind
  glob := I.ok.glob
  blt := I.ok.blt
  above := hC
  inj := fun y z c h1 h2 => I.ok.inj y z c (hsub y c h1) (hsub z c h2)
  has := fun y h => by
    rcases h with h | h
    · exact hhas _ (PySem.mem_of_lookup h) (.inl rfl)
    · exact hhas _ (PySem.mem_of_lookup h) (.inr rfl)
  cab := fun y c h => by cases h
  hd := I.ok.hd
  frames := I.ok.frames
  stk := .inl rfl
  exf := fun b hb => ⟨by
    obtain ⟨o, ho⟩ := (hf b hb).2
    exact Nat.ne_of_lt (Nat.lt_of_lt_of_le (Heap.lt_size ho) hC), fun y c h => (hf b hb).1.2.2.2.2.1 y c (hsub y c h)⟩
  bs := I.bs
  bsz := Nat.le_trans I.ok.bsz I.sz
  noex := fun b o e hb => by
    have e1 : X.base.get? b = some o := e
    rw [hbase b hb] at e1; cases e1
  exfs := hfs
  funs := I.stack
  frf := I.stkFree
/-- a comprehension's block is through: the def's state -/
theorem compG_out {cl : List (Str × Addr)} {fr : List (Nat × Str)} {scope : Scope} {tn : List Str} {C : Addr} {s3 s5 : Shared} {H3 H5 : Hp} {fp : List Addr} {pins pins5 : List (Addr × Obj)} {σ σ5 : St} {h' : Heap} (I : Inv X pins σ H3 s3) (hf : ∀ b ∈ fp, FpOk X pins H3 b) (hC : s3.heap.objs.size ≤ C)
    (I5 : Inv (compCxG X scope cl fr tn C s3 H3 fp) pins5 σ5 H5 s5) (hs : Heap.SameBut C s5.heap h') : Inv X pins σ H5 { s5 with heap := h' } := by
  have nC : ∀ {b : Addr} {o : Obj}, s3.heap.get? b = some o → b ≠ C := fun e => Nat.ne_of_lt (Nat.lt_of_lt_of_le (Heap.lt_size e) hC)
  have u : Un (frs X.stack) fp H3 H5 s3.heap s5.heap := I5.base
  refine I.call' (ch := fp) I5.os ⟨fun b o e n h1 h2 => ?_, fun b o e n h1 h2 => ?_, u.free, fun b o e h2 => ?_, u.tups, u.frzs, u.tbls⟩ ?_ I5.bare fun b hb => ?_
  · exact (hs.2 b (nC e)).trans (u.keep b o e n h1 h2)
  · obtain ⟨sl, e1⟩ := u.slot b o e n h1 h2
    exact ⟨sl, (hs.2 b (nC e)).trans e1⟩
  · obtain ⟨o', e1⟩ := u.there b o e h2
    exact ⟨o', (hs.2 b (nC e)).trans e1⟩
  · intro a o e
    have hn : H5 C = none := I5.free
    refine (I5.hok a o e).stay (fun b u hb q => (hs.2 b ?_).trans q) (fun _ q => q) fun _ _ q => q
    rcases hb with rfl | hb
    · exact ne_of_none e hn
    · exact ne_of_none hb hn
  · obtain ⟨_, f1, _, f3, f4, f5⟩ := hf b hb
    exact ⟨f3, f1, f4, f5⟩
/-- the tests: none, or one -/
def PTs (X : Cx) (ifs : List Expr) (t : TT) : Prop :=
  ∀ (pins : List (Addr × Obj)) (s : Shared) (σ : St) (H : Hp) (Q : Bool → Hp → Prop), Inv X pins σ H s → t σ H Q →
    wpAny (model X.prog X.w) X.A (forIn ifs true fun c r => if r = true then do let ok ← isTrue c X.env (eval c X.env); pure (ForInStep.yield ok) else pure (ForInStep.yield r)) (TP X pins σ Q) X.xe s
def tYes : TT := fun _ H Q => Q true H
theorem pts_nil : PTs X [] tYes := fun pins s σ H Q I h => wpAny_tests_nil ⟨H, I, h⟩
theorem pe_compG {cl : List (Str × Addr)} {fr : List (Nat × Str)} {tn : List Str} {elt iter tg : Expr} {ifs : List Expr} {scope : Scope} {pos : Pos} {wi : TI} {g : TG} {tc : TT} {te : TE} (hc : X.calm = true)
    (hkind : scope.kind = .function) (hcell : ∀ y ∈ scope.names, y.2 ≠ .cell) (hclos : closureFor scope X.env = pure cl) (hsub : ∀ y c, cl.lookup y = some c → X.env.cells.lookup y = some c)
    (hhas : ∀ y ∈ (relabel scope X.env).names, (y.2 = .cell ∨ y.2 = .free) → ∃ c, cl.lookup y.1 = some c) (hfr : ∀ p ∈ fr, X.N[p.1]? = some p.2 ∧ X.env.kindOf p.2 = some .cell ∧ (compEnvC scope cl 0 X.env).kindOf p.2 = some .cell ∧ ∃ c, cl.lookup p.2 = some c) (hnames : ∀ y ∈ scope.names, y.2 = .local → scope.names.lookup y.1 = some .local)
    (hi : PI X tg iter wi) (hg : ∀ C s3 H3 fp, PG (compCxG X scope cl fr tn C s3 H3 fp) tg g) (hcs : ∀ C s3 H3 fp, PTs (compCxG X scope cl fr tn C s3 H3 fp) ifs tc) (he : ∀ C s3 H3 fp, PE (compCxG X scope cl fr tn C s3 H3 fp) elt te) (hs : ∀ x, foldedSetIterable iter X.env x = pure x := by intro _; rfl) :
    PE X (.ListComp elt [⟨tg, iter, ifs, 0⟩] scope pos) (tCompG tn.length fr wi g tc te) := by
  intro pins s σ H Q I h
  rw [eval_ListComp]
  refine wpAny_comprehension_free (use := none) rfl hs hclos hkind hnames (thn (hi pins s σ H _ I h) fun v s1 h1 => thn h1 fun itv s2 h2 => ?_)
  obtain ⟨it, fp, tk, J, H2, e, I2, T, st2, f2, R⟩ := h2
  subst e
  have fl : H2 s2.heap.objs.size = none := I2.hok.fresh (Nat.le_refl _)
  obtain ⟨W, ⟨m0, w0⟩, turn⟩ := R s2.heap.objs.size fl
  refine wpAny_newObj_type (wpAny_newFunctionEnv hcell (by intro y hy; simp at hy) (fun h4 hns hsb => ?_) hkind)
  -- the list is laid and tracked
  have I3 : Inv X pins σ (upd H2 s2.heap.objs.size (.lst [])) { s2 with heap := s2.heap.push { cls := .type "list", data := .seq ([] : List Value).toArray } } :=
    I2.laid (t' := s2.toks) (fun b o e => Heap.get?_push_of_some _ e) (Nat.le_refl _) ⟨Nat.zero_le _, [], 0, .nil, Heap.get?_push_size _ rfl⟩
  have ob : ∀ b ∈ fp, ∃ o, s2.heap.get? b = some o := fun b hb => let ⟨o, ho, _⟩ := T.obj 0 _ st2 b hb; ⟨o, ho⟩
  have f3 : ∀ b ∈ fp, FpOk X pins (upd H2 s2.heap.objs.size (.lst [])) b := fun b hb => by
    obtain ⟨g0, g1, g2, g3, g4, g5⟩ := f2 b hb
    obtain ⟨o, ho⟩ := ob b hb
    exact ⟨by rw [upd_ne (Nat.ne_of_lt (Heap.lt_size ho))]; exact g0, g1, g2, g3, g4, g5⟩
  generalize hs3 : ({ s2 with heap := s2.heap.push { cls := .type "list", data := .seq ([] : List Value).toArray } } : Shared) = s3 at I3
  have heap3 : s2.heap.push { cls := .type "list", data := .seq ([] : List Value).toArray } = s3.heap := by rw [← hs3]
  have old3 : ∀ b o, s2.heap.get? b = some o → s3.heap.get? b = some o := fun b o e => by rw [← heap3]; exact Heap.get?_push_of_some _ e
  have ok3 : (compCxG X scope cl fr tn s3.heap.objs.size s3 (upd H2 s2.heap.objs.size (.lst [])) fp).Ok := by
    refine compG_ok I3 hkind hsub hhas (Nat.le_refl _) (fun b hb => ⟨f3 b hb, let ⟨o, ho⟩ := ob b hb; ⟨o, old3 b o ho⟩⟩) (fun b hb z => ?_) fun b hb => ?_
    · obtain ⟨_, g1, g2, _⟩ := f2 b hb
      rcases List.mem_cons.mp (I2.stkSub b z) with q | q
      · exact g1 q
      · exact g2 q
    · obtain ⟨_, _, _, g3, _⟩ := f2 b hb
      rcases g3 with q | q
      · cases e : X.base.get? b with
        | none => rfl
        | some o => exact absurd q (I.ok.noex b o e)
      · exact Heap.get?_none_of_le (Nat.le_trans I.ok.bsz q)
  have hns3 : h4.Ns s3.heap.objs.size (fun y => ([] : List (Str × Value)).reverse.lookup y) := by rw [← heap3]; exact hns
  have keep4 : ∀ b o, s3.heap.get? b = some o → h4.get? b = some o := fun b o e => by
    have e1 : (s2.heap.push { cls := .type "list", data := .seq ([] : List Value).toArray }).get? b = some o := by rw [heap3]; exact e
    exact (hsb.2 b (Nat.ne_of_lt (Heap.lt_size e1))).trans (Heap.get?_push_of_some _ e1)
  have I4 : Inv (compCxG X scope cl fr tn s3.heap.objs.size s3 (upd H2 s2.heap.objs.size (.lst [])) fp) [] (compSt tn.length fr σ) (upd H2 s2.heap.objs.size (.lst [])) { s3 with heap := h4 } := by
    refine ⟨ok3, rfl, I3.bare, Un.kept keep4, ⟨_, hns3, fun i y v e1 e2 e3 => ?_⟩, (fun y c h => let ⟨v, oc, ho, hd⟩ := I3.cell y c (hsub y c h); ⟨v, oc, keep4 _ _ ho, hd⟩), I3.hok.fresh (Nat.le_refl _), (fun y c h => I3.freeC y c (hsub y c h)), (fun p hp => nomatch hp), I3.hok.kept keep4, by simp [compCxG, compSt]⟩
    have e1 : (tn ++ fr.map (·.2))[i]? = some y := e1
    have e2 : (List.replicate tn.length none ++ fr.map fun p => (σ[p.1]?).join)[i]? = some (some v) := e2
    by_cases hlt : i < tn.length
    · rw [List.getElem?_append_left (by simpa using hlt), List.getElem?_replicate] at e2
      split at e2 <;> cases e2
    · rw [List.getElem?_append_right (by omega)] at e1
      rw [List.getElem?_append_right (by simpa using hlt), List.length_replicate] at e2
      rw [List.getElem?_map] at e1 e2
      cases q : fr[i - tn.length]? with
      | none => rw [q] at e1; cases e1
      | some p =>
        rw [q] at e1 e2
        have e1 : p.2 = y := Option.some.inj e1
        have e2 : (σ[p.1]?).join = some v := Option.some.inj e2
        subst e1
        obtain ⟨g1, g2, g3, c, g4⟩ := hfr p (List.mem_of_getElem? q)
        have e4 : σ[p.1]? = some (some v) := by
          cases z : σ[p.1]? with
          | none => rw [z] at e2; cases e2
          | some w' => rw [z] at e2; exact congrArg some e2
        obtain ⟨m, hn, hl⟩ := I3.loc
        obtain ⟨u, ru, lk⟩ := hl p.1 p.2 v g1 e4 (.inr (.inl g2))
        refine ⟨u, ru, .inr ⟨.inl g3, c, g4, ?_⟩⟩
        rcases lk with ⟨k1, _⟩ | ⟨_, c', k2, k3⟩
        · rw [g2] at k1; cases k1
        · rw [hsub _ _ g4] at k2
          cases k2
          obtain ⟨oc, ho, hd⟩ := k3
          exact ⟨oc, keep4 _ _ ho, hd⟩
  have st4 : tk 0 h4 := T.keep 0 _ _ st2 fun b hb o e => keep4 b o (old3 b o e)
  have loop : codeAny (model X.prog X.w) X.A (.compLoop (.ListComp elt [⟨tg, iter, ifs, 0⟩] scope pos) 0 (.ref it) (.ref s2.heap.objs.size) (compEnvC scope cl s3.heap.objs.size X.env))
      (compPost (model X.prog X.w) X.A X.xe none (EP X pins σ Q) (.ref s2.heap.objs.size) s3.heap.objs.size) { s3 with heap := h4 } := by
    refine codeAny_loop rfl (fun n s' => ∃ i σ' xs H', Inv (compCxG X scope cl fr tn s3.heap.objs.size s3 (upd H2 s2.heap.objs.size (.lst [])) fp) [] σ' H' s' ∧ tk i s'.heap ∧ (∀ b ∈ fp, H' b = none) ∧ W i n σ' xs H') (fun n s' hI => ?_) m0
      ⟨0, _, [], _, I4, st4, fun b hb => (f3 b hb).1, w0⟩
    show wpAny _ _ ((compTurn (.ListComp elt [⟨tg, iter, ifs, 0⟩] scope pos) 0 (.ref it) (.ref s2.heap.objs.size) (compEnvC scope cl s3.heap.objs.size X.env)).onRaise (fun x => do noteFrame x _; theTreesLotGoes x)) _ _ s'
    refine wpAny_noted ?_
    rw [compTurn_list]
    obtain ⟨i, σ5, xs, H5, I5, st5, fr5, w5⟩ := hI
    have stat : ∀ {H' : Hp}, (∀ b ∈ fp, H' b = none) → ∀ b ∈ fp, FpOk (compCxG X scope cl fr tn s3.heap.objs.size s3 (upd H2 s2.heap.objs.size (.lst [])) fp) [] H' b := fun hn b hb =>
      ⟨hn b hb, (ok3.exf b hb).1, ok3.exfs b hb, .inl hb, (ok3.exf b hb).2, fun p hp => nomatch hp⟩
    obtain ⟨hl, alt⟩ := turn i n σ5 xs H5 w5
    rcases alt with ⟨stop, qn⟩ | ⟨go, hz, step⟩
    · refine wpAny_bind (wpAny_standAt (wpAny_bind (thn (T.done (compCxG X scope cl fr tn s3.heap.objs.size s3 (upd H2 s2.heap.objs.size (.lst [])) fp) rfl rfl rfl hc i [] s' σ5 H5 _ I5 (stat fr5) st5 stop) fun r s6 ⟨hr, I6⟩ => ?_)))
      subst hr
      refine wpAny_pure ?_
      obtain ⟨m, hn6, _⟩ := I6.loc
      exact ⟨m, hn6, fun h' hs' => ⟨.ref s2.heap.objs.size, H5, compG_out I3 f3 (Nat.le_refl _) I6 hs', rfl, qn⟩⟩
    · refine wpAny_bind (wpAny_standAt (wpAny_bind (thn (T.item (compCxG X scope cl fr tn s3.heap.objs.size s3 (upd H2 s2.heap.objs.size (.lst [])) fp) rfl rfl rfl hc i [] s' σ5 H5 _ I5 (stat fr5) st5 go) fun r s6 ⟨u, hr, h6⟩ => ?_)))
      subst hr
      refine wpAny_bind (thn h6 fun _ s7 ⟨y, H7, I7, r7, y7, st7, fr7⟩ => ?_)
      have I7' := I7.pinned (stat fr7) (T.obj _ _ st7)
      have hP := hg s3.heap.objs.size s3 (upd H2 s2.heap.objs.size (.lst [])) fp _ s7 σ5 H7 y u _ I7' r7 (step y H7 y7)
      refine wpAny_bind (wpAny_mono hP (fun _ s8 ⟨σ8, H8, I8, q8⟩ => ?_) (fun _ _ z => False.elim z))
      refine wpAny_bind (wpAny_mono (hcs s3.heap.objs.size s3 (upd H2 s2.heap.objs.size (.lst [])) fp _ s8 σ8 H8 _ I8 q8) (fun b s9 ⟨H9, I9, q9⟩ => ?_) (fun _ _ z => False.elim z))
      have again : ∀ {σ7 : St} {H7 : Hp} {s7' : Shared} {xs' : List V}, Inv (compCxG X scope cl fr tn s3.heap.objs.size s3 (upd H2 s2.heap.objs.size (.lst [])) fp) ([] ++ pinsAt fp s7.heap) σ7 H7 s7' → (∃ m', m' < n ∧ W (i + 1) m' σ7 xs' H7) →
          ∃ m, m < n ∧ ∃ i σ' xs H', Inv (compCxG X scope cl fr tn s3.heap.objs.size s3 (upd H2 s2.heap.objs.size (.lst [])) fp) [] σ' H' s7' ∧ tk i s7'.heap ∧ (∀ b ∈ fp, H' b = none) ∧ W i m σ' xs H' := fun {σ7 H7 s7' xs'} I7 n7 => by
        obtain ⟨m', hm, w7⟩ := n7
        refine ⟨m', hm, i + 1, σ7, xs', H7, I7.unpinned, T.keep _ _ _ st7 fun b hb o e => (I7.pin (b, o) (List.mem_append_right _ (List.mem_append_right _ (mem_pinsAt hb e)))).1, fun b hb => ?_, w7⟩
        obtain ⟨o, e, d⟩ := T.obj _ _ st7 b hb
        exact (I7.pin (b, o) (List.mem_append_right _ (List.mem_append_right _ (mem_pinsAt hb e)))).2.1
      cases b with
      | false =>
        rw [if_neg Bool.false_ne_true] at q9
        exact wpAny_pure ⟨rfl, again I9 q9⟩
      | true =>
        rw [if_pos rfl] at q9
        refine wpAny_bind (wpAny_bind (wpAny_mono (he _ _ _ _ _ s9 σ8 H9 _ I9 q9) (fun uv s10 ⟨v, H10, I10, r10, hl10, w10⟩ => ?_) fun _ _ z => z.elim))
        refine wpAny_bind (wpAny_mono (mt_append (X := compCxG X scope cl fr tn s3.heap.objs.size s3 (upd H2 s2.heap.objs.size (.lst [])) fp) _ s10 _ H10 (.ref s2.heap.objs.size) [v] (.ref s2.heap.objs.size) [uv] (fun _ H' => H' = upd H10 s2.heap.objs.size (.lst (xs ++ [v]))) I10 rfl (.cons r10 .nil) ⟨_, xs, v, rfl, rfl, hl10, hz, rfl⟩) (fun _ s11 ⟨v11, H11, I11, r11, q11⟩ => ?_) (fun _ _ z => False.elim z))
        subst q11
        exact wpAny_pure (wpAny_pure ⟨rfl, again I11 w10⟩)
  subst hs3
  exact codeAny_compStart_list loop (T.self _ 0 _ _ _ st4 loop)
end
end L2
/-! WHAT IS WALKED, over data: lists, tuples, ranges, zip, enumerate, texts; for and comprehensions over any of them -/
namespace DL
open PySem PySem.Spec PyProof.Rows L2
/-- J tells the data ds one by one, whatever happens to lists that are owned -/
structure Yl (K : PySem.W.Frag) (J : It) (O : List Addr) (H1 : Hp) (ds : List D) : Prop where
  step : ∀ (O2 : List Addr) (H2 : Hp), To O O2 H1 H2 → ∀ (i : Nat) (d : D), ds[i]? = some d → J.go i H2 ∧ ∀ x H3, J.yld i H2 x H3 → Same H2 H3 ∧ Rep K O2 H3 x d
  stop : ∀ (O2 : List Addr) (H2 : Hp), To O O2 H1 H2 → J.stop ds.length H2
def PDI (X : Cx) (G : XD → Hp → Prop) (tg iter : Expr) (fi : DS → M (List D)) : Prop :=
  ∃ wi, PI X tg iter wi ∧ ∀ {Hr : Hp} (δ : DS) (O : List Addr) (σ : St) (H : Hp) (R : It → Hp → Prop), Ev X.K Hr O H σ δ → ok (GS G Hr) (fi δ) (fun ds => ∀ J H1, Same H H1 → Yl X.K J O H1 ds → R J H1) → wi σ H R
section
variable {K : PySem.W.Frag} {O : List Addr} {H1 : Hp}
theorem yl_list {a : Addr} {xs : List V} {ds : List D} (hk : ∀ (O2 : List Addr) (H2 : Hp), To O O2 H1 H2 → SqL K H2 a xs) (rs : Reps K O H1 xs ds) : Yl K (Itl K a) O H1 ds := by
  refine ⟨fun O2 H2 t i d hd => ?_, fun O2 H2 t => ⟨xs, hk O2 H2 t, by rw [rs.length]; exact Nat.le_refl _⟩⟩
  obtain ⟨v, hv, r⟩ := rs.get hd
  refine ⟨⟨xs, v, hk O2 H2 t, hv⟩, fun x H3 y => ?_⟩
  obtain ⟨rfl, y⟩ := y
  have := y xs (hk O2 H3 t)
  rw [hv] at this
  cases this
  exact ⟨Same.refl _, r.to t⟩
theorem yl_tup {a : Addr} {xs : List V} {ds : List D} (hq : SqT K H1 a xs) (rs : Reps K O H1 xs ds) : Yl K (Itt K a) O H1 ds := by
  refine ⟨fun O2 H2 t i d hd => ?_, fun O2 H2 t => ⟨xs, t.sqT hq, by rw [rs.length]; exact Nat.le_refl _⟩⟩
  obtain ⟨v, hv, r⟩ := rs.get hd
  refine ⟨⟨xs, v, t.sqT hq, hv⟩, fun x H3 y => ?_⟩
  obtain ⟨rfl, y⟩ := y
  have := y xs (t.sqT hq)
  rw [hv] at this
  cases this
  exact ⟨Same.refl _, r.to t⟩
theorem yl_range {lo : Int} {n : Nat} : Yl K (Itr lo n) O H1 (rngD lo n) := by
  have hl : (rngD lo n).length = n := by unfold rngD; rw [List.length_map, List.length_range]
  refine ⟨fun O2 H2 t i d hd => ?_, fun O2 H2 t => by rw [hl]; exact Nat.le_refl _⟩
  have hi : i < n := by
    have := (List.getElem?_eq_some_iff.mp hd).1
    omega
  refine ⟨hi, fun x H3 y => ?_⟩
  obtain ⟨rfl, rfl⟩ := y
  unfold rngD at hd
  rw [List.getElem?_map, List.getElem?_range hi] at hd
  cases hd
  exact ⟨Same.refl _, .int _⟩
/-- a list, as the Rep tells it -/
theorem Rep.lstTo {v : V} {ds : List D} (r : Rep K O H1 v (.list ds)) : ∃ a xs, v = .ref a ∧ SqL K H1 a xs ∧ (∀ (O2 : List Addr) (H2 : Hp), To O O2 H1 H2 → SqL K H2 a xs) ∧ Reps K O H1 xs ds := by
  cases r with
  | lst h n rs => exact ⟨_, _, rfl, .inl h, fun O2 H2 t => .inl (t.l _ _ n h).2, rs⟩
  | lstK h rs => exact ⟨_, _, rfl, .inr h, fun _ _ _ => .inr h, rs⟩
def zipD (xs ys : List D) : List D := List.zipWith (fun x y => .tuple [x, y]) xs ys
def enumD (n : Nat) : List D → List D
  | [] => []
  | x :: xs => .tuple [.int (n : Int), x] :: enumD (n + 1) xs
/-- a text's signs -/
def signsD (z : Str) : List D := z.cps.toList.map fun c => .str ⟨#[c]⟩
theorem yl_str {z : Str} : Yl K (Its z) O H1 (signsD z) := by
  have hl : (signsD z).length = z.length := by unfold signsD; rw [List.length_map, Array.length_toList]; rfl
  refine ⟨fun O2 H2 t i d hd => ?_, fun O2 H2 t => by rw [hl]; exact Nat.le_refl _⟩
  have hi : i < z.length := by
    have := (List.getElem?_eq_some_iff.mp hd).1
    omega
  refine ⟨hi, fun x H3 y => ?_⟩
  obtain ⟨rfl, c, hc, rfl⟩ := y
  unfold signsD at hd
  rw [List.getElem?_map, Array.getElem?_toList, hc] at hd
  cases hd
  exact ⟨Same.refl _, .str _⟩
end
section
variable {X : Cx} {G : XD → Hp → Prop} {tg iter a b : Expr} {f : DS → M D} {fa : DS → M (List D)} {pos p : Pos} {elts : List Expr} {x1 : Nat} {tpos : Pos}
/-! ### what may be walked -/
def dSeq (f : DS → M D) : DS → M (List D) := fun δ => (f δ).thn fun d => M.lift (seqD d)
theorem pdi_seq (h : PD X G iter f) : PDI X G tg iter (dSeq f) := by
  obtain ⟨t, q, h⟩ := h
  refine ⟨_, pi_seq q, fun δ O σ H R E k => ?_⟩
  refine h δ O σ H _ E (ok_mono (ok_thn k) fun d z v H1 s1 r => ?_)
  obtain ⟨ds, hd, z⟩ := ok_lift z
  cases d with
  | list es =>
    cases hd
    obtain ⟨a, xs, rfl, hq, hk, rs⟩ := r.lstTo
    exact ⟨a, rfl, .inl ⟨⟨xs, hq⟩, z _ H1 s1 (yl_list hk rs)⟩⟩
  | tuple es =>
    cases hd
    obtain ⟨a, xs, rfl, hq, rs⟩ := r.tup_inv
    exact ⟨a, rfl, .inr ⟨⟨xs, hq⟩, z _ H1 s1 (yl_tup hq rs)⟩⟩
  | _ => cases hd
def dRng (rng : List D → Option (List D)) (fa : DS → M (List D)) : DS → M (List D) := fun δ => (fa δ).thn fun ds => M.lift (rng ds)
theorem pdi_rng1 (hgl : Gl X "range") (hm : X.mg "range" = none) (ha : PDA X G [a] fa) (hs1 : starEach [a] X.env = [(false, eval a X.env)] := by rfl) : PDI X G tg (.Call (.Name "range" p) [a] [] pos) (dRng rng1 fa) := by
  obtain ⟨_, ta, pa, ha⟩ := ha
  refine ⟨_, pi_range1 hgl hm pa hs1, fun δ O σ H R E k => ?_⟩
  refine ha δ O σ H _ E (ok_mono (ok_thn k) fun ds z vs H1 s1 rs => ?_)
  obtain ⟨xs, hd, z⟩ := ok_lift z
  unfold rng1 at hd
  split at hd
  · rename_i j
    by_cases hz : b62 j = true
    · rw [if_pos hz] at hd
      cases hd
      obtain ⟨v, rfl, r⟩ := reps1 rs
      obtain ⟨z1, z2⟩ := b62_of hz
      exact ⟨j, by rw [r.int_inv], z1, z2, z _ H1 s1 yl_range⟩
    · rw [if_neg hz] at hd; cases hd
  · cases hd
theorem pdi_rng2 (hgl : Gl X "range") (hm : X.mg "range" = none) (ha : PDA X G [a, b] fa) (hs1 : starEach [a, b] X.env = [(false, eval a X.env), (false, eval b X.env)] := by rfl) (hs2 : starEach [b] X.env = [(false, eval b X.env)] := by rfl) :
    PDI X G tg (.Call (.Name "range" p) [a, b] [] pos) (dRng rng2 fa) := by
  obtain ⟨_, ta, pa, ha⟩ := ha
  refine ⟨_, pi_range2 hgl hm pa hs1 hs2, fun δ O σ H R E k => ?_⟩
  refine ha δ O σ H _ E (ok_mono (ok_thn k) fun ds z vs H1 s1 rs => ?_)
  obtain ⟨xs, hd, z⟩ := ok_lift z
  unfold rng2 at hd
  split at hd
  · rename_i i j
    by_cases hz : (b62 i && b62 j) = true
    · rw [if_pos hz] at hd
      cases hd
      obtain ⟨v, v', rfl, r, r'⟩ := reps2 rs
      obtain ⟨hz1, hz2⟩ := Bool.and_eq_true_iff.mp hz
      obtain ⟨z1, z2⟩ := b62_of hz1
      obtain ⟨z3, z4⟩ := b62_of hz2
      exact ⟨i, j, by rw [r.int_inv, r'.int_inv], ⟨z1, z2, z3, z4⟩, z _ H1 s1 yl_range⟩
    · rw [if_neg hz] at hd; cases hd
  · cases hd
def dZip (fa : DS → M (List D)) : DS → M (List D) := fun δ => (fa δ).thn fun ds => match ds with
  | [.list xs, .list ys] => M.ret (zipD xs ys)
  | _ => none
def dEnum (fa : DS → M (List D)) : DS → M (List D) := fun δ => (fa δ).thn fun ds => match ds with
  | [.list xs] => M.ret (enumD 0 xs)
  | _ => none
def dSigns (f : DS → M D) : DS → M (List D) := fun δ => (f δ).thn fun d => match d with
  | .str z => M.ret (signsD z)
  | _ => none
theorem pdi_str (h : PD X G iter f) : PDI X G tg iter (dSigns f) := by
  obtain ⟨t, q, h⟩ := h
  refine ⟨_, pi_str q, fun δ O σ H R E k => ?_⟩
  refine h δ O σ H _ E (ok_mono (ok_thn k) fun d z v H1 s1 r => ?_)
  match d, z, r with
  | .str w, z, r => exact ⟨w, r.str_inv, z _ H1 s1 yl_str⟩
/-! ### for -/
def gForI (fi : DS → M (List D)) (t : D → DS → Option DS) (g : DS → M Out) : DS → M Out := fun δ => (fi δ).thn fun ds => forD (bodyD t g) ds δ
theorem pd_forI {body : List Stmt} {t : D → DS → Option DS} {fi : DS → M (List D)} {gs : DS → M Out} (hp : PassesOwn (model X.prog X.w) X.A X.env X.xe) (hc : X.calm = true) (hi : PDI X G tg iter fi) (hg : PDG X tg t) (hb : PDSs X G body gs)
    (hs : ∀ x, foldedSetIterable iter X.env x = pure x := by intro _; rfl) : PDS X G (.For tg iter body [] pos) (gForI fi t gs) := by
  obtain ⟨wi, pi, hi⟩ := hi
  obtain ⟨tgt, pt, hg⟩ := hg
  obtain ⟨tb, pb, hb⟩ := hb
  refine ⟨_, ps_for hp hc pi pt pb hs, @fun Hr R0 P0 H0 δ O σ H Dn E k => ?_⟩
  refine hi δ O σ H _ E.ev (ok_mono (ok_thn k) fun ds z J H1 s1 Y => ?_)
  have E1 := E.same s1
  have z1 : ok (GS G Hr) (forD (bodyD t gs) ds δ) (Fin X.K Hr R0 (Ch O R0) H1 Dn) := ok_mono z fun o q => Fin.outer E1 q
  refine ⟨fun i m σ2 H2 => m = ds.length - i ∧ i ≤ ds.length ∧ ∃ δ2 O2, EI X.K Hr R0 (Ch O R0) H1 O2 H2 σ2 δ2 ∧ ok (GS G Hr) (forD (bodyD t gs) (ds.drop i) δ2) (Fin X.K Hr R0 (Ch O R0) H1 Dn), ⟨_, rfl, Nat.zero_le _, δ, O, E1.inner, z1⟩, ?_⟩
  rintro i m σ2 H2 ⟨rfl, hi, δ2, O2, E2, k2⟩
  have T := E1.to E2
  by_cases hlt : i < ds.length
  · right
    have hd : ds[i]? = some ds[i] := List.getElem?_eq_getElem hlt
    obtain ⟨go, yl⟩ := Y.step O2 H2 T i _ hd
    refine ⟨go, fun σ' H' => ∃ δ2 O2, EI X.K Hr R0 (Ch O R0) H1 O2 H' σ' δ2 ∧ ok (GS G Hr) (forD (bodyD t gs) (ds.drop (i + 1)) δ2) (Fin X.K Hr R0 (Ch O R0) H1 Dn), fun σ' H' h => ⟨_, by omega, rfl, hlt, h⟩, fun x H3 y => ?_⟩
    obtain ⟨s3, rx⟩ := yl x H3 y
    rw [drop_get hd] at k2
    have k3 := ok_thn (show ok (GS G Hr) ((bodyD t gs ds[i] δ2).thn _) _ from k2)
    obtain ⟨δ3, h3, k4⟩ := ok_lift (ok_thn (show ok (GS G Hr) ((M.lift (t ds[i] δ2)).thn gs) _ from k3))
    refine hg R0 (Ch O R0) H1 δ2 δ3 ds[i] x O2 σ2 H3 _ (E2.same s3) rx h3 fun σ4 H4 E4 _ => ?_
    refine hb R0 (Ch O R0) H1 δ3 O2 σ4 H4 _ E4 (ok_mono k4 fun o z => ?_)
    cases o with
    | nx δ5 => exact fun O5 σ5 H5 E5 => ⟨δ5, O5, E5, z⟩
    | ct δ5 => exact fun O5 σ5 H5 E5 => ⟨δ5, O5, E5, z⟩
    | bk δ5 => exact fun O5 σ5 H5 E5 => z O5 σ5 H5 E5
    | rt d => exact z
  · left
    have e : i = ds.length := by omega
    subst e
    rw [List.drop_length] at k2
    exact ⟨Y.stop O2 H2 T, k2 O2 σ2 H2 E2⟩
/-! ### comprehensions -/
def compD (t : D → DS → Option DS) (c : DS → M Bool) (f : DS → M D) : List D → DS → M (List D)
  | [], _ => M.ret []
  | d :: ds, δ => (M.lift (t d δ)).thn fun δ' => (c δ').thn fun b => if b = true then (f δ').thn fun y => (compD t c f ds δ').thn fun ys => M.ret (y :: ys) else compD t c f ds δ'
def dYes : DS → M Bool := fun _ => M.ret true
def nX {α : Type} (f : DS → M α) : DS → M α := fun δ => noX (f δ)
def dCompG (n : Nat) (js : List Nat) (t : D → DS → Option DS) (fi : DS → M (List D)) (c : DS → M Bool) (f : DS → M D) : DS → M D := fun δ => (fi δ).thn fun ds => if small ds.length then (compD t (nX c) (nX f) ds (List.replicate n .un ++ js.map (slotAt δ))).thn fun ys => M.ret (.list ys) else none
def PDTs (X : Cx) (ifs : List Expr) (f : DS → M Bool) : Prop :=
  ∃ t, PTs X ifs t ∧ ∀ {Hr : Hp} (δ : DS) (O : List Addr) (σ : St) (H : Hp) (Q : Bool → Hp → Prop), Ev X.K Hr O H σ δ → ok (fun _ => False) (f δ) (fun b => ∀ H', Same H H' → Q b H') → t σ H Q
theorem pdts_nil : PDTs X [] dYes := ⟨_, pts_nil, fun δ O σ H Q E k => k H (Same.refl H)⟩
theorem ok_GS0 {α : Type} {Hr : Hp} {r : M α} {k : α → Prop} (h : ok (fun _ => False) r k) : ok (GS (fun _ _ => False) Hr) r k := ok_false h
end
end DL
/-! COMPREHENSIONS over data -/
namespace DL
open PySem PySem.Spec PyProof.Rows L2
/-- the readings that runs ask for -/
def gD (K : PySem.W.Frag) (t : D → DS → Option DS) : TG := fun v σ H Q => ∃ Hr R0 P0 H0 δ δ' d O, EI K Hr R0 P0 H0 O H σ δ ∧ Rep K O H v d ∧ t d δ = some δ' ∧ ∀ σ' H', EI K Hr R0 P0 H0 O H' σ' δ' → Same H H' → Q σ' H'
theorem PDG.can {X : Cx} {e : Expr} {t : D → DS → Option DS} (h : PDG X e t) : PG X e (gD X.K t) := by
  obtain ⟨g, p, h⟩ := h
  intro pins s σ H v u Q I r hw
  obtain ⟨Hr, R0, P0, H0, δ, δ', d, O, E, rd, ht, k⟩ := hw
  exact p pins s σ H v u Q I r (h R0 P0 H0 δ δ' d v O σ H Q E rd ht k)
def cD (K : PySem.W.Frag) (f : DS → M Bool) : TT := fun σ H Q => ∃ Hr δ O, Ev K Hr O H σ δ ∧ ok (fun _ => False) (f δ) (fun b => ∀ H', Same H H' → Q b H')
theorem PDTs.can {X : Cx} {ifs : List Expr} {f : DS → M Bool} (h : PDTs X ifs f) : PTs X ifs (cD X.K f) := by
  obtain ⟨t, p, h⟩ := h
  intro pins s σ H Q I hw
  obtain ⟨Hr, δ, O, E, k⟩ := hw
  exact p pins s σ H Q I (h δ O σ H Q E k)
section
variable {K : PySem.W.Frag} {O : List Addr} {H1 H H' : Hp} {l : Addr} {τ : St} {δ : DS}
/-- a comprehension's state -/
abbrev EC (K : PySem.W.Frag) (O : List Addr) (H1 : Hp) (l : Addr) (H : Hp) (τ : St) (δ : DS) : Prop := EI K (fun _ => none) (l :: O) (fun b => b = l) H1 (l :: O) H τ δ
theorem EC.put {xs ys : List V} (E : EC K O H1 l H τ δ) (hl : H l = some (.lst xs)) : EC K O H1 l (upd H l (.lst ys)) τ δ := by
  have ts : To (l :: O) (l :: O) H (upd H l (.lst ys)) := To.set hl List.mem_cons_self
  refine ⟨⟨(fun _ _ z => nomatch z), fun a ha => ?_, E.ev.len, fun i s hs => ?_, E.ev.dis⟩, E.omr, fun b o n h => ?_, E.om, E.nr1, E.sub⟩
  · by_cases e : a = l
    · subst e; exact .lst upd_same
    · exact (E.ev.oo a ha).upd_ne e
  · have q := E.ev.at_ i s hs
    cases s with
    | un => trivial
    | ex a => exact q
    | vl d =>
      obtain ⟨v, h1, r⟩ := q
      exact ⟨v, h1, r.to ts⟩
    | ow ds =>
      obtain ⟨a, us, h1, h2, h3, r⟩ := q
      exact absurd h2 (E.nr i ds a hs h1)
    | od es =>
      obtain ⟨a, us, h1, h2, h3, r⟩ := q
      exact absurd h2 (E.nr1 i _ a hs trivial h1)
  · rw [upd_ne n]
    exact E.keep b o n h
theorem slot_of {Hr : Hp} {σ : St} {δ : DS} {fr : List (Nat × Str)} (E : Ev K Hr O H σ δ) (n : Nat) (hl : H l = none) : EC K O H l (upd H l (.lst [])) (compSt n fr σ) (List.replicate n .un ++ (fr.map (·.1)).map (slotAt δ)) := by
  have get : ∀ (i : Nat) (s : Sl), (List.replicate n Sl.un ++ (fr.map (·.1)).map (slotAt δ))[i]? = some s → s = .un ∨ ∃ d v, s = .vl d ∧ (compSt n fr σ)[i]? = some (some v) ∧ Rep K O H v d := fun i s h => by
    by_cases hi : i < n
    · rw [List.getElem?_append_left (by simpa using hi), List.getElem?_replicate] at h
      split at h <;> cases h <;> exact .inl rfl
    · rw [List.getElem?_append_right (by simpa using hi), List.length_replicate, List.getElem?_map, List.getElem?_map] at h
      cases q : fr[i - n]? with
      | none => rw [q] at h; cases h
      | some p =>
        rw [q] at h
        have h : slotAt δ p.1 = s := Option.some.inj h
        unfold slotAt at h
        split at h
        · rename_i d hd
          subst h
          obtain ⟨v, hv, r⟩ := E.val hd
          refine .inr ⟨d, v, rfl, ?_, r⟩
          unfold compSt
          rw [List.getElem?_append_right (by simpa using hi), List.length_replicate, List.getElem?_map, q]
          show some (σ[p.1]?).join = _
          rw [hv]
          rfl
        · exact .inl h.symm
  have to : To O (l :: O) H (upd H l (.lst [])) := To.own hl
  refine ⟨⟨(fun _ _ z => nomatch z), fun a ha => ?_, by simp [compSt], fun i s hs => ?_, fun i j a ds es hij h1 => ?_⟩, fun a ha => .inl ha, fun b o nb h => by rw [upd_ne nb]; exact h, fun a ha => .inl ha, fun i ds a h1 ho => ?_, fun a ha => ha⟩
  · rcases List.mem_cons.mp ha with rfl | ha
    · exact .lst upd_same
    · exact (E.oo a ha).new hl
  · rcases get i s hs with rfl | ⟨d, v, rfl, hv, r⟩
    · trivial
    · exact ⟨v, hv, r.to to⟩
  · rcases get i _ h1 with z | ⟨_, _, z, _⟩ <;> cases z
  · rcases get i _ h1 with z | ⟨_, _, z, _⟩ <;> (cases z; exact ho.elim)
end
section
variable {X : Cx} {G : XD → Hp → Prop} {fi : DS → M (List D)} {c : DS → M Bool} {f : DS → M D} {t : D → DS → Option DS}
theorem ok_nX {α : Type} {g : XD → Prop} {f : DS → M α} {δ : DS} {k : α → Prop} (h : ok g (nX f δ) k) : ok (fun _ => False) (f δ) k := ok_noX h
theorem pd_compG {cl : List (Str × Addr)} {fr : List (Nat × Str)} {tn : List Str} {elt iter tg : Expr} {ifs : List Expr} {scope : Scope} {pos : Pos} (hc : X.calm = true)
    (hkind : scope.kind = .function) (hcell : ∀ y ∈ scope.names, y.2 ≠ .cell) (hclos : closureFor scope X.env = pure cl) (hsub : ∀ y c, cl.lookup y = some c → X.env.cells.lookup y = some c)
    (hhas : ∀ y ∈ (relabel scope X.env).names, (y.2 = .cell ∨ y.2 = .free) → ∃ c, cl.lookup y.1 = some c) (hfr : ∀ p ∈ fr, X.N[p.1]? = some p.2 ∧ X.env.kindOf p.2 = some .cell ∧ (compEnvC scope cl 0 X.env).kindOf p.2 = some .cell ∧ ∃ c, cl.lookup p.2 = some c) (hnames : ∀ y ∈ scope.names, y.2 = .local → scope.names.lookup y.1 = some .local)
    (hi : PDI X G tg iter fi) (hg : ∀ C s3 H3 fp, PDG (compCxG X scope cl fr tn C s3 H3 fp) tg t) (hcs : ∀ C s3 H3 fp, PDTs (compCxG X scope cl fr tn C s3 H3 fp) ifs c) (he : ∀ C s3 H3 fp, PD (compCxG X scope cl fr tn C s3 H3 fp) (fun _ _ => False) elt f) (hs : ∀ x, foldedSetIterable iter X.env x = pure x := by intro _; rfl) :
    PD X G (.ListComp elt [⟨tg, iter, ifs, 0⟩] scope pos) (dCompG tn.length (fr.map (·.1)) t fi c f) := by
  obtain ⟨wi, pi, hi⟩ := hi
  refine ⟨_, pe_compG (g := gD X.K t) (tc := cD X.K c) (te := tD X.K (fun _ _ => False) f) hc hkind hcell hclos hsub hhas hfr hnames pi (fun C s3 H3 fp => (hg C s3 H3 fp).can) (fun C s3 H3 fp => (hcs C s3 H3 fp).can) (fun C s3 H3 fp => (he C s3 H3 fp).can) hs, @fun Hr δ O σ H Q E k => ?_⟩
  refine hi δ O σ H _ E (ok_mono (ok_thn k) fun ds z J H1 s1 Y => ?_)
  by_cases hsz : small ds.length = true
  case neg =>
    rw [if_neg hsz] at z
    exact z.elim
  rw [if_pos hsz] at z
  intro l hl
  have E1 := E.same s1
  have kk := ok_mono (ok_thn z) fun ys (q : ∀ v H', Same H H' → Rep X.K O H' v (.list ys) → Q v H') H2 (kp : Kp l H1 H2) r2 => q (.ref l) H2 (s1.trans (kp.same hl)) r2
  refine ⟨fun i m τ xs H2 => m = ds.length - i ∧ i ≤ ds.length ∧ xs.length ≤ i ∧ H2 l = some (.lst xs) ∧ ∃ δc ys, EC X.K O H1 l H2 τ δc ∧ Reps X.K (l :: O) H2 xs ys ∧
    ok (GS G Hr) (compD t (nX c) (nX f) (ds.drop i) δc) (fun rest => ∀ H3, Kp l H1 H3 → Rep X.K O H3 (.ref l) (.list (ys ++ rest)) → Q (.ref l) H3),
    ⟨_, rfl, Nat.zero_le _, Nat.le_refl _, upd_same, _, [], slot_of E1 tn.length hl, .nil, kk⟩, ?_⟩
  rintro i m τ xs H2 ⟨rfl, hi, hx, h2, δc, ys, Ec, ry, kc⟩
  have kp : Kp l H1 H2 := fun b o hb e => Ec.keep b o hb e
  refine ⟨h2, ?_⟩
  have T : To O (l :: O) H1 H2 := kp.to hl
  by_cases hlt : i < ds.length
  · right
    have hd : ds[i]? = some ds[i] := List.getElem?_eq_getElem hlt
    obtain ⟨go, yl⟩ := Y.step (l :: O) H2 T i _ hd
    refine ⟨go, Nat.lt_of_le_of_lt hx (Nat.lt_of_lt_of_le hlt (small_le hsz)), fun x H3 y => ?_⟩
    obtain ⟨s3, rx⟩ := yl x H3 y
    rw [drop_get hd] at kc
    obtain ⟨δ', ht, kc⟩ := ok_lift (ok_thn (show ok (GS G Hr) ((M.lift (t ds[i] δc)).thn _) _ from kc))
    refine ⟨_, _, _, _, δc, δ', ds[i], l :: O, Ec.same s3, rx, ht, fun τ' H4 E4 s4 => ?_⟩
    refine ⟨_, δ', l :: O, E4.ev, ok_mono (ok_nX (ok_thn kc)) fun b zb H5 s5 => ?_⟩
    have E5 := E4.same s5
    have s25 := (s3.trans s4).trans s5
    dsimp only
    cases b with
    | false =>
      rw [if_neg Bool.false_ne_true] at zb ⊢
      exact ⟨_, by omega, rfl, hlt, by omega, s25 _ _ h2, δ', ys, E5, ry.same s25, zb⟩
    | true =>
      rw [if_pos rfl] at zb ⊢
      refine ⟨_, δ', l :: O, E5.ev, ok_GS0 (ok_mono (ok_nX (ok_thn zb)) fun y kz v H6 s6 rv => ?_)⟩
      have h6 : H6 l = some (.lst xs) := s6 _ _ (s25 _ _ h2)
      have ts : To (l :: O) (l :: O) H6 (upd H6 l (.lst (xs ++ [v]))) := To.set h6 List.mem_cons_self
      refine ⟨h6, ds.length - (i + 1), by omega, rfl, hlt, by rw [List.length_append]; show xs.length + 1 ≤ i + 1; omega, upd_same, δ', ys ++ [y], EC.put (E5.same s6) h6, (((ry.same s25).same s6).to ts).append (.cons (rv.to ts) .nil), ?_⟩
      exact ok_mono (ok_thn kz) fun rest q H7 kp7 r7 => q H7 kp7 (by rw [List.append_assoc] at r7; exact r7)
  · left
    have e : i = ds.length := by omega
    subst e
    rw [List.drop_length] at kc
    refine ⟨Y.stop (l :: O) H2 T, kc H2 kp ?_⟩
    rw [List.append_nil]
    exact .lst (.inl h2) (nin E1.oo hl) (ry.to (.less fun b hb => List.mem_cons_of_mem _ hb))
end
/-! evaluation -/
section
variable {δ δ' : DS} {fi : DS → M (List D)} {c : DS → M Bool} {f : DS → M D} {t : D → DS → Option DS} {fa : DS → M (List D)} {g : DS → M D} {x y d : D} {ds ys xs : List D} {n : Nat} {js : List Nat} {gs gt : DS → M Out} {r : M Out} {z : Str}
theorem ev_compG (h1 : fi δ = M.ret ds) (hz : small ds.length = true) (h3 : compD t (nX c) (nX f) ds (List.replicate n .un ++ js.map (slotAt δ)) = M.ret ys) : dCompG n js t fi c f δ = M.ret (.list ys) := by
  unfold dCompG; rw [h1, thn_ret, if_pos hz, h3]; rfl
theorem ev_compC (h1 : t d δ = some δ') (h2 : f δ' = M.ret y) (h3 : compD t (nX dYes) (nX f) ds δ' = M.ret ys) : compD t (nX dYes) (nX f) (d :: ds) δ = M.ret (y :: ys) := by
  show (M.lift (t d δ)).thn _ = _
  rw [h1, lift_some, thn_ret]
  show (M.ret true).thn _ = _
  rw [thn_ret, if_pos rfl]
  show (noX (f δ')).thn _ = _
  rw [h2]
  show (compD _ _ _ _ _).thn _ = _
  rw [h3]
  rfl
theorem ev_rngS {rng : List D → Option (List D)} (h1 : fa δ = M.ret xs) (h2 : rng xs = some ds) : dRng rng fa δ = M.ret ds := by unfold dRng; rw [h1, thn_ret, h2]; rfl
theorem ev_forG (h1 : fi δ = M.ret ds) {r : M Out} (h3 : forD (bodyD t gs) ds δ = r) : gForI fi t gs δ = r := by unfold gForI; rw [h1, thn_ret]; exact h3
end
end DL
/-! a list, a tuple or a text -/
namespace DL
open PySem PySem.Spec PyProof.Rows L2
section
variable {X : Cx} {G : XD → Hp → Prop} {tg iter : Expr} {f : DS → M D}
theorem PI.or {w1 w2 : TI} (h1 : PI X tg iter w1) (h2 : PI X tg iter w2) : PI X tg iter (fun σ H R => w1 σ H R ∨ w2 σ H R) := by
  intro pins s σ H R I h
  rcases h with h | h
  · exact h1 pins s σ H R I h
  · exact h2 pins s σ H R I h
def anyD : D → Option (List D)
  | .list ds => some ds
  | .tuple ds => some ds
  | .str z => some (signsD z)
  | _ => none
def dAny (f : DS → M D) : DS → M (List D) := fun δ => (f δ).thn fun d => M.lift (anyD d)
theorem pdi_any (h : PD X G iter f) : PDI X G tg iter (dAny f) := by
  obtain ⟨w1, p1, h1⟩ := pdi_seq (tg := tg) h
  obtain ⟨w2, p2, h2⟩ := pdi_str (tg := tg) h
  refine ⟨_, PI.or p1 p2, fun δ O σ H R E k => ?_⟩
  have d1 : ∀ d, f δ = some (.ok d) → (∀ z, d ≠ .str z) → dSeq f δ = dAny f δ := fun d e n => by
    unfold dSeq dAny
    rw [e]
    show M.lift (seqD d) = M.lift (anyD d)
    cases d with
    | str z => exact absurd rfl (n z)
    | _ => rfl
  match e : f δ with
  | none => unfold dAny at k; rw [e] at k; exact k.elim
  | some (.error x) =>
    refine .inl (h1 δ O σ H R E ?_)
    have e1 : dAny f δ = dSeq f δ := by unfold dAny dSeq; rw [e]; rfl
    rw [← e1]
    exact k
  | some (.ok d) =>
    match d, e with
    | .str z, e =>
      refine .inr (h2 δ O σ H R E ?_)
      have e1 : dAny f δ = dSigns f δ := by unfold dAny dSigns; rw [e]; rfl
      rw [← e1]
      exact k
    | .none, e => exact .inl (h1 δ O σ H R E (by rw [d1 _ e (fun z q => nomatch q)]; exact k))
    | .bool b, e => exact .inl (h1 δ O σ H R E (by rw [d1 _ e (fun z q => nomatch q)]; exact k))
    | .int b, e => exact .inl (h1 δ O σ H R E (by rw [d1 _ e (fun z q => nomatch q)]; exact k))
    | .list b, e => exact .inl (h1 δ O σ H R E (by rw [d1 _ e (fun z q => nomatch q)]; exact k))
    | .tuple b, e => exact .inl (h1 δ O σ H R E (by rw [d1 _ e (fun z q => nomatch q)]; exact k))
    | .dict b, e => exact .inl (h1 δ O σ H R E (by rw [d1 _ e (fun z q => nomatch q)]; exact k))
theorem ev_any {δ : DS} {x : D} {ds : List D} (h1 : f δ = M.ret x) (h2 : anyD x = some ds) : dAny f δ = M.ret ds := by unfold dAny; rw [h1, thn_ret, h2]; rfl
end
end DL
/-! NEW LISTS that a def holds; an owned list lent to an expression that tells no list -/
namespace DL
open PySem PySem.Spec PyProof.Rows L2
section
variable {X : Cx} {G : XD → Hp → Prop} {a b c e : Expr} {es : List Expr} {f : DS → M D} {fa : DS → M (List D)} {pos pos' : Pos} {sts : List Stmt} {gs : DS → M Out}
variable {K : PySem.W.Frag} {Hr : Hp} {R0 : List Addr} {P0 : Addr → Prop} {H0 H H' : Hp} {O : List Addr} {σ : St} {δ : DS}
theorem EI.newL {i : Nat} {l : Addr} {xs : List V} {ds : List D} (E : EI K Hr R0 P0 H0 O H σ δ) (hl : H l = none) (rx : Reps K O H xs ds) : EI K Hr R0 P0 H0 (l :: O) (upd H l (.lst xs)) (σ.set i (some (.ref l))) (δ.set i (.ow ds)) := by
  have nO : l ∉ O := nin E.ev.oo hl
  have tO : To O (l :: O) H (upd H l (.lst xs)) := To.own hl
  refine ⟨⟨fun b o h => by have q := E.ev.root b o h; rw [upd_ne (ne_of_none q hl)]; exact q, fun a ha => ?_, by rw [List.length_set, List.length_set]; exact E.ev.len, fun j s h => ?_, fun j k a ds es hjk h1 h2 h3 h4 => ?_⟩, fun a ha => ?_, fun b o n h => ?_, fun a ha => ?_, fun j ds a h1 ho h2 => ?_, fun a ha => List.mem_cons_of_mem _ (E.sub a ha)⟩
  · rcases List.mem_cons.mp ha with rfl | ha
    · exact .lst upd_same
    · exact (E.ev.oo a ha).new hl
  · rw [get_set] at h ⊢
    by_cases hij : i = j
    · rw [if_pos hij] at h ⊢
      by_cases hz : i < δ.length
      · rw [if_pos hz] at h
        rw [if_pos (by rw [E.ev.len]; exact hz)]
        cases h
        exact ⟨l, xs, rfl, List.mem_cons_self, upd_same, rx.to tO⟩
      · rw [if_neg hz] at h; cases h
    · rw [if_neg hij] at h ⊢
      exact (E.ev.at_ j s h).to tO (hd_new hl) fun a xs h1 h2 _ _ => ⟨List.mem_cons_of_mem _ h1, by rw [upd_ne (ne_of_none h2 hl)]; exact h2⟩
  · rw [get_set] at h1 h2 h3 h4
    by_cases hij : i = j
    · rw [if_pos hij] at h1 h3
      have ha : a = l := by
        split at h3
        · cases h3; rfl
        · cases h3
      have hik : ¬ i = k := fun z => hjk (hij.symm.trans z)
      rw [if_neg hik] at h2 h4
      obtain ⟨l', xs, q1, q2, q3, _⟩ := E.ev.at_ k _ h2
      rw [h4] at q1
      cases q1
      rw [ha] at q2
      exact nO q2
    · rw [if_neg hij] at h1 h3
      by_cases hik : i = k
      · rw [if_pos hik] at h4
        have ha : a = l := by
          split at h4
          · cases h4; rfl
          · cases h4
        obtain ⟨l', xs, q1, q2, q3, _⟩ := E.ev.at_ j _ h1
        rw [h3] at q1
        cases q1
        rw [ha] at q2
        exact nO q2
      · rw [if_neg hik] at h2 h4
        exact E.ev.dis j k a ds es hjk h1 h2 h3 h4
  · rcases List.mem_cons.mp ha with rfl | ha
    · refine .inr ?_
      cases q : Hr a with
      | none => rfl
      | some o =>
        rw [E.ev.root a o q] at hl
        cases hl
    · exact E.omr a ha
  · have q := E.keep b o n h
    rw [upd_ne (ne_of_none q hl)]
    exact q
  · rcases List.mem_cons.mp ha with rfl | ha
    · by_cases hp : P0 a
      · exact .inr (.inl hp)
      · refine .inr (.inr ?_)
        cases q : H0 a with
        | none => rfl
        | some o =>
          rw [E.keep a o hp q] at hl
          cases hl
    · exact E.om a ha
  · rw [get_set] at h1 h2
    by_cases hij : i = j
    · rw [if_pos hij] at h2
      have ha : a = l := by
        split at h2
        · cases h2; rfl
        · cases h2
      rw [ha]
      exact fun z => nO (E.sub l z)
    · rw [if_neg hij] at h1 h2
      exact E.nr1 j ds a h1 ho h2
/-- an expression that makes a new list -/
def PDN (X : Cx) (G : XD → Hp → Prop) (e : Expr) (f : DS → M (List D)) : Prop :=
  ∃ t, PE X e t ∧ ∀ {Hr : Hp} (δ : DS) (O : List Addr) (σ : St) (H : Hp) (Q : VK), Ev X.K Hr O H σ δ → ok (GS G Hr) (f δ) (fun ds => ∀ l xs H1, Same H H1 → H1 l = none → Reps X.K O H1 xs ds → Q (.ref l) (upd H1 l (.lst xs))) → t σ H Q
def nLst (fa : DS → M (List D)) : DS → M (List D) := fun δ => (fa δ).thn fun ds => if small ds.length then M.ret ds else none
theorem pdn_lst (h : PDA X G es fa) : PDN X G (.List es pos) (nLst fa) := by
  obtain ⟨_, t, p, h⟩ := h
  refine ⟨_, pe_lst p, fun δ O σ H Q E k => ?_⟩
  refine h δ O σ H _ E (ok_mono (ok_thn k) fun ds z vs H1 s1 rs => ?_)
  by_cases hz : small ds.length = true
  · rw [if_pos hz] at z
    exact ⟨by rw [rs.length]; exact small_le hz, fun p hp => z p vs H1 s1 hp rs⟩
  · rw [if_neg hz] at z
    exact z.elim
/-- list(x) -/
def nList (fa : DS → M (List D)) : DS → M (List D) := fun δ => (fa δ).thn fun ds => match ds with
  | [.list xs] => M.ret xs
  | [.tuple xs] => M.ret xs
  | _ => none
def gNewL (i : Nat) (f : DS → M (List D)) : DS → M Out := fun δ => (f δ).thn fun ds => M.ret (.nx (δ.set i (.ow ds)))
theorem pd_newL {i : Nat} {x : Str} {f : DS → M (List D)} (hN : X.N.Nodup) (hi : X.N[i]? = some x) (hx : Loc X.env.scope x) (he : PDN X G e f) (hs : swapsWith e (some (.Name x pos')) pos.line X.env = pure false := by rfl) (hf : X.fn x = true ∨ X.env.scope.names.lookup x = some .local := by first | exact .inl rfl | exact .inr rfl | assumption) :
    PDS X G (.Assign [.Name x pos'] e pos) (gNewL i f) := by
  obtain ⟨t, p, he⟩ := he
  refine ⟨_, ps_set hN hi hx p hs hf, fun R0 P0 H0 δ O σ H Dn E k => ?_⟩
  exact he δ O σ H _ E.ev (ok_mono (ok_thn k) fun ds z l xs H1 s1 hl rx => z (l :: O) _ _ ((E.same s1).newL hl rx))
/-! ### lent -/
mutual
/-- data without a list -/
def flatD : D → Bool
  | .tuple ds => flatDs ds
  | .list _ => false
  | .dict _ => false
  | _ => true
def flatDs : List D → Bool
  | [] => true
  | d :: ds => flatD d && flatDs ds
end
mutual
theorem Rep.flat {O' : List Addr} : ∀ {v : V} {d : D}, flatD d = true → Rep K O H v d → Rep K O' H v d
  | _, _, _, .non => .non
  | _, _, _, .bl b => .bl b
  | _, _, _, .int i => .int i
  | _, _, _, .str x => .str x
  | _, _, h, .tup q r => .tup q (Reps.flat (by simpa only [flatD] using h) r)
  | _, _, h, .lst _ _ _ => by simp [flatD] at h
  | _, _, h, .lstK _ _ => by simp [flatD] at h
  | _, _, h, .dct _ _ _ _ => by simp [flatD] at h
  | _, _, h, .ins _ _ _ _ _ => by simp [flatD, insD] at h
theorem Reps.flat {O' : List Addr} : ∀ {vs : List V} {ds : List D}, flatDs ds = true → Reps K O H vs ds → Reps K O' H vs ds
  | _, _, _, .nil => .nil
  | _, _, h, .cons r rs => by
    simp only [flatDs, Bool.and_eq_true] at h
    exact .cons (Rep.flat h.1 r) (Reps.flat h.2 rs)
end
theorem Ev.frz {i : Nat} (E : Ev K Hr O H σ δ) : ∃ O', Ev K Hr O' H σ (DL.frz i δ) := by
  cases q : δ[i]? with
  | none => exact ⟨O, by unfold DL.frz; rw [q]; exact E⟩
  | some s =>
    cases s with
    | un => exact ⟨O, by unfold DL.frz; rw [q]; exact E⟩
    | vl d => exact ⟨O, by unfold DL.frz; rw [q]; exact E⟩
    | ex a => exact ⟨O, by unfold DL.frz; rw [q]; exact E⟩
    | od es => exact ⟨O, by unfold DL.frz; rw [q]; exact E⟩
    | ow ds =>
      have e : DL.frz i δ = δ.set i (.vl (.list ds)) := by unfold DL.frz; rw [q]
      rw [e]
      obtain ⟨l, xs, h1, h2, h3, r⟩ := E.at_ i _ q
      have hi : i < δ.length := (List.getElem?_eq_some_iff.mp q).1
      have tl : To O (O.filter (· ≠ l)) H H := .less fun b hb => (List.mem_filter.mp hb).1
      refine ⟨O.filter (· ≠ l), E.root, fun a ha => E.oo a (List.mem_filter.mp ha).1, by rw [List.length_set]; exact E.len, fun j s h => ?_, fun j k a es es' hjk k1 k2 k3 k4 => ?_⟩
      · rw [get_set] at h
        by_cases hij : i = j
        · rw [if_pos hij, if_pos hi] at h
          cases h
          rw [← hij]
          exact ⟨.ref l, h1, .lst (.inl h3) (fun z => by have := (List.mem_filter.mp z).2; simp at this) (r.to tl)⟩
        · rw [if_neg hij] at h
          refine (E.at_ j s h).to tl (fun a kvs g1 g2 => ⟨List.mem_filter.mpr ⟨g1, by simpa using ne_of g2 h3 (by intro z; cases z)⟩, g2⟩) fun a ys g1 g2 g3 g4 => ⟨?_, g2⟩
          obtain ⟨es, rfl⟩ := g4
          refine List.mem_filter.mpr ⟨g1, ?_⟩
          have hne : a ≠ l := fun z => by
            subst z
            exact E.dis i j a ds es hij q h h1 g3
          simpa using hne
      · rw [get_set] at k1 k2
        by_cases hij : i = j
        · rw [if_pos hij] at k1
          split at k1 <;> cases k1
        · by_cases hik : i = k
          · rw [if_pos hik] at k2
            split at k2 <;> cases k2
          · rw [if_neg hij] at k1
            rw [if_neg hik] at k2
            exact E.dis j k a es es' hjk k1 k2 k3 k4
def dLend (i : Nat) (f : DS → M D) : DS → M D := fun δ => (f (frz i δ)).thn fun d => if flatD d then M.ret d else none
def dLendT (i : Nat) (f : DS → M Bool) : DS → M Bool := fun δ => f (frz i δ)
theorem pdt_lend {fb : DS → M Bool} (i : Nat) (h : PDT X G e fb) : PDT X G e (dLendT i fb) := by
  obtain ⟨t, p, h⟩ := h
  refine ⟨t, p, fun δ O σ H Q E k => ?_⟩
  obtain ⟨O', E'⟩ := E.frz (i := i)
  exact h _ O' σ H Q E' k
end
section
variable {δ : DS} {f : DS → M D} {fb : DS → M Bool} {fn : DS → M (List D)} {d : D} {b : Bool} {ds : List D} {fa : DS → M (List D)} {i : Nat}
theorem ev_lendT (h : fb (frz i δ) = M.ret b) : dLendT i fb δ = M.ret b := h
theorem ev_newL (h : fn δ = M.ret ds) : gNewL i fn δ = M.ret (.nx (δ.set i (.ow ds))) := by unfold gNewL; rw [h]; rfl
theorem ev_nLst (h : fa δ = M.ret ds) (hz : small ds.length = true) : nLst fa δ = M.ret ds := by unfold nLst; rw [h, thn_ret, if_pos hz]
end
end DL
/-! TEXTS: methods, in, chains of comparisons, f-texts, int(text), slices -/
namespace L2
open PySem PySem.Spec PyProof.Rows
section
variable {X : Cx}
theorem vals_strs : ∀ {ts : List Str} {us : List Value}, Vals (ts.map V.str) us → ∃ l : List (Str × Tok), us = strValues l ∧ l.map (·.1) = ts
  | [], _, .nil => ⟨[], rfl, rfl⟩
  | t :: ts, _, .cons r rs => by
    obtain ⟨l, rfl, e⟩ := vals_strs rs
    obtain ⟨k, rfl⟩ := r
    exact ⟨(t, k) :: l, rfl, by rw [List.map_cons, e]⟩
theorem vals_of_strs : ∀ (l : List (Str × Tok)), Vals ((l.map (·.1)).map V.str) (strValues l)
  | [] => .nil
  | (x, t) :: l => .cons ⟨t, rfl⟩ (vals_of_strs l)
theorem mt_join : MtR X "str.join" (fun x xs H Q => ∃ z p ts, x = .str z ∧ xs = [.ref p] ∧ SqL X.K H p (ts.map V.str) ∧ JoinOk z ts = true ∧ Q (.str (Txt.join z ts)) H) := by
  intro pins s σ H x xs v us Q I rx rs h
  obtain ⟨z, p, ts, rfl, rfl, hq, hj, q⟩ := h
  obtain ⟨t, rfl⟩ := rx
  obtain ⟨u, rfl, r1⟩ := vals1 rs
  cases r1
  obtain ⟨its, rv, pl, _⟩ := I.list hq
  obtain ⟨l, rfl, e⟩ := vals_strs rv
  exact SC.join pl.isList e hj fun t' k => ⟨.str _, H, I.tok k, ⟨t', rfl⟩, q⟩
theorem mt_split : MtR X "str.split" (fun x xs H Q => ∃ z y, x = .str z ∧ xs = [.str y] ∧ (y.length == 0) = false ∧ z.length ≤ sizeLine ∧ (Txt.split z y).length ≤ sizeLine ∧ (Builtin.Str.partsBetween z (Builtin.Str.occurrences z y 0 z.length (z.length + 1)) y.length).length ≤ sizeLine ∧
    ∀ p, H p = none → Q (.ref p) (upd H p (.lst ((Txt.split z y).map V.str)))) := by
  intro pins s σ H x xs v us Q I rx rs h
  obtain ⟨z, y, rfl, rfl, hy, hz, hl, hz2, q⟩ := h
  obtain ⟨t, rfl⟩ := rx
  obtain ⟨u, rfl, t2, rfl⟩ := vals1 rs
  have fin : ∀ (l : List (Str × Tok)) (k : Nat), l.map (·.1) = Txt.split z y → EP X pins σ Q (.ref s.heap.objs.size) { s with heap := s.heap.push { cls := .type "list", data := .seq (strValues l).toArray }, toks := k } := fun l k e => by
    rw [← e] at q hl
    refine ⟨.ref s.heap.objs.size, _, I.laid (o := .lst ((l.map (·.1)).map V.str)) (t' := k) (fun b o e => Heap.get?_push_of_some _ e) (Nat.le_refl _) ⟨by rw [List.length_map]; exact hl, _, 0, vals_of_strs l, Heap.get?_push_size _ rfl⟩, rfl, q _ I.fresh⟩
  cases h1 : (decide (z.length < y.length) || decide (Builtin.Str.strKind z < Builtin.Str.strKind y))
  · cases hf : (Builtin.Str.occurrences z y 0 z.length (z.length + 1)).isEmpty
    · refine call_meets PySem.F.slot_str_split (typeIs_str _ _ _) PySem.F.entry_str_split (PySem.F.args_str_split_2 _ _) (meets_str_split_sep z y t t2 h1 hy hf hz hz2) ?_
      rw [strsFrom_eq]
      exact fin (numbered s.toks _) _ ((numbered_texts _ _).trans ((if_neg (ne_true_of_eq_false h1)).trans (if_neg (ne_true_of_eq_false hf))).symm)
    · exact call_meets PySem.F.slot_str_split (typeIs_str _ _ _) PySem.F.entry_str_split (PySem.F.args_str_split_2 _ _) (meets_str_split_not_found z y t t2 h1 hy hf)
        (fin [(z, t)] _ ((if_neg (ne_true_of_eq_false h1)).trans (if_pos hf)).symm)
  · exact call_meets PySem.F.slot_str_split (typeIs_str _ _ _) PySem.F.entry_str_split (PySem.F.args_str_split_2 _ _) (meets_str_split_cannot_occur z y t t2 h1)
      (fin [(z, t)] _ (if_pos h1).symm)
theorem call_int_text : CallR X (.type "int") (fun xs H Q => ∃ z n, xs = [.str z] ∧ PySem.intText? z = some n ∧ z.length ≤ 640 ∧ Q (.int n) H) := by
  intro pins s σ H xs us Q I r h
  obtain ⟨z, n, rfl, hn, hl, q⟩ := h
  obtain ⟨u, rfl, t, rfl⟩ := vals1 r
  exact PySem.W.KIN.call_text hn hl ⟨.int n, H, I.tok _, ⟨_, rfl⟩, q⟩
end
end L2
/-! TEXTS over data -/
namespace L2
open PySem PySem.Spec PyProof.Rows
section
variable {X : Cx}
theorem op_le_str : OpR X (compareOp .LtE) (fun x y H Q => ∃ i j, x = .str i ∧ y = .str j ∧ Q (.bl (!decide (j.cps.toList < i.cps.toList))) H) := by
  intro pins s σ H x y v u Q I rx ry h
  obtain ⟨i, j, rfl, rfl, q⟩ := h
  obtain ⟨t, rfl⟩ := rx
  obtain ⟨t', rfl⟩ := ry
  exact PySem.P.le_str (fin_bl I q rfl)
theorem sl_str : SlR X (fun x lo hi H Q => ∃ z, x = .str z ∧ z.length ≤ sizeLine ∧ Q (.str (Txt.slice z lo hi)) H) := by
  intro pins s σ H x v vl vu lo hi sl Q I rx hs pl pu h
  obtain ⟨z, rfl, hz, q⟩ := h
  obtain ⟨t, rfl⟩ := rx
  refine ⟨"str", _, PySem.F.slot_str_getitem.lookup, typeIs_str _ _ _, ?_⟩
  obtain ⟨l, rfl, rfl⟩ : ∃ l : Option (Int × Tok), vl = partValue l ∧ lo = l.map (·.1) := by
    cases pl with
    | none => exact ⟨none, rfl, rfl⟩
    | int i t => exact ⟨some (i, t), rfl, rfl⟩
  obtain ⟨u, rfl, rfl⟩ : ∃ u : Option (Int × Tok), vu = partValue u ∧ hi = u.map (·.1) := by
    cases pu with
    | none => exact ⟨none, rfl, rfl⟩
    | int i t => exact ⟨some (i, t), rfl, rfl⟩
  refine wpAny_getItem_str_slice (l := l) (u := u) (st := none) ?_ rfl (post_val_or_str ⟨Nat.le_trans (Txt.slice_le z _ _) hz, fun t' k => ⟨.str _, H, I.tok k, ⟨t', rfl⟩, q⟩⟩)
  obtain ⟨o, h1, h2, h3⟩ := hs
  exact ⟨o, h1, h2, h3⟩
def tFV (te : TE) : TE := fun σ H Q => te σ H fun x H1 => (∃ z, x = .str z ∧ z.length ≤ sizeLine ∧ Q (.str z) H1) ∨ ∃ i : Int, x = .int i ∧ i.natAbs.log2 < 1920 ∧ Q (.str (Str.ofString (toString i))) H1
/-- the parts of an f-text, behind out -/
def tJoin : List TE → Str → TE
  | [], out => fun σ H Q => out.length ≤ sizeLine ∧ Q (.str out) H
  | t :: ts, out => fun σ H Q => t σ H fun x H1 => ∃ y, x = .str y ∧ (out ++ y).length ≤ sizeLine ∧ tJoin ts (out ++ y) σ H1 Q
inductive PJ (X : Cx) : List Expr → List TE → Prop
  | nil : PJ X [] []
  | cons {e : Expr} {es : List Expr} {t : TE} {ts : List TE} (h : PE X e t) (hs : PJ X es ts) (he : evalEach (e :: es) X.env = eval e X.env :: evalEach es X.env) : PJ X (e :: es) (t :: ts)
end
end L2
namespace DL
open PySem PySem.Spec PyProof.Rows L2
section
variable {X : Cx} {G : XD → Hp → Prop} {a b c e o : Expr} {es : List Expr} {f g k : DS → M D} {fa : DS → M (List D)} {pos apos cpos : Pos}
/-! ### methods of texts -/
def DMt (X : Cx) (id : String) (h : Str → List D → Option D) : Prop :=
  ∃ r, MtR X id r ∧ ∀ (O : List Addr) (H : Hp) (z : Str) (xs : List D) (d : D) (vs : List V) (Q : VK), (∀ l ∈ O, Mu H l) → Reps X.K O H vs xs → h z xs = some d → (∀ v' H', Same H H' → Rep X.K O H' v' d → Q v' H') → r (.str z) vs H Q
def dMeth (h : Str → List D → Option D) (f : DS → M D) (fa : DS → M (List D)) : DS → M D := fun δ => (f δ).thn fun d => match d with
  | .str z => (fa δ).thn fun xs => M.lift (h z xs)
  | _ => none
theorem pd_meth {id : String} {name : Str} {h : Str → List D → Option D} (slot : Slot "str" name id) (hty : typeOf (.builtin id) = pure (.type "method_descriptor")) (hm : DMt X id h) (ho : PD X G o f) (ha : PDA X G (e :: es) fa)
    (hbase : attributeBase o name X.env (eval o X.env) = eval o X.env := by rfl)
    (hfew : ((backTo cpos (starEach (e :: es) X.env)).all (fun x => !x.1) && (backToKw cpos (keywordEach [] X.env)).all (fun x => x.1.isSome)
      && decide ((e :: es).length + ([] : List Keyword).length + (if ([] : List Keyword).isEmpty then 0 else 1) < 30)) = true := by rfl)
    (hline : (apos.endLine == cpos.line) = true := by rfl) (hs : starEach (e :: es) X.env = (false, eval e X.env) :: starEach es X.env := by rfl) (hplain : (backTo cpos (starEach es X.env)).any (·.1) = false := by rfl) :
    PD X G (.Call (.Attribute o name apos) (e :: es) [] cpos) (dMeth h f fa) := by
  obtain ⟨r, hr, hm⟩ := hm
  obtain ⟨t, p, ho⟩ := ho
  obtain ⟨_, u, q, ha⟩ := ha
  refine ⟨_, pe_bm PySem.F.plainAttrs_str slot hty hr p q hbase hfew hline hs hplain, fun δ O σ H Q E k => ?_⟩
  refine ho δ O σ H _ E (ok_mono (ok_thn k) fun d z v H1 s1 rd => ?_)
  match d, z, rd with
  | .str w, z, rd =>
    rw [rd.str_inv]
    refine ⟨rfl, ha δ O σ H1 _ (E.same s1) (ok_mono (ok_thn z) fun xs zz vs H2 s2 rs => ?_)⟩
    obtain ⟨y, hy, zz⟩ := ok_lift zz
    exact hm O H2 w xs y vs Q (E.same (s1.trans s2)).oo rs hy fun v' H3 s3 r3 => zz v' H3 ((s1.trans s2).trans s3) r3
def sZfill (z : Str) : List D → Option D
  | [.int i] => if PadOk i then some (.str (Txt.zfill z i)) else none
  | _ => none
def sFind (z : Str) : List D → Option D
  | [.str y] => some (.int (Txt.find z y))
  | _ => none
def sPartition (z : Str) : List D → Option D
  | [.str y] => if ((y.length == 0) == false && small z.length) = true then some (.tuple [.str (Txt.partition z y).1, .str (Txt.partition z y).2.1, .str (Txt.partition z y).2.2]) else none
  | _ => none
def strsOf : List D → Option (List Str)
  | [] => some []
  | .str z :: r => (strsOf r).map (z :: ·)
  | _ => none
theorem strsOf_get : ∀ {ds : List D} {ts : List Str}, strsOf ds = some ts → ds = ts.map PyData.str
  | [], ts, h => by cases h; rfl
  | .str z :: r, ts, h => by
    have h : (strsOf r).map (z :: ·) = some ts := h
    cases e : strsOf r with
    | none => rw [e] at h; cases h
    | some cs => rw [e] at h; cases h; rw [strsOf_get e]; rfl
theorem reps_strs {K : PySem.W.Frag} {O : List Addr} {H : Hp} : ∀ {ts : List Str} {vs : List V}, Reps K O H vs (ts.map PyData.str) → vs = ts.map V.str
  | [], _, .nil => rfl
  | t :: ts, _, .cons r rs => by rw [r.str_inv, reps_strs rs]; rfl
theorem reps_of_strs {K : PySem.W.Frag} {O : List Addr} {H : Hp} : ∀ (ts : List Str), Reps K O H (ts.map V.str) (ts.map PyData.str)
  | [] => .nil
  | t :: ts => .cons (.str t) (reps_of_strs ts)
def sJoin (z : Str) : List D → Option D
  | [.list ds] => match strsOf ds with
    | some ts => if JoinOk z ts then some (.str (Txt.join z ts)) else none
    | none => none
  | _ => none
theorem dmt_join : DMt X "str.join" sJoin := by
  refine ⟨_, mt_join, fun O H z xs d vs Q oo rs e k => ?_⟩
  unfold sJoin at e
  split at e
  · rename_i ds
    split at e
    · rename_i ts hts
      by_cases hp : JoinOk z ts = true
      · rw [if_pos hp] at e
        cases e
        obtain ⟨v, rfl, r⟩ := reps1 rs
        obtain ⟨p, us, rfl, h1, rx⟩ := r.lst_inv
        rw [strsOf_get hts] at rx
        rw [reps_strs rx] at h1
        exact ⟨z, p, ts, rfl, rfl, h1, hp, k _ H (Same.refl H) (.str _)⟩
      · rw [if_neg hp] at e; cases e
    · cases e
  · cases e
def splitOk (z y : Str) : Bool := (y.length == 0) == false && small z.length && small (Txt.split z y).length && small (Builtin.Str.partsBetween z (Builtin.Str.occurrences z y 0 z.length (z.length + 1)) y.length).length
def sSplit (z : Str) : List D → Option D
  | [.str y] => if splitOk z y then some (.list ((Txt.split z y).map PyData.str)) else none
  | _ => none
theorem dmt_split : DMt X "str.split" sSplit := by
  refine ⟨_, mt_split, fun O H z xs d vs Q oo rs e k => ?_⟩
  unfold sSplit at e
  split at e
  · rename_i y
    by_cases hp : splitOk z y = true
    · rw [if_pos hp] at e
      cases e
      unfold splitOk at hp
      obtain ⟨hp, h4⟩ := Bool.and_eq_true_iff.mp hp
      obtain ⟨hp, h3⟩ := Bool.and_eq_true_iff.mp hp
      obtain ⟨h1, h2⟩ := Bool.and_eq_true_iff.mp hp
      obtain ⟨v, rfl, r⟩ := reps1 rs
      exact ⟨z, y, rfl, by rw [r.str_inv], by simpa using h1, small_le h2, small_le h3, small_le h4, fun p hp => k _ _ (same_new hp) (rep_newL oo hp (reps_of_strs _))⟩
    · rw [if_neg hp] at e; cases e
  · cases e
/-! ### int(x), x a text too -/
def oIntS : List D → Option D
  | [.str z] => match PySem.intText? z with
    | some n => if z.length ≤ 640 then some (.int n) else none
    | none => none
  | ds => oInt ds
theorem dcall_intS : DCall X (.type "int") oIntS := by
  refine ⟨_, call_int_text.or call_int1, fun O H ds d vs Q oo rs e k => ?_⟩
  unfold oIntS at e
  split at e
  · rename_i z
    split at e
    · rename_i n hn
      by_cases hl : z.length ≤ 640
      · rw [if_pos hl] at e
        cases e
        obtain ⟨v, rfl, r⟩ := reps1 rs
        exact .inl ⟨z, n, by rw [r.str_inv], hn, hl, k _ H (Same.refl H) (.int _)⟩
      · rw [if_neg hl] at e; cases e
    · cases e
  · unfold oInt at e
    split at e
    · cases e
      obtain ⟨v, rfl, r⟩ := reps1 rs
      exact .inr (.inl ⟨_, by rw [r.int_inv], k _ H (Same.refl H) (.int _)⟩)
    · cases e
      obtain ⟨v, rfl, r⟩ := reps1 rs
      exact .inr (.inr ⟨_, by rw [r.bool_inv], k _ H (Same.refl H) (.int _)⟩)
    · cases e
/-! ### comparisons -/
def oLeD : D → D → Option D
  | .int i, .int j => some (.bool (decide (i ≤ j)))
  | .str i, .str j => some (.bool (!decide (j.cps.toList < i.cps.toList)))
  | _, _ => none
theorem dop_leD : DOp X (compareOp .LtE) oLeD := by
  refine ⟨_, op_le.or op_le_str, fun O H x y d v u Q oo rx ry e k => ?_⟩
  unfold oLeD at e
  split at e
  · cases e
    exact .inl ⟨_, _, rx.int_inv, ry.int_inv, k _ H (Same.refl H) (.bl _)⟩
  · cases e
    exact .inr ⟨_, _, rx.str_inv, ry.str_inv, k _ H (Same.refl H) (.bl _)⟩
  · cases e
def oInS : D → D → Option D
  | .str i, .str j => some (.bool (!(Builtin.Str.occurrences j i 0 j.length 1).isEmpty))
  | _, _ => none
theorem dop_inS : DOp X (compareOp .In) oInS := by
  refine ⟨_, op_in_str, fun O H x y d v u Q oo rx ry e k => ?_⟩
  unfold oInS at e
  split at e
  · cases e
    exact ⟨_, _, rx.str_inv, ry.str_inv, k _ H (Same.refl H) (.bl _)⟩
  · cases e
/-- a op b op' c -/
def dChain (h h' : D → D → Option D) (f g k : DS → M D) : DS → M D := fun δ => (f δ).thn fun x => (g δ).thn fun y => (M.lift (h x y)).thn fun z => match z with
  | .bool true => (k δ).thn fun w => M.lift (h' y w)
  | .bool false => M.ret (.bool false)
  | _ => none
/-! ### o[lo:hi], texts too -/
variable {lo hi : Option Expr} {fl fh : DS → M (Option Int)} {p2 : Pos}
def oCutS (lo hi : Option Int) : D → Option D
  | .str z => if small z.length then some (.str (Txt.slice z lo hi)) else none
  | d => oCut lo hi d
def dCutS (f : DS → M D) (fl fh : DS → M (Option Int)) : DS → M D := fun δ => (f δ).thn fun x => (fl δ).thn fun l => (fh δ).thn fun u => M.lift (oCutS l u x)
theorem pd_cutS (he : PD X G e f) (hl : PDO X G lo fl) (hh : PDO X G hi fh) : PD X G (.Subscript e (.Slice lo hi none p2) pos) (dCutS f fl fh) := by
  obtain ⟨t, p, he⟩ := he
  obtain ⟨tl, pl, hl⟩ := hl
  obtain ⟨th, ph, hh⟩ := hh
  refine ⟨_, pe_slice (sl_str.or (sl_list.or sl_tup)) p pl ph, fun δ O σ H Q E k => ?_⟩
  refine he δ O σ H _ E (ok_mono (ok_thn k) fun d z v H1 s1 r => ?_)
  refine hl δ O σ H1 _ (E.same s1) (ok_mono (ok_thn z) fun l z H2 s2 => ?_)
  refine hh δ O σ H2 _ (E.same (s1.trans s2)) (ok_mono (ok_thn z) fun u z H3 s3 => ?_)
  obtain ⟨y, hy, z⟩ := ok_lift z
  have r3 := (r.same s2).same s3
  have s03 := (s1.trans s2).trans s3
  have E3 := E.same s03
  cases d with
  | str w =>
    have hy : (if small w.length = true then some (PyData.str (Txt.slice w l u)) else none) = some y := hy
    by_cases hw : small w.length = true
    · rw [if_pos hw] at hy
      cases hy
      exact .inl ⟨w, r3.str_inv, small_le hw, z _ _ s03 (.str _)⟩
    · rw [if_neg hw] at hy; cases hy
  | list ds =>
    cases hy
    obtain ⟨a, xs, rfl, h1, rs⟩ := r3.lst_inv
    exact .inr (.inl ⟨a, xs, rfl, h1, fun p hp => z _ _ (s03.trans (same_new hp)) (rep_newL E3.oo hp (rs.cut l u))⟩)
  | tuple ds =>
    have hy : (if HT.sIx ds.length 0 l = 0 ∧ HT.sIx ds.length ds.length u = ds.length then none else some (PyData.tuple (cutD ds l u))) = some y := hy
    by_cases hw : HT.sIx ds.length 0 l = 0 ∧ HT.sIx ds.length ds.length u = ds.length
    · rw [if_pos hw] at hy; cases hy
    · rw [if_neg hw] at hy
      cases hy
      obtain ⟨a, xs, rfl, h1, rs⟩ := r3.tup_inv
      exact .inr (.inr ⟨a, xs, rfl, h1, by rw [rs.length]; exact hw, fun p hp => z _ _ (s03.trans (same_new hp)) (rep_newT hp (rs.cut l u))⟩)
  | _ => cases hy
/-! ### f-texts -/
def txtOf : D → Option Str
  | .str z => if small z.length then some z else none
  | .int i => if i.natAbs.log2 < 1920 then some (Str.ofString (toString i)) else none
  | _ => none
def dFV (f : DS → M D) : DS → M D := fun δ => (f δ).thn fun d => match txtOf d with
  | some z => M.ret (.str z)
  | none => none
def joinD : List (DS → M D) → Str → DS → M D
  | [], out => fun _ => if small out.length then M.ret (.str out) else none
  | f :: fs, out => fun δ => (f δ).thn fun d => match d with
    | .str y => if small (out ++ y).length then joinD fs (out ++ y) δ else none
    | _ => none
inductive PDJ (X : Cx) (G : XD → Hp → Prop) : List Expr → List (DS → M D) → Prop
  | nil : PDJ X G [] []
  | cons {e : Expr} {es : List Expr} {f : DS → M D} {fs : List (DS → M D)} (h : PD X G e f) (hs : PDJ X G es fs) (he : evalEach (e :: es) X.env = eval e X.env :: evalEach es X.env := by rfl) : PDJ X G (e :: es) (f :: fs)
/-! ### a name of the file's top -/
end
end DL
/-! name = [a comprehension] -/
namespace L2
open PySem PySem.Spec PyProof.Rows
section
variable {X : Cx}
end
end L2
namespace DL
open PySem PySem.Spec PyProof.Rows L2
section
variable {X : Cx} {G : XD → Hp → Prop} {fi : DS → M (List D)} {c : DS → M Bool} {f : DS → M D} {t : D → DS → Option DS}
end
end DL
/-! min of many whole numbers: handed in one by one, or as a list -/
namespace L2
open PySem PySem.Spec PyProof.Rows
section
variable {prog : Program} {w : World} {A : Around} {E : Value → Shared → Prop} {s : Shared}
/-- the least of some numbers -/
def minL : List Int → Int
  | [] => 0
  | a :: r => r.foldl min a
/-- values that are these whole numbers -/
theorem vals_intsT : ∀ {is : List Int} {vs : List Value}, Vals (is.map V.int) vs → ∃ ts : List (Int × Tok), ts.map (·.1) = is ∧ vs = ts.map fun p => .int p.1 p.2
  | [], _, h => by cases h; exact ⟨[], rfl, rfl⟩
  | i :: is, _, h => by
    cases h with
    | cons r rs =>
      obtain ⟨t, rfl⟩ := r
      obtain ⟨ts, e, rfl⟩ := vals_intsT rs
      exact ⟨(i, t) :: ts, by rw [List.map_cons, e], rfl⟩
end
section
variable {X : Cx}
end
end L2
namespace DL
open PySem PySem.Spec PyProof.Rows L2
section
variable {X : Cx}
def oMinM : List D → Option D
  | [.int a, .int b, .int c, .int d] => some (.int (minL [a, b, c, d]))
  | [.list ds] => match intsOf ds with
    | some [] => none
    | some is => some (.int (minL is))
    | none => none
  | _ => none
end
end DL
/-! a text so many times -/
namespace L2
open PySem PySem.Spec PyProof.Rows
section
variable {X : Cx}
end
end L2
namespace DL
open PySem PySem.Spec PyProof.Rows L2
section
variable {X : Cx}
def oMulS : D → D → Option D
  | .str z, .int n => if 0 ≤ n ∧ n ≤ 1000 ∧ z.length ≤ 1000 then some (.str (Txt.mul z n)) else none
  | _, _ => none
end
end DL
/-! sorted(list of whole numbers) -/
namespace L2
open PySem PySem.Spec PyProof.Rows
section
variable {X : Cx}
end
end L2
namespace DL
open PySem PySem.Spec PyProof.Rows L2
section
variable {X : Cx}
def oSorted : List D → Option D
  | [.list ds] => match intsOf ds with
    | some is => if is.length < 64 then some (.list ((PySem.W.sortI is).map PyData.int)) else none
    | none => none
  | _ => none
end
end DL
/-! defs that tell a new list of things without lists: own lists may be lent to them -/
namespace DL
open PySem PySem.Spec PyProof.Rows L2
/-- d is a list of flat things, and k holds of every new one -/
def NewOf (K : PySem.W.Frag) (H : Hp) (k : V → Hp → Prop) (d : D) : Prop := ∃ ds, d = .list ds ∧ flatDs ds = true ∧ ∀ l xs H', Same H H' → H l = none → H' l = some (.lst xs) → Reps K [] H' xs ds → k (.ref l) H'
/-- an expression that makes a new list of flat things -/
def PDF (X : Cx) (G : XD → Hp → Prop) (e : Expr) (f : DS → M D) : Prop :=
  ∃ t, PE X e t ∧ ∀ {Hr : Hp} (δ : DS) (O : List Addr) (σ : St) (H : Hp) (Q : VK), Ev X.K Hr O H σ δ → ok (GS G Hr) (f δ) (NewOf X.K H Q) → t σ H Q
def FinF (K : PySem.W.Frag) (Hr : Hp) (R0 : List Addr) (H0 : Hp) (Dn : Ends) : Out → Prop
  | .rt d => NewOf K H0 Dn.rt d
  | _ => False
def PDSsF (X : Cx) (G : XD → Hp → Prop) (st : List Stmt) (g : DS → M Out) : Prop :=
  ∃ t, PSs X st t ∧ ∀ {Hr : Hp} (R0 : List Addr) (H0 : Hp) (δ : DS) (O : List Addr) (σ : St) (H : Hp) (Dn : Ends), EI X.K Hr R0 (fun _ => False) H0 O H σ δ → ok (GS G Hr) (g δ) (FinF X.K Hr R0 H0 Dn) → t Dn σ H
section
variable {X : Cx} {G : XD → Hp → Prop} {e : Expr} {es : List Expr} {f : DS → M D} {fa : DS → M (List D)} {gt : DS → M Out} {sts : List Stmt} {pos : Pos}
end
def spDF (K : PySem.W.Frag) (n : Nat) (F : List D → M D) : Sp := fun vs H Q _ => ∃ O ds, vs.length = n ∧ (∀ l ∈ O, Mu H l) ∧ Reps K O H vs ds ∧ ok (fun _ => False) (F ds) (NewOf K H Q)
structure DefF (P : Program) (w : World) (K : PySem.W.Frag) (mg : Str → Option Value) (base : Heap) (k : Nat) (x : Str) (n : Nat) (F : List D → M D) : Prop where
  ex : ∃ (f : Addr) (fd : FuncData) (ps : List Str), FnOk P w K mg base CX0 k f fd ps (spDF K n F) ∧ mg x = some (.ref f) ∧ PySem.W.keepIn K (.ref f) = true ∧ Binds K fd ps []
section
variable {X : Cx} {G : XD → Hp → Prop} {e : Expr} {es : List Expr} {f : DS → M D} {fa : DS → M (List D)} {pos : Pos}
theorem pdf_call {k n : Nat} {x : Str} {p : Pos} {F : List D → M D} (h : DefF X.prog X.w X.K X.mg X.base k x n F) (hr : Room k X.A) (hg : Gl X x) (hn : (e :: es).length = n) (ha : PDA X G (e :: es) fa)
    (hdb : (x == ("__debug__" : Str)) = false := by decide) (he : starEach (e :: es) X.env = (false, eval e X.env) :: starEach es X.env := by rfl) (hpl : (backTo pos (starEach es X.env)).any (·.1) = false := by rfl) :
    PDF X G (.Call (.Name x p) (e :: es) [] pos) (dCall (fun ds => noX (F ds)) fa) := by
  obtain ⟨f, fd, ps, F1, hm, hk, hb⟩ := h.ex
  obtain ⟨hl, t, pa, ha⟩ := ha
  refine ⟨_, pe_call F1 hr hg hm hk hb .nil pass0 pa hdb he hpl, fun δ O σ H Q E k => ?_⟩
  have k1 := ok_thn k
  refine ha δ O σ H _ E ?_
  cases e1 : fa δ with
  | none => rw [e1] at k1; exact k1.elim
  | some r =>
    rw [e1] at k1
    cases r with
    | error x => exact k1
    | ok ds =>
      refine fun vs H1 s1 rs => ?_
      refine ⟨O, ds, ?_, (E.same s1).oo, ?_, ok_mono (ok_noX k1) fun d z => ?_⟩
      · rw [List.append_nil, rs.length, hl δ ds e1]
        exact hn
      · rw [List.append_nil]
        exact rs
      · obtain ⟨ds', rfl, hf, z⟩ := z
        refine ⟨ds', rfl, hf, fun l xs H' s hl hx rx => z l xs H' (s1.trans s) ?_ hx rx⟩
        cases q : H l with
        | none => rfl
        | some o => rw [s1 l o q] at hl; cases hl
/-- own lists lent to what makes a new list -/
def dLendF (i : Nat) (f : DS → M D) : DS → M D := fun δ => (f (frz i δ)).thn fun d => match d with
  | .list ds => if flatDs ds = true then M.ret (.list ds) else none
  | _ => none
end
section
variable {P : Program} {w : World} {K : PySem.W.Frag} {mg : Str → Option Value} {base : Heap}
theorem fn_ofDF {x qual : Str} {st : Stmt} {f : Addr} {fd : FuncData} {N ps : List Str} {k : Nat} {g : DS → M Out} (F0 : Fun K x qual st f fd) (S : FnScope N ps (defScope st))
    (hbody : ∀ (cdv : Value) (A : Around) (outer : List Env) (s : Shared) (H : Hp) (E : XK), Room k (A.deeper (envOfC qual (defScope st) s.heap.objs.size f cdv)) →
      PDSsF (cxOf CX0 P w K mg base N qual (defScope st) f cdv A outer s H E).nox (fun _ _ => False) (defBody st) g) : FnOk P w K mg base CX0 (k + 1) f fd ps (spDF K ps.length (run N.length g)) := by
  refine F0.ok S (fun vs H Q E h => ?_) (fun cdv A outer s H vs Q E hr h => ?_)
  · obtain ⟨O, ds, hl, _⟩ := h
    exact hl
  · obtain ⟨O, ds, hl, oo, r, q⟩ := h
    obtain ⟨t, p, hB⟩ := hbody cdv A outer s H E hr
    refine ⟨t, p, hB O H (startD N.length ds) O (L2.start N vs) H _ ⟨ev_start N oo r, fun l hl => .inl hl, fun b o _ h => h, fun l hl => .inl hl, fun i es l h1 ho h2 => ?_, fun l hl => hl⟩ (ok_mono (ok_false (ok_thn q)) fun o z => ?_)⟩
    · exact (start_no h1 ho).elim
    · cases o with
      | rt d => exact z
      | nx δ =>
        obtain ⟨ds', e, _⟩ := (show NewOf K H Q .none from z)
        cases e
      | bk δ => exact z.elim
      | ct δ => exact z.elim
theorem deff_of {x qual : Str} {st : Stmt} {f : Addr} {fd : FuncData} {N ps : List Str} {k : Nat} {g : DS → M Out} (F0 : Fun K x qual st f fd) (S : FnScope N ps (defScope st)) (hm : mg x = some (.ref f)) (hb : Binds K fd ps [])
    (hbody : ∀ (cdv : Value) (A : Around) (outer : List Env) (s : Shared) (H : Hp) (E : XK), Room k (A.deeper (envOfC qual (defScope st) s.heap.objs.size f cdv)) →
      PDSsF (cxOf CX0 P w K mg base N qual (defScope st) f cdv A outer s H E).nox (fun _ _ => False) (defBody st) g) : DefF P w K mg base (k + 1) x ps.length (run N.length g) :=
  ⟨f, fd, ps, fn_ofDF F0 S hbody, hm, F0.kp, hb⟩
end
end DL
/-! sum and max of a list of whole numbers; in, not in over lists; defs that tell a new list which they built, and what a caller makes of such a list -/
namespace L2
open PySem PySem.Spec PyProof.Rows
section
variable {X : Cx}
/-- the sum and all sums on the way lie within 64 bits -/
def fitsL : Int → List Int → Bool
  | _, [] => true
  | a, i :: r => decide (-2 ^ 63 ≤ i ∧ i < 2 ^ 63) && decide (-2 ^ 63 ≤ a + i ∧ a + i < 2 ^ 63) && fitsL (a + i) r
/-- the greatest of some numbers -/
def maxL : List Int → Int
  | [] => 0
  | a :: r => r.foldl max a
theorem foldl_max_ge : ∀ (r : List Int) (a : Int), a ≤ r.foldl max a ∧ (∀ x ∈ r, x ≤ r.foldl max a) ∧ (r.foldl max a = a ∨ r.foldl max a ∈ r)
  | [], a => ⟨Int.le_refl a, (fun x h => by cases h), .inl rfl⟩
  | b :: r, a => by
    obtain ⟨h1, h2, h3⟩ := foldl_max_ge r (max a b)
    refine ⟨by show a ≤ r.foldl max (max a b); omega, fun x hx => ?_, ?_⟩
    · show x ≤ r.foldl max (max a b)
      rcases List.mem_cons.mp hx with rfl | hx
      · omega
      · exact h2 x hx
    · show r.foldl max (max a b) = a ∨ r.foldl max (max a b) ∈ b :: r
      rcases h3 with h3 | h3
      · by_cases hab : b ≤ a
        · exact .inl (by omega)
        · exact .inr (List.mem_cons.mpr (.inl (by omega)))
      · exact .inr (List.mem_cons_of_mem _ h3)
theorem maxL_ge {l : List Int} {x : Int} (h : x ∈ l) : x ≤ maxL l := by
  cases l with
  | nil => cases h
  | cons a r =>
    obtain ⟨h1, h2, h3⟩ := foldl_max_ge r a
    rcases List.mem_cons.mp h with rfl | h
    · exact h1
    · exact h2 x h
theorem maxL_mem {l : List Int} (h : l ≠ []) : maxL l ∈ l := by
  cases l with
  | nil => exact absurd rfl h
  | cons a r =>
    obtain ⟨h1, h2, h3⟩ := foldl_max_ge r a
    rcases h3 with h3 | h3
    · exact List.mem_cons.mpr (.inl h3)
    · exact List.mem_cons_of_mem _ h3
theorem maxL_uniq {l : List Int} {m : Int} (hm : m ∈ l) (h : ∀ x ∈ l, x ≤ m) : maxL l = m := by
  have q1 := maxL_ge hm
  have q2 := h _ (maxL_mem (l := l) (by rintro rfl; cases hm))
  omega
theorem call_maxL (hc : X.calm = true) : CallR X (.builtin "max") (fun xs H Q => ∃ (p : Addr) (is : List Int), xs = [.ref p] ∧ SqL X.K H p (is.map V.int) ∧ is ≠ [] ∧ Q (.int (maxL is)) H) := by
  intro pins s σ H xs us Q I r h
  obtain ⟨l, is, rfl, hq, hne, q⟩ := h
  obtain ⟨u, rfl, rx⟩ := vals1 r
  cases rx
  obtain ⟨its, rv, pl, hz⟩ := I.list hq
  obtain ⟨ts, e, rfl⟩ := vals_intsT rv
  have hl : s.heap.IsList l (intItems ts.toArray) := by
    have := pl.isList
    have e2 : intItems ts.toArray = (ts.map fun p => Value.int p.1 p.2).toArray := by unfold intItems; simp
    rw [e2]
    exact this
  have hpos : 0 < ts.length := by
    cases ts with
    | nil => exact absurd e.symm hne
    | cons => exact Nat.succ_pos _
  refine max_intList (I.ok.hd hc) hl (by simpa using hpos) fun v h' tk hv hk => ?_
  have hv : (intItems ts.toArray)[argBest (fun i j => decide (numAt ts.toArray i > numAt ts.toArray j)) (ts.length - 1)]? = some v := by simpa using hv
  obtain ⟨k1, k2⟩ := argBest_gt (numAt ts.toArray) (ts.length - 1)
  obtain ⟨t, rfl⟩ := intItems_at hv
  have at_ : ∀ j (hj : j < ts.length), numAt ts.toArray j = (ts[j]).1 := fun j hj => by
    unfold numAt
    simp [hj]
  have em : maxL is = numAt ts.toArray (argBest (fun i j => decide (numAt ts.toArray i > numAt ts.toArray j)) (ts.length - 1)) := by
    rw [← e]
    refine maxL_uniq ?_ ?_
    · rw [at_ _ (by omega)]
      exact List.mem_map_of_mem (List.getElem_mem _)
    · intro x hx
      obtain ⟨p, hp, rfl⟩ := List.mem_map.mp hx
      obtain ⟨j, hj, rfl⟩ := List.mem_iff_getElem.mp hp
      have := k2 j (by omega)
      rw [at_ j hj] at this
      exact this
  exact ⟨.int (maxL is), H, I.kept hk, ⟨t, by rw [em]⟩, q⟩
end
end L2
namespace DL
open PySem PySem.Spec PyProof.Rows L2
section
variable {X : Cx}
def oSum : List D → Option D
  | [.list ds] => match intsOf ds with
    | some is => if fitsL 0 is = true then some (.int is.sum) else none
    | none => none
  | _ => none
def oMaxM : List D → Option D
  | [.list ds] => match intsOf ds with
    | some [] => none
    | some is => some (.int (maxL is))
    | none => none
  | _ => none
theorem dcall_maxM (hc : X.calm = true) : DCall X (.builtin "max") oMaxM := by
  refine ⟨_, call_maxL hc, fun O H ds d vs Q oo rs e k => ?_⟩
  unfold oMaxM at e
  split at e
  · rename_i es
    split at e
    · cases e
    · rename_i is hne he
      cases e
      obtain ⟨v, rfl, r⟩ := reps1 rs
      obtain ⟨p, xs, rfl, h1, rx⟩ := r.lst_inv
      rw [intsOf_get he] at rx
      rw [reps_ints rx] at h1
      exact ⟨p, is, rfl, h1, fun z => hne (by rw [z] at he; exact z ▸ rfl), k _ H (Same.refl H) (.int _)⟩
    · cases e
  · cases e
/-! ### in over lists and tuples of plain things -/
def plainV : D → Option V
  | .none => some .non
  | .bool b => some (.bl b)
  | .int i => some (.int i)
  | .str x => some (.str x)
  | _ => none
def plainVs : List D → Option (List V)
  | [] => some []
  | d :: ds => match plainV d, plainVs ds with
    | some v, some vs => some (v :: vs)
    | _, _ => none
def oInL (neg : Bool) : D → D → Option D
  | x, .list ds => match plainV x, plainVs ds with
    | some v, some vs => some (.bool (if neg then !inV v vs else inV v vs))
    | _, _ => none
  | x, .tuple ds => match plainV x, plainVs ds with
    | some v, some vs => some (.bool (if neg then !inV v vs else inV v vs))
    | _, _ => none
  | _, _ => none
def oNotInS : D → D → Option D
  | .str i, .str j => some (.bool (!(!(Builtin.Str.occurrences j i 0 j.length 1).isEmpty)))
  | _, _ => none
end
/-! ### defs that tell a new list -/
section
variable {X : Cx} {G : XD → Hp → Prop} {e : Expr} {es : List Expr} {f : DS → M D} {fa : DS → M (List D)} {gs gt : DS → M Out} {st : Stmt} {sts : List Stmt} {pos : Pos}
def gRetF (i : Nat) : DS → M Out := fun δ => match δ[i]? with
  | some (.ow ds) => if flatDs ds = true then M.ret (.rt (.list ds)) else none
  | _ => none
theorem EI.sames {K : PySem.W.Frag} {Hr H0 H : Hp} {R0 O : List Addr} {σ : St} {δ : DS} (E : EI K Hr R0 (fun _ => False) H0 O H σ δ) : Same H0 H := fun b o h => E.keep b o (fun w => w) h
theorem pdsf_retO {i : Nat} (he : PE X e (tVar i)) : PDSsF X G [.Return (some e) pos] (gRetF i) := by
  refine ⟨_, pss_one (ps_ret he), fun R0 H0 δ O σ H Dn E k => ?_⟩
  unfold gRetF at k
  split at k
  · rename_i ds hd
    by_cases hf : flatDs ds = true
    · rw [if_pos hf] at k
      obtain ⟨l, xs, q1, q2, q3, q4⟩ := E.ev.at_ i _ hd
      obtain ⟨ds', e1, hf', k⟩ := (show NewOf X.K H0 Dn.rt (.list ds) from k)
      cases e1
      have hl : H0 l = none := by
        rcases E.om l q2 with h | h | h
        · exact absurd h (E.nr i ds l hd q1)
        · exact h.elim
        · exact h
      exact ⟨.ref l, q1, k l xs H E.sames hl q3 (q4.flat hf)⟩
    · rw [if_neg hf] at k
      exact k.elim
  · exact k.elim
/-- a statement that goes on, and the rest -/
def gSeqN (g h : DS → M Out) : DS → M Out := fun δ => (g δ).thn fun o => match o with
  | .nx δ' => h δ'
  | _ => none
theorem pdsf_cons (h1 : PDS X G st gs) (h2 : PDSsF X G sts gt) : PDSsF X G (st :: sts) (gSeqN gs gt) := by
  obtain ⟨t, p, h1⟩ := h1
  obtain ⟨u, q, h2⟩ := h2
  refine ⟨_, pss_cons p q, fun R0 H0 δ O σ H Dn E k => ?_⟩
  refine h1 R0 _ H0 δ O σ H _ E (ok_mono (ok_thn k) fun o z => ?_)
  cases o with
  | nx δ' => exact fun O' σ' H' E' => h2 R0 H0 δ' O' σ' H' Dn E' z
  | rt d => exact z.elim
  | bk δ' => exact z.elim
  | ct δ' => exact z.elim
theorem ev_seqN' {r : M Out} {δ δ' : DS} (h1 : gs δ = M.ret (.nx δ')) (h2 : gt δ' = r) : gSeqN gs gt δ = r := by unfold gSeqN; rw [h1]; exact h2
theorem ev_retF {i : Nat} {δ : DS} {ds : List D} (h : δ[i]? = some (.ow ds)) (hf : flatDs ds = true) : gRetF i δ = M.ret (.rt (.list ds)) := by unfold gRetF; rw [h]; show (if _ then _ else _) = _; rw [if_pos hf]
/-- own lists lent to what makes a new list -/
def dFrzF (i : Nat) (f : DS → M D) : DS → M D := fun δ => f (frz i δ)
/-- what is told, as a value -/
def dFl (f : DS → M D) : DS → M D := fun δ => (f δ).thn fun d => match d with
  | .list ds => if flatDs ds = true then M.ret (.list ds) else none
  | _ => none
/-- what is told, as a list of one's own -/
def nF (f : DS → M D) : DS → M (List D) := fun δ => (f δ).thn fun d => match d with
  | .list ds => if flatDs ds = true then M.ret ds else none
  | _ => none
mutual
theorem Rep.flatTo {K : PySem.W.Frag} {O O' : List Addr} {H H' : Hp} (t : ∀ b xs, Rd H b (.tup xs) → Rd H' b (.tup xs)) : ∀ {v : V} {d : D}, flatD d = true → Rep K O H v d → Rep K O' H' v d
  | _, _, _, .non => .non
  | _, _, _, .bl b => .bl b
  | _, _, _, .int i => .int i
  | _, _, _, .str x => .str x
  | _, _, h, .tup q r => .tup (by rcases q with q | q; exact .inl (t _ _ q); exact .inr q) (Reps.flatTo t (by simpa only [flatD] using h) r)
  | _, _, h, .lst _ _ _ => by simp [flatD] at h
  | _, _, h, .lstK _ _ => by simp [flatD] at h
  | _, _, h, .dct _ _ _ _ => by simp [flatD] at h
  | _, _, h, .ins _ _ _ _ _ => by simp [flatD, insD] at h
theorem Reps.flatTo {K : PySem.W.Frag} {O O' : List Addr} {H H' : Hp} (t : ∀ b xs, Rd H b (.tup xs) → Rd H' b (.tup xs)) : ∀ {vs : List V} {ds : List D}, flatDs ds = true → Reps K O H vs ds → Reps K O' H' vs ds
  | _, _, _, .nil => .nil
  | _, _, h, .cons r rs => by
    simp only [flatDs, Bool.and_eq_true] at h
    exact .cons (Rep.flatTo t h.1 r) (Reps.flatTo t h.2 rs)
end
end
end DL
/-! a loop over an own list whose body only looks and perhaps returns; an own list's item set -/
namespace DL
open PySem PySem.Spec PyProof.Rows L2
/-- statements that look, and go on with nothing changed, or return -/
def PDR (X : Cx) (G : XD → Hp → Prop) (sts : List Stmt) (g : DS → M Out) : Prop :=
  ∃ t, PSs X sts t ∧ ∀ {Hr : Hp} (R0 : List Addr) (P0 : Addr → Prop) (H0 : Hp) (δ : DS) (O : List Addr) (σ : St) (H : Hp) (Dn : Ends), EI X.K Hr R0 P0 H0 O H σ δ →
    ok (GS G Hr) (g δ) (fun o => match o with
      | .nx _ => ∀ H', Same H H' → Dn.nx σ H'
      | .rt d => Fin X.K Hr R0 P0 H0 Dn (.rt d)
      | _ => False) → t Dn σ H
section
variable {X : Cx} {G : XD → Hp → Prop} {c e : Expr} {fb : DS → M Bool} {f : DS → M D} {gs gt : DS → M Out} {st1 body sts : List Stmt} {st : Stmt} {pos : Pos}
def gIfR (fb : DS → M Bool) (gs : DS → M Out) : DS → M Out := fun δ => (fb δ).thn fun b => if b = true then (gs δ).thn fun o => match o with
    | .rt d => M.ret (.rt d)
    | _ => none
  else M.ret (.nx δ)
def loopO (j : Nat) (g : DS → M Out) : List D → DS → M Out
  | [], δ => M.ret (.nx δ)
  | d :: ds, δ => (g (δ.set j (.vl d))).thn fun o => match o with
    | .nx _ => loopO j g ds (δ.set j (.vl d))
    | .rt d => M.ret (.rt d)
    | _ => none
def gForO (i j : Nat) (g : DS → M Out) : DS → M Out := fun δ => match δ[i]? with
  | some (.ow ds) => loopO j g ds δ
  | _ => none
end
end DL
/-! own lists whose items are set; pop; list * n, list + list as new lists; list.index -/
namespace L2
open PySem PySem.Spec PyProof.Rows
section
variable {X : Cx}
/-- the place of the first item that is x -/
def idxV (x : V) : List V → Option Nat
  | [] => none
  | y :: ys => if eqV y x = true then some 0 else (idxV x ys).map (· + 1)
def rIndex (K : PySem.W.Frag) : V → List V → Hp → VK → Prop := fun x vs H Q => ∃ l xs y j, x = .ref l ∧ vs = [y] ∧ SqL K H l xs ∧ flatV y = true ∧ xs.all flatV = true ∧ idxV y xs = some j ∧ Q (.int (j : Nat)) H
end
end L2
namespace DL
open PySem PySem.Spec PyProof.Rows L2
theorem EI.put {K : PySem.W.Frag} {Hr : Hp} {R0 : List Addr} {P0 : Addr → Prop} {H0 H : Hp} {O : List Addr} {σ : St} {δ : DS} {i : Nat} {l : Addr} {xs ys : List V} {ds ds' : List D} (E : EI K Hr R0 P0 H0 O H σ δ) (hd : δ[i]? = some (.ow ds)) (hσ : σ[i]? = some (some (.ref l))) (hl : H l = some (.lst xs)) (ry : Reps K O H ys ds') :
    EI K Hr R0 P0 H0 O (upd H l (.lst ys)) σ (δ.set i (.ow ds')) := by
  obtain ⟨l', xs', q1, lO, q3, _⟩ := E.ev.at_ i _ hd
  rw [hσ] at q1
  cases q1
  have tO : To O O H (upd H l (.lst ys)) := To.set hl lO
  refine ⟨⟨fun b o h => ?_, fun a ha => ?_, by rw [List.length_set]; exact E.ev.len, fun j s h => ?_, fun j k a es es' hjk h1 h2 h3 => ?_⟩, E.omr, fun b o n h => ?_, E.om, fun j es a h1 ho h2 => ?_, E.sub⟩
  · have q := E.ev.root b o h
    have hne : b ≠ l := fun z => by
      subst z
      rcases E.omr b lO with w | w
      · exact E.nr i ds b hd hσ w
      · rw [h] at w; cases w
    rw [upd_ne hne]
    exact q
  · by_cases hb : a = l
    · rw [hb]; exact .lst upd_same
    · exact (E.ev.oo a ha).upd_ne hb
  · rw [get_set] at h
    by_cases hij : i = j
    · rw [if_pos hij] at h
      split at h
      · cases h
        rw [← hij, hσ]
        exact ⟨l, _, rfl, lO, upd_same, ry.to tO⟩
      · cases h
    · rw [if_neg hij] at h
      refine (E.ev.at_ j s h).to tO (hd_set hl) fun a ys h1 h2 h3 h4 => ⟨h1, ?_⟩
      obtain ⟨es, rfl⟩ := h4
      have hne : a ≠ l := fun z => by
        subst z
        exact E.ev.dis i j a ds es hij hd h hσ h3
      rw [upd_ne hne]
      exact h2
  · have old : ∀ (j : Nat) (es : List D), (δ.set i (.ow ds'))[j]? = some (.ow es) → ∃ es', δ[j]? = some (.ow es') := fun j es h => by
      rw [get_set] at h
      by_cases hij : i = j
      · rw [← hij]; exact ⟨ds, hd⟩
      · rw [if_neg hij] at h; exact ⟨es, h⟩
    obtain ⟨e1, h1⟩ := old j es h1
    obtain ⟨e2, h2⟩ := old k es' h2
    exact E.ev.dis j k a e1 e2 hjk h1 h2 h3
  · have q := E.keep b o n h
    have hne : b ≠ l := fun z => by
      subst z
      rcases E.om b lO with w | w | w
      · exact E.nr i ds b hd hσ w
      · exact n w
      · rw [h] at w; cases w
    rw [upd_ne hne]
    exact q
  · rw [get_set] at h1
    by_cases hij : i = j
    · exact E.nr i ds a hd (by rw [hij]; exact h2)
    · rw [if_neg hij] at h1
      exact E.nr1 j es a h1 ho h2
section
variable {X : Cx} {G : XD → Hp → Prop} {a b c e ix : Expr} {es : List Expr} {f g fi : DS → M D} {fa : DS → M (List D)} {fn : DS → M (List D)} {pos tpos : Pos}
theorem Reps.set {K : PySem.W.Frag} {O : List Addr} {H : Hp} : ∀ {xs : List V} {ds : List D} {v : V} {d : D} (j : Nat), Reps K O H xs ds → Rep K O H v d → Reps K O H (xs.set j v) (ds.set j d)
  | _, _, _, _, _, .nil, _ => .nil
  | _, _, _, _, 0, .cons _ t, r => .cons r t
  | _, _, _, _, j + 1, .cons q t, r => .cons q (Reps.set j t r)
theorem Reps.erase {K : PySem.W.Frag} {O : List Addr} {H : Hp} : ∀ {xs : List V} {ds : List D} (j : Nat), Reps K O H xs ds → Reps K O H (xs.eraseIdx j) (ds.eraseIdx j)
  | _, _, _, .nil => .nil
  | _, _, 0, .cons _ t => t
  | _, _, j + 1, .cons q t => .cons q (Reps.erase j t)
/-- x[i] = e, x a list of one's own -/
def gSetO (i : Nat) (fi f : DS → M D) : DS → M Out := fun δ => match δ[i]? with
  | some (.ow ds) => (f δ).thn fun d => (fi δ).thn fun k => match k with
    | .int k => match ixN ds.length k with
      | some j => M.ret (.nx (δ.set i (.ow (ds.set j d))))
      | none => none
    | _ => none
  | _ => none
theorem pd_setO {i : Nat} (hv : PE X a (tVar i)) (hi : PD X G ix fi) (he : PD X G e f)
    (ha : ∀ v, assign (.Subscript a ix tpos) X.env v = (do
      let ov ← holding [v] (eval a X.env)
      let iv ← holding [v, ov] (eval ix X.env)
      standAt tpos
      holding [v, ov, iv] (setItem ov iv v)
      release [v, ov, iv] []) := by intro _; rfl)
    (hs : swapsWithSole [.Subscript a ix tpos] e pos.line X.env = pure false := by rfl) (hw : swappedStores [.Subscript a ix tpos] e X.env = pure none := by rfl)
    (h1 : (assignEach [.Subscript a ix tpos] X.env).map (·.2) = [assign (.Subscript a ix tpos) X.env] := by rfl) : PDS X G (.Assign [.Subscript a ix tpos] e pos) (gSetO i fi f) := by
  obtain ⟨t, p, he⟩ := he
  obtain ⟨u, q, hi⟩ := hi
  refine ⟨_, ps_asg p (pg_sub hv q set_list ha) hs hw h1, fun R0 P0 H0 δ O σ H Dn E k => ?_⟩
  unfold gSetO at k
  split at k
  · rename_i ds hd
    obtain ⟨l, xs, q1, q2, q3, q4⟩ := E.ev.at_ i _ hd
    refine he δ O σ H _ E.ev (ok_mono (ok_thn k) fun d z v H1 s1 r => ⟨.ref l, q1, ?_⟩)
    refine hi δ O σ H1 _ (E.same s1).ev (ok_mono (ok_thn z) fun kd zz kv H2 s2 rk => ?_)
    match kd, zz, rk with
    | .int n, zz, rk =>
      dsimp only at zz
      rw [rk.int_inv]
      have s12 := s1.trans s2
      cases hj : ixN ds.length n with
      | none => rw [hj] at zz; exact zz.elim
      | some j =>
        rw [hj] at zz
        refine ⟨l, xs, n, j, rfl, rfl, s12 _ _ q3, by rw [q4.length]; exact hj, ?_⟩
        exact zz O σ _ ((E.same s12).put hd q1 (s12 _ _ q3) ((q4.same s12).set j (r.same s2)))
  · exact k.elim
/-- x[i] += e, x[i] -= e -/
def gAugO (i : Nat) (h : Int → Int → Int) (fi f : DS → M D) : DS → M Out := fun δ => match δ[i]? with
  | some (.ow ds) => (fi δ).thn fun k => match k with
    | .int k => match ixN ds.length k with
      | some j => match ds[j]? with
        | some (.int m) => (f δ).thn fun d => match d with
          | .int n => M.ret (.nx (δ.set i (.ow (ds.set j (.int (h m n))))))
          | _ => none
        | _ => none
      | none => none
    | _ => none
  | _ => none
/-- x.append(y.pop(e)) -/
def gAppPop (i j : Nat) (f : DS → M D) : DS → M Out := fun δ => match δ[i]?, δ[j]? with
  | some (.ow ds), some (.ow es) => (f δ).thn fun k => match k with
    | .int k => match ixN es.length k with
      | some m => match es[m]? with
        | some d => if small (ds.length + 1) && decide (-(2 ^ 63) ≤ k ∧ k < 2 ^ 63) && decide (i ≠ j) then M.ret (.nx ((δ.set j (.ow (es.eraseIdx m))).set i (.ow (ds ++ [d])))) else none
        | none => none
      | none => none
    | _ => none
  | _, _ => none
/-! ### new lists -/
/-- a new list, as a value -/
def dOfN (fn : DS → M (List D)) : DS → M D := fun δ => (fn δ).thn fun ds => M.ret (.list ds)
theorem pd_ofN (h : PDN X G e fn) : PD X G e (dOfN fn) := by
  obtain ⟨t, p, h⟩ := h
  refine ⟨t, p, fun δ O σ H Q E k => ?_⟩
  refine h δ O σ H Q E (ok_mono (ok_thn k) fun ds z l xs H1 s1 hl rx => ?_)
  exact z (.ref l) _ (s1.trans (same_new hl)) (rep_newL (E.same s1).oo hl rx)
theorem ev_ofN {δ : DS} {ds : List D} (h : fn δ = M.ret ds) : dOfN fn δ = M.ret (.list ds) := by unfold dOfN; rw [h]; rfl
def nFrz (i : Nat) (fn : DS → M (List D)) : DS → M (List D) := fun δ => (fn (frz i δ)).thn fun ds => if flatDs ds = true then M.ret ds else none
def nCat (f g : DS → M D) : DS → M (List D) := fun δ => (f δ).thn fun x => (g δ).thn fun y => match x, y with
  | .list xs, .list ys => if small (xs.length + ys.length) then M.ret (xs ++ ys) else none
  | _, _ => none
theorem pdn_cat (ha : PD X G a f) (hb : PD X G b g) : PDN X G (.BinOp a .Add b pos) (nCat f g) := by
  obtain ⟨ta, pa, ha⟩ := ha
  obtain ⟨tb, pb, hb⟩ := hb
  refine ⟨_, pe_op op_catS pa pb, fun δ O σ H Q E k => ?_⟩
  refine ha δ O σ H _ E (ok_mono (ok_thn k) fun x z v H1 s1 rx => ?_)
  refine hb δ O σ H1 _ (E.same s1) (ok_mono (ok_thn z) fun y z u H2 s2 ry => ?_)
  match x, y, z, rx, ry with
  | .list xs, .list ys, z, rx, ry =>
    obtain ⟨p, vs, rfl, h1, r1⟩ := (rx.same s2).lst_inv
    obtain ⟨q, ws, rfl, h2, r2⟩ := ry.lst_inv
    by_cases hz : small (xs.length + ys.length) = true
    · have z : ok _ (if small (xs.length + ys.length) = true then M.ret (xs ++ ys) else none) _ := z
      rw [if_pos hz] at z
      exact ⟨p, q, vs, ws, rfl, rfl, h1, h2, by rw [r1.length, r2.length]; exact small_le hz, fun l hl => z l _ H2 (s1.trans s2) hl (r1.append r2)⟩
    · have z : ok _ (if small (xs.length + ys.length) = true then M.ret (xs ++ ys) else none) _ := z
      rw [if_neg hz] at z
      exact z.elim
theorem ev_nCat {δ : DS} {xs ys : List D} (h1 : f δ = M.ret (.list xs)) (h2 : g δ = M.ret (.list ys)) (hz : small (xs.length + ys.length) = true) : nCat f g δ = M.ret (xs ++ ys) := by
  unfold nCat; rw [h1, thn_ret, h2]; show (if _ then _ else _) = _; rw [if_pos hz]
theorem Reps.rep {K : PySem.W.Frag} {O : List Addr} {H : Hp} {xs : List V} {ds : List D} (h : Reps K O H xs ds) : ∀ k : Nat, Reps K O H (List.replicate k xs).flatten (List.replicate k ds).flatten
  | 0 => .nil
  | k + 1 => by
    rw [List.replicate_succ, List.replicate_succ, List.flatten_cons, List.flatten_cons]
    exact h.append (Reps.rep h k)
def nRep (fn : DS → M (List D)) (g : DS → M D) : DS → M (List D) := fun δ => (fn δ).thn fun ds => (g δ).thn fun y => match y with
  | .int k => if small (ds.length * k.toNat) && decide (-(2 ^ 63) ≤ k ∧ k < 2 ^ 63) then M.ret (List.replicate k.toNat ds).flatten else none
  | _ => none
theorem pdn_rep (ha : PDN X G a fn) (hb : PD X G b g) : PDN X G (.BinOp a .Mult b pos) (nRep fn g) := by
  obtain ⟨ta, pa, ha⟩ := ha
  obtain ⟨tb, pb, hb⟩ := hb
  refine ⟨_, pe_op op_rep pa pb, fun δ O σ H Q E k => ?_⟩
  refine ha δ O σ H _ E (ok_mono (ok_thn k) fun ds z l xs H1 s1 hl rx => ?_)
  have s2 : Same H1 (upd H1 l (.lst xs)) := same_new hl
  refine hb δ O σ _ _ (E.same (s1.trans s2)) (ok_mono (ok_thn z) fun y z u H2 s3 ry => ?_)
  match y, z, ry with
  | .int n, z, ry =>
    rw [ry.int_inv]
    by_cases hz : (small (ds.length * n.toNat) && decide (-(2 ^ 63) ≤ n ∧ n < 2 ^ 63)) = true
    · have z : ok _ (if (small (ds.length * n.toNat) && decide (-(2 ^ 63) ≤ n ∧ n < 2 ^ 63)) = true then M.ret (List.replicate n.toNat ds).flatten else none) _ := z
      rw [if_pos hz] at z
      simp only [Bool.and_eq_true, decide_eq_true_eq] at hz
      exact ⟨l, n, xs, rfl, rfl, s3 _ _ upd_same, hz.2.1, hz.2.2, by rw [rx.length]; exact small_le hz.1, fun p hp => z p _ H2 ((s1.trans s2).trans s3) hp (((rx.same s2).same s3).rep _)⟩
    · have z : ok _ (if (small (ds.length * n.toNat) && decide (-(2 ^ 63) ≤ n ∧ n < 2 ^ 63)) = true then M.ret (List.replicate n.toNat ds).flatten else none) _ := z
      rw [if_neg hz] at z
      exact z.elim
theorem flat_rep (d : D) (k : Nat) : (List.replicate k [d]).flatten = List.replicate k d := by
  induction k with
  | zero => rfl
  | succ k ih => rw [List.replicate_succ, List.flatten_cons, ih, List.replicate_succ]; rfl
theorem ev_nRep {δ : DS} {d : D} {k : Int} (h1 : fn δ = M.ret [d]) (h2 : g δ = M.ret (.int k)) (h0 : 0 ≤ k) (hk : k ≤ 1000000) : nRep fn g δ = M.ret (List.replicate k.toNat d) := by
  unfold nRep; rw [h1, thn_ret, h2]
  show (if _ then _ else _) = _
  rw [if_pos, flat_rep]
  simp only [Bool.and_eq_true, decide_eq_true_eq]
  exact ⟨small_of (by show 1 * k.toNat ≤ _; omega), by omega, by omega⟩
/-! ### list.index -/
def dIndex (f g : DS → M D) : DS → M D := fun δ => (f δ).thn fun x => match x with
  | .list ds => (g δ).thn fun y => match plainV y, plainVs ds with
    | some v, some vs => match idxV v vs with
      | some j => M.ret (.int (j : Nat))
      | none => none
    | _, _ => none
  | _ => none
end
end DL
/-! comprehensions that name several caught names in another order; tuple(list); sum of whole numbers of any size -/
namespace L2
open PySem PySem.Spec PyProof.Rows
end L2
namespace DL
open PySem PySem.Spec PyProof.Rows L2
section
variable {X : Cx}
def oSumG : List D → Option D
  | [.list ds] => (intsOf ds).map fun is => .int is.sum
  | _ => none
/-- tuple(x) of a list -/
def oTupOf : List D → Option D
  | [.list ds] => some (.tuple ds)
  | _ => none
end
end DL
/-! len(set(x)) of whole numbers; list(reversed(x)) -/
namespace L2
open PySem PySem.Spec PyProof.Rows
section
variable {pr : Program} {wo : World} {Ar : Around} {Er : Value → Shared → Prop} {st : Shared}
abbrev emptyL (c : Nat) : Obj := { cls := .type "list", data := .seq #[] c }
abbrev RvP (xs : Array Value) : Nat → Value → Prop := fun i v => xs[xs.size - 1 - i]? = some v
end
section
variable {X : Cx} {x y : Str} {p p' pos pos' : Pos} {e : Expr} {t : TA} {id T U : String} {r : List V → Hp → VK → Prop}
/-- g of what f tells: what lies between is no value of the layer -/
def CallR2 (X : Cx) (g f : Value) (r : List V → Hp → VK → Prop) : Prop :=
  ∀ (pins : List (Addr × Obj)) (s : Shared) (σ : St) (H : Hp) (xs : List V) (us : List Value) (Q : VK), Inv X pins σ H s → Vals xs us → r xs H Q →
    wpAny (model X.prog X.w) X.A (call f us) (fun v s1 => wpAny (model X.prog X.w) X.A (call g [v]) (EP X pins σ Q) X.xe s1) X.xe s
def metN (is : List Int) : Nat := (firstMet (fun i => is.getD i 0) is.length).length
end
end L2
namespace DL
open PySem PySem.Spec PyProof.Rows L2
section
variable {X : Cx} {G : XD → Hp → Prop} {e : Expr} {fa : DS → M (List D)} {pos pos' p p' : Pos} {x y : Str} {id T U : String}
def DCall2 (X : Cx) (g f : Value) (h : List D → Option D) : Prop :=
  ∃ r, CallR2 X g f r ∧ ∀ (O : List Addr) (H : Hp) (ds : List D) (d : D) (vs : List V) (Q : VK), (∀ l ∈ O, Mu H l) → Reps X.K O H vs ds → h ds = some d → (∀ v' H', Same H H' → Rep X.K O H' v' d → Q v' H') → r vs H Q
/-- len(set(x)) of fewer than 4000 whole numbers -/
def oLenSet : List D → Option D
  | [.list ds] => (intsOf ds).bind fun is => if is.length < 4000 then some (.int (metN is)) else none
  | _ => none
/-- list(reversed(x)) of a list -/
def oListRev : List D → Option D
  | [.list ds] => some (.list ds.reverse)
  | _ => none
end
end DL
/-! name += e, name -= e of whole numbers -/
namespace DL
open PySem PySem.Spec PyProof.Rows L2
section
variable {X : Cx} {G : XD → Hp → Prop} {e : Expr} {f : DS → M D} {pos pos' : Pos}
def oII (h : Int → Int → Int) : D → D → Option D
  | .int a, .int b => some (.int (h a b))
  | _, _ => none
theorem pd_augN {i : Nat} {x : Str} {op : Operator} {h : Int → Int → Int} (hN : X.N.Nodup) (hi : X.N[i]? = some x) (hx : Loc X.env.scope x) (hop : PIp X op (ipI h)) (he : PD X G e f)
    (hf : X.fn x = true ∨ X.env.scope.names.lookup x = some .local := by first | exact .inl rfl | exact .inr rfl | assumption) : PDS X G (.AugAssign (.Name x pos') op e pos) (gAsg (d2 (oII h) (dVar i) f) (tgN i)) := by
  obtain ⟨t, p, he⟩ := he
  refine ⟨_, ps_aug hN hi hx p hop hf, fun R0 P0 H0 δ O σ H Dn E k => ?_⟩
  have k1 := ok_thn k
  unfold d2 at k1
  have k2 := ok_thn k1
  unfold dVar at k2
  cases hd : δ[i]? with
  | none => rw [hd] at k2; exact k2.elim
  | some s =>
    rw [hd] at k2
    match s, hd, k2 with
    | .vl a, hd, k2 =>
      obtain ⟨v, hv, rv⟩ := E.ev.at_ i _ hd
      refine ⟨v, hv, ?_⟩
      have k3 := ok_thn k2
      refine he δ O σ H _ E.ev (ok_mono k3 fun d z u H1 s1 ru => ?_)
      obtain ⟨w, hw, z2⟩ := ok_lift z
      match a, d, hw, rv, ru with
      | .int a, .int b, hw, rv, ru =>
        cases hw
        rw [rv.int_inv, ru.int_inv]
        refine ⟨a, b, rfl, rfl, ?_⟩
        obtain ⟨δ', hd', z3⟩ := ok_lift (ok_thn z2)
        cases hd'
        exact z3 O _ H1 ((E.same s1).set (.int _))
end
end DL
/-! min(x, default=d) -/
namespace L2
open PySem PySem.Spec PyProof.Rows
section
variable {pr : Program} {wo : World} {Ar : Around} {R : Result → Shared → Prop} {T : Addr} {fp wr : List Addr} {n : Nat} {P : Nat → Value → Prop} {St : Nat → Heap → Prop}
end
section
variable {pr : Program} {wo : World} {Ar : Around} {Er : Value → Shared → Prop} {st : Shared}
end
section
variable {X : Cx} {x : Str} {p pos kpos : Pos} {e d : Expr} {t : TA} {tk : TE}
def tMinD (K : PySem.W.Frag) (t : TA) (tk : TE) : TE := fun σ H Q => t σ H fun vs H1 => tk σ H1 fun z H2 => ∃ (l : Addr) (is : List Int), vs = [.ref l] ∧ SqL K H2 l (is.map V.int) ∧ (is = [] → Q z H2) ∧ (is ≠ [] → Q (.int (minL is)) H2)
end
end L2
namespace DL
open PySem PySem.Spec PyProof.Rows L2
section
variable {X : Cx} {G : XD → Hp → Prop} {e d : Expr} {fa : DS → M (List D)} {g : DS → M D} {pos p kpos : Pos} {x : Str}
def minDf : List D → D → Option D
  | [.list ds], y => match intsOf ds with
    | some [] => some y
    | some (i :: is) => some (.int (minL (i :: is)))
    | none => none
  | _, _ => none
/-- min(x, default=y) -/
def dMinD (fa : DS → M (List D)) (g : DS → M D) : DS → M D := fun δ => (fa δ).thn fun xs => (g δ).thn fun y => M.lift (minDf xs y)
end
end DL
/-! THE STORE LAYER: things that are changed, by handles into a store; over the data layer -/
namespace SL
open PySem PySem.Spec PyProof.Rows L2 DL
/-- a value: data that nobody changes any more, or the handle of a thing in the store -/
inductive Val where
  | d (x : D)
  | h (k : Nat)
  | t (xs : List Val)
inductive Ob where
  | lst (xs : List Val)
  | dct (es : List (Key × Val))
  | ins (c : Str) (fs : List (Str × Val))
  | gone
abbrev EnvS := List (Option Val)
abbrev Sto := List Ob
abbrev R (β : Type) := Option (Except (XD × Sto) β)
section
variable {β γ : Type}
def R.ret (b : β) : R β := some (.ok b)
def R.thn (r : R β) (f : β → R γ) : R γ := match r with
  | none => none
  | some (.ok a) => f a
  | some (.error x) => some (.error x)
def okR (G : XD → Sto → Prop) (r : R β) (k : β → Prop) : Prop := match r with
  | none => False
  | some (.ok a) => k a
  | some (.error x) => G x.1 x.2
theorem okR_mono {G : XD → Sto → Prop} {r : R β} {k k' : β → Prop} (h : okR G r k) (f : ∀ a, k a → k' a) : okR G r k' := by
  match r, h with
  | some (.ok a), h => exact f a h
  | some (.error x), h => exact h
theorem okR_imp {G G' : XD → Sto → Prop} {r : R β} {k : β → Prop} (h : okR G r k) (f : ∀ x μ, G x μ → G' x μ) : okR G' r k := by
  match r, h with
  | some (.ok a), h => exact h
  | some (.error x), h => exact f _ _ h
theorem okR_thn {G : XD → Sto → Prop} {r : R β} {f : β → R γ} {k : γ → Prop} (h : okR G (r.thn f) k) : okR G r (fun a => okR G (f a) k) := by
  match r, h with
  | some (.ok a), h => exact h
  | some (.error x), h => exact h
theorem rthn_ret (a : β) (f : β → R γ) : (R.ret a).thn f = f a := rfl
end
/-- a data result, the store as it is -/
def ofM {β : Type} (r : M β) (μ : Sto) : R β := match r with
  | none => none
  | some (.ok a) => some (.ok a)
  | some (.error x) => some (.error (x, μ))
mutual
inductive VR (K : PySem.W.Frag) (O : List Addr) (α : List (Option Addr)) (H : Hp) : V → Val → Prop
  | d {v : V} {x : D} (r : Rep K O H v x) : VR K O α H v (.d x)
  | h {k : Nat} {a : Addr} (e : α[k]? = some (some a)) : VR K O α H (.ref a) (.h k)
  | t {a : Addr} {vs : List V} {xs : List Val} (s : SqT K H a vs) (rs : VRs K O α H vs xs) : VR K O α H (.ref a) (.t xs)
inductive VRs (K : PySem.W.Frag) (O : List Addr) (α : List (Option Addr)) (H : Hp) : List V → List Val → Prop
  | nil : VRs K O α H [] []
  | cons {v : V} {x : Val} {vs : List V} {xs : List Val} (r : VR K O α H v x) (rs : VRs K O α H vs xs) : VRs K O α H (v :: vs) (x :: xs)
end
theorem VR.dinv {K : PySem.W.Frag} {O : List Addr} {α : List (Option Addr)} {H : Hp} {v : V} {x : D} (r : VR K O α H v (.d x)) : Rep K O H v x := by cases r; assumption
theorem VR.hinv {K : PySem.W.Frag} {O : List Addr} {α : List (Option Addr)} {H : Hp} {v : V} {k : Nat} (r : VR K O α H v (.h k)) : ∃ a, α[k]? = some (some a) ∧ v = .ref a := by
  cases r with
  | h e => exact ⟨_, e, rfl⟩
theorem VR.tinv {K : PySem.W.Frag} {O : List Addr} {α : List (Option Addr)} {H : Hp} {v : V} {xs : List Val} (r : VR K O α H v (.t xs)) : ∃ a vs, v = .ref a ∧ SqT K H a vs ∧ VRs K O α H vs xs := by
  cases r with
  | t s rs => exact ⟨_, _, rfl, s, rs⟩
def OR (K : PySem.W.Frag) (mg : Str → Option Value) (R0 O : List Addr) (α : List (Option Addr)) (H : Hp) (a : Addr) : Ob → Prop
  | .lst xs => a ∈ O ∧ a ∉ R0 ∧ ∃ vs, H a = some (.lst vs) ∧ VRs K O α H vs xs
  | .dct es => a ∈ O ∧ a ∉ R0 ∧ ∃ kvs, H a = some (.dK kvs) ∧ kvs.map (·.1) = es.map (·.1) ∧ VRs K O α H (kvs.map (·.2)) (es.map (·.2))
  | .ins c fs => a ∈ O ∧ ∃ C dx vfs, mg c = some (.ref C) ∧ H a = some (.ins C dx vfs) ∧ vfs.map (·.1) = fs.map (·.1) ∧ VRs K O α H (vfs.map (·.2)) (fs.map (·.2))
  | .gone => False
structure SR (K : PySem.W.Frag) (mg : Str → Option Value) (R0 O : List Addr) (α : List (Option Addr)) (H : Hp) (μ : Sto) : Prop where
  len : α.length = μ.length
  nd : ∀ (i j : Nat) (a : Addr), α[i]? = some (some a) → α[j]? = some (some a) → i = j
  oo : ∀ l ∈ O, Mu H l
  sub : ∀ l ∈ R0, l ∈ O
  at_ : ∀ (k : Nat) (a : Addr), α[k]? = some (some a) → ∃ ob, μ[k]? = some ob ∧ OR K mg R0 O α H a ob
/-- how a state goes over into a later one -/
structure Go (O0 : List Addr) (α0 : List (Option Addr)) (H0 : Hp) (O : List Addr) (α : List (Option Addr)) (H : Hp) : Prop where
  keep : ∀ b o, (∀ k : Nat, α0[k]? ≠ some (some b)) → H0 b = some o → H b = some o
  ex : ∀ (k : Nat) (a : Addr), α0[k]? = some (some a) → α[k]? = some (some a)
  len : α0.length ≤ α.length
  new : ∀ (k : Nat) (b : Addr), α[k]? = some (some b) → (α0[k]? = some (some b)) ∨ H0 b = none
  ol : ∀ l ∈ O, l ∈ O0 ∨ H0 l = none
  live : ∀ b, H b = none → H0 b = none
section
variable {K : PySem.W.Frag} {mg : Str → Option Value} {R0 O O' O1 : List Addr} {α α' α1 : List (Option Addr)} {H H' H1 : Hp} {μ μ' : Sto}
theorem Go.refl : Go O α H O α H := ⟨fun _ _ _ h => h, fun _ _ h => h, Nat.le_refl _, fun _ _ h => .inl h, fun _ h => .inl h, fun _ h => h⟩
theorem none_same (s : Same H H') {b : Addr} (h : H' b = none) : H b = none := by
  cases q : H b with
  | none => rfl
  | some o => rw [s b o q] at h; cases h
theorem Go.same (s : Same H H') : Go O α H O α H' := ⟨fun b o _ h => s b o h, fun _ _ h => h, Nat.le_refl _, fun _ _ h => .inl h, fun _ h => .inl h, fun _ h => none_same s h⟩
/-- what is tracked stands in the heap -/
theorem SR.tracked (S : SR K mg R0 O α H μ) {k : Nat} {a : Addr} (h : α[k]? = some (some a)) : ∃ o, H a = some o ∧ (∀ xs, o ≠ .tup xs) ∧ (∀ u xs, o ≠ .frz u (.tup xs)) ∧ (∀ u xs, o ≠ .frz u (.lst xs)) ∧ (∀ u xs, o ≠ .frz u (.dK xs)) ∧ (((∃ xs, o = .lst xs) ∨ (∃ xs, o = .dK xs) ∨ ∃ C dx fs, o = .ins C dx fs) → a ∈ O) := by
  obtain ⟨ob, _, h⟩ := S.at_ k a h
  cases ob with
  | lst xs =>
    obtain ⟨h1, _, vs, h2, _⟩ := h
    exact ⟨_, h2, (fun _ z => nomatch z), (fun _ _ z => nomatch z), (fun _ _ z => nomatch z), (fun _ _ z => nomatch z), fun _ => h1⟩
  | dct es =>
    obtain ⟨h1, _, vs, h2, _⟩ := h
    exact ⟨_, h2, (fun _ z => nomatch z), (fun _ _ z => nomatch z), (fun _ _ z => nomatch z), (fun _ _ z => nomatch z), fun _ => h1⟩
  | ins c fs =>
    obtain ⟨h1, C, dx, vfs, _, h2, _⟩ := h
    exact ⟨_, h2, (fun _ z => nomatch z), (fun _ _ z => nomatch z), (fun _ _ z => nomatch z), (fun _ _ z => nomatch z), fun _ => h1⟩
  | gone => exact h.elim
theorem Go.to (S : SR K mg R0 O α H μ) (T : Go O α H O' α' H') : To O O' H H' := by
  have tr : ∀ {b : Addr} {u : HO}, (Rd H b u) → ((∃ xs, u = .tup xs) ∨ (((∃ xs, u = .lst xs) ∨ (∃ xs, u = .dK xs)) ∧ b ∉ O)) → ∀ k : Nat, α[k]? ≠ some (some b) := fun {b u} h hu k e => by
    obtain ⟨o, h1, h2, h3, h4, h5, h6⟩ := S.tracked e
    rcases h with h | ⟨w, h⟩
    · rw [h1] at h
      cases h
      rcases hu with ⟨xs, rfl⟩ | ⟨hu, n⟩
      · exact h2 xs rfl
      · exact n (h6 (hu.elim .inl fun z => .inr (.inl z)))
    · rw [h1] at h
      cases h
      rcases hu with ⟨xs, rfl⟩ | ⟨⟨xs, rfl⟩ | ⟨xs, rfl⟩, n⟩
      · exact h3 w xs rfl
      · exact h4 w xs rfl
      · exact h5 w xs rfl
  have mv : ∀ {b : Addr} {u : HO}, Rd H b u → (∀ k : Nat, α[k]? ≠ some (some b)) → Rd H' b u := fun {b u} h n => by
    rcases h with h | ⟨w, h⟩
    · exact .inl (T.keep _ _ n h)
    · exact .inr ⟨w, T.keep _ _ n h⟩
  have no : ∀ {b : Addr} {u : HO}, Rd H b u → b ∉ O → b ∉ O' := fun {b u} h n z => by
    rcases T.ol b z with z | z
    · exact n z
    · rcases h with h | ⟨w, h⟩ <;> (rw [z] at h; cases h)
  refine ⟨fun b xs h => mv h (tr h (.inl ⟨xs, rfl⟩)), fun b xs n h => ⟨no h n, mv h (tr h (.inr ⟨.inl ⟨xs, rfl⟩, n⟩))⟩, fun b xs n h => ⟨no h n, mv h (tr h (.inr ⟨.inr ⟨xs, rfl⟩, n⟩))⟩, fun b C dx fs n h => ⟨no (.inl h) n, T.keep _ _ (fun k e => ?_) h⟩⟩
  obtain ⟨o, h1, _, _, _, _, h6⟩ := S.tracked e
  rw [h] at h1
  cases h1
  exact n (h6 (.inr (.inr ⟨_, _, _, rfl⟩)))
theorem Go.trans (T : Go O α H O1 α1 H1) (U : Go O1 α1 H1 O' α' H') : Go O α H O' α' H' := by
  refine ⟨fun b o n h => U.keep b o (fun k e => ?_) (T.keep b o n h), fun k a h => U.ex k a (T.ex k a h), Nat.le_trans T.len U.len, fun k b h => ?_, fun l hl => ?_, fun b h => T.live b (U.live b h)⟩
  · rcases T.new k b e with z | z
    · exact n k z
    · rw [z] at h; cases h
  · rcases U.new k b h with z | z
    · exact T.new k b z
    · exact .inr (T.live b z)
  · rcases U.ol l hl with z | z
    · exact T.ol l z
    · exact .inr (T.live l z)
mutual
theorem VR.to (T : To O O' H H') (e : ∀ (k : Nat) (a : Addr), α[k]? = some (some a) → α'[k]? = some (some a)) : ∀ {v : V} {x : Val}, VR K O α H v x → VR K O' α' H' v x
  | _, _, .d r => .d (Rep.to T r)
  | _, _, .h h => .h (e _ _ h)
  | _, _, .t s rs => .t (T.sqT s) (VRs.to T e rs)
theorem VRs.to (T : To O O' H H') (e : ∀ (k : Nat) (a : Addr), α[k]? = some (some a) → α'[k]? = some (some a)) : ∀ {vs : List V} {xs : List Val}, VRs K O α H vs xs → VRs K O' α' H' vs xs
  | _, _, .nil => .nil
  | _, _, .cons r rs => .cons (VR.to T e r) (VRs.to T e rs)
end
theorem VRs.length : ∀ {vs : List V} {xs : List Val}, VRs K O α H vs xs → vs.length = xs.length
  | _, _, .nil => rfl
  | _, _, .cons _ rs => congrArg (· + 1) (VRs.length rs)
theorem VRs.get : ∀ {vs : List V} {xs : List Val} {i : Nat} {x : Val}, VRs K O α H vs xs → xs[i]? = some x → ∃ v, vs[i]? = some v ∧ VR K O α H v x
  | _, _, _, _, .nil, e => by simp at e
  | _, _, 0, _, .cons r _, e => by simp at e; subst e; exact ⟨_, rfl, r⟩
  | _, _, i + 1, x, .cons _ rs, e => by
    obtain ⟨u, h1, h2⟩ := VRs.get (i := i) (x := x) rs (by simpa using e)
    exact ⟨u, by simpa using h1, h2⟩
theorem VRs.set {v : V} {x : Val} (r : VR K O α H v x) : ∀ {vs : List V} {xs : List Val} (i : Nat), VRs K O α H vs xs → VRs K O α H (vs.set i v) (xs.set i x)
  | _, _, _, .nil => .nil
  | _, _, 0, .cons _ rs => .cons r rs
  | _, _, i + 1, .cons q rs => .cons q (VRs.set r i rs)
theorem VRs.append : ∀ {vs us : List V} {xs ys : List Val}, VRs K O α H vs xs → VRs K O α H us ys → VRs K O α H (vs ++ us) (xs ++ ys)
  | _, _, _, _, .nil, s => s
  | _, _, _, _, .cons r t, s => .cons r (VRs.append t s)
theorem VRs.data : ∀ {vs : List V} {ds : List D}, Reps K O H vs ds → VRs K O α H vs (ds.map Val.d)
  | _, _, .nil => .nil
  | _, _, .cons r rs => .cons (.d r) (VRs.data rs)
theorem VRs.undata : ∀ {ds : List D} {vs : List V}, VRs K O α H vs (ds.map Val.d) → Reps K O H vs ds
  | [], _, .nil => .nil
  | _ :: _, _, .cons r rs => .cons r.dinv (VRs.undata rs)
theorem OR.to (T : To O O' H H') (e : ∀ (k : Nat) (a : Addr), α[k]? = some (some a) → α'[k]? = some (some a)) {a : Addr} {ob : Ob} (ho : a ∈ O → a ∈ O') (hh : H' a = H a) (r : OR K mg R0 O α H a ob) : OR K mg R0 O' α' H' a ob := by
  cases ob with
  | lst xs => obtain ⟨h1, h2, vs, h3, h4⟩ := r; exact ⟨ho h1, h2, vs, by rw [hh]; exact h3, h4.to T e⟩
  | dct es => obtain ⟨h1, h2, vs, h3, h4, h5⟩ := r; exact ⟨ho h1, h2, vs, by rw [hh]; exact h3, h4, h5.to T e⟩
  | ins c fs => obtain ⟨h0, C, dx, vfs, h1, h3, h4, h5⟩ := r; exact ⟨ho h0, C, dx, vfs, h1, by rw [hh]; exact h3, h4, h5.to T e⟩
  | gone => exact r
theorem SR.same (s : Same H H') (S : SR K mg R0 O α H μ) : SR K mg R0 O α H' μ := by
  refine ⟨S.len, S.nd, fun l hl => (S.oo l hl).same s, S.sub, fun k a h => ?_⟩
  obtain ⟨ob, h1, h2⟩ := S.at_ k a h
  obtain ⟨o, h3, _⟩ := S.tracked h
  exact ⟨ob, h1, h2.to (To.same s) (fun _ _ h => h) (fun h => h) (by rw [h3]; exact s a o h3)⟩
/-- a new list -/
theorem SR.newL (S : SR K mg R0 O α H μ) {l : Addr} {vs : List V} {xs : List Val} (hl : H l = none) (r : VRs K O α H vs xs) : SR K mg R0 (l :: O) (α ++ [some l]) (upd H l (.lst vs)) (μ ++ [.lst xs]) := by
  have T : To O (l :: O) H (upd H l (.lst vs)) := To.own hl
  have e : ∀ (k : Nat) (a : Addr), α[k]? = some (some a) → (α ++ [some l])[k]? = some (some a) := fun k a h => by
    rw [List.getElem?_append_left (List.getElem?_eq_some_iff.mp h).1]; exact h
  have cs : ∀ (k : Nat) (a : Addr), (α ++ [some l])[k]? = some (some a) → α[k]? = some (some a) ∨ (k = α.length ∧ a = l) := fun k a h => by
    by_cases hk : k < α.length
    · rw [List.getElem?_append_left hk] at h; exact .inl h
    · rw [List.getElem?_append_right (by omega)] at h
      have h0 : k - α.length = 0 := by
        have := (List.getElem?_eq_some_iff.mp h).1
        simp at this
        omega
      rw [h0] at h
      simp at h
      exact .inr ⟨by omega, h.symm⟩
  have ne : ∀ (k : Nat) (a : Addr), α[k]? = some (some a) → a ≠ l := fun k a h z => by
    obtain ⟨o, h3, _⟩ := S.tracked h
    rw [z, hl] at h3; cases h3
  refine ⟨by rw [List.length_append, List.length_append, S.len]; rfl, fun i j a h1 h2 => ?_, fun b hb => ?_, fun b hb => List.mem_cons_of_mem _ (S.sub b hb), fun k a h => ?_⟩
  · rcases cs i a h1 with h1 | ⟨h1, z⟩ <;> rcases cs j a h2 with h2 | ⟨h2, z2⟩
    · exact S.nd i j a h1 h2
    · exact absurd z2 (ne i a h1)
    · exact absurd z (ne j a h2)
    · omega
  · rcases List.mem_cons.mp hb with rfl | hb
    · exact .inl ⟨vs, upd_same⟩
    · exact (S.oo b hb).new hl
  · rcases cs k a h with h | ⟨rfl, rfl⟩
    · obtain ⟨ob, h1, h2⟩ := S.at_ k a h
      exact ⟨ob, by rw [List.getElem?_append_left (List.getElem?_eq_some_iff.mp h1).1]; exact h1, h2.to T e (fun z => List.mem_cons_of_mem _ z) (upd_ne (ne k a h))⟩
    · refine ⟨.lst xs, by rw [S.len, List.getElem?_append_right (Nat.le_refl _), Nat.sub_self]; rfl, List.mem_cons_self, fun z => ?_, vs, upd_same, r.to T e⟩
      obtain ⟨o, ho⟩ := (S.oo a (S.sub a z)).some
      rw [hl] at ho; cases ho
theorem Go.newL {l : Addr} {o : HO} (hl : H l = none) : Go O α H (l :: O) (α ++ [some l]) (upd H l o) := by
  refine ⟨fun b u _ h => by rw [upd_ne (ne_of_none h hl)]; exact h, fun k a h => by rw [List.getElem?_append_left (List.getElem?_eq_some_iff.mp h).1]; exact h, by rw [List.length_append]; omega, fun k b h => ?_, fun b hb => ?_, fun b h => ?_⟩
  · by_cases hk : k < α.length
    · rw [List.getElem?_append_left hk] at h; exact .inl h
    · rw [List.getElem?_append_right (by omega)] at h
      have h0 : k - α.length = 0 := by
        have := (List.getElem?_eq_some_iff.mp h).1
        simp at this
        omega
      rw [h0] at h
      simp at h
      exact .inr (by rw [← h]; exact hl)
  · rcases List.mem_cons.mp hb with rfl | hb
    · exact .inr hl
    · exact .inl hb
  · by_cases e : b = l
    · rw [e]; exact hl
    · rw [upd_ne e] at h; exact h
/-- a list is changed -/
theorem SR.setL (S : SR K mg R0 O α H μ) {k : Nat} {a : Addr} {xs : List Val} {vs' : List V} {xs' : List Val} (h : α[k]? = some (some a)) (hk : μ[k]? = some (.lst xs)) (r : VRs K O α H vs' xs') : SR K mg R0 O α (upd H a (.lst vs')) (μ.set k (.lst xs')) := by
  obtain ⟨ob, h1, h2⟩ := S.at_ k a h
  rw [hk] at h1
  cases h1
  obtain ⟨ho, hn, vs, hv, _⟩ := h2
  have T : To O O H (upd H a (.lst vs')) := To.set hv ho
  refine ⟨by rw [List.length_set]; exact S.len, S.nd, fun l hl => ?_, S.sub, fun j b hj => ?_⟩
  · by_cases e : l = a
    · subst e; exact .inl ⟨vs', upd_same⟩
    · exact (S.oo l hl).upd_ne e
  · by_cases e : j = k
    · subst e
      rw [h] at hj
      cases hj
      exact ⟨.lst xs', by rw [get_set, if_pos rfl, if_pos (List.getElem?_eq_some_iff.mp hk).1], ho, hn, vs', upd_same, r.to T fun _ _ h => h⟩
    · obtain ⟨ob, g1, g2⟩ := S.at_ j b hj
      have hb : b ≠ a := fun z => e (S.nd j k a (z ▸ hj) h)
      exact ⟨ob, by rw [get_set, if_neg (fun z => e z.symm)]; exact g1, g2.to T (fun _ _ h => h) (fun z => z) (upd_ne hb)⟩
theorem Go.setL {k : Nat} {a : Addr} {o : HO} (h : α[k]? = some (some a)) : Go O α H O α (upd H a o) := by
  refine ⟨fun b u n hb => ?_, fun _ _ h => h, Nat.le_refl _, fun _ _ h => .inl h, fun _ h => .inl h, fun b hb => ?_⟩
  · rw [upd_ne (fun z : b = a => n k (by rw [z]; exact h))]; exact hb
  · by_cases e : b = a
    · subst e; rw [upd_same] at hb; cases hb
    · rw [upd_ne e] at hb; exact hb
end
end SL
/-! the store layer: judgements, expressions, statements -/
namespace SL
open PySem PySem.Spec PyProof.Rows L2 DL
/-- where a def began: the callers' own lists, the lists that are owned, the tracked ones, the heap -/
structure An where
  R0 : List Addr
  O : List Addr
  α : List (Option Addr)
  H : Hp
structure SEv (K : PySem.W.Frag) (mg : Str → Option Value) (A : An) (O : List Addr) (α : List (Option Addr)) (H : Hp) (σ : L2.St) (δ : EnvS) (μ : Sto) : Prop where
  sr : SR K mg A.R0 O α H μ
  st : Go A.O A.α A.H O α H
  len : σ.length = δ.length
  at_ : ∀ (i : Nat) (x : Val), δ[i]? = some (some x) → ∃ v, σ[i]? = some (some v) ∧ VR K O α H v x
/-- an exception's wish at every later state -/
def Er (K : PySem.W.Frag) (mg : Str → Option Value) (G : XD → Hp → Prop) (R0 O : List Addr) (α : List (Option Addr)) (H : Hp) (x : XD) (μ : Sto) : Prop := ∀ O' α' H', Go O α H O' α' H' → SR K mg R0 O' α' H' μ → G x H'
def SX (X : Cx) (G : XD → Hp → Prop) (e : Expr) (f : EnvS → Sto → R (Val × Sto)) : Prop :=
  ∃ t, PE X e t ∧ ∀ (A : An) (δ : EnvS) (μ : Sto) (O : List Addr) (α : List (Option Addr)) (σ : L2.St) (H : Hp) (Q : VK), SEv X.K X.mg A O α H σ δ μ → okR (Er X.K X.mg G A.R0 O α H) (f δ μ) (fun r => ∀ v O' α' H', Go O α H O' α' H' → SR X.K X.mg A.R0 O' α' H' r.2 → VR X.K O' α' H' v r.1 → Q v H') → t σ H Q
def SA (X : Cx) (G : XD → Hp → Prop) (es : List Expr) (f : EnvS → Sto → R (List Val × Sto)) : Prop :=
  (∀ δ μ r, f δ μ = some (.ok r) → r.1.length = es.length) ∧ ∃ t, PA X es t ∧ ∀ (A : An) (δ : EnvS) (μ : Sto) (O : List Addr) (α : List (Option Addr)) (σ : L2.St) (H : Hp) (Q : List V → Hp → Prop), SEv X.K X.mg A O α H σ δ μ → okR (Er X.K X.mg G A.R0 O α H) (f δ μ) (fun r => ∀ vs O' α' H', Go O α H O' α' H' → SR X.K X.mg A.R0 O' α' H' r.2 → VRs X.K O' α' H' vs r.1 → Q vs H') → t σ H Q
def ST (X : Cx) (G : XD → Hp → Prop) (e : Expr) (f : EnvS → Sto → R (Bool × Sto)) : Prop :=
  ∃ t, PT X e t ∧ ∀ (A : An) (δ : EnvS) (μ : Sto) (O : List Addr) (α : List (Option Addr)) (σ : L2.St) (H : Hp) (Q : Bool → Hp → Prop), SEv X.K X.mg A O α H σ δ μ → okR (Er X.K X.mg G A.R0 O α H) (f δ μ) (fun r => ∀ O' α' H', Go O α H O' α' H' → SR X.K X.mg A.R0 O' α' H' r.2 → Q r.1 H') → t σ H Q
inductive OutS where
  | nx (δ : EnvS) (μ : Sto)
  | rt (v : Val) (μ : Sto)
  | bk (δ : EnvS) (μ : Sto)
  | ct (δ : EnvS) (μ : Sto)
def FinS (K : PySem.W.Frag) (mg : Str → Option Value) (A : An) (O0 : List Addr) (α0 : List (Option Addr)) (H0 : Hp) (Dn : Ends) : OutS → Prop
  | .nx δ μ => ∀ O α σ H, SEv K mg A O α H σ δ μ → Go O0 α0 H0 O α H → Dn.nx σ H
  | .rt x μ => ∀ v O α H, SR K mg A.R0 O α H μ → Go A.O A.α A.H O α H → VR K O α H v x → Dn.rt v H
  | .bk δ μ => ∀ O α σ H, SEv K mg A O α H σ δ μ → Go O0 α0 H0 O α H → Dn.bk σ H
  | .ct δ μ => ∀ O α σ H, SEv K mg A O α H σ δ μ → Go O0 α0 H0 O α H → Dn.ct σ H
theorem FinS.go {K : PySem.W.Frag} {mg : Str → Option Value} {A : An} {O0 O1 : List Addr} {α0 α1 : List (Option Addr)} {H0 H1 : Hp} {Dn : Ends} {o : OutS} (T : Go O0 α0 H0 O1 α1 H1) (h : FinS K mg A O0 α0 H0 Dn o) : FinS K mg A O1 α1 H1 Dn o := by
  cases o with
  | nx δ μ => exact fun O α σ H E U => h O α σ H E (T.trans U)
  | rt x μ => exact h
  | bk δ μ => exact fun O α σ H E U => h O α σ H E (T.trans U)
  | ct δ μ => exact fun O α σ H E U => h O α σ H E (T.trans U)
/-- a statement's run: the number of things that were tracked at the def's entry, names, store -/
abbrev SG := Nat → EnvS → Sto → R OutS
def SS (X : Cx) (G : XD → Hp → Prop) (st : Stmt) (g : SG) : Prop :=
  ∃ t, PS X st t ∧ ∀ (A : An) (δ : EnvS) (μ : Sto) (O : List Addr) (α : List (Option Addr)) (σ : L2.St) (H : Hp) (Dn : Ends), SEv X.K X.mg A O α H σ δ μ → okR (Er X.K X.mg G A.R0 A.O A.α A.H) (g A.α.length δ μ) (FinS X.K X.mg A O α H Dn) → t Dn σ H
def SSs (X : Cx) (G : XD → Hp → Prop) (sts : List Stmt) (g : SG) : Prop :=
  ∃ t, PSs X sts t ∧ ∀ (A : An) (δ : EnvS) (μ : Sto) (O : List Addr) (α : List (Option Addr)) (σ : L2.St) (H : Hp) (Dn : Ends), SEv X.K X.mg A O α H σ δ μ → okR (Er X.K X.mg G A.R0 A.O A.α A.H) (g A.α.length δ μ) (FinS X.K X.mg A O α H Dn) → t Dn σ H
section
variable {K : PySem.W.Frag} {mg : Str → Option Value} {A : An} {R0 O O' O1 : List Addr} {α α' α1 : List (Option Addr)} {H H' H1 : Hp} {μ μ' : Sto} {σ : L2.St} {δ : EnvS} {G : XD → Hp → Prop}
theorem SEv.go (E : SEv K mg A O α H σ δ μ) (T : Go O α H O' α' H') (S : SR K mg A.R0 O' α' H' μ') : SEv K mg A O' α' H' σ δ μ' :=
  ⟨S, E.st.trans T, E.len, fun i x h => let ⟨v, h1, h2⟩ := E.at_ i x h; ⟨v, h1, h2.to (T.to E.sr) T.ex⟩⟩
theorem SEv.same (E : SEv K mg A O α H σ δ μ) (s : Same H H') : SEv K mg A O α H' σ δ μ := E.go (Go.same s) (E.sr.same s)
theorem SEv.set {i : Nat} {v : V} {x : Val} (E : SEv K mg A O α H σ δ μ) (r : VR K O α H v x) : SEv K mg A O α H (σ.set i (some v)) (δ.set i (some x)) μ := by
  refine ⟨E.sr, E.st, by rw [List.length_set, List.length_set, E.len], fun j y h => ?_⟩
  rw [get_set] at h
  by_cases hij : i = j
  · subst hij
    rw [if_pos rfl] at h
    split at h
    · cases h
      rename_i hl
      exact ⟨v, by rw [get_set, if_pos rfl, if_pos (by rw [E.len]; exact hl)], r⟩
    · cases h
  · rw [if_neg hij] at h
    obtain ⟨w, h1, h2⟩ := E.at_ j y h
    exact ⟨w, by rw [get_set, if_neg hij]; exact h1, h2⟩
theorem Er.go {x : XD} (T : Go O α H O' α' H') (h : Er K mg G R0 O α H x μ) : Er K mg G R0 O' α' H' x μ := fun O2 α2 H2 U S => h O2 α2 H2 (T.trans U) S
/-! views as data -/
def v0 : Option Val → Sl
  | some (.d x) => .vl x
  | _ => .un
def view (δ : EnvS) : DS := δ.map v0
theorem view_get {i : Nat} {s : Sl} (h : (view δ)[i]? = some s) : (∃ x, δ[i]? = some (some (.d x)) ∧ s = .vl x) ∨ s = .un := by
  unfold view at h
  rw [List.getElem?_map] at h
  cases e : δ[i]? with
  | none => rw [e] at h; cases h
  | some o =>
    rw [e] at h
    cases o with
    | none => cases h; exact .inr rfl
    | some x =>
      cases x with
      | d x => cases h; exact .inl ⟨x, rfl, rfl⟩
      | h k => cases h; exact .inr rfl
      | t xs => cases h; exact .inr rfl
theorem SEv.view (E : SEv K mg A O α H σ δ μ) : Ev K H O H σ (view δ) := by
  refine ⟨Same.refl H, E.sr.oo, by unfold SL.view; rw [List.length_map]; exact E.len, fun i s h => ?_, fun i j l ds es hij h1 => ?_⟩
  · rcases view_get h with ⟨x, h1, rfl⟩ | rfl
    · obtain ⟨v, g1, g2⟩ := E.at_ i _ h1
      exact ⟨v, g1, g2.dinv⟩
    · trivial
  · rcases view_get h1 with ⟨x, _, z⟩ | z <;> cases z
/-- data, if there is no handle in it -/
def dataOf : List Val → Option (List D)
  | [] => some []
  | .d x :: r => (dataOf r).map (x :: ·)
  | _ :: _ => none
theorem dataOf_some : ∀ {xs : List Val} {ds : List D}, dataOf xs = some ds → xs = ds.map Val.d
  | [], ds, h => by cases h; rfl
  | .d x :: r, ds, h => by
    unfold dataOf at h
    cases e : dataOf r with
    | none => rw [e] at h; cases h
    | some q => rw [e] at h; cases h; rw [dataOf_some e]; rfl
theorem dataOf_map (ds : List D) : dataOf (ds.map Val.d) = some ds := by
  induction ds with
  | nil => rfl
  | cons d r ih => show (dataOf (r.map Val.d)).map (d :: ·) = _; rw [ih]; rfl
/-- a value as data: tracked lists are read as they are now, two deep -/
def lv1 (n : Nat) (μ : Sto) : Val → Option D
  | .d x => some x
  | .h k => if n ≤ k then (match μ[k]? with
    | some (.lst xs) => (dataOf xs).map PyData.list
    | _ => none) else none
  | .t _ => none
def lv1s (n : Nat) (μ : Sto) : List Val → Option (List D)
  | [] => some []
  | x :: xs => match lv1 n μ x, lv1s n μ xs with
    | some d, some ds => some (d :: ds)
    | _, _ => none
def lv2 (n : Nat) (μ : Sto) : Val → Option D
  | .d x => some x
  | .h k => if n ≤ k then (match μ[k]? with
    | some (.lst xs) => (lv1s n μ xs).map PyData.list
    | _ => none) else none
  | .t xs => (lv1s n μ xs).map PyData.tuple
def v1 (n : Nat) (μ : Sto) : Option Val → Sl
  | some x => match lv2 n μ x with
    | some d => .vl d
    | none => .un
  | none => .un
def viewL (n : Nat) (μ : Sto) (δ : EnvS) : DS := δ.map (v1 n μ)
theorem lv1s_data (n : Nat) (μ : Sto) (ds : List D) : lv1s n μ (ds.map Val.d) = some ds := by
  induction ds with
  | nil => rfl
  | cons d ds ih => show (match lv1 n μ (.d d), lv1s n μ (ds.map Val.d) with | some d, some ds => some (d :: ds) | _, _ => none) = _; rw [ih]; rfl
theorem v1_of {n : Nat} {μ : Sto} {x : Val} {d : D} (h : lv2 n μ x = some d) : v1 n μ (some x) = .vl d := by
  show (match lv2 n μ x with | some d => Sl.vl d | none => .un) = _
  rw [h]
theorem lv2_h {n k : Nat} {μ : Sto} {xs : List Val} {ds : List D} (hn : n ≤ k) (h : μ[k]? = some (.lst xs)) (hx : lv1s n μ xs = some ds) : lv2 n μ (.h k) = some (.list ds) := by
  show (if n ≤ k then (match μ[k]? with | some (.lst xs) => (lv1s n μ xs).map PyData.list | _ => none) else none) = _
  rw [if_pos hn, h]
  show (lv1s n μ xs).map PyData.list = _
  rw [hx]
  rfl
theorem v1_h {n k : Nat} {μ : Sto} {ds : List D} (hn : n ≤ k) (h : μ[k]? = some (.lst (ds.map Val.d))) : v1 n μ (some (.h k)) = .vl (.list ds) := v1_of (lv2_h hn h (lv1s_data n μ ds))
section
variable {n : Nat}
/-- what is read so stands for the data, if what is read lies without O' -/
theorem lv1_rep (S : SR K mg R0 O α H μ) (T : To O O' H H) (hn : ∀ (k : Nat) (a : Addr) (xs : List Val), α[k]? = some (some a) → n ≤ k → μ[k]? = some (.lst xs) → a ∉ O') {v : V} {x : Val} {d : D} (r : VR K O α H v x) (h : lv1 n μ x = some d) : Rep K O' H v d := by
  cases x with
  | d x => cases h; exact Rep.to T r.dinv
  | t xs => cases h
  | h k =>
    obtain ⟨a, ha, rfl⟩ := r.hinv
    have h : (if n ≤ k then (match μ[k]? with | some (.lst xs) => (dataOf xs).map PyData.list | _ => none) else none) = some d := h
    by_cases hk : n ≤ k
    · rw [if_pos hk] at h
      obtain ⟨ob, g1, g2⟩ := S.at_ k a ha
      rw [g1] at h
      cases ob with
      | lst xs =>
        have h : (dataOf xs).map PyData.list = some d := h
        cases e : dataOf xs with
        | none => rw [e] at h; cases h
        | some ds =>
          rw [e] at h
          cases h
          obtain ⟨_, _, vs, g5, g6⟩ := g2
          rw [dataOf_some e] at g6
          exact .lst (.inl g5) (hn k a xs ha hk g1) (g6.undata.to T)
      | dct es => cases h
      | ins c fs => cases h
      | gone => cases h
    · rw [if_neg hk] at h; cases h
theorem lv1s_rep (S : SR K mg R0 O α H μ) (T : To O O' H H) (hn : ∀ (k : Nat) (a : Addr) (xs : List Val), α[k]? = some (some a) → n ≤ k → μ[k]? = some (.lst xs) → a ∉ O') : ∀ {xs : List Val} {vs : List V} {ds : List D}, VRs K O α H vs xs → lv1s n μ xs = some ds → Reps K O' H vs ds
  | [], _, ds, .nil, h => by cases h; exact .nil
  | x :: xs, _, ds, .cons r rs, h => by
    unfold lv1s at h
    split at h
    · rename_i d ds' e1 e2
      cases h
      exact .cons (lv1_rep S T hn r e1) (lv1s_rep S T hn rs e2)
    · cases h
theorem lv2_rep (S : SR K mg R0 O α H μ) (T : To O O' H H) (hn : ∀ (k : Nat) (a : Addr) (xs : List Val), α[k]? = some (some a) → n ≤ k → μ[k]? = some (.lst xs) → a ∉ O') {v : V} {x : Val} {d : D} (r : VR K O α H v x) (h : lv2 n μ x = some d) : Rep K O' H v d := by
  cases x with
  | d x => cases h; exact Rep.to T r.dinv
  | t xs =>
    obtain ⟨a, vs, rfl, hs, rs⟩ := r.tinv
    have h : (lv1s n μ xs).map PyData.tuple = some d := h
    cases e : lv1s n μ xs with
    | none => rw [e] at h; cases h
    | some ds =>
      rw [e] at h
      cases h
      exact .tup hs (lv1s_rep S T hn rs e)
  | h k =>
    obtain ⟨a, ha, rfl⟩ := r.hinv
    have h : (if n ≤ k then (match μ[k]? with | some (.lst xs) => (lv1s n μ xs).map PyData.list | _ => none) else none) = some d := h
    by_cases hk : n ≤ k
    · rw [if_pos hk] at h
      obtain ⟨ob, g1, g2⟩ := S.at_ k a ha
      rw [g1] at h
      cases ob with
      | lst xs =>
        have h : (lv1s n μ xs).map PyData.list = some d := h
        cases e : lv1s n μ xs with
        | none => rw [e] at h; cases h
        | some ds =>
          rw [e] at h
          cases h
          obtain ⟨_, _, vs, g5, g6⟩ := g2
          exact .lst (.inl g5) (hn k a xs ha hk g1) (lv1s_rep S T hn g6 e)
      | dct es => cases h
      | ins c fs => cases h
      | gone => cases h
    · rw [if_neg hk] at h; cases h
end
theorem viewL_get {n i : Nat} {s : Sl} (h : (viewL n μ δ)[i]? = some s) : (∃ x d, δ[i]? = some (some x) ∧ lv2 n μ x = some d ∧ s = .vl d) ∨ s = .un := by
  unfold viewL at h
  rw [List.getElem?_map] at h
  cases e : δ[i]? with
  | none => rw [e] at h; cases h
  | some o =>
    rw [e] at h
    cases o with
    | none => cases h; exact .inr rfl
    | some x =>
      have h : some (match lv2 n μ x with | some d => Sl.vl d | none => .un) = some s := h
      cases e2 : lv2 n μ x with
      | none => rw [e2] at h; cases h; exact .inr rfl
      | some d => rw [e2] at h; cases h; exact .inl ⟨x, d, rfl, e2, rfl⟩
/-- with lists of the def's own read as data: O' keeps out what is read so -/
theorem SEv.viewL {n : Nat} (E : SEv K mg A O α H σ δ μ) (hs : ∀ l ∈ O', l ∈ O) (hn : ∀ (k : Nat) (a : Addr) (xs : List Val), α[k]? = some (some a) → n ≤ k → μ[k]? = some (.lst xs) → a ∉ O') : Ev K H O' H σ (SL.viewL n μ δ) := by
  have T : To O O' H H := .less hs
  refine ⟨Same.refl H, fun l hl => E.sr.oo l (hs l hl), by unfold SL.viewL; rw [List.length_map]; exact E.len, fun i s h => ?_, fun i j l ds es hij h1 => ?_⟩
  · rcases viewL_get h with ⟨x, d, h1, h2, rfl⟩ | rfl
    · obtain ⟨v, g1, g2⟩ := E.at_ i _ h1
      exact ⟨v, g1, lv2_rep E.sr T hn g2 h2⟩
    · trivial
  · rcases viewL_get h1 with ⟨x, d, _, _, z⟩ | z <;> cases z
end
section
variable {X : Cx} {G : XD → Hp → Prop} {a b c e : Expr} {es rest : List Expr} {pos pos' : Pos} {st : Stmt} {sts sts' : List Stmt}
/-- what a data expression gives -/
def sPure (f : DS → M D) : EnvS → Sto → R (Val × Sto) := fun δ μ => (ofM (f (view δ)) μ).thn fun d => R.ret (.d d, μ)
theorem ofM_ok {β : Type} {K : PySem.W.Frag} {mg : Str → Option Value} {R0 O : List Addr} {α : List (Option Addr)} {H : Hp} {μ : Sto} {r : M β} {k : β → Prop} (S : SR K mg R0 O α H μ) (h : okR (Er K mg G R0 O α H) (ofM r μ) k) : ok (GS G H) r k := by
  match r, h with
  | some (.ok a), h => exact h
  | some (.error x), h => exact fun H' s => h O α H' (Go.same s) (S.same s)
theorem sx_pure {f : DS → M D} (h : PD X G e f) : SX X G e (sPure f) := by
  obtain ⟨t, p, h⟩ := h
  refine ⟨t, p, fun A δ μ O α σ H Q E k => ?_⟩
  refine h (view δ) O σ H Q E.view (ok_mono (ofM_ok E.sr (okR_thn k)) fun d z v H' s r => z v O α H' (Go.same s) (E.sr.same s) (.d r))
/-- a data expression with the tracked lists lent; what it gives has no list in it -/
def sLend (f : DS → M D) : EnvS → Sto → R (Val × Sto) := fun δ μ => (ofM (f (viewL 0 μ δ)) μ).thn fun d => if flatD d = true then R.ret (.d d, μ) else none
end
end SL
/-! the store layer: names, arguments, calls, statements, defs -/
namespace SL
open PySem PySem.Spec PyProof.Rows L2 DL
section
variable {X : Cx} {G : XD → Hp → Prop} {a b c e ix : Expr} {es rest : List Expr} {pos pos' tpos : Pos} {st : Stmt} {sts sts' : List Stmt}
def sVar (i : Nat) : EnvS → Sto → R (Val × Sto) := fun δ μ => match δ[i]? with
  | some (some x) => R.ret (x, μ)
  | _ => none
theorem sx_var {i : Nat} (h : PE X e (tVar i)) : SX X G e (sVar i) := by
  refine ⟨_, h, fun A δ μ O α σ H Q E k => ?_⟩
  unfold sVar at k
  split at k
  · rename_i x hx
    obtain ⟨v, h1, h2⟩ := E.at_ i x hx
    exact ⟨v, h1, k v O α H Go.refl E.sr h2⟩
  · exact k.elim
def sNil : EnvS → Sto → R (List Val × Sto) := fun _ μ => R.ret ([], μ)
def sCons (f : EnvS → Sto → R (Val × Sto)) (fa : EnvS → Sto → R (List Val × Sto)) : EnvS → Sto → R (List Val × Sto) := fun δ μ => (f δ μ).thn fun r => (fa δ r.2).thn fun q => R.ret (r.1 :: q.1, q.2)
theorem sa_nil : SA X G [] sNil := by
  refine ⟨fun δ μ r h => by cases h; rfl, _, pa_nil, fun A δ μ O α σ H Q E k => k [] O α H Go.refl E.sr .nil⟩
theorem sa_cons {f : EnvS → Sto → R (Val × Sto)} {fa : EnvS → Sto → R (List Val × Sto)} (ha : SX X G e f) (hr : SA X G es fa) (hs : starEach (e :: es) X.env = (false, eval e X.env) :: starEach es X.env := by rfl) : SA X G (e :: es) (sCons f fa) := by
  obtain ⟨t, p, ha⟩ := ha
  obtain ⟨hl, u, q, hr⟩ := hr
  refine ⟨fun δ μ r h => ?_, _, pa_cons p q hs, fun A δ μ O α σ H Q E k => ?_⟩
  · unfold sCons at h
    cases e1 : f δ μ with
    | none => rw [e1] at h; cases h
    | some r1 =>
      rw [e1] at h
      cases r1 with
      | error x => cases h
      | ok x =>
        have h : R.thn (fa δ x.2) _ = _ := h
        cases e2 : fa δ x.2 with
        | none => rw [e2] at h; cases h
        | some r2 =>
          rw [e2] at h
          cases r2 with
          | error x => cases h
          | ok xs =>
            cases h
            show (x.1 :: xs.1).length = _
            rw [List.length_cons, List.length_cons, hl δ x.2 xs e2]
  · refine ha A δ μ O α σ H _ E (okR_mono (okR_thn k) fun r z v O1 α1 H1 T1 S1 r1 => ?_)
    refine hr A δ r.2 O1 α1 σ H1 _ (E.go T1 S1) (okR_mono (okR_imp (okR_thn z) fun x μ h => Er.go T1 h) fun q y vs O2 α2 H2 T2 S2 rs => ?_)
    exact y (v :: vs) O2 α2 H2 (T1.trans T2) S2 (.cons (r1.to (T2.to S1) T2.ex) rs)
/-! tests over data, tracked lists lent -/
def sTest (fb : DS → M Bool) : EnvS → Sto → R (Bool × Sto) := fun δ μ => (ofM (fb (viewL 0 μ δ)) μ).thn fun b => R.ret (b, μ)
theorem st_test {fb : DS → M Bool} (h : PDT X G e fb) : ST X G e (sTest fb) := by
  obtain ⟨t, p, h⟩ := h
  refine ⟨t, p, fun A δ μ O α σ H Q E k => ?_⟩
  refine h (viewL 0 μ δ) A.R0 σ H Q (E.viewL E.sr.sub fun k a xs ha _ hx => ?_) (ok_mono (ofM_ok E.sr (okR_thn k)) fun d z H' s => z O α H' (Go.same s) (E.sr.same s))
  obtain ⟨ob, h1, h2⟩ := E.sr.at_ k a ha
  rw [hx] at h1
  cases h1
  exact h2.2.1
/-! statements -/
def sNext : SG := fun _ δ μ => R.ret (.nx δ μ)
def sSeq (g h : SG) : SG := fun n δ μ => (g n δ μ).thn fun o => match o with
  | .nx δ' μ' => h n δ' μ'
  | o => R.ret o
theorem sss_nil : SSs X G [] sNext := ⟨_, pss_nil, fun A δ μ O α σ H Dn E k => k O α σ H E Go.refl⟩
theorem sss_one {g : SG} (h : SS X G st g) : SSs X G [st] g := by
  obtain ⟨t, p, h⟩ := h
  exact ⟨_, pss_one p, h⟩
theorem sss_cons {g h : SG} (h1 : SS X G st g) (h2 : SSs X G sts h) : SSs X G (st :: sts) (sSeq g h) := by
  obtain ⟨t, p, h1⟩ := h1
  obtain ⟨u, q, h2⟩ := h2
  refine ⟨_, pss_cons p q, fun A δ μ O α σ H Dn E k => ?_⟩
  refine h1 A δ μ O α σ H _ E (okR_mono (okR_thn k) fun o z => ?_)
  cases o with
  | nx δ' μ' => exact fun O' α' σ' H' E' T => h2 A δ' μ' O' α' σ' H' Dn E' (okR_mono z fun o w => w.go T)
  | rt v μ' => exact z
  | bk δ' μ' => exact z
  | ct δ' μ' => exact z
def sPass : SG := fun _ δ μ => R.ret (.nx δ μ)
def sBreak : SG := fun _ δ μ => R.ret (.bk δ μ)
def sIf (c : EnvS → Sto → R (Bool × Sto)) (g h : SG) : SG := fun n δ μ => (c δ μ).thn fun r => if r.1 = true then g n δ r.2 else h n δ r.2
theorem ss_if {fc : EnvS → Sto → R (Bool × Sto)} {g h : SG} (hc : ST X G c fc) (h1 : SSs X G sts g) (h2 : SSs X G sts' h) : SS X G (.If c sts sts' pos) (sIf fc g h) := by
  obtain ⟨t, p, hc⟩ := hc
  obtain ⟨u, q, h1⟩ := h1
  obtain ⟨w, r, h2⟩ := h2
  refine ⟨_, ps_if p q r, fun A δ μ O α σ H Dn E k => ?_⟩
  refine hc A δ μ O α σ H _ E (okR_mono (okR_imp (okR_thn k) fun x μ h => Er.go E.st h) fun r z O1 α1 H1 T1 S1 => ?_)
  cases hb : r.1 with
  | true =>
    rw [hb, if_pos rfl] at z
    rw [if_pos rfl]
    exact h1 A δ r.2 O1 α1 σ H1 Dn (E.go T1 S1) (okR_mono z fun o w => w.go T1)
  | false =>
    rw [hb, if_neg Bool.false_ne_true] at z
    rw [if_neg Bool.false_ne_true]
    exact h2 A δ r.2 O1 α1 σ H1 Dn (E.go T1 S1) (okR_mono z fun o w => w.go T1)
def sAsg (i : Nat) (f : EnvS → Sto → R (Val × Sto)) : SG := fun _ δ μ => (f δ μ).thn fun r => R.ret (.nx (δ.set i (some r.1)) r.2)
theorem ss_set {i : Nat} {x : Str} {f : EnvS → Sto → R (Val × Sto)} (hN : X.N.Nodup) (hi : X.N[i]? = some x) (hx : Loc X.env.scope x) (he : SX X G e f) (hs : swapsWith e (some (.Name x pos')) pos.line X.env = pure false := by rfl) (hf : X.fn x = true ∨ X.env.scope.names.lookup x = some .local := by first | exact .inl rfl | exact .inr rfl | assumption) :
    SS X G (.Assign [.Name x pos'] e pos) (sAsg i f) := by
  obtain ⟨t, p, he⟩ := he
  refine ⟨_, ps_set hN hi hx p hs hf, fun A δ μ O α σ H Dn E k => ?_⟩
  refine he A δ μ O α σ H _ E (okR_mono (okR_imp (okR_thn k) fun x μ h => Er.go E.st h) fun r z v O1 α1 H1 T1 S1 r1 => ?_)
  exact z O1 α1 _ H1 ((E.go T1 S1).set r1) T1
/-- name = a new list of data -/
def sNewL (i : Nat) (fn : DS → M (List D)) : SG := fun _ δ μ => (ofM (fn (view δ)) μ).thn fun ds => R.ret (.nx (δ.set i (some (.h μ.length))) (μ ++ [.lst (ds.map Val.d)]))
/-- name[i] = e, the name a tracked list -/
def sSetI (i : Nat) (fi f : EnvS → Sto → R (Val × Sto)) : SG := fun _ δ μ => (f δ μ).thn fun r => (match δ[i]? with
  | some (some (.h k)) => (fi δ r.2).thn fun q => match q.1, q.2[k]? with
    | .d (.int n), some (.lst xs) => match ixN xs.length n with
      | some j => R.ret (.nx δ (q.2.set k (.lst (xs.set j r.1))))
      | none => none
    | _, _ => none
  | _ => none)
def sRet (f : EnvS → Sto → R (Val × Sto)) : SG := fun _ δ μ => (f δ μ).thn fun r => R.ret (.rt r.1 r.2)
theorem ss_ret {f : EnvS → Sto → R (Val × Sto)} (he : SX X G e f) : SS X G (.Return (some e) pos) (sRet f) := by
  obtain ⟨t, p, he⟩ := he
  refine ⟨_, ps_ret p, fun A δ μ O α σ H Dn E k => ?_⟩
  exact he A δ μ O α σ H _ E (okR_mono (okR_imp (okR_thn k) fun x μ h => Er.go E.st h) fun r z v O1 α1 H1 T1 S1 r1 => z v O1 α1 H1 S1 (E.st.trans T1) r1)
mutual
def closedV (n : Nat) : Val → Bool
  | .d _ => true
  | .h k => decide (k < n)
  | .t xs => closedVs n xs
def closedVs (n : Nat) : List Val → Bool
  | [] => true
  | x :: xs => closedV n x && closedVs n xs
end
def closedO (n : Nat) : Ob → Bool
  | .lst xs => closedVs n xs
  | .dct es => closedVs n (es.map (·.2))
  | .ins _ fs => closedVs n (fs.map (·.2))
  | .gone => true
/-- return e: what the def itself tracks is data from now on -/
def sRetF (f : DS → M D) : SG := fun n δ μ => if (μ.take n).all (closedO n) = true then (ofM (f (viewL n μ δ)) μ).thn fun d => R.ret (.rt (.d d) (μ.take n)) else none
section
variable {K : PySem.W.Frag} {mg : Str → Option Value} {R0 O O' : List Addr} {α α' : List (Option Addr)} {H H' : Hp} {μ : Sto}
mutual
theorem VR.cut {n : Nat} (T : To O O' H H') : ∀ {v : V} {x : Val}, closedV n x = true → VR K O α H v x → VR K O' (α.take n) H' v x
  | _, _, _, .d r => .d (Rep.to T r)
  | _, .h k, hc, .h e => by
    have hk : k < n := of_decide_eq_true hc
    exact .h (by rw [List.getElem?_take, if_pos hk]; exact e)
  | _, .t xs, hc, .t s rs => .t (T.sqT s) (VRs.cut T hc rs)
theorem VRs.cut {n : Nat} (T : To O O' H H') : ∀ {vs : List V} {xs : List Val}, closedVs n xs = true → VRs K O α H vs xs → VRs K O' (α.take n) H' vs xs
  | _, _, _, .nil => .nil
  | _, _ :: _, hc, .cons r rs => .cons (VR.cut T (Bool.and_eq_true_iff.mp hc).1 r) (VRs.cut T (Bool.and_eq_true_iff.mp hc).2 rs)
end
theorem SR.cut {n : Nat} (S : SR K mg R0 O α H μ) (hs : ∀ l ∈ O', l ∈ O) (hr : ∀ l ∈ R0, l ∈ O') (hk : ∀ (k : Nat) (a : Addr), k < n → α[k]? = some (some a) → a ∈ O → a ∈ O') (hc : (μ.take n).all (closedO n) = true) : SR K mg R0 O' (α.take n) H (μ.take n) := by
  have T : To O O' H H := .less hs
  have gt : ∀ (k : Nat) (a : Addr), (α.take n)[k]? = some (some a) → k < n ∧ α[k]? = some (some a) := fun k a h => by
    rw [List.getElem?_take] at h
    split at h
    · rename_i hk; exact ⟨hk, h⟩
    · cases h
  refine ⟨by rw [List.length_take, List.length_take, S.len], fun i j a h1 h2 => S.nd i j a (gt i a h1).2 (gt j a h2).2, fun l hl => S.oo l (hs l hl), hr, fun k a h => ?_⟩
  obtain ⟨h1, h2⟩ := gt k a h
  obtain ⟨ob, g1, g2⟩ := S.at_ k a h2
  have gk : (μ.take n)[k]? = some ob := by rw [List.getElem?_take, if_pos h1]; exact g1
  have hco : closedO n ob = true := List.all_eq_true.mp hc ob (List.mem_of_getElem? gk)
  refine ⟨ob, gk, ?_⟩
  cases ob with
  | lst xs => obtain ⟨p1, p2, vs, p3, p4⟩ := g2; exact ⟨hk k a h1 h2 p1, p2, vs, p3, p4.cut T hco⟩
  | dct es =>
    obtain ⟨p1, p2, kvs, p3, p4, p5⟩ := g2
    exact ⟨hk k a h1 h2 p1, p2, kvs, p3, p4, p5.cut T hco⟩
  | ins c fs =>
    obtain ⟨p1, C, dx, vfs, p2, p3, p4, p5⟩ := g2
    exact ⟨hk k a h1 h2 p1, C, dx, vfs, p2, p3, p4, p5.cut T hco⟩
  | gone => exact g2
end
def sDrop (f : EnvS → Sto → R (Val × Sto)) : SG := fun _ δ μ => (f δ μ).thn fun r => R.ret (.nx δ r.2)
theorem ss_expr {f : EnvS → Sto → R (Val × Sto)} (he : SX X G e f) (hs : swapsWith e none pos.line X.env = pure false := by rfl) : SS X G (.Expr e pos) (sDrop f) := by
  obtain ⟨t, p, he⟩ := he
  refine ⟨_, ps_expr p hs, fun A δ μ O α σ H Dn E k => ?_⟩
  exact he A δ μ O α σ H _ E (okR_mono (okR_imp (okR_thn k) fun x μ h => Er.go E.st h) fun r z v O1 α1 H1 T1 S1 r1 => z O1 α1 σ H1 (E.go T1 S1) T1)
/-! targets: names and tuples of names -/
def SGT (X : Cx) (tg : Expr) (g : D → EnvS → Option EnvS) : Prop :=
  ∃ t, PG X tg t ∧ ∀ (A : An) (δ δ' : EnvS) (d : D) (v : V) (O : List Addr) (α : List (Option Addr)) (σ : L2.St) (μ : Sto) (H : Hp) (Q : L2.St → Hp → Prop), SEv X.K X.mg A O α H σ δ μ → Rep X.K O H v d → g d δ = some δ' → (∀ σ', SEv X.K X.mg A O α H σ' δ' μ → Q σ' H) → t v σ H Q
def SGTs (X : Cx) (ts : List Expr) (g : List D → EnvS → Option EnvS) : Prop :=
  ∃ t, PGs X ts t ∧ ∀ (A : An) (δ δ' : EnvS) (ds : List D) (vs : List V) (O : List Addr) (α : List (Option Addr)) (σ : L2.St) (μ : Sto) (H : Hp) (Q : L2.St → Hp → Prop), SEv X.K X.mg A O α H σ δ μ → Reps X.K O H vs ds → g ds δ = some δ' → (∀ σ', SEv X.K X.mg A O α H σ' δ' μ → Q σ' H) → t vs σ H Q
def agN (i : Nat) : D → EnvS → Option EnvS := fun d δ => some (δ.set i (some (.d d)))
theorem sg_name {i : Nat} (h : PG X e (gName i)) : SGT X e (agN i) := by
  refine ⟨_, h, fun A δ δ' d v O α σ μ H Q E r e k => ?_⟩
  cases e
  exact k _ (E.set (.d r))
def agNil : List D → EnvS → Option EnvS := fun ds δ => match ds with
  | [] => some δ
  | _ => none
def agCons (t : D → EnvS → Option EnvS) (u : List D → EnvS → Option EnvS) : List D → EnvS → Option EnvS := fun ds δ => match ds with
  | d :: r => (t d δ).bind (u r)
  | [] => none
def agTup (n : Nat) (u : List D → EnvS → Option EnvS) : D → EnvS → Option EnvS := fun d δ => match d with
  | .tuple ds => if ds.length = n then u ds δ else none
  | _ => none
/-! for, over what data gives -/
def forS (t : D → EnvS → Option EnvS) (g : EnvS → Sto → R OutS) : List D → EnvS → Sto → R OutS
  | [], δ, μ => R.ret (.nx δ μ)
  | d :: ds, δ, μ => match t d δ with
    | none => none
    | some δ1 => (g δ1 μ).thn fun o => match o with
      | .nx δ' μ' => forS t g ds δ' μ'
      | .ct δ' μ' => forS t g ds δ' μ'
      | .bk δ' μ' => R.ret (.nx δ' μ')
      | .rt v μ' => R.ret (.rt v μ')
def sFor (fi : DS → M (List D)) (t : D → EnvS → Option EnvS) (g : SG) : SG := fun n δ μ => (ofM (fi (view δ)) μ).thn fun ds => forS t (g n) ds δ μ
theorem ss_for {tg iter : Expr} {body : List Stmt} {t : D → EnvS → Option EnvS} {fi : DS → M (List D)} {g : SG} (hp : PassesOwn (model X.prog X.w) X.A X.env X.xe) (hc : X.calm = true) (hi : PDI X G tg iter fi) (hg : SGT X tg t) (hb : SSs X G body g)
    (hs : ∀ x, foldedSetIterable iter X.env x = pure x := by intro _; rfl) : SS X G (.For tg iter body [] pos) (sFor fi t g) := by
  obtain ⟨wi, pi, hi⟩ := hi
  obtain ⟨tgt, pt, hg⟩ := hg
  obtain ⟨tb, pb, hb⟩ := hb
  refine ⟨_, ps_for hp hc pi pt pb hs, fun A δ μ O α σ H Dn E k => ?_⟩
  refine hi (view δ) O σ H _ E.view (ok_mono (ofM_ok E.sr (okR_imp (okR_thn k) fun x μ h => Er.go E.st h)) fun ds z J H1 s1 Y => ?_)
  have E1 := E.same s1
  refine ⟨fun i m σ2 H2 => m = ds.length - i ∧ i ≤ ds.length ∧ ∃ δ2 μ2 O2 α2, SEv X.K X.mg A O2 α2 H2 σ2 δ2 μ2 ∧ Go O α H1 O2 α2 H2 ∧ okR (Er X.K X.mg G A.R0 A.O A.α A.H) (forS t (g A.α.length) (ds.drop i) δ2 μ2) (FinS X.K X.mg A O α H Dn), ⟨_, rfl, Nat.zero_le _, δ, μ, O, α, E1, Go.refl, z⟩, ?_⟩
  rintro i m σ2 H2 ⟨rfl, hi, δ2, μ2, O2, α2, E2, T, k2⟩
  have TT := T.to E1.sr
  by_cases hlt : i < ds.length
  · right
    have hd : ds[i]? = some ds[i] := List.getElem?_eq_getElem hlt
    obtain ⟨go, yl⟩ := Y.step O2 H2 TT i _ hd
    refine ⟨go, fun σ' H' => ∃ δ2 μ2 O2 α2, SEv X.K X.mg A O2 α2 H' σ' δ2 μ2 ∧ Go O α H1 O2 α2 H' ∧ okR (Er X.K X.mg G A.R0 A.O A.α A.H) (forS t (g A.α.length) (ds.drop (i + 1)) δ2 μ2) (FinS X.K X.mg A O α H Dn), fun σ' H' h => ⟨_, by omega, rfl, hlt, h⟩, fun x H3 y => ?_⟩
    obtain ⟨s3, rx⟩ := yl x H3 y
    rw [drop_get hd] at k2
    have E3 := E2.same s3
    have T3 := T.trans (Go.same s3)
    unfold forS at k2
    cases h3 : t ds[i] δ2 with
    | none => rw [h3] at k2; exact k2.elim
    | some δ3 =>
      rw [h3] at k2
      refine hg A δ2 δ3 ds[i] x O2 α2 σ2 μ2 H3 _ E3 rx h3 fun σ4 E4 => ?_
      refine hb A δ3 μ2 O2 α2 σ4 H3 _ E4 (okR_mono (okR_thn k2) fun o z => ?_)
      cases o with
      | nx δ5 μ5 => exact fun O5 α5 σ5 H5 E5 T5 => ⟨δ5, μ5, O5, α5, E5, T3.trans T5, z⟩
      | ct δ5 μ5 => exact fun O5 α5 σ5 H5 E5 T5 => ⟨δ5, μ5, O5, α5, E5, T3.trans T5, z⟩
      | bk δ5 μ5 => exact fun O5 α5 σ5 H5 E5 T5 => z O5 α5 σ5 H5 E5 ((Go.same s1).trans (T3.trans T5))
      | rt v μ5 => exact z
  · left
    have e : i = ds.length := by omega
    subst e
    rw [List.drop_length] at k2
    exact ⟨Y.stop O2 H2 TT, k2 O2 α2 σ2 H2 E2 ((Go.same s1).trans T)⟩
/-! while -/
def whileS (c : EnvS → Sto → R (Bool × Sto)) (g : EnvS → Sto → R OutS) : Nat → EnvS → Sto → R OutS
  | 0, _, _ => none
  | n + 1, δ, μ => (c δ μ).thn fun r => if r.1 = true then (g δ r.2).thn fun o => match o with
      | .nx δ' μ' => whileS c g n δ' μ'
      | .ct δ' μ' => whileS c g n δ' μ'
      | .bk δ' μ' => R.ret (.nx δ' μ')
      | .rt v μ' => R.ret (.rt v μ')
    else R.ret (.nx δ r.2)
noncomputable def sWhile (c : EnvS → Sto → R (Bool × Sto)) (g : SG) : SG := fun m δ μ =>
  open Classical in if h : ∃ n r, whileS c (g m) n δ μ = some r then whileS c (g m) (Classical.choose h) δ μ else none
end
end SL
/-! the store layer: defs, calls, a def of the store layer as one of the data layer -/
namespace SL
open PySem PySem.Spec PyProof.Rows L2 DL
def spS (K : PySem.W.Frag) (mg : Str → Option Value) (n : Nat) (F : List Val → Sto → R (Val × Sto)) : Sp := fun vs H Q _ => ∃ R0 O α μ xs, vs.length = n ∧ SR K mg R0 O α H μ ∧ VRs K O α H vs xs ∧ okR (fun _ _ => False) (F xs μ) (fun r => ∀ v O' α' H', Go O α H O' α' H' → SR K mg R0 O' α' H' r.2 → VR K O' α' H' v r.1 → Q v H')
structure DefS (P : Program) (w : World) (K : PySem.W.Frag) (mg : Str → Option Value) (base : Heap) (k : Nat) (x : Str) (n : Nat) (F : List Val → Sto → R (Val × Sto)) : Prop where
  ex : ∃ (f : Addr) (fd : FuncData) (ps : List Str), FnOk P w K mg base CX0 k f fd ps (spS K mg n F) ∧ mg x = some (.ref f) ∧ PySem.W.keepIn K (.ref f) = true ∧ Binds K fd ps []
def noXR {β : Type} (r : R β) : R β := match r with
  | some (.error _) => none
  | r => r
theorem okR_noX {β : Type} {G : XD → Sto → Prop} {r : R β} {k : β → Prop} (h : okR G (noXR r) k) : okR (fun _ _ => False) r k := by
  match r, h with
  | some (.ok a), h => exact h
def sCall (F : List Val → Sto → R (Val × Sto)) (fa : EnvS → Sto → R (List Val × Sto)) : EnvS → Sto → R (Val × Sto) := fun δ μ => (fa δ μ).thn fun r => noXR (F r.1 r.2)
section
variable {X : Cx} {G : XD → Hp → Prop} {e : Expr} {es : List Expr} {pos p : Pos}
theorem sx_call {k n : Nat} {x : Str} {F : List Val → Sto → R (Val × Sto)} {fa : EnvS → Sto → R (List Val × Sto)} (h : DefS X.prog X.w X.K X.mg X.base k x n F) (hr : Room k X.A) (hg : Gl X x) (hn : (e :: es).length = n) (ha : SA X G (e :: es) fa)
    (hdb : (x == ("__debug__" : Str)) = false := by decide) (he : starEach (e :: es) X.env = (false, eval e X.env) :: starEach es X.env := by rfl) (hpl : (backTo pos (starEach es X.env)).any (·.1) = false := by rfl) :
    SX X G (.Call (.Name x p) (e :: es) [] pos) (sCall F fa) := by
  obtain ⟨f, fd, ps, F1, hm, hk, hb⟩ := h.ex
  obtain ⟨hl, t, pa, ha⟩ := ha
  refine ⟨_, pe_call F1 hr hg hm hk hb .nil pass0 pa hdb he hpl, fun A δ μ O α σ H Q E k => ?_⟩
  have k1 := okR_thn k
  refine ha A δ μ O α σ H _ E ?_
  cases e1 : fa δ μ with
  | none => rw [e1] at k1; exact k1.elim
  | some r =>
    rw [e1] at k1
    cases r with
    | error x => exact k1
    | ok r =>
      refine fun vs O1 α1 H1 T1 S1 rs => ?_
      refine ⟨A.R0, O1, α1, r.2, r.1, ?_, S1, ?_, okR_mono (okR_noX k1) fun q z v O2 α2 H2 T2 S2 rv => z v O2 α2 H2 (T1.trans T2) S2 rv⟩
      · rw [List.append_nil, rs.length, hl δ μ r e1]; exact hn
      · rw [List.append_nil]; exact rs
end
def startS (n : Nat) (xs : List Val) : EnvS := xs.map some ++ List.replicate (n - xs.length) none
def endS (o : OutS) : R (Val × Sto) := match o with
  | .rt v μ => R.ret (v, μ)
  | .nx _ μ => R.ret (.d .none, μ)
  | _ => none
def runS (n : Nat) (g : SG) (xs : List Val) (μ : Sto) : R (Val × Sto) := (g μ.length (startS n xs) μ).thn endS
section
variable {P : Program} {w : World} {K : PySem.W.Frag} {mg : Str → Option Value} {base : Heap}
theorem ev_startS {R0 O : List Addr} {α : List (Option Addr)} {H : Hp} {μ : Sto} {vs : List V} {xs : List Val} (N : List Str) (S : SR K mg R0 O α H μ) (r : VRs K O α H vs xs) : SEv K mg ⟨R0, O, α, H⟩ O α H (L2.start N vs) (startS N.length xs) μ := by
  refine ⟨S, Go.refl, ?_, fun i x h => ?_⟩
  · unfold L2.start startS
    simp [r.length]
  · unfold startS at h
    by_cases hi : i < xs.length
    · rw [List.getElem?_append_left (by simpa using hi), List.getElem?_map] at h
      cases e : xs[i]? with
      | none => rw [e] at h; cases h
      | some y =>
        rw [e] at h
        cases h
        obtain ⟨v, hv, rv⟩ := r.get e
        refine ⟨v, ?_, rv⟩
        unfold L2.start
        have hi : i < vs.length := (List.getElem?_eq_some_iff.mp hv).1
        rw [List.getElem?_append_left (by simpa using hi), List.getElem?_map, hv]
        rfl
    · rw [List.getElem?_append_right (by simpa using hi), List.getElem?_replicate] at h
      split at h <;> cases h
theorem fn_ofS {x qual : Str} {st : Stmt} {f : Addr} {fd : FuncData} {N ps : List Str} {k : Nat} {g : SG} (F0 : Fun K x qual st f fd) (S : FnScope N ps (defScope st))
    (hbody : ∀ (cdv : Value) (A : Around) (outer : List PySem.Env) (s : Shared) (H : Hp) (E : XK), Room k (A.deeper (envOfC qual (defScope st) s.heap.objs.size f cdv)) →
      SSs (cxOf CX0 P w K mg base N qual (defScope st) f cdv A outer s H E).nox (fun _ _ => False) (defBody st) g) : FnOk P w K mg base CX0 (k + 1) f fd ps (spS K mg ps.length (runS N.length g)) := by
  refine F0.ok S (fun vs H Q E h => ?_) (fun cdv A outer s H vs Q E hr h => ?_)
  · obtain ⟨R0, O, α, μ, xs, hl, _⟩ := h
    exact hl
  · obtain ⟨R0, O, α, μ, xs, hl, S0, r, q⟩ := h
    obtain ⟨t, p, hB⟩ := hbody cdv A outer s H E hr
    refine ⟨t, p, hB ⟨R0, O, α, H⟩ (startS N.length xs) μ O α (L2.start N vs) H _ (ev_startS N S0 r) ?_⟩
    have q1 := okR_thn (show okR _ ((g μ.length (startS N.length xs) μ).thn endS) _ from q)
    rw [← S0.len] at q1
    refine okR_mono (okR_imp q1 fun x μ h => h.elim) fun o z => ?_
    cases o with
    | rt v μ' => exact fun u O' α' H' S' G' r' => z u O' α' H' G' S' r'
    | nx δ μ' => exact fun O' α' σ' H' E' G' => z .non O' α' H' G' E'.sr (.d .non)
    | bk δ μ' => exact z.elim
    | ct δ μ' => exact z.elim
theorem defs_of {x qual : Str} {st : Stmt} {f : Addr} {fd : FuncData} {N ps : List Str} {k : Nat} {g : SG} (F0 : Fun K x qual st f fd) (S : FnScope N ps (defScope st)) (hm : mg x = some (.ref f)) (hb : Binds K fd ps [])
    (hbody : ∀ (cdv : Value) (A : Around) (outer : List PySem.Env) (s : Shared) (H : Hp) (E : XK), Room k (A.deeper (envOfC qual (defScope st) s.heap.objs.size f cdv)) →
      SSs (cxOf CX0 P w K mg base N qual (defScope st) f cdv A outer s H E).nox (fun _ _ => False) (defBody st) g) : DefS P w K mg base (k + 1) x ps.length (runS N.length g) :=
  ⟨f, fd, ps, fn_ofS F0 S hbody, hm, F0.kp, hb⟩
/-- from data to data -/
def asD (F : List Val → Sto → R (Val × Sto)) : List D → M D := fun ds => match F (ds.map Val.d) [] with
  | some (.ok (.d x, _)) => M.ret x
  | _ => none
theorem fn_toD {k n : Nat} {f : Addr} {fd : FuncData} {ps : List Str} {F : List Val → Sto → R (Val × Sto)} (F1 : FnOk P w K mg base CX0 k f fd ps (spS K mg n F)) : FnOk P w K mg base CX0 k f fd ps (spD K n (asD F)) := by
  refine F1.imp fun vs H Q E q => ?_
  obtain ⟨O, ds, hl, oo, rs, q⟩ := q
  refine ⟨O, O, [], [], ds.map Val.d, hl, ⟨rfl, fun i j a h => (by simp at h), oo, fun _ h => h, fun k a h => (by simp at h)⟩, VRs.data rs, ?_⟩
  unfold asD at q
  match hF : F (ds.map Val.d) [], q with
  | some (.ok (.d x, μ')), q =>
    refine fun v O' α' H' T S r => q v H' (fun b o h => T.keep b o (fun k => by simp) h) ?_
    exact Rep.to (To.less S.sub) r.dinv
theorem DefS.toD {k n : Nat} {x : Str} {F : List Val → Sto → R (Val × Sto)} (h : DefS P w K mg base k x n F) : Def P w K mg base k x n (asD F) := by
  obtain ⟨f, fd, ps, F1, hm, hk, hb⟩ := h.ex
  refine ⟨f, fd, ps, F1.imp fun vs H Q E q => ?_, hm, hk, hb⟩
  obtain ⟨O, ds, hl, oo, rs, q⟩ := q
  refine ⟨O, O, [], [], ds.map Val.d, hl, ⟨rfl, fun i j a h => (by simp at h), oo, fun _ h => h, fun k a h => (by simp at h)⟩, VRs.data rs, ?_⟩
  unfold asD at q
  match hF : F (ds.map Val.d) [], q with
  | some (.ok (.d x, μ')), q =>
    refine fun v O' α' H' T S r => q v H' (fun b o h => T.keep b o (fun k => by simp) h) ?_
    exact Rep.to (To.less S.sub) r.dinv
end
/-! evaluation -/
section
variable {δ δ' : EnvS} {μ μ' μ1 : Sto} {n : Nat} {f fi : EnvS → Sto → R (Val × Sto)} {fa : EnvS → Sto → R (List Val × Sto)} {fc : EnvS → Sto → R (Bool × Sto)} {g h : SG} {v : Val} {r : R OutS}
theorem es_var {i : Nat} (h : δ[i]? = some (some v)) : sVar i δ μ = R.ret (v, μ) := by unfold sVar; rw [h]
theorem es_pure {f : DS → M D} {d : D} (h : f (view δ) = M.ret d) : sPure f δ μ = R.ret (.d d, μ) := by unfold sPure; rw [h]; rfl
theorem es_nil : sNil δ μ = R.ret ([], μ) := rfl
theorem es_cons {xs : List Val} (h1 : f δ μ = R.ret (v, μ1)) (h2 : fa δ μ1 = R.ret (xs, μ')) : sCons f fa δ μ = R.ret (v :: xs, μ') := by unfold sCons; rw [h1]; show R.thn (fa δ μ1) _ = _; rw [h2]; rfl
theorem es_call {F : List Val → Sto → R (Val × Sto)} {xs : List Val} (h1 : fa δ μ = R.ret (xs, μ1)) (h2 : F xs μ1 = R.ret (v, μ')) : sCall F fa δ μ = R.ret (v, μ') := by unfold sCall; rw [h1]; show noXR (F xs μ1) = _; rw [h2]; rfl
theorem es_seq (h1 : g n δ μ = R.ret (.nx δ' μ')) (h2 : h n δ' μ' = r) : sSeq g h n δ μ = r := by unfold sSeq; rw [h1]; exact h2
theorem es_asg {i : Nat} (h : f δ μ = R.ret (v, μ')) : sAsg i f n δ μ = R.ret (.nx (δ.set i (some v)) μ') := by unfold sAsg; rw [h]; rfl
theorem es_ret (h : f δ μ = R.ret (v, μ')) : sRet f n δ μ = R.ret (.rt v μ') := by unfold sRet; rw [h]; rfl
theorem es_if {b : Bool} (h1 : fc δ μ = R.ret (b, μ1)) (h2 : (if b = true then g n δ μ1 else h n δ μ1) = r) : sIf fc g h n δ μ = r := by unfold sIf; rw [h1]; exact h2
theorem es_test {fb : DS → M Bool} {b : Bool} (h : fb (viewL 0 μ δ) = M.ret b) : sTest fb δ μ = R.ret (b, μ) := by unfold sTest; rw [h]; rfl
theorem es_for {fi : DS → M (List D)} {t : D → EnvS → Option EnvS} {ds : List D} (h1 : fi (view δ) = M.ret ds) (h2 : forS t (g n) ds δ μ = r) : sFor fi t g n δ μ = r := by unfold sFor; rw [h1]; exact h2
theorem forS_cons {t : D → EnvS → Option EnvS} {g : EnvS → Sto → R OutS} {d : D} {ds : List D} {δ1 : EnvS} (h1 : t d δ = some δ1) (h2 : g δ1 μ = R.ret (.nx δ' μ')) (h3 : forS t g ds δ' μ' = r) : forS t g (d :: ds) δ μ = r := by
  unfold forS; rw [h1]; show (g δ1 μ).thn _ = _; rw [h2]; exact h3
theorem es_run {k : Nat} {xs : List Val} (h : g μ.length (startS k xs) μ = R.ret (.rt v μ')) : runS k g xs μ = R.ret (v, μ') := by unfold runS; rw [h]; rfl
end
end SL
/-! the store layer: new lists as values, displays, items, methods of tracked lists -/
namespace SL
open PySem PySem.Spec PyProof.Rows L2 DL
section
variable {K : PySem.W.Frag} {mg : Str → Option Value} {R0 O O' : List Addr} {α α' : List (Option Addr)} {H H' : Hp} {μ μ' : Sto}
/-- a list that was made meanwhile is tracked from now on -/
theorem SR.adopt (S : SR K mg R0 O α H μ) {l : Addr} {vs : List V} {ds : List D} (s : Same H H') (hl : H l = none) (hx : H' l = some (.lst vs)) (r : Reps K [] H' vs ds) (hf : flatDs ds = true) : SR K mg R0 (l :: O) (α ++ [some l]) H' (μ ++ [.lst (ds.map Val.d)]) := by
  have T1 : To O O H H' := To.same s
  have ne : ∀ (k : Nat) (a : Addr), α[k]? = some (some a) → a ≠ l := fun k a h z => by
    obtain ⟨o, h3, _⟩ := S.tracked h
    rw [z, hl] at h3; cases h3
  have hlO : l ∉ O := fun z => by
    obtain ⟨o, ho⟩ := (S.oo l z).some
    rw [hl] at ho; cases ho
  -- what was there leans on nothing new
  have T : To O (l :: O) H H' := by
    refine ⟨fun b xs h => Same.rd s h, fun b xs n h => ⟨fun z => ?_, Same.rd s h⟩, fun b xs n h => ⟨fun z => ?_, Same.rd s h⟩, fun b C dx fs n h => ⟨fun z => ?_, s _ _ h⟩⟩
    · rcases List.mem_cons.mp z with z | z
      · exact Rd.ne_new h hl z
      · exact n z
    · rcases List.mem_cons.mp z with z | z
      · exact Rd.ne_new h hl z
      · exact n z
    · rcases List.mem_cons.mp z with z | z
      · exact ne_of_none h hl z
      · exact n z
  have e : ∀ (k : Nat) (a : Addr), α[k]? = some (some a) → (α ++ [some l])[k]? = some (some a) := fun k a h => by
    rw [List.getElem?_append_left (List.getElem?_eq_some_iff.mp h).1]; exact h
  have cs : ∀ (k : Nat) (a : Addr), (α ++ [some l])[k]? = some (some a) → α[k]? = some (some a) ∨ (k = α.length ∧ a = l) := fun k a h => by
    by_cases hk : k < α.length
    · rw [List.getElem?_append_left hk] at h; exact .inl h
    · rw [List.getElem?_append_right (by omega)] at h
      have h0 : k - α.length = 0 := by
        have := (List.getElem?_eq_some_iff.mp h).1
        simp at this
        omega
      rw [h0] at h
      simp at h
      exact .inr ⟨by omega, h.symm⟩
  refine ⟨by rw [List.length_append, List.length_append, S.len]; rfl, fun i j a h1 h2 => ?_, fun b hb => ?_, fun b hb => List.mem_cons_of_mem _ (S.sub b hb), fun k a h => ?_⟩
  · rcases cs i a h1 with h1 | ⟨h1, z⟩ <;> rcases cs j a h2 with h2 | ⟨h2, z2⟩
    · exact S.nd i j a h1 h2
    · exact absurd z2 (ne i a h1)
    · exact absurd z (ne j a h2)
    · omega
  · rcases List.mem_cons.mp hb with rfl | hb
    · exact .inl ⟨vs, hx⟩
    · exact (S.oo b hb).same s
  · rcases cs k a h with h | ⟨rfl, rfl⟩
    · obtain ⟨ob, h1, h2⟩ := S.at_ k a h
      obtain ⟨o, h3, _⟩ := S.tracked h
      exact ⟨ob, by rw [List.getElem?_append_left (List.getElem?_eq_some_iff.mp h1).1]; exact h1, h2.to T e (fun z => List.mem_cons_of_mem _ z) (by rw [h3]; exact s a o h3)⟩
    · refine ⟨.lst (ds.map Val.d), by rw [S.len, List.getElem?_append_right (Nat.le_refl _), Nat.sub_self]; rfl, List.mem_cons_self, fun z => ?_, vs, hx, VRs.data (r.flat hf)⟩
      exact hlO (S.sub a z)
theorem Go.adopt {l : Addr} (s : Same H H') (hl : H l = none) : Go O α H (l :: O) (α ++ [some l]) H' := by
  refine ⟨fun b u _ h => s b u h, fun k a h => by rw [List.getElem?_append_left (List.getElem?_eq_some_iff.mp h).1]; exact h, by rw [List.length_append]; omega, fun k b h => ?_, fun b hb => ?_, fun b h => none_same s h⟩
  · by_cases hk : k < α.length
    · rw [List.getElem?_append_left hk] at h; exact .inl h
    · rw [List.getElem?_append_right (by omega)] at h
      have h0 : k - α.length = 0 := by
        have := (List.getElem?_eq_some_iff.mp h).1
        simp at this
        omega
      rw [h0] at h
      simp at h
      exact .inr (by rw [← h]; exact hl)
  · rcases List.mem_cons.mp hb with rfl | hb
    · exact .inr hl
    · exact .inl hb
theorem SR.at_new (S : SR K mg R0 O α H μ) {l : Addr} : (α ++ [some l])[μ.length]? = some (some l) := by
  rw [← S.len, List.getElem?_append_right (Nat.le_refl _), Nat.sub_self]; rfl
theorem VRs.atI {vs : List V} {xs : List Val} {i : Int} {x : Val} (r : VRs K O α H vs xs) (h : L2.atI xs i = some x) : ∃ v, L2.atI vs i = some v ∧ VR K O α H v x := by
  unfold L2.atI at h ⊢
  rw [r.length]
  cases e : ixN xs.length i with
  | none => rw [e] at h; cases h
  | some j =>
    rw [e] at h
    exact r.get h
theorem VRs.reverse {vs : List V} {xs : List Val} (r : VRs K O α H vs xs) : VRs K O α H vs.reverse xs.reverse := by
  induction vs generalizing xs with
  | nil => cases r; exact .nil
  | cons v vs ih =>
    cases r with
    | cons r rs =>
      rw [List.reverse_cons, List.reverse_cons]
      exact (ih rs).append (.cons r .nil)
end
section
variable {X : Cx} {G : XD → Hp → Prop} {a b c e ix o : Expr} {es : List Expr} {pos pos' tpos apos cpos : Pos} {f fi fo : EnvS → Sto → R (Val × Sto)} {fa : EnvS → Sto → R (List Val × Sto)}
/-- a new list of data, as a value -/
def sNew (fn : DS → M (List D)) : EnvS → Sto → R (Val × Sto) := fun δ μ => (ofM (fn (view δ)) μ).thn fun ds => R.ret (.h μ.length, μ ++ [.lst (ds.map Val.d)])
theorem sx_new {fn : DS → M (List D)} (he : PDN X G e fn) : SX X G e (sNew fn) := by
  obtain ⟨t, p, he⟩ := he
  refine ⟨t, p, fun A δ μ O α σ H Q E k => ?_⟩
  refine he (view δ) O σ H _ E.view (ok_mono (ofM_ok E.sr (okR_thn k)) fun ds z l xs H1 s1 hl rx => ?_)
  have E1 := E.same s1
  exact z _ (l :: O) (α ++ [some l]) _ ((Go.same s1).trans (Go.newL hl)) (E1.sr.newL hl (VRs.data (α := α) rx)) (.h E.sr.at_new)
/-- the same with tracked lists lent, its items flat -/
def sNewL' (fn : DS → M (List D)) : EnvS → Sto → R (Val × Sto) := fun δ μ => (ofM (fn (viewL 0 μ δ)) μ).thn fun ds => if flatDs ds = true then R.ret (.h μ.length, μ ++ [.lst (ds.map Val.d)]) else none
/-- a def or a comprehension that tells a new list of flat things; tracked lists lent -/
def sNewF (f : DS → M D) : EnvS → Sto → R (Val × Sto) := fun δ μ => (ofM (f (viewL 0 μ δ)) μ).thn fun d => match d with
  | .list ds => if flatDs ds = true then R.ret (.h μ.length, μ ++ [.lst (ds.map Val.d)]) else none
  | _ => none
theorem sx_newF {f : DS → M D} (he : PDF X G e f) : SX X G e (sNewF f) := by
  obtain ⟨t, p, he⟩ := he
  refine ⟨t, p, fun A δ μ O α σ H Q E k => ?_⟩
  refine he (viewL 0 μ δ) A.R0 σ H _ (E.viewL E.sr.sub fun k a xs ha _ hx => ?_) (ok_mono (ofM_ok E.sr (okR_thn k)) fun d z => ?_)
  · obtain ⟨ob, h1, h2⟩ := E.sr.at_ k a ha
    rw [hx] at h1
    cases h1
    exact h2.2.1
  · match d, z with
    | .list ds, z =>
      dsimp only at z
      by_cases hf : flatDs ds = true
      · rw [if_pos hf] at z
        exact ⟨ds, rfl, hf, fun l xs H' s hl hx rx => z _ (l :: O) (α ++ [some l]) H' (Go.adopt s hl) (E.sr.adopt s hl hx rx hf) (.h E.sr.at_new)⟩
      · rw [if_neg hf] at z; exact z.elim
/-- [..], (..) of values -/
def sLst (fa : EnvS → Sto → R (List Val × Sto)) : EnvS → Sto → R (Val × Sto) := fun δ μ => (fa δ μ).thn fun r => if small r.1.length = true then R.ret (.h r.2.length, r.2 ++ [.lst r.1]) else none
theorem sx_lst (h : SA X G es fa) : SX X G (.List es pos) (sLst fa) := by
  obtain ⟨_, t, p, h⟩ := h
  refine ⟨_, pe_lst p, fun A δ μ O α σ H Q E k => ?_⟩
  refine h A δ μ O α σ H _ E (okR_mono (okR_thn k) fun r z vs O1 α1 H1 T1 S1 rs => ?_)
  by_cases hz : small r.1.length = true
  · rw [if_pos hz] at z
    exact ⟨by rw [rs.length]; exact small_le hz, fun p hp => z _ (p :: O1) (α1 ++ [some p]) _ (T1.trans (Go.newL hp)) (S1.newL hp rs) (.h S1.at_new)⟩
  · rw [if_neg hz] at z; exact z.elim
def sTup (fa : EnvS → Sto → R (List Val × Sto)) : EnvS → Sto → R (Val × Sto) := fun δ μ => (fa δ μ).thn fun r => if small r.1.length = true then R.ret (.t r.1, r.2) else none
/-- an item of a tracked list or of a tuple of values -/
def sIx (fo fi : EnvS → Sto → R (Val × Sto)) : EnvS → Sto → R (Val × Sto) := fun δ μ => (fo δ μ).thn fun r => (fi δ r.2).thn fun q => match q.1 with
  | .d (.int i) => match r.1 with
    | .h k => match q.2[k]? with
      | some (.lst xs) => match L2.atI xs i with
        | some x => R.ret (x, q.2)
        | none => none
      | _ => none
    | .t xs => match L2.atI xs i with
      | some x => R.ret (x, q.2)
      | none => none
    | .d (.tuple ds) => match L2.atI ds i with
      | some d => R.ret (.d d, q.2)
      | none => none
    | .d (.list ds) => match L2.atI ds i with
      | some d => R.ret (.d d, q.2)
      | none => none
    | _ => none
  | _ => none
theorem sx_ix (ha : SX X G a fo) (hb : SX X G b fi) (hs : PlainIx b) : SX X G (.Subscript a b pos) (sIx fo fi) := by
  obtain ⟨ta, pa, ha⟩ := ha
  obtain ⟨tb, pb, hb⟩ := hb
  refine ⟨_, pe_ix ix_seq pa pb hs, fun A δ μ O α σ H Q E k => ?_⟩
  refine ha A δ μ O α σ H _ E (okR_mono (okR_thn k) fun r z v O1 α1 H1 T1 S1 r1 => ?_)
  refine hb A δ r.2 O1 α1 σ H1 _ (E.go T1 S1) (okR_mono (okR_imp (okR_thn z) fun x μ h => Er.go T1 h) fun q y w O2 α2 H2 T2 S2 r2 => ?_)
  have T := T1.trans T2
  obtain ⟨q1, q2⟩ := q
  obtain ⟨p1, p2⟩ := r
  match q1, y, r2 with
  | .d (.int i), y, r2 =>
    have hw := Rep.int_inv r2.dinv
    subst hw
    match p1, y, r1 with
    | .h k, y, r1 =>
      obtain ⟨l, hl, rfl⟩ := r1.hinv
      have hl2 := T2.ex _ _ hl
      obtain ⟨ob, g1, g2⟩ := S2.at_ k l hl2
      dsimp only at y
      rw [g1] at y
      match ob, y, g2 with
      | .lst xs, y, g2 =>
        obtain ⟨_, _, vs, g3, g4⟩ := g2
        dsimp only at y
        cases hx : L2.atI xs i with
        | none => rw [hx] at y; exact y.elim
        | some x =>
          rw [hx] at y
          obtain ⟨u, hu, ru⟩ := g4.atI hx
          exact .inl ⟨l, vs, i, u, rfl, rfl, .inl (.inl g3), hu, y u O2 α2 H2 T S2 ru⟩
    | .t xs, y, r1 =>
      obtain ⟨p, vs, rfl, h1, rs⟩ := (r1.to (T2.to S1) T2.ex).tinv
      dsimp only at y
      cases hx : L2.atI xs i with
      | none => rw [hx] at y; exact y.elim
      | some x =>
        rw [hx] at y
        obtain ⟨u, hu, ru⟩ := rs.atI hx
        exact .inr (.inl ⟨p, vs, i, u, rfl, rfl, h1, hu, y u O2 α2 H2 T S2 ru⟩)
    | .d (.tuple ds), y, r1 =>
      have rx := (r1.to (T2.to S1) T2.ex).dinv
      dsimp only at y
      cases hx : L2.atI ds i with
      | none => rw [hx] at y; exact y.elim
      | some x =>
        rw [hx] at y
        obtain ⟨p, vs, rfl, h1, r3⟩ := rx.tup_inv
        obtain ⟨u, hu, ru⟩ := r3.atI hx
        exact .inr (.inl ⟨p, vs, i, u, rfl, rfl, h1, hu, y u O2 α2 H2 T S2 (.d ru)⟩)
    | .d (.list ds), y, r1 =>
      have rx := (r1.to (T2.to S1) T2.ex).dinv
      dsimp only at y
      cases hx : L2.atI ds i with
      | none => rw [hx] at y; exact y.elim
      | some x =>
        rw [hx] at y
        obtain ⟨p, vs, rfl, h1, r3⟩ := rx.lst_inv
        obtain ⟨u, hu, ru⟩ := r3.atI hx
        exact .inl ⟨p, vs, i, u, rfl, rfl, h1, hu, y u O2 α2 H2 T S2 (.d ru)⟩
/-- what is done to a tracked list -/
def sUpd (fo : EnvS → Sto → R (Val × Sto)) (h : List Val → List Val) : EnvS → Sto → R (Val × Sto) := fun δ μ => (fo δ μ).thn fun r => match r.1 with
  | .h k => match r.2[k]? with
    | some (.lst xs) => R.ret (.d .none, r.2.set k (.lst (h xs)))
    | _ => none
  | _ => none
def sApp (fo f : EnvS → Sto → R (Val × Sto)) : EnvS → Sto → R (Val × Sto) := fun δ μ => (fo δ μ).thn fun r => match r.1 with
  | .h k => match r.2[k]? with
    | some (.lst _) => (f δ r.2).thn fun q => match q.2[k]? with
      | some (.lst xs) => if small (xs.length + 1) = true then R.ret (.d .none, q.2.set k (.lst (xs ++ [q.1]))) else none
      | _ => none
    | _ => none
  | _ => none
theorem sx_app (ho : SX X G o fo) (he : SX X G e f)
    (hst : starEach [e] X.env = (false, eval e X.env) :: starEach [] X.env := by rfl)
    (hbase : attributeBase o "append" X.env (eval o X.env) = eval o X.env := by rfl)
    (hfew : ((backTo cpos (starEach [e] X.env)).all (fun x => !x.1) && (backToKw cpos (keywordEach [] X.env)).all (fun x => x.1.isSome)
      && decide ([e].length + ([] : List Keyword).length + (if ([] : List Keyword).isEmpty then 0 else 1) < 30)) = true := by rfl)
    (hline : (apos.endLine == cpos.line) = true := by rfl) (hplain : (backTo cpos (starEach [] X.env)).any (·.1) = false := by rfl) :
    SX X G (.Call (.Attribute o "append" apos) [e] [] cpos) (sApp fo f) := by
  obtain ⟨t, p, ho⟩ := ho
  obtain ⟨u, q, he⟩ := he
  refine ⟨_, pe_bm PySem.F.plainAttrs_list PySem.F.slot_list_append PySem.F.type_list_append mt_append p (pa_cons q pa_nil hst) hbase hfew hline hst hplain, fun A δ μ O α σ H Q E k => ?_⟩
  refine ho A δ μ O α σ H _ E (okR_mono (okR_thn k) fun r z v O1 α1 H1 T1 S1 r1 => ?_)
  obtain ⟨p1, p2⟩ := r
  match p1, z, r1 with
  | .h k, z, r1 =>
    obtain ⟨l, hl, rfl⟩ := r1.hinv
    obtain ⟨ob, g1, g2⟩ := S1.at_ k l hl
    dsimp only at z
    rw [g1] at z
    match ob, z, g2 with
    | .lst xs0, z, g2 =>
    refine ⟨.inl ⟨rfl, _, .inl (.inl g2.2.2.choose_spec.1)⟩, ?_⟩
    have z : okR _ ((f δ p2).thn _) _ := z
    refine he A δ p2 O1 α1 σ H1 _ (E.go T1 S1) (okR_mono (okR_imp (okR_thn z) fun x μ h => Er.go T1 h) fun q y w O2 α2 H2 T2 S2 r2 => ?_)
    obtain ⟨q1, q2⟩ := q
    have hl2 := T2.ex _ _ hl
    obtain ⟨ob, g1, g2⟩ := S2.at_ k l hl2
    dsimp only at y
    rw [g1] at y
    match ob, y, g2, g1 with
    | .lst xs, y, g2, g1 =>
      obtain ⟨_, _, vs, g3, g4⟩ := g2
      dsimp only at y
      by_cases hz : small (xs.length + 1) = true
      · rw [if_pos hz] at y
        exact ⟨l, vs, w, rfl, rfl, g3, by rw [g4.length]; exact small_lt hz, y .non O2 α2 _ (T1.trans (T2.trans (Go.setL hl2))) (S2.setL hl2 g1 (g4.append (.cons r2 .nil))) (.d .non)⟩
      · rw [if_neg hz] at y; exact y.elim
end
end SL
/-! the store layer: for over a tracked list; x[i][j] = v -/
namespace SL
open PySem PySem.Spec PyProof.Rows L2 DL
section
variable {X : Cx} {G : XD → Hp → Prop} {a b c e ix o : Expr} {es : List Expr} {pos pos' tpos apos cpos : Pos} {f fi fo : EnvS → Sto → R (Val × Sto)}
open Classical in
/-- the turns of a walk over a tracked list, which stays as it is meanwhile -/
noncomputable def forT (i k : Nat) (xs : List Val) (g : EnvS → Sto → R OutS) : List Val → EnvS → Sto → R OutS
  | [], δ, μ => if μ[k]? = some (.lst xs) then R.ret (.nx δ μ) else none
  | v :: vs, δ, μ => if μ[k]? = some (.lst xs) then (g (δ.set i (some v)) μ).thn fun o => match o with
      | .nx δ' μ' => forT i k xs g vs δ' μ'
      | .ct δ' μ' => forT i k xs g vs δ' μ'
      | .bk δ' μ' => R.ret (.nx δ' μ')
      | .rt v μ' => R.ret (.rt v μ') else none
noncomputable def sForT (i : Nat) (f : EnvS → Sto → R (Val × Sto)) (g : SG) : SG := fun n δ μ => (f δ μ).thn fun r => match r.1 with
  | .h k => match r.2[k]? with
    | some (.lst xs) => forT i k xs (g n) xs δ r.2
    | _ => none
  | _ => none
theorem ss_forT {i : Nat} {tg iter : Expr} {body : List Stmt} {g : SG} (hp : PassesOwn (model X.prog X.w) X.A X.env X.xe) (hc : X.calm = true) (hi : SX X G iter f) (hg : PG X tg (gName i)) (hb : SSs X G body g)
    (hs : ∀ x, foldedSetIterable iter X.env x = pure x := by intro _; rfl) : SS X G (.For tg iter body [] pos) (sForT i f g) := by
  obtain ⟨t, p, hi⟩ := hi
  obtain ⟨tb, pb, hb⟩ := hb
  refine ⟨_, ps_for hp hc (pi_list p) hg pb hs, fun A δ μ O α σ H Dn E k => ?_⟩
  refine hi A δ μ O α σ H _ E (okR_mono (okR_imp (okR_thn k) fun x μ h => Er.go E.st h) fun r z v O1 α1 H1 T1 S1 r1 => ?_)
  have E1 := E.go T1 S1
  obtain ⟨rv, rμ⟩ := r
  match rv, z, r1 with
  | .h kk, z, r1 =>
    obtain ⟨l, hl, rfl⟩ := r1.hinv
    dsimp only at z
    obtain ⟨ob, g1, g2⟩ := S1.at_ kk l hl
    rw [g1] at z
    match ob, z, g1, g2 with
    | .lst xs, z, g1, g2 =>
      obtain ⟨g3, g4, vs, g5, g6⟩ := g2
      refine ⟨l, rfl, ⟨vs, .inl (.inl g5)⟩, ?_⟩
      refine ⟨fun i' m σ2 H2 => m = xs.length - i' ∧ i' ≤ xs.length ∧ ∃ δ2 μ2 O2 α2, SEv X.K X.mg A O2 α2 H2 σ2 δ2 μ2 ∧ Go O α H O2 α2 H2 ∧ α2[kk]? = some (some l) ∧ okR (Er X.K X.mg G A.R0 A.O A.α A.H) (forT i kk xs (g A.α.length) (xs.drop i') δ2 μ2) (FinS X.K X.mg A O α H Dn), ⟨_, rfl, Nat.zero_le _, δ, rμ, O1, α1, E1, T1, hl, z⟩, ?_⟩
      rintro i' m σ2 H2 ⟨rfl, hi', δ2, μ2, O2, α2, E2, T, hl2, k2⟩
      by_cases hlt : i' < xs.length
      · right
        have hd : xs[i']? = some xs[i'] := List.getElem?_eq_getElem hlt
        have hdrop : xs.drop i' = xs[i'] :: xs.drop (i' + 1) := List.drop_eq_getElem_cons hlt
        rw [hdrop] at k2
        unfold forT at k2
        by_cases hm : μ2[kk]? = some (.lst xs)
        · rw [if_pos hm] at k2
          obtain ⟨ob2, u1, u2⟩ := E2.sr.at_ kk l hl2
          rw [hm] at u1
          cases u1
          obtain ⟨u3, u4, vs2, u5, u6⟩ := u2
          obtain ⟨x, hx, rx⟩ := u6.get hd
          refine ⟨⟨vs2, x, .inl (.inl u5), hx⟩, fun σ' H' => ∃ δ2 μ2 O2 α2, SEv X.K X.mg A O2 α2 H' σ' δ2 μ2 ∧ Go O α H O2 α2 H' ∧ α2[kk]? = some (some l) ∧ okR (Er X.K X.mg G A.R0 A.O A.α A.H) (forT i kk xs (g A.α.length) (xs.drop (i' + 1)) δ2 μ2) (FinS X.K X.mg A O α H Dn), fun σ' H' h => ⟨_, by omega, rfl, hlt, h⟩, fun y H3 hy => ?_⟩
          obtain ⟨rfl, hy⟩ := hy
          have ey := hy vs2 (.inl (.inl u5))
          rw [hx] at ey
          cases ey
          refine hb A _ μ2 O2 α2 _ _ _ (E2.set rx) (okR_mono (okR_thn k2) fun o z => ?_)
          cases o with
          | nx δ5 μ5 => exact fun O5 α5 σ5 H5 E5 T5 => ⟨δ5, μ5, O5, α5, E5, T.trans T5, T5.ex _ _ hl2, z⟩
          | ct δ5 μ5 => exact fun O5 α5 σ5 H5 E5 T5 => ⟨δ5, μ5, O5, α5, E5, T.trans T5, T5.ex _ _ hl2, z⟩
          | bk δ5 μ5 => exact fun O5 α5 σ5 H5 E5 T5 => z O5 α5 σ5 H5 E5 (T.trans T5)
          | rt v μ5 => exact z
        · rw [if_neg hm] at k2; exact k2.elim
      · left
        have e : i' = xs.length := by omega
        subst e
        rw [List.drop_length] at k2
        unfold forT at k2
        by_cases hm : μ2[kk]? = some (.lst xs)
        · rw [if_pos hm] at k2
          obtain ⟨ob2, u1, u2⟩ := E2.sr.at_ kk l hl2
          rw [hm] at u1
          cases u1
          obtain ⟨u3, u4, vs2, u5, u6⟩ := u2
          exact ⟨⟨vs2, .inl (.inl u5), by rw [u6.length]; exact Nat.le_refl _⟩, k2 O2 α2 σ2 H2 E2 T⟩
        · rw [if_neg hm] at k2; exact k2.elim
theorem es_forT {i k n : Nat} {f : EnvS → Sto → R (Val × Sto)} {g : SG} {δ : EnvS} {μ μ' : Sto} {xs : List Val} {r : R OutS} (h1 : f δ μ = R.ret (.h k, μ')) (h2 : μ'[k]? = some (.lst xs)) (h3 : forT i k xs (g n) xs δ μ' = r) : sForT i f g n δ μ = r := by
  unfold sForT
  rw [h1, rthn_ret]
  dsimp only
  rw [h2]
  exact h3
theorem forT_nil {i k : Nat} {xs : List Val} {g : EnvS → Sto → R OutS} {δ : EnvS} {μ : Sto} (h : μ[k]? = some (.lst xs)) : forT i k xs g [] δ μ = R.ret (.nx δ μ) := by
  unfold forT
  rw [if_pos h]
theorem forT_cons {i k : Nat} {xs : List Val} {g : EnvS → Sto → R OutS} {δ δ' : EnvS} {μ μ' : Sto} {v : Val} {vs : List Val} {r : R OutS} (h : μ[k]? = some (.lst xs)) (h1 : g (δ.set i (some v)) μ = R.ret (.nx δ' μ')) (h2 : forT i k xs g vs δ' μ' = r) : forT i k xs g (v :: vs) δ μ = r := by
  unfold forT
  rw [if_pos h, h1]
  exact h2
/-! x[i][j] = v -/
def sSetX (fo fi f : EnvS → Sto → R (Val × Sto)) : SG := fun _ δ μ => (f δ μ).thn fun r => (fo δ r.2).thn fun p => match p.1 with
  | .h k => (fi δ p.2).thn fun q => match q.1, q.2[k]? with
    | .d (.int n), some (.lst xs) => match ixN xs.length n with
      | some j => R.ret (.nx δ (q.2.set k (.lst (xs.set j r.1))))
      | none => none
    | _, _ => none
  | _ => none
theorem ss_setX (ho : SX X G a fo) (hi : SX X G ix fi) (he : SX X G e f)
    (ha : ∀ v, assign (.Subscript a ix tpos) X.env v = (do
      let ov ← holding [v] (eval a X.env)
      let iv ← holding [v, ov] (eval ix X.env)
      standAt tpos
      holding [v, ov, iv] (setItem ov iv v)
      release [v, ov, iv] []) := by intro _; rfl)
    (hs : swapsWithSole [.Subscript a ix tpos] e pos.line X.env = pure false := by rfl) (hw : swappedStores [.Subscript a ix tpos] e X.env = pure none := by rfl)
    (h1 : (assignEach [.Subscript a ix tpos] X.env).map (·.2) = [assign (.Subscript a ix tpos) X.env] := by rfl) : SS X G (.Assign [.Subscript a ix tpos] e pos) (sSetX fo fi f) := by
  obtain ⟨t, p, he⟩ := he
  obtain ⟨u, q, hi⟩ := hi
  obtain ⟨w, pw, ho⟩ := ho
  refine ⟨_, ps_asg p (pg_sub pw q set_list ha) hs hw h1, fun A δ μ O α σ H Dn E k => ?_⟩
  refine he A δ μ O α σ H _ E (okR_mono (okR_imp (okR_thn k) fun x μ h => Er.go E.st h) fun r z v O1 α1 H1 T1 S1 r1 => ?_)
  have E1 := E.go T1 S1
  refine ho A δ r.2 O1 α1 σ H1 _ E1 (okR_mono (okR_imp (okR_thn z) fun x μ h => Er.go E1.st h) fun pp y ov O2 α2 H2 T2 S2 r2 => ?_)
  have E2 := E1.go T2 S2
  obtain ⟨pv, pμ⟩ := pp
  match pv, y, r2 with
  | .h kk, y, r2 =>
    obtain ⟨l, q3, rfl⟩ := r2.hinv
    refine hi A δ pμ O2 α2 σ H2 _ E2 (okR_mono (okR_imp (okR_thn y) fun x μ h => Er.go E2.st h) fun qq y kv O3 α3 H3 T3 S3 r3 => ?_)
    split at y
    · rename_i n xs hq hk
      rw [hq] at r3
      have hkv := Rep.int_inv r3.dinv
      subst hkv
      have q3' := T3.ex _ _ q3
      obtain ⟨ob, g1, g2⟩ := S3.at_ kk l q3'
      rw [hk] at g1
      cases g1
      obtain ⟨g3, g4, vs, g5, g6⟩ := g2
      cases hj : ixN xs.length n with
      | none => rw [hj] at y; exact y.elim
      | some j =>
        rw [hj] at y
        refine ⟨l, vs, n, j, rfl, rfl, g5, by rw [g6.length]; exact hj, ?_⟩
        have r1' := (r1.to (T2.to S1) T2.ex).to (T3.to S2) T3.ex
        exact y O3 α3 σ _ ((E2.go T3 S3).go (Go.setL q3') (S3.setL q3' hk (g6.set r1' j))) (T1.trans (T2.trans (T3.trans (Go.setL q3'))))
    · exact y.elim
theorem es_setX {fo fi f : EnvS → Sto → R (Val × Sto)} {n : Nat} {δ : EnvS} {μ μ1 μ2 μ3 : Sto} {v : Val} {k j : Nat} {i : Int} {xs : List Val} (h1 : f δ μ = R.ret (v, μ1)) (h2 : fo δ μ1 = R.ret (.h k, μ2)) (h3 : fi δ μ2 = R.ret (.d (.int i), μ3)) (h4 : μ3[k]? = some (.lst xs)) (h5 : ixN xs.length i = some j) : sSetX fo fi f n δ μ = R.ret (.nx δ (μ3.set k (.lst (xs.set j v)))) := by
  unfold sSetX
  rw [h1, rthn_ret, h2, rthn_ret]
  dsimp only
  rw [h3, rthn_ret]
  dsimp only
  rw [h4]
  dsimp only
  rw [h5]
/-! a op b of values, things that are tracked as they stand -/
def sCmp (h : D → D → Option D) (fo fi : EnvS → Sto → R (Val × Sto)) : EnvS → Sto → R (Val × Sto) := fun δ μ => (fo δ μ).thn fun p => (fi δ p.2).thn fun q => match lv2 0 q.2 p.1, lv2 0 q.2 q.1 with
  | some x, some y => match h x y with
    | some d => if flatD d = true then R.ret (.d d, q.2) else none
    | none => none
  | _, _ => none
theorem sx_cmp {op : CmpOp} {h : D → D → Option D} (hh : DOp X (compareOp op) h) (ha : SX X G a fo) (hb : SX X G b fi) (hm : behindInMarks op b = false) : SX X G (.Compare a [op] [b] pos) (sCmp h fo fi) := by
  obtain ⟨rr, hr, hh⟩ := hh
  obtain ⟨ta, pa, ha⟩ := ha
  obtain ⟨tb, pb, hb⟩ := hb
  refine ⟨_, pe_cmpR hr pa pb hm, fun A δ μ O α σ H Q E k => ?_⟩
  refine ha A δ μ O α σ H _ E (okR_mono (okR_thn k) fun p z v O1 α1 H1 T1 S1 r1 => ?_)
  have E1 := E.go T1 S1
  refine hb A δ p.2 O1 α1 σ H1 _ E1 (okR_mono (okR_imp (okR_thn z) fun x μ h => Er.go T1 h) fun q y u O2 α2 H2 T2 S2 r2 => ?_)
  have r1' := r1.to (T2.to S1) T2.ex
  have hn : ∀ (k : Nat) (a : Addr) (xs : List Val), α2[k]? = some (some a) → 0 ≤ k → q.2[k]? = some (.lst xs) → a ∉ A.R0 := fun k a xs h1 _ h2 => by
    obtain ⟨ob, h3, h4⟩ := S2.at_ k a h1
    rw [h2] at h3
    cases h3
    exact h4.2.1
  split at y
  · rename_i x' y' e1 e2
    have c1 := lv2_rep S2 (To.less S2.sub) hn r1' e1
    have c2 := lv2_rep S2 (To.less S2.sub) hn r2 e2
    cases e3 : h x' y' with
    | none => rw [e3] at y; exact y.elim
    | some d =>
      rw [e3] at y
      dsimp only at y
      by_cases hf : flatD d = true
      · rw [if_pos hf] at y
        exact hh A.R0 H2 x' y' d v u Q (fun l hl => S2.oo l (S2.sub l hl)) c1 c2 e3 fun v' H' s r => y v' O2 α2 H' ((T1.trans T2).trans (Go.same s)) (S2.same s) (.d (r.flat hf))
      · rw [if_neg hf] at y; exact y.elim
  · exact y.elim
theorem es_cmp {h : D → D → Option D} {fo fi : EnvS → Sto → R (Val × Sto)} {δ : EnvS} {μ μ1 μ2 : Sto} {v u : Val} {x y d : D} (h1 : fo δ μ = R.ret (v, μ1)) (h2 : fi δ μ1 = R.ret (u, μ2)) (e1 : lv2 0 μ2 v = some x) (e2 : lv2 0 μ2 u = some y) (e3 : h x y = some d) (hf : flatD d = true) : sCmp h fo fi δ μ = R.ret (.d d, μ2) := by
  unfold sCmp
  rw [h1, rthn_ret]
  dsimp only
  rw [h2, rthn_ret]
  dsimp only
  rw [e1, e2]
  dsimp only
  rw [e3]
  dsimp only
  rw [if_pos hf]
end
end SL
namespace CT
open PySem PySem.Spec L2 DL SL
noncomputable def g_row_price : DS → M Out := (gRet (d2 oMul (d2 oSub (dVar 1) (dCB oLen (dCons (dVar 0) dNil))) (d2 oSub (dVar 1) (dCB oLen (dCons (dVar 0) dNil)))))
noncomputable def F_row_price : List D → M D := run 2 g_row_price
noncomputable def g_break_price : DS → M Out := (gSeq (gIf (dB (d2 oInS (d2 oIx (dVar 0) (d1 oNeg (dC (.int 1)))) (dC (.str ".!?")))) (gRet (dC (.int 0))) gNext)
    (gRet (dIf (dB (d2 oInS (d2 oIx (dVar 0) (d1 oNeg (dC (.int 1)))) (dC (.str ",;:")))) (dC (.int 50)) (dC (.int 200)))))
noncomputable def F_break_price : List D → M D := run 1 g_break_price
noncomputable def g_pieces_of : DS → M Out := (gSeq (gAsg (dMeth sSplit (dVar 0) (dCons (dC (.str " ")) dNil)) (tgN 2))
    (gSeq (gNewL 3 (nLst dNil))
    (gSeq (gForI (dRng rng1 (dCons (dCB oLen (dCons (dVar 2) dNil)) dNil)) (tgN 4) (gSeq (gAsg (d2 oIx (dVar 2) (dVar 4)) (tgN 5))
    (gSeq (gAsg (d2 oAdd (dVar 4) (dC (.int 1))) (tgN 6))
    (gSeq (gWhile (dAnd (dB (d2 oLeD (dCB oLen (dCons (dVar 5) dNil)) (dVar 1))) (dB (d2 oLt (dVar 6) (dCB oLen (dCons (dVar 2) dNil))))) (gSeq (gApp 3 (dTup (dCons (dVar 4) (dCons (dVar 6) (dCons (d2 oAdd (dCall (fun ds => noX (F_row_price ds)) (dCons (dVar 5) (dCons (dVar 1) dNil))) (dCall (fun ds => noX (F_break_price ds)) (dCons (dVar 5) dNil))) dNil)))))
    (gSeq (gAsg (d2 oAdd (d2 oAdd (dVar 5) (dC (.str " "))) (d2 oIx (dVar 2) (dVar 6))) (tgN 5))
    (gAsg (d2 (oII (fun i j => i + j)) (dVar 6) (dC (.int 1))) (tgN 6)))))
    (gIf (dB (d2 oLeD (dCB oLen (dCons (dVar 5) dNil)) (dVar 1))) (gApp 3 (dTup (dCons (dVar 4) (dCons (dVar 6) (dCons (dCall (fun ds => noX (F_row_price ds)) (dCons (dVar 5) (dCons (dVar 1) dNil))) dNil))))) gNext)))))
    (gRetO 3))))
noncomputable def F_pieces_of : List D → M D := run 7 g_pieces_of
noncomputable def g_list_below : DS → M Out := (gSeqN (gNewL 2 (nRep (nLst (dCons (dC .none) dNil)) (dCB oLen (dCons (dVar 1) dNil))))
    (gSeqN (gForI (dAny (dVar 0)) (tgTup 3 (tgCons (tgN 3) (tgCons (tgN 4) (tgCons (tgN 5) tgNil)))) (gIf (dLendT 2 (dAnd (dB (d2 oIsNot (d2 oIx (dVar 1) (dVar 3)) (dC .none))) (dOr (dB (d2 oIs (d2 oIx (dVar 2) (dVar 4)) (dC .none))) (dB (d2 oLt (d2 oAdd (d2 oIx (dVar 1) (dVar 3)) (dVar 5)) (d2 oIx (dVar 2) (dVar 4))))))) (gSetO 2 (dVar 4) (d2 oAdd (d2 oIx (dVar 1) (dVar 3)) (dVar 5))) gNext))
    (gRetF 2)))
noncomputable def F_list_below : List D → M D := run 6 g_list_below
noncomputable def b_parting_table_0 : SL.SG := (sDrop (sApp (sVar 4) (sNewF (dCall (fun ds => noX (F_list_below ds)) (dCons (dVar 3) (dCons (d2 oIx (dVar 4) (dVar 5)) dNil))))))
noncomputable def g_parting_table : SL.SG := (sSeq (sAsg 3 (sPure (dCall (fun ds => noX (F_pieces_of ds)) (dCons (dVar 0) (dCons (dVar 1) dNil)))))
    (sSeq (sAsg 4 (sLst (sCons (sNew (nCat (dLst (dCons (dC (.int 0)) dNil)) (dOfN (nRep (nLst (dCons (dC .none) dNil)) (dCB oLen (dCons (dMeth sSplit (dVar 0) (dCons (dC (.str " ")) dNil)) dNil)))))) sNil)))
    (sSeq (sFor (dRng rng1 (dCons (dVar 2) dNil)) (agN 5) b_parting_table_0)
    (sRet (sVar 4)))))
noncomputable def FS_parting_table : List SL.Val → SL.Sto → SL.R (SL.Val × SL.Sto) := SL.runS 6 g_parting_table
noncomputable def F_parting_table : List D → M D := SL.asD FS_parting_table
end CT
open PySem PySem.Spec L2 DL
local macro_rules | `(tactic| walk_at "call") => `(tactic| fail)
local macro_rules | `(tactic| walk_at "cond") => `(tactic| first | rfl | omega | (simp only [Bool.or_eq_false_iff, Bool.and_eq_false_iff, Bool.or_eq_true, Bool.and_eq_true, Bool.not_eq_false', Bool.not_eq_true', decide_eq_false_iff_not, decide_eq_true_eq, Bool.not_true, Bool.not_false, Bool.false_or, Bool.true_and, Bool.false_and, Bool.true_or, isD, tyD]; omega) | (simp [isD, tyD]; done) | (simp [isD, tyD]; omega))
local macro_rules | `(tactic| walk_at "side") => `(tactic| first | assumption | omega | decide | exact bMul_l (by omega) (by omega) | exact bMul_r (by omega) (by omega) | exact bDiv_of (by omega) (by omega) | rfl)
local macro_rules | `(tactic| walk_at "ev1") => `(tactic| (first
  | with_reducible assumption | with_reducible exact ev_c | exact ev_var rfl | with_reducible exact ev_nil | with_reducible exact ev_next | with_reducible exact ev_nopart
  | with_reducible apply ev_2 | with_reducible apply ev_cons | with_reducible apply ev_1
  | with_reducible exact o_add | with_reducible exact o_sub | with_reducible exact o_lt | with_reducible exact o_ltD | with_reducible exact o_le | with_reducible exact o_gt | with_reducible exact o_ge | with_reducible exact o_eq | with_reducible exact o_ne
  | (with_reducible refine o_mul ?_; walk_at "side") | (with_reducible refine o_div ?_; walk_at "side") | (with_reducible refine o_mod ?_; walk_at "side")
  | ((with_reducible show oIx _ (PyData.int (OfNat.ofNat _)) = some _); exact rfl) | with_reducible exact o_pow6 | with_reducible exact o_pow9 | with_reducible exact o_pow15 | with_reducible exact o_pow18 | with_reducible exact o_pow4 | with_reducible exact o_pow7 | with_reducible exact o_pow8 | with_reducible exact o_pow10 | with_reducible exact o_pow12 | with_reducible exact o_pow19 | with_reducible exact o_pow20 | with_reducible exact o_pow24 | ((with_reducible show tgTup _ _ _ _ = some _); exact rfl) | ((with_reducible show oNeg _ = some _); exact rfl)
  | ((with_reducible show small _ = true); exact rfl) | with_reducible apply ev_cb | with_reducible exact o_max | with_reducible exact o_min | with_reducible exact o_lenL | with_reducible exact o_lenT | with_reducible exact o_intI | with_reducible exact o_intB
  | with_reducible apply ev_call | walk_at "call"
  | (with_reducible refine ev_pass ?_ ?_ ?_) | with_reducible apply ev_seqIf | with_reducible apply ev_seqN | (with_reducible apply ev_seq; with_reducible apply ev_asg) | with_reducible apply ev_ret | (with_reducible apply ev_seqR; with_reducible apply ev_ret)
  | with_reducible apply ev_asg | (with_reducible apply ev_seq; with_reducible apply ev_asgT) | with_reducible apply ev_par | (with_reducible apply ev_seq; with_reducible apply ev_par)
  | with_reducible apply ev_b | with_reducible apply ev_not | with_reducible apply ev_notV | with_reducible apply ev_is
  | with_reducible apply ev_tup | with_reducible apply ev_lst | with_reducible apply ev_cut | with_reducible apply ev_part
  | with_reducible apply ev_pass1 | with_reducible apply ev_ifS
  | with_reducible apply ev_or | with_reducible apply ev_and | with_reducible apply ev_orV | with_reducible apply ev_andV | with_reducible apply ev_if
  | ((with_reducible show (_ : Bool) = false); walk_at "cond")
  | ((with_reducible show (if _ = true then _ else _) = _); first | (refine ite_F rfl ?_) | (refine ite_T rfl ?_) | (refine ite_t (by omega) ?_) | (refine ite_f (by omega) ?_) | (refine ite_F (by walk_at "cond") ?_) | (refine ite_T (by walk_at "cond") ?_))))
local macro_rules | `(tactic| walk_at "ev") => `(tactic| repeat (walk_at "ev1"))
open PySem PySem.Spec L2 DL NumText
namespace TX
/-- a text's signs, and back -/
def S (l : List Nat) : Str := ⟨l.toArray⟩
theorem L_S (l : List Nat) : (S l).cps.toList = l := by unfold S; simp
theorem S_L (x : Str) : S x.cps.toList = x := by unfold S; simp
theorem S_app (a b : List Nat) : S a ++ S b = S (a ++ b) := by
  have : (S a ++ S b).cps = (S (a ++ b)).cps := by
    show a.toArray ++ b.toArray = (a ++ b).toArray
    simp
  cases h1 : S a ++ S b
  cases h2 : S (a ++ b)
  rw [h1, h2] at this
  cases this
  rfl
theorem S_len (l : List Nat) : (S l).length = l.length := by unfold S; show l.toArray.size = _; simp
theorem S_inj {a b : List Nat} (h : S a = S b) : a = b := by rw [← L_S a, h, L_S]
/-- figures -/
def digs (n : Nat) : List Nat := if h : n = 0 then [] else digs (n / 10) ++ [48 + n % 10]
decreasing_by omega
def fg (k n : Nat) : List Nat := List.replicate (k - (digs n).length) 48 ++ digs n
end TX
namespace DL
open PySem PySem.Spec L2
section
variable {δ : DS} {f g k : DS → M D} {fa : DS → M (List D)} {x d : D}
theorem ev_meth {h : Str → List D → Option D} {z : Str} {xs : List D} (h1 : f δ = M.ret (.str z)) (h2 : fa δ = M.ret xs) (h3 : h z xs = some d) : dMeth h f fa δ = M.ret d := by
  unfold dMeth
  rw [h1]
  show (fa δ).thn _ = _
  rw [h2]
  show M.lift (h z xs) = _
  rw [h3]
  rfl
theorem ev_cutS {fl fh : DS → M (Option Int)} {lo hi : Option Int} (h1 : f δ = M.ret x) (h2 : fl δ = M.ret lo) (h3 : fh δ = M.ret hi) (h4 : oCutS lo hi x = some d) : dCutS f fl fh δ = M.ret d := by
  unfold dCutS; rw [h1, thn_ret, h2, thn_ret, h3, thn_ret, h4]; rfl
theorem o_leD {i j : Int} : oLeD (.int i) (.int j) = some (.bool (decide (i ≤ j))) := rfl
end
end DL
namespace TX
open PySem PySem.Spec L2 DL NumText
def isF (c : Nat) : Bool := decide (48 ≤ c ∧ c ≤ 57)
def isFig (l : List Nat) : Bool := !decide (l = []) && l.all isF
def hasF (k : Nat) (l : List Nat) : Bool := decide (l.length = k) && isFig l
def hrs (l : List Nat) : Bool := hasF 2 l || (decide (3 ≤ l.length ∧ l.length ≤ 20) && (isFig l && !decide (l.head? = some 48)))
def six (l : List Nat) : Bool := hasF 2 l && decide (digitsVal l < 60)
def pre (c : Nat) (l : List Nat) : List Nat := l.takeWhile (· != c)
def post (c : Nat) (l : List Nat) : List Nat := (l.dropWhile (· != c)).drop 1
theorem pre_app {c : Nat} {u v : List Nat} (h : c ∉ u) : pre c (u ++ c :: v) = u ∧ post c (u ++ c :: v) = v := by
  induction u with
  | nil =>
    unfold pre post
    rw [List.nil_append, List.takeWhile_cons_of_neg (by simp), List.dropWhile_cons_of_neg (by simp)]
    exact ⟨rfl, rfl⟩
  | cons a r ih =>
    have ha : a ≠ c := fun e => h (e ▸ List.mem_cons_self)
    have ih := ih (fun e => h (List.mem_cons_of_mem _ e))
    unfold pre post at ih ⊢
    rw [List.cons_append, List.takeWhile_cons_of_pos (by simpa using ha), List.dropWhile_cons_of_pos (by simpa using ha), ih.1, ih.2]
    exact ⟨rfl, rfl⟩
theorem ix_sign {l : List Nat} {i : Int} {c : Nat} (hl : l.length ≤ 1000) (h0 : 0 ≤ i) (h : l[i.toNat]? = some c) : oIx (.str (S l)) (.int i) = some (.str ⟨#[c]⟩) := by
  show (if small (S l).length = true then _ else _) = _
  rw [if_pos (by rw [S_len]; exact small_of (by omega)), L_S]
  have e := L2.atI_nat h
  rw [Int.toNat_of_nonneg h0] at e
  rw [e]
  rfl
end TX
open PySem PySem.Spec L2 DL CT TX NumText
namespace TX
def Uc (l : List Nat) : Prop := ∀ c ∈ l, c < 1114112
end TX
open PySem PySem.Spec L2 DL TX NumText
namespace TX
/-- a cut's ends -/
def cLo (n : Nat) : Option Int → Nat
  | none => 0
  | some i => (max 0 (min (if i < 0 then i + n else i) n)).toNat
def cHi (n : Nat) : Option Int → Nat
  | none => n
  | some i => (max 0 (min (if i < 0 then i + n else i) n)).toNat
theorem pick_take (l : List Nat) (a : Nat) : ∀ c : Nat, ((List.range c).map (a + ·)).filterMap (l[·]?) = (l.drop a).take c := by
  intro c
  induction c with
  | zero => simp
  | succ c ih =>
    rw [List.range_succ, List.map_append, List.filterMap_append, ih, List.take_add_one, List.getElem?_drop]
    congr 1
theorem range_is (A B : Nat) : sliceRange (A : Int) (B : Int) 1 = (List.range (B - A)).map (A + ·) := by
  unfold sliceRange
  simp only [show (1 : Int) > 0 by decide, if_true]
  have ec : (if (A : Int) < (B : Int) then ((B : Int) - A + 1 - 1) / 1 else 0).toNat = B - A := by
    split <;> omega
  rw [ec]
  refine List.map_congr_left fun k _ => ?_
  omega
theorem clip_is (n : Nat) (i : Int) : (if (1 : Int) > 0 then max 0 (min (if i < 0 then i + (n : Int) else i) n) else max (-1) (min (if i < 0 then i + (n : Int) else i) ((n : Int) - 1))) = (((max 0 (min (if i < 0 then i + (n : Int) else i) n)).toNat : Nat) : Int) := by
  rw [if_pos (by decide)]
  omega
theorem indices_is (n : Nat) (lo hi : Option Int) : Builtin.Str.strSliceIndices lo hi 1 n = (List.range (cHi n hi - cLo n lo)).map (cLo n lo + ·) := by
  rw [← range_is]
  unfold Builtin.Str.strSliceIndices
  cases lo with
  | none => cases hi with
    | none => rfl
    | some j => exact congrArg (fun y => sliceRange 0 y 1) (clip_is n j)
  | some i => cases hi with
    | none => exact congrArg (fun y => sliceRange y n 1) (clip_is n i)
    | some j =>
      refine Eq.trans (congrArg (fun y => sliceRange y _ 1) (clip_is n i)) ?_
      exact congrArg (fun y => sliceRange _ y 1) (clip_is n j)
theorem slice_is (l : List Nat) (lo hi : Option Int) : Txt.slice (S l) lo hi = S ((l.drop (cLo l.length lo)).take (cHi l.length hi - cLo l.length lo)) := by
  have e := indices_is (S l).length lo hi
  unfold Txt.slice
  rw [e, S_len]
  by_cases hw : ((1 : Int) == 1 && ((List.range (cHi l.length hi - cLo l.length lo)).map (cLo l.length lo + ·)).length == l.length) = true
  · rw [if_pos hw]
    have hh : cHi l.length hi ≤ l.length := by
      cases hi with
      | none => exact Nat.le_refl _
      | some i => show (max 0 (min _ (l.length : Int))).toNat ≤ _; omega
    have hz : cHi l.length hi - cLo l.length lo = l.length := by
      rw [List.length_map, List.length_range] at hw
      simpa using hw
    congr 1
    by_cases hl : l.length = 0
    · have : l = [] := List.length_eq_zero_iff.mp hl
      subst this
      simp
    · have : cLo l.length lo = 0 := by omega
      rw [hz, this, List.drop_zero, List.take_length]
  · rw [if_neg hw]
    have : (fun x : Nat => (S l).cps[x]?) = fun x => l[x]? := by
      funext x
      unfold S
      simp
    rw [this, pick_take]
    rfl
theorem o_cut {l : List Nat} (hl : l.length ≤ 1000) (lo hi : Option Int) : oCutS lo hi (.str (S l)) = some (.str (S ((l.drop (cLo l.length lo)).take (cHi l.length hi - cLo l.length lo)))) := by
  show (if small (S l).length = true then _ else _) = _
  rw [S_len, if_pos (small_of (by omega)), slice_is]
/-- l[-j] -/
theorem ix_back {u w : List Nat} {c : Nat} {j : Int} (hl : u.length + w.length ≤ 900) (hj : j = -((w.length + 1 : Nat) : Int)) : oIx (.str (S (u ++ c :: w))) (.int j) = some (.str (S [c])) := by
  show (if small (S (u ++ c :: w)).length = true then _ else _) = _
  have n : (u ++ c :: w).length = u.length + w.length + 1 := by rw [List.length_append, List.length_cons]; omega
  rw [S_len, if_pos (small_of (by omega)), L_S]
  have : L2.atI (u ++ c :: w) j = some c := by
    unfold L2.atI L2.ixN
    rw [if_neg (by omega), if_pos (by omega), n]
    show (u ++ c :: w)[(j + ((u.length + w.length + 1 : Nat) : Int)).toNat]? = _
    rw [show (j + ((u.length + w.length + 1 : Nat) : Int)).toNat = u.length by omega, List.getElem?_append_right (Nat.le_refl _)]
    simp
  rw [this]
  rfl
end TX
open PySem PySem.Spec L2 DL
namespace DL
theorem ne_self {ds : List D} (h : ∀ d ∈ ds, d.canLay0 = true ∧ d.depth ≤ 5) : oNe (.list ds) (.list ds) = some (.bool false) := by
  obtain ⟨h1, h2⟩ := flat_all h
  have hc : (PyData.list ds).canLay0 = true := by unfold PyData.canLay0; exact h1
  have hd : (PyData.list ds).depth ≤ 60 := by unfold PyData.depth; omega
  unfold oNe flat
  rw [hc, decide_eq_true (by omega : min (PyData.list ds).depth (PyData.list ds).depth ≤ 60), SeqAt.eqv_refl _ hc]
  rfl
section
variable {δ δ' : DS} {c : DS → M Bool} {f : DS → M D} {t : D → DS → Option DS} {y d : D} {ds ys : List D}
end
theorem ints_of (l : List Int) : intsOf (l.map PyData.int) = some l := by
  induction l with
  | nil => rfl
  | cons a r ih => show (intsOf (r.map PyData.int)).map (a :: ·) = _; rw [ih]; rfl
end DL
namespace DL
theorem forD_cons {body : D → DS → M Out} {d : D} {ds : List D} {δ δ' : DS} {r : M Out} (h1 : body d δ = M.ret (.nx δ')) (h2 : forD body ds δ' = r) : forD body (d :: ds) δ = r := by
  show (body d δ).thn _ = _
  rw [h1]
  exact h2
end DL
namespace DL
section
variable {f fi : DS → M D} {δ : DS} {ds es : List D} {d : D} {i j m : Nat} {k n a : Int}
theorem ev_setO (h : δ[i]? = some (.ow ds)) (h1 : f δ = M.ret d) (h2 : fi δ = M.ret (.int k)) (h3 : L2.ixN ds.length k = some j) : gSetO i fi f δ = M.ret (.nx (δ.set i (.ow (ds.set j d)))) := by
  unfold gSetO
  rw [h]
  dsimp only
  rw [h1, thn_ret, h2, thn_ret]
  dsimp only
  rw [h3]
end
end DL
namespace DL
theorem ev_orV_t {f g : DS → M D} {δ : DS} (h1 : f δ = M.ret (.bool true)) : dOrV f g δ = M.ret (.bool true) := by unfold dOrV; rw [ev_b h1]; rfl
theorem ev_orV_f {f g : DS → M D} {δ : DS} {d : D} (h1 : f δ = M.ret (.bool false)) (h2 : g δ = M.ret d) : dOrV f g δ = M.ret d := by unfold dOrV; rw [ev_b h1, thn_ret, if_neg Bool.false_ne_true]; exact h2
end DL
open PySem PySem.Spec L2 DL CT TX NumText
namespace CT
/-- texts with a sign between -/
def jn (c : Nat) : List (List Nat) → List Nat
  | [] => []
  | [a] => a
  | a :: b :: r => a ++ c :: jn c (b :: r)
theorem jn_cons (c : Nat) (a : List Nat) {r : List (List Nat)} (h : r ≠ []) : jn c (a :: r) = a ++ c :: jn c r := by
  cases r with
  | nil => exact absurd rfl h
  | cons b r => rfl
theorem join_S (c : Nat) : ∀ ts : List (List Nat), (S [c]).join (ts.map S) = S (jn c ts)
  | [] => rfl
  | [a] => rfl
  | a :: b :: r => by
    have ih := join_S c (b :: r)
    show S a ++ S [c] ++ (S [c]).join ((b :: r).map S) = _
    rw [ih, S_app, S_app, List.append_assoc]
    rfl
/-- as many signs -/
def tot : List (List Nat) → Nat
  | [] => 0
  | a :: r => a.length + 1 + tot r
theorem jn_len (c : Nat) : ∀ {ts : List (List Nat)}, ts ≠ [] → (jn c ts).length + 1 = tot ts
  | [], h => absurd rfl h
  | [a], _ => rfl
  | a :: b :: r, _ => by
    have ih := jn_len c (ts := b :: r) (by simp)
    rw [jn_cons c a (by simp), List.length_append, List.length_cons, tot]
    omega
theorem strsOf_S (ts : List (List Nat)) : strsOf (ts.map fun l => PyData.str (S l)) = some (ts.map S) := by
  induction ts with
  | nil => rfl
  | cons a r ih => show (strsOf (r.map _)).map _ = _; rw [ih]; rfl
theorem joinOk_S {c : Nat} {ts : List (List Nat)} (h : tot ts ≤ 1000000) : JoinOk (S [c]) (ts.map S) = true := by
  have main : ∀ (ts : List (List Nat)) (a : Nat), (ts.map S).foldl (fun x1 x2 => x1 + x2.length + (S [c]).length) a = a + tot ts := by
    intro ts
    induction ts with
    | nil => intro a; rfl
    | cons t r ih =>
      intro a
      rw [List.map_cons, List.foldl_cons, ih, S_len, S_len, tot]
      show a + t.length + 1 + tot r = _
      omega
  unfold JoinOk
  have e := main ts 0
  rw [show Array.foldl (fun x1 x2 => x1 + x2.length + (S [c]).length) 0 (ts.map S).toArray = tot ts by rw [List.foldl_toArray' (h := rfl), e]; omega]
  show (!decide (tot ts > sizeLine)) = true
  rw [sizeLine_eq, decide_eq_false (by omega)]
  rfl
theorem o_join {c : Nat} {ts : List (List Nat)} (h : tot ts ≤ 1000000) : sJoin (S [c]) [.list (ts.map fun l => .str (S l))] = some (.str (S (jn c ts))) := by
  show (match strsOf (ts.map fun l => PyData.str (S l)) with | some ts => if JoinOk (S [c]) ts then some (PyData.str (Txt.join (S [c]) ts)) else none | none => none) = _
  rw [strsOf_S]
  show (if JoinOk (S [c]) (ts.map S) = true then some (PyData.str (Builtin.Str.glued (S [c]) (ts.map S))) else none) = _
  rw [if_pos (joinOk_S h), StrLaws.glued_eq_join, join_S]
/-- texts without the sign, put together, are told apart -/
theorem jn_inj {c : Nat} : ∀ {ts us : List (List Nat)}, ts ≠ [] → us ≠ [] → (∀ t ∈ ts, c ∉ t) → (∀ t ∈ us, c ∉ t) → jn c ts = jn c us → ts = us
  | [], _, h, _, _, _, _ => absurd rfl h
  | _, [], _, h, _, _, _ => absurd rfl h
  | [a], [b], _, _, _, _, e => by rw [show a = b from e]
  | [a], b :: b' :: us, _, _, h1, _, e => by
    have e : a = b ++ c :: jn c (b' :: us) := e
    exact absurd (by rw [e]; simp : c ∈ a) (h1 a List.mem_cons_self)
  | a :: a' :: ts, [b], _, _, _, h2, e => by
    have e : a ++ c :: jn c (a' :: ts) = b := e
    exact absurd (by rw [← e]; simp : c ∈ b) (h2 b List.mem_cons_self)
  | a :: a' :: ts, b :: b' :: us, _, _, h1, h2, e => by
    have e : a ++ c :: jn c (a' :: ts) = b ++ c :: jn c (b' :: us) := e
    have p1 := pre_app (v := jn c (a' :: ts)) (h1 a List.mem_cons_self)
    have p2 := pre_app (v := jn c (b' :: us)) (h2 b List.mem_cons_self)
    rw [e] at p1
    have q1 : b = a := p2.1.symm.trans p1.1
    have q2 : jn c (b' :: us) = jn c (a' :: ts) := p2.2.symm.trans p1.2
    have ih := jn_inj (ts := a' :: ts) (us := b' :: us) (by simp) (by simp) (fun t ht => h1 t (List.mem_cons_of_mem _ ht)) (fun t ht => h2 t (List.mem_cons_of_mem _ ht)) q2.symm
    rw [q1, ih]
theorem split_ne (x y : Str) : Txt.split x y ≠ [] := by
  unfold Txt.split
  split
  · simp
  · split
    · simp
    · intro z
      have := congrArg List.length z
      rw [length_partsBetween] at this
      simp at this
theorem split_is {c : Nat} {ts : List (List Nat)} (h0 : ts ≠ []) (h : ∀ t ∈ ts, c ∉ t) : Txt.split (S (jn c ts)) (S [c]) = ts.map S := by
  have e1 := StrLaws.join_split (S (jn c ts)) (S [c])
  have e2 : ∀ p, p ∈ Txt.split (S (jn c ts)) (S [c]) → ¬ c ∈ p.cps.toList := fun p => StrLaws.split_free (S (jn c ts)) c p
  have e3 := split_ne (S (jn c ts)) (S [c])
  generalize Txt.split (S (jn c ts)) (S [c]) = ps at *
  have hp : ps = (ps.map fun p => p.cps.toList).map S := by
    rw [List.map_map]
    conv => lhs; rw [← List.map_id ps]
    exact List.map_congr_left fun p _ => (S_L p).symm
  rw [hp, join_S] at e1
  have e4 := S_inj e1
  have := jn_inj (by simpa using e3) h0 (fun t ht => by
    obtain ⟨p, hp, rfl⟩ := List.mem_map.mp ht
    exact e2 p hp) h e4
  rw [hp, this]
theorem len_tot : ∀ ts : List (List Nat), ts.length ≤ tot ts
  | [] => Nat.zero_le _
  | a :: r => by have := len_tot r; rw [List.length_cons, tot]; omega
theorem o_split {c : Nat} {ts : List (List Nat)} (h0 : ts ≠ []) (h : ∀ t ∈ ts, c ∉ t) (hz : tot ts ≤ 1000000) : sSplit (S (jn c ts)) [.str (S [c])] = some (.list (ts.map fun l => .str (S l))) := by
  have hl := jn_len c h0
  show (if splitOk (S (jn c ts)) (S [c]) = true then some (PyData.list ((Txt.split (S (jn c ts)) (S [c])).map PyData.str)) else none) = _
  have ok : splitOk (S (jn c ts)) (S [c]) = true := by
    unfold splitOk
    have h1 : ((S [c]).length == 0) == false := by rw [S_len]; rfl
    have h2 : small (S (jn c ts)).length = true := small_of (by rw [S_len]; omega)
    have hts := len_tot ts
    have h3 : small (Txt.split (S (jn c ts)) (S [c])).length = true := small_of (by rw [split_is h0 h, List.length_map]; omega)
    have h4 : small (Builtin.Str.partsBetween (S (jn c ts)) (Builtin.Str.occurrences (S (jn c ts)) (S [c]) 0 (S (jn c ts)).length ((S (jn c ts)).length + 1)) (S [c]).length).length = true := small_of (by
      rw [length_partsBetween]
      have := StrLaws.occ_length_le (S (jn c ts)) (S [c]) 0 (S (jn c ts)).length ((S (jn c ts)).length + 1)
      rw [S_len] at this ⊢
      omega)
    rw [h1, h2, h3, h4]
    rfl
  rw [if_pos ok, split_is h0 h, List.map_map]
  rfl
theorem tot_app (a b : List (List Nat)) : tot (a ++ b) = tot a + tot b := by
  induction a with
  | nil => simp [tot]
  | cons x a ih => rw [List.cons_append, tot, tot, ih]; omega
end CT
open PySem PySem.Spec L2 DL CT TX NumText
namespace CT
abbrev tx (l : List Nat) : D := .str (S l)
theorem o_lenX {l : List Nat} (h : l.length ≤ 1000000) : oLen [.str (S l)] = some (.int ((l.length : Nat) : Int)) := by
  show (if small (S l).length = true then _ else _) = _
  rw [S_len, if_pos (small_of (by omega))]
end CT
open PySem PySem.Spec L2 DL CT TX NumText
namespace CT
/-- words: not empty, no blank -/
structure Wd (w : List Nat) : Prop where
  ne : w ≠ []
  free : ∀ c ∈ w, 33 ≤ c ∧ c < 128
  len : w.length ≤ 40
theorem Wd.no {w : List Nat} (h : Wd w) : 32 ∉ w := fun z => by have := h.free 32 z; omega
end CT
open PySem PySem.Spec L2 DL CT TX NumText
namespace CT
/-- what a break behind a sign costs -/
def bp (c : Nat) : Int := if c = 46 ∨ c = 33 ∨ c = 63 then 0 else if c = 44 ∨ c = 59 ∨ c = 58 then 50 else 200
theorem in_stops (c : Nat) : oInS (.str (S [c])) (.str ".!?") = some (.bool (decide (c = 46 ∨ c = 33 ∨ c = 63))) := by
  show some (PyData.bool _) = _
  rw [show S [c] = ⟨#[c]⟩ from rfl, StrLaws.found_one]
  congr 2
  have : (".!?" : Str).cps.toList = [46, 33, 63] := by decide
  rw [this]
  refine decide_eq_decide.mpr ?_
  simp only [List.mem_cons, List.not_mem_nil, or_false]
theorem in_marks (c : Nat) : oInS (.str (S [c])) (.str ",;:") = some (.bool (decide (c = 44 ∨ c = 59 ∨ c = 58))) := by
  show some (PyData.bool _) = _
  rw [show S [c] = ⟨#[c]⟩ from rfl, StrLaws.found_one]
  congr 2
  have : (",;:" : Str).cps.toList = [44, 59, 58] := by decide
  rw [this]
  refine decide_eq_decide.mpr ?_
  simp only [List.mem_cons, List.not_mem_nil, or_false]
theorem last_ix {u : List Nat} {c : Nat} (h : u.length ≤ 900) : oIx (.str (S (u ++ [c]))) (.int (-1)) = some (.str (S [c])) := ix_back (w := []) (by simpa using h) rfl
theorem break_price_ev {u : List Nat} {c : Nat} (h : u.length ≤ 900) : F_break_price [.str (S (u ++ [c]))] = M.ret (.int (bp c)) := by
  have hx := last_ix (c := c) h
  have e1 : d2 oIx (dVar 0) (d1 oNeg (dC (.int 1))) [.vl (.str (S (u ++ [c])))] = M.ret (.str (S [c])) := ev_2 (ev_var rfl) (ev_1 ev_c rfl) hx
  refine ev_run ?_
  unfold g_break_price bp
  by_cases h1 : c = 46 ∨ c = 33 ∨ c = 63
  · rw [if_pos h1]
    exact ev_seqIf (b := true) (ev_b (ev_2 e1 ev_c (by rw [in_stops, decide_eq_true h1]))) (ite_T rfl (ev_seqR (ev_ret ev_c)))
  · rw [if_neg h1]
    refine ev_seqIf (b := false) (ev_b (ev_2 e1 ev_c (by rw [in_stops, decide_eq_false h1]))) (ite_F rfl (ev_seqN (ev_ret ?_)))
    by_cases h2 : c = 44 ∨ c = 59 ∨ c = 58
    · rw [if_pos h2]
      exact ev_if (b := true) (ev_b (ev_2 e1 ev_c (by rw [in_marks, decide_eq_true h2]))) (ite_T rfl ev_c)
    · rw [if_neg h2]
      exact ev_if (b := false) (ev_b (ev_2 e1 ev_c (by rw [in_marks, decide_eq_false h2]))) (ite_F rfl ev_c)
theorem split_last {w : List Nat} (h : w ≠ []) : ∃ u c, w = u ++ [c] := ⟨w.dropLast, w.getLast h, (List.dropLast_concat_getLast h).symm⟩
/-- the last sign -/
def lst (w : List Nat) : Nat := w.getLast?.getD 0
theorem lst_snoc (u : List Nat) (c : Nat) : lst (u ++ [c]) = c := by unfold lst; simp
end CT
open PySem PySem.Spec L2 DL CT TX NumText
namespace CT
theorem jn_app (c : Nat) : ∀ (a b : List (List Nat)), a ≠ [] → b ≠ [] → jn c (a ++ b) = jn c a ++ c :: jn c b
  | [], _, h, _ => absurd rfl h
  | [x], b, _, hb => by rw [List.singleton_append, jn_cons c x hb]; rfl
  | x :: y :: r, b, _, hb => by
    have ih := jn_app c (y :: r) b (by simp) hb
    rw [List.cons_append, jn_cons c x (by simp), ih, jn_cons c x (by simp), List.append_assoc]
    rfl
/-- the words behind the i-th, up to the j-th, as a row -/
def row (ws : List (List Nat)) (i j : Nat) : List Nat := jn 32 ((ws.drop i).take (j - i))
theorem seg_ne {α : Type} {ws : List α} {i j : Nat} (h : i < j) (hj : j ≤ ws.length) : (ws.drop i).take (j - i) ≠ [] := by
  intro z
  have := congrArg List.length z
  rw [List.length_take, List.length_drop] at this
  simp at this
  omega
theorem seg_cat {α : Type} (ws : List α) {i j k : Nat} (h : i ≤ j) (h2 : j ≤ k) : (ws.drop i).take (k - i) = (ws.drop i).take (j - i) ++ (ws.drop j).take (k - j) := by
  have e1 : k - i = (j - i) + (k - j) := by omega
  rw [e1, List.take_add, List.drop_drop, show i + (j - i) = j by omega]
theorem row_cat {ws : List (List Nat)} {i j k : Nat} (h : i < j) (h2 : j < k) (hk : k ≤ ws.length) : row ws i k = row ws i j ++ 32 :: row ws j k := by
  unfold row
  rw [seg_cat ws (by omega : i ≤ j) (by omega : j ≤ k), jn_app _ _ _ (seg_ne h (by omega)) (seg_ne h2 hk)]
theorem row_one {ws : List (List Nat)} {i : Nat} (h : i < ws.length) : row ws i (i + 1) = ws[i] := by
  unfold row
  rw [show i + 1 - i = 1 by omega, List.drop_eq_getElem_cons h]
  rfl
theorem row_more {ws : List (List Nat)} {i j : Nat} (h : i < j) (hj : j < ws.length) : row ws i (j + 1) = row ws i j ++ 32 :: ws[j] := by
  rw [row_cat h (by omega) hj, row_one hj]
theorem row_lt {ws : List (List Nat)} {i j k : Nat} (h : i < j) (h2 : j < k) (hk : k ≤ ws.length) : (row ws i j).length < (row ws i k).length := by
  rw [row_cat h h2 hk, List.length_append, List.length_cons]
  omega
theorem row_le {ws : List (List Nat)} {i j k : Nat} (h : i < j) (h2 : j ≤ k) (hk : k ≤ ws.length) : (row ws i j).length ≤ (row ws i k).length := by
  rcases Nat.lt_or_eq_of_le h2 with q | rfl
  · exact Nat.le_of_lt (row_lt h q hk)
  · exact Nat.le_refl _
theorem tot_seg {ws : List (List Nat)} (i m : Nat) : tot ((ws.drop i).take m) ≤ tot ws := by
  have e : ws = ws.take i ++ ((ws.drop i).take m ++ (ws.drop i).drop m) := by rw [List.take_append_drop, List.take_append_drop]
  have := congrArg tot e
  rw [tot_app, tot_app] at this
  omega
theorem row_len {ws : List (List Nat)} {i j : Nat} (h : i < j) (hj : j ≤ ws.length) : (row ws i j).length + 1 ≤ tot ws := by
  have := jn_len 32 (seg_ne (ws := ws) h hj)
  have := tot_seg (ws := ws) i (j - i)
  unfold row
  omega
theorem seg_mem {α : Type} {ws : List α} {i m : Nat} {w : α} (h : w ∈ (ws.drop i).take m) : w ∈ ws := List.mem_of_mem_drop (List.mem_of_mem_take h)
theorem jn_ne {c : Nat} {l : List (List Nat)} (h0 : l ≠ []) (h : ∀ w ∈ l, w ≠ []) : jn c l ≠ [] := by
  match l, h0 with
  | [a], _ => exact h a List.mem_cons_self
  | a :: b :: r, _ => rw [jn_cons c a (by simp)]; simp
theorem row_ne {ws : List (List Nat)} (h : ∀ w ∈ ws, Wd w) {i j : Nat} (hi : i < j) (hj : j ≤ ws.length) : row ws i j ≠ [] :=
  jn_ne (seg_ne hi hj) fun w hw => (h w (seg_mem hw)).ne
def rp (W : Int) (r : List Nat) : Int := (W - (r.length : Nat)) * (W - (r.length : Nat))
def rb (r : List Nat) : Int := bp (lst r)
/-- what a piece costs -/
def pc (ws : List (List Nat)) (W : Int) (i j : Nat) : Int := rp W (row ws i j) + (if j = ws.length then 0 else rb (row ws i j))
abbrev Pc := Nat × Nat × Int
/-- i, j is a piece -/
def Ft (ws : List (List Nat)) (W : Int) (i j : Nat) : Prop := i < j ∧ j ≤ ws.length ∧ (((row ws i j).length : Nat) : Int) ≤ W
/-- all pieces -/
def Pcs (ws : List (List Nat)) (W : Int) (ps : List Pc) : Prop := ∀ i j p, (i, j, p) ∈ ps ↔ Ft ws W i j ∧ p = pc ws W i j
theorem Ft.less {ws : List (List Nat)} {W : Int} {i j k : Nat} (h : Ft ws W i k) (hj : i < j) (hk : j ≤ k) : Ft ws W i j := by
  have := row_le hj hk h.2.1
  exact ⟨hj, by have := h.2.1; omega, by have := h.2.2; omega⟩
/-- a row of the table and the next one -/
structure Bl (ps : List Pc) (a b : List (Option Int)) : Prop where
  len : b.length = a.length
  snd : ∀ j v, b[j]? = some (some v) → ∃ i p x, (i, j, p) ∈ ps ∧ a[i]? = some (some x) ∧ x + p = v
  cpl : ∀ i j p x, (i, j, p) ∈ ps → a[i]? = some (some x) → ∃ v, b[j]? = some (some v) ∧ v ≤ x + p
theorem Bl.nil (a : List (Option Int)) : Bl [] a (List.replicate a.length none) := ⟨by simp, fun j v h => by
  rw [List.getElem?_replicate] at h
  split at h
  · cases h
  · (cases h), fun i j p x h => nomatch h⟩
theorem Bl.skip {ps : List Pc} {a b : List (Option Int)} {i j : Nat} {p : Int} (h : Bl ps a b) (ha : a[i]? = some none) : Bl (ps ++ [(i, j, p)]) a b := ⟨h.len, fun j v q => by
    obtain ⟨i, p, x, q1, q2⟩ := h.snd j v q
    exact ⟨i, p, x, List.mem_append_left _ q1, q2⟩, fun i' j' p' x q1 q2 => by
    rcases List.mem_append.mp q1 with q1 | q1
    · exact h.cpl i' j' p' x q1 q2
    · rw [List.mem_singleton] at q1
      cases q1
      rw [ha] at q2
      cases q2⟩
theorem Bl.keep {ps : List Pc} {a b : List (Option Int)} {i j : Nat} {p x v : Int} (h : Bl ps a b) (ha : a[i]? = some (some x)) (hb : b[j]? = some (some v)) (hv : v ≤ x + p) : Bl (ps ++ [(i, j, p)]) a b := ⟨h.len, fun j v q => by
    obtain ⟨i, p, x, q1, q2⟩ := h.snd j v q
    exact ⟨i, p, x, List.mem_append_left _ q1, q2⟩, fun i' j' p' x' q1 q2 => by
    rcases List.mem_append.mp q1 with q1 | q1
    · exact h.cpl i' j' p' x' q1 q2
    · rw [List.mem_singleton] at q1
      cases q1
      rw [ha] at q2
      cases q2
      exact ⟨v, hb, hv⟩⟩
theorem Bl.put {ps : List Pc} {a b : List (Option Int)} {i j : Nat} {p x : Int} (h : Bl ps a b) (ha : a[i]? = some (some x)) (hj : j < b.length) (hv : ∀ v, b[j]? = some (some v) → x + p ≤ v) : Bl (ps ++ [(i, j, p)]) a (b.set j (some (x + p))) := by
  refine ⟨by rw [List.length_set]; exact h.len, fun j' v q => ?_, fun i' j' p' x' q1 q2 => ?_⟩
  · rw [List.getElem?_set] at q
    by_cases e : j = j'
    · subst e
      rw [if_pos rfl, if_pos hj] at q
      cases q
      exact ⟨i, p, x, List.mem_append_right _ (List.mem_singleton.mpr rfl), ha, rfl⟩
    · rw [if_neg e] at q
      obtain ⟨i, p, x, q1, q2⟩ := h.snd j' v q
      exact ⟨i, p, x, List.mem_append_left _ q1, q2⟩
  · rcases List.mem_append.mp q1 with q1 | q1
    · obtain ⟨v, hb, hle⟩ := h.cpl i' j' p' x' q1 q2
      by_cases e : j = j'
      · subst e
        have := hv v hb
        exact ⟨x + p, by rw [List.getElem?_set, if_pos rfl, if_pos hj], by omega⟩
      · exact ⟨v, by rw [List.getElem?_set, if_neg e]; exact hb, hle⟩
    · rw [List.mem_singleton] at q1
      cases q1
      rw [ha] at q2
      cases q2
      exact ⟨x + p, by rw [List.getElem?_set, if_pos rfl, if_pos hj], Int.le_refl _⟩
/-- the table -/
structure Tb (ws : List (List Nat)) (W : Int) (ps : List Pc) (m : Nat) (T : List (List (Option Int))) : Prop where
  len : T.length = m + 1
  first : T[0]? = some (some 0 :: List.replicate ws.length none)
  next : ∀ k, k < m → ∃ a b, T[k]? = some a ∧ T[k + 1]? = some b ∧ Bl ps a b
theorem Tb.rows {ws : List (List Nat)} {W : Int} {ps : List Pc} {m : Nat} {T : List (List (Option Int))} (h : Tb ws W ps m T) : ∀ k, k ≤ m → ∃ a, T[k]? = some a ∧ a.length = ws.length + 1
  | 0, _ => ⟨_, h.first, by simp⟩
  | k + 1, hk => by
    obtain ⟨a, b, h1, h2, h3⟩ := h.next k (by omega)
    obtain ⟨a', h4, h5⟩ := Tb.rows h k (by omega)
    rw [h1] at h4
    cases h4
    exact ⟨b, h2, by rw [h3.len, h5]⟩
/-- a way: rows and what they cost -/
inductive Path (ws : List (List Nat)) (W : Int) : Nat → Nat → Int → List (List Nat) → Prop
  | zero : Path ws W 0 0 0 []
  | step {k b e : Nat} {v : Int} {rs : List (List Nat)} : Path ws W k b v rs → Ft ws W b e → Path ws W (k + 1) e (v + pc ws W b e) (rs ++ [row ws b e])
theorem Path.len {ws : List (List Nat)} {W : Int} {k e : Nat} {v : Int} {rs : List (List Nat)} (h : Path ws W k e v rs) : rs.length = k := by
  induction h with
  | zero => rfl
  | step _ _ ih => rw [List.length_append, ih]; rfl
theorem Path.zero_iff {ws : List (List Nat)} {W : Int} {k e : Nat} {v : Int} {rs : List (List Nat)} (h : Path ws W k e v rs) : (rs = [] ∧ e = 0 ∧ v = 0) ∨ (rs ≠ [] ∧ 0 < e) := by
  cases h with
  | zero => exact .inl ⟨rfl, rfl, rfl⟩
  | step _ f => exact .inr ⟨by simp, by have := f.1; omega⟩
theorem Path.join {ws : List (List Nat)} {W : Int} {k e : Nat} {v : Int} {rs : List (List Nat)} (h : Path ws W k e v rs) (h0 : rs ≠ []) : jn 32 rs = row ws 0 e := by
  induction h with
  | zero => exact absurd rfl h0
  | @step k b e v rs p f ih =>
    rcases p.zero_iff with ⟨rfl, rfl, _⟩ | ⟨h1, h2⟩
    · rfl
    · rw [jn_app 32 rs _ h1 (by simp), ih h1]
      exact (row_cat h2 f.1 f.2.1).symm
theorem Path.mem {ws : List (List Nat)} {W : Int} {k e : Nat} {v : Int} {rs : List (List Nat)} (h : Path ws W k e v rs) : ∀ r ∈ rs, ∃ b e, Ft ws W b e ∧ r = row ws b e := by
  induction h with
  | zero => exact fun r hr => nomatch hr
  | @step k b e v rs p f ih =>
    intro r hr
    rcases List.mem_append.mp hr with hr | hr
    · exact ih r hr
    · rw [List.mem_singleton] at hr
      exact ⟨b, e, f, hr⟩
/-- ahead of the end each row has its break -/
theorem Path.cost {ws : List (List Nat)} {W : Int} {k e : Nat} {v : Int} {rs : List (List Nat)} (h : Path ws W k e v rs) (he : e < ws.length) : v = (rs.map (rp W)).sum + (rs.map rb).sum := by
  induction h with
  | zero => rfl
  | @step k b e v rs p f ih =>
    have := ih (by have := f.1; omega)
    have e1 : pc ws W b e = rp W (row ws b e) + rb (row ws b e) := by unfold pc; rw [if_neg (by omega)]
    rw [List.map_append, List.map_append, List.sum_append, List.sum_append, e1, this]
    simp only [List.map_cons, List.map_nil, List.sum_cons, List.sum_nil]
    omega
theorem Path.costs {ws : List (List Nat)} {W : Int} {k : Nat} {v : Int} {rs : List (List Nat)} (h : Path ws W k ws.length v rs) (h0 : rs ≠ []) : v = (rs.map (rp W)).sum + (rs.dropLast.map rb).sum := by
  generalize he : ws.length = e at h
  cases h with
  | zero => exact absurd rfl h0
  | @step k b e v rs p f =>
    have := p.cost (by have := f.1; omega)
    have e1 : pc ws W b ws.length = rp W (row ws b ws.length) := by unfold pc; rw [if_pos rfl, Int.add_zero]
    rw [← he, e1, List.dropLast_concat, List.map_append, List.sum_append, this]
    simp only [List.map_cons, List.map_nil, List.sum_cons, List.sum_nil]
    omega
end CT
open PySem PySem.Spec L2 DL CT TX NumText
namespace CT
theorem row_price_ev {r : List Nat} {W : Int} (hl : r.length ≤ 1000) (hW : -100000 ≤ W ∧ W ≤ 100000) : F_row_price [.str (S r), .int W] = M.ret (.int (rp W r)) := by
  have l := o_lenX (l := r) (by omega)
  have e : d2 oSub (dVar 1) (dCB oLen (dCons (dVar 0) dNil)) [.vl (.str (S r)), .vl (.int W)] = M.ret (.int (W - (r.length : Nat))) := ev_2 (ev_var rfl) (ev_cb (ev_cons (ev_var rfl) ev_nil) l) o_sub
  refine ev_run ?_
  unfold g_row_price rp
  exact ev_ret (ev_2 e e (o_mul (bMul_l (by omega) (by omega))))
theorem rb_ev {r : List Nat} (h : r ≠ []) (hl : r.length ≤ 900) : F_break_price [.str (S r)] = M.ret (.int (rb r)) := by
  obtain ⟨u, c, rfl⟩ := split_last h
  rw [List.length_append] at hl
  unfold rb
  rw [lst_snoc]
  exact break_price_ev (by omega)
def pcD (x : Pc) : D := .tuple [.int (x.1 : Int), .int (x.2.1 : Int), .int x.2.2]
def oD : Option Int → D
  | none => .none
  | some a => .int a
def rD (r : List (Option Int)) : D := .list (r.map oD)
theorem ix_at {ds : List D} {i : Nat} {d : D} (h : ds[i]? = some d) : oIx (.list ds) (.int (i : Int)) = some d := ix_nat (by omega) (by rw [Int.toNat_natCast]; exact h)
theorem rng_at {m : Nat} {p q : List D} {d : D} (e : rngD 0 m = p ++ d :: q) : d = .int (p.length : Int) ∧ p.length < m := by
  have hlen : (rngD 0 m).length = m := by unfold rngD; rw [List.length_map, List.length_range]
  have h1 : (rngD 0 m)[p.length]? = some d := by rw [e]; simp
  have h2 : p.length < m := by
    have := congrArg List.length e
    rw [hlen, List.length_append, List.length_cons] at this
    omega
  unfold rngD at h1
  rw [List.getElem?_map, List.getElem?_range h2] at h1
  refine ⟨?_, h2⟩
  have := Option.some.inj h1
  rw [← this]
  show PyData.int (0 + ((p.length : Nat) : Int)) = _
  rw [Int.zero_add]
theorem rng_len (n : Nat) : (rngD 0 n).length = n := by unfold rngD; rw [List.length_map, List.length_range]
theorem rng1_nat {n : Nat} (h : n ≤ 1000000) : rng1 [.int (n : Int)] = some (rngD 0 n) := by
  show (if b62 (n : Int) = true then some (rngD 0 (n : Int).toNat) else none) = _
  rw [if_pos (by unfold b62; simp; omega), Int.toNat_natCast]
theorem add_txt {a b : List Nat} (h : a.length + b.length ≤ 1000) : oAdd (.str (S a)) (.str (S b)) = some (.str (S (a ++ b))) := by
  rw [o_addS (small_of (by rw [S_len, S_len]; omega)), S_app]
noncomputable def cW : DS → M Bool := dAnd (dB (d2 oLeD (dCB oLen (dCons (dVar 5) dNil)) (dVar 1))) (dB (d2 oLt (dVar 6) (dCB oLen (dCons (dVar 2) dNil))))
noncomputable def bW : DS → M Out := gSeq (gApp 3 (dTup (dCons (dVar 4) (dCons (dVar 6) (dCons (d2 oAdd (dCall (fun ds => noX (F_row_price ds)) (dCons (dVar 5) (dCons (dVar 1) dNil))) (dCall (fun ds => noX (F_break_price ds)) (dCons (dVar 5) dNil))) dNil)))))
    (gSeq (gAsg (d2 oAdd (d2 oAdd (dVar 5) (dC (.str " "))) (d2 oIx (dVar 2) (dVar 6))) (tgN 5))
    (gAsg (d2 (oII (fun i j => i + j)) (dVar 6) (dC (.int 1))) (tgN 6)))
section
variable {ws : List (List Nat)} {W : Int}
theorem pc_in {i j : Nat} (h : j < ws.length) : pc ws W i j = rp W (row ws i j) + rb (row ws i j) := by unfold pc; rw [if_neg (by omega)]
theorem pc_while (h : ∀ w ∈ ws, Wd w) (hz : tot ws ≤ 900) (hW : 0 ≤ W ∧ W ≤ 1000) (A : D) (i : Nat) : ∀ (m j : Nat) (acc : List D), ws.length - j = m → i < j → j ≤ ws.length → acc.length + m ≤ 100000 →
    ∃ j', gWhile cW bW [.vl A, .vl (.int W), .vl (.list (ws.map tx)), .ow acc, .vl (.int (i : Int)), .vl (tx (row ws i j)), .vl (.int (j : Int))] = M.ret (.nx [.vl A, .vl (.int W), .vl (.list (ws.map tx)), .ow (acc ++ (List.range' j (j' - j)).map fun k => pcD (i, k, pc ws W i k)), .vl (.int (i : Int)), .vl (tx (row ws i j')), .vl (.int (j' : Int))]) ∧ j ≤ j' ∧ j' ≤ ws.length ∧ (∀ k, j ≤ k → k < j' → Ft ws W i k) ∧ (j' = ws.length ∨ ¬ Ft ws W i j') := by
  have hln : oLen [.list (ws.map tx)] = some (.int ((ws.length : Nat) : Int)) := by rw [o_lenL, List.length_map]
  intro m
  induction m with
  | zero =>
    intro j acc hm hi hj ha
    have hjn : j = ws.length := by omega
    have l := o_lenX (l := row ws i j) (by have := row_len hi hj; omega)
    refine ⟨j, ?_, Nat.le_refl j, hj, fun k k1 k2 => by omega, .inl hjn⟩
    rw [Nat.sub_self, show List.range' j 0 = [] from rfl, List.map_nil, List.append_nil]
    refine ev_while_f ?_
    unfold cW
    have c2 : dB (d2 oLt (dVar 6) (dCB oLen (dCons (dVar 2) dNil))) [.vl A, .vl (.int W), .vl (.list (ws.map tx)), .ow acc, .vl (.int (i : Int)), .vl (tx (row ws i j)), .vl (.int (j : Int))] = M.ret false := ev_b (ev_2 (ev_var rfl) (ev_cb (ev_cons (ev_var rfl) ev_nil) hln) (by rw [o_lt, decide_eq_false (by omega)]))
    have c1 := ev_and (ev_b (ev_2 (h := oLeD) (δ := [.vl A, .vl (.int W), .vl (.list (ws.map tx)), .ow acc, .vl (.int (i : Int)), .vl (tx (row ws i j)), .vl (.int (j : Int))]) (f := dCB oLen (dCons (dVar 5) dNil)) (g := dVar 1) (ev_cb (ev_cons (ev_var rfl) ev_nil) l) (ev_var rfl) o_leD)) c2
    rw [Bool.and_false] at c1
    exact c1
  | succ m ih =>
    intro j acc hm hi hj ha
    have hjn : j < ws.length := by omega
    have rl := row_len hi hj
    have l := o_lenX (l := row ws i j) (by omega)
    have c1 : dB (d2 oLeD (dCB oLen (dCons (dVar 5) dNil)) (dVar 1)) [.vl A, .vl (.int W), .vl (.list (ws.map tx)), .ow acc, .vl (.int (i : Int)), .vl (tx (row ws i j)), .vl (.int (j : Int))] = M.ret (decide ((((row ws i j).length : Nat) : Int) ≤ W)) := ev_b (ev_2 (ev_cb (ev_cons (ev_var rfl) ev_nil) l) (ev_var rfl) o_leD)
    by_cases hf : (((row ws i j).length : Nat) : Int) ≤ W
    · rw [decide_eq_true hf] at c1
      have c2 : dB (d2 oLt (dVar 6) (dCB oLen (dCons (dVar 2) dNil))) [.vl A, .vl (.int W), .vl (.list (ws.map tx)), .ow acc, .vl (.int (i : Int)), .vl (tx (row ws i j)), .vl (.int (j : Int))] = M.ret true := ev_b (ev_2 (ev_var rfl) (ev_cb (ev_cons (ev_var rfl) ev_nil) hln) (by rw [o_lt, decide_eq_true (by omega)]))
      obtain ⟨j', h1, h2, h3, h4, h5⟩ := ih (j + 1) (acc ++ [pcD (i, j, pc ws W i j)]) (by omega) (by omega) (by omega) (by rw [List.length_append, List.length_singleton]; omega)
      refine ⟨j', ?_, by omega, h3, fun k k1 k2 => ?_, h5⟩
      · have e : List.range' j (j' - j) = j :: List.range' (j + 1) (j' - (j + 1)) := by
          rw [show j' - j = (j' - (j + 1)) + 1 by omega, List.range'_succ]
        rw [e, List.map_cons, List.append_cons]
        refine ev_while_t (ev_and_t c1 c2) ?_ h1
        unfold bW
        have hpr := row_price_ev (r := row ws i j) (W := W) (by omega) (by omega)
        have hbr := rb_ev (row_ne h hi hj) (by omega)
        refine ev_seq (ev_app (d := pcD (i, j, pc ws W i j)) rfl (ev_tup (ds := [.int (i : Int), .int (j : Int), .int (pc ws W i j)]) (ev_cons (ev_var rfl) (ev_cons (ev_var rfl) (ev_cons ?_ ev_nil))) rfl) (small_of (by omega))) ?_
        · rw [pc_in hjn]
          exact ev_2 (ev_call (ev_cons (ev_var rfl) (ev_cons (ev_var rfl) ev_nil)) hpr) (ev_call (ev_cons (ev_var rfl) ev_nil) hbr) o_add
        · have rm := row_more hi hjn
          have rl2 := row_len (ws := ws) (i := i) (j := j + 1) (by omega) (by omega)
          have ll := congrArg List.length rm
          rw [List.length_append, List.length_cons] at ll
          have a1 := add_txt (a := row ws i j) (b := [32]) (by show _ + 1 ≤ _; omega)
          have a2 := add_txt (a := row ws i j ++ [32]) (b := ws[j]) (by rw [List.length_append]; show _ + 1 + _ ≤ _; omega)
          rw [List.append_assoc, List.singleton_append, ← rm] at a2
          have ix := ix_at (ds := ws.map tx) (i := j) (d := tx ws[j]) (by rw [List.getElem?_map, List.getElem?_eq_getElem hjn]; rfl)
          refine ev_seq (ev_asg (d := tx (row ws i (j + 1))) (ev_2 (ev_2 (y := .str (S [32])) (ev_var rfl) ev_c a1) (ev_2 (ev_var rfl) (ev_var rfl) ix) a2)) ?_
          exact ev_asg (d := .int ((j + 1 : Nat) : Int)) (ev_2 (ev_var rfl) ev_c rfl)
      · rcases Nat.lt_or_eq_of_le k1 with q | rfl
        · exact h4 k q k2
        · exact ⟨hi, hj, hf⟩
    · rw [decide_eq_false hf] at c1
      refine ⟨j, ?_, Nat.le_refl j, hj, fun k k1 k2 => by omega, .inr fun z => hf z.2.2⟩
      rw [Nat.sub_self, show List.range' j 0 = [] from rfl, List.map_nil, List.append_nil]
      exact ev_while_f (ev_and_f c1)
theorem pieces_ev (h0 : ws ≠ []) (h : ∀ w ∈ ws, Wd w) (hz : tot ws ≤ 900) (hn : ws.length ≤ 64) (hW : 0 ≤ W ∧ W ≤ 1000) : ∃ ps, Pcs ws W ps ∧ ps.length ≤ 100000 ∧ F_pieces_of [tx (jn 32 ws), .int W] = M.ret (.list (ps.map pcD)) := by
  have hs := o_split h0 (fun w hw => (h w hw).no) (by omega : tot ws ≤ 1000000)
  have hln : oLen [.list (ws.map tx)] = some (.int ((ws.length : Nat) : Int)) := by rw [o_lenL, List.length_map]
  have main : ∃ ps, Pcs ws W ps ∧ ps.length ≤ 100000 ∧ g_pieces_of (startD 7 [tx (jn 32 ws), .int W]) = M.ret (.rt (.list (ps.map pcD))) := by
    unfold g_pieces_of
    have hbody := fun (p : List D) (d : D) (q : List D) (δ : DS) (e : rngD 0 ws.length = p ++ d :: q) (hδ : ∃ (ps : List Pc) (x4 x5 x6 : Sl), ps.length ≤ 66 * p.length ∧ (∀ i j c, (i, j, c) ∈ ps ↔ i < p.length ∧ Ft ws W i j ∧ c = pc ws W i j) ∧ δ = [.vl (tx (jn 32 ws)), .vl (.int W), .vl (.list (ws.map tx)), .ow (ps.map pcD), x4, x5, x6]) => (show ∃ δ', bodyD (tgN 4) (gSeq (gAsg (d2 oIx (dVar 2) (dVar 4)) (tgN 5))
    (gSeq (gAsg (d2 oAdd (dVar 4) (dC (.int 1))) (tgN 6))
    (gSeq (gWhile cW bW)
    (gIf (dB (d2 oLeD (dCB oLen (dCons (dVar 5) dNil)) (dVar 1))) (gApp 3 (dTup (dCons (dVar 4) (dCons (dVar 6) (dCons (dCall (fun ds => noX (F_row_price ds)) (dCons (dVar 5) (dCons (dVar 1) dNil))) dNil))))) gNext)))) d δ = M.ret (.nx δ') ∧ ∃ (ps : List Pc) (x4 x5 x6 : Sl), ps.length ≤ 66 * (p ++ [d]).length ∧ (∀ i j c, (i, j, c) ∈ ps ↔ i < (p ++ [d]).length ∧ Ft ws W i j ∧ c = pc ws W i j) ∧ δ' = [.vl (tx (jn 32 ws)), .vl (.int W), .vl (.list (ws.map tx)), .ow (ps.map pcD), x4, x5, x6] from by
      obtain ⟨ps, x4, x5, x6, q1, q2, rfl⟩ := hδ
      obtain ⟨rfl, hp⟩ := rng_at e
      obtain ⟨i, hi⟩ : ∃ i, i = p.length := ⟨_, rfl⟩
      rw [List.length_append, List.length_singleton]
      rw [← hi] at q1 q2 hp ⊢
      have ix := ix_at (ds := ws.map tx) (i := i) (d := tx ws[i]) (by rw [List.getElem?_map, List.getElem?_eq_getElem hp]; rfl)
      rw [← row_one hp] at ix
      obtain ⟨j', w1, w2, w3, w4, w5⟩ := pc_while h hz hW (tx (jn 32 ws)) i _ (i + 1) (ps.map pcD) rfl (by omega) (by omega) (by rw [List.length_map]; omega)
      have rl := row_len (ws := ws) (i := i) (j := j') (by omega) w3
      have l := o_lenX (l := row ws i j') (by omega)
      have e1 : (List.range' (i + 1) (j' - (i + 1))).map (fun k => pcD (i, k, pc ws W i k)) = ((List.range' (i + 1) (j' - (i + 1))).map fun k => ((i, k, pc ws W i k) : Pc)).map pcD := by rw [List.map_map]; rfl
      rw [e1, ← List.map_append] at w1
      obtain ⟨ad, had⟩ : ∃ ad : List Pc, ad = (List.range' (i + 1) (j' - (i + 1))).map fun k => ((i, k, pc ws W i k) : Pc) := ⟨_, rfl⟩
      have hal : ad.length = j' - (i + 1) := by rw [had, List.length_map, List.length_range']
      have ham : ∀ i2 j2 c, (i2, j2, c) ∈ ad ↔ i2 = i ∧ (i + 1 ≤ j2 ∧ j2 < j') ∧ c = pc ws W i2 j2 := fun i2 j2 c => by
        rw [had, List.mem_map]
        constructor
        · rintro ⟨k, hk, hk2⟩
          cases hk2
          have := List.mem_range'_1.mp hk
          exact ⟨rfl, by omega, rfl⟩
        · rintro ⟨rfl, hk, rfl⟩
          exact ⟨j2, List.mem_range'_1.mpr (by omega), rfl⟩
      rw [← had] at w1
      have b1 : dB (d2 oLeD (dCB oLen (dCons (dVar 5) dNil)) (dVar 1)) [.vl (tx (jn 32 ws)), .vl (.int W), .vl (.list (ws.map tx)), .ow ((ps ++ ad).map pcD), .vl (.int (i : Int)), .vl (tx (row ws i j')), .vl (.int (j' : Int))] = M.ret (decide ((((row ws i j').length : Nat) : Int) ≤ W)) := ev_b (ev_2 (ev_cb (ev_cons (ev_var rfl) ev_nil) l) (ev_var rfl) o_leD)
      have st : ∀ r, gIf (dB (d2 oLeD (dCB oLen (dCons (dVar 5) dNil)) (dVar 1))) (gApp 3 (dTup (dCons (dVar 4) (dCons (dVar 6) (dCons (dCall (fun ds => noX (F_row_price ds)) (dCons (dVar 5) (dCons (dVar 1) dNil))) dNil))))) gNext [.vl (tx (jn 32 ws)), .vl (.int W), .vl (.list (ws.map tx)), .ow ((ps ++ ad).map pcD), .vl (.int (i : Int)), .vl (tx (row ws i j')), .vl (.int (j' : Int))] = r → bodyD (tgN 4) (gSeq (gAsg (d2 oIx (dVar 2) (dVar 4)) (tgN 5)) (gSeq (gAsg (d2 oAdd (dVar 4) (dC (.int 1))) (tgN 6)) (gSeq (gWhile cW bW) (gIf (dB (d2 oLeD (dCB oLen (dCons (dVar 5) dNil)) (dVar 1))) (gApp 3 (dTup (dCons (dVar 4) (dCons (dVar 6) (dCons (dCall (fun ds => noX (F_row_price ds)) (dCons (dVar 5) (dCons (dVar 1) dNil))) dNil))))) gNext)))) (.int (i : Int)) [.vl (tx (jn 32 ws)), .vl (.int W), .vl (.list (ws.map tx)), .ow (ps.map pcD), x4, x5, x6] = r := fun r hr =>
        ev_body (δ' := [.vl (tx (jn 32 ws)), .vl (.int W), .vl (.list (ws.map tx)), .ow (ps.map pcD), .vl (.int (i : Int)), x5, x6]) rfl (ev_seq (ev_asg (d := tx (row ws i (i + 1))) (ev_2 (ev_var rfl) (ev_var rfl) ix)) (ev_seq (ev_asg (d := .int ((i + 1 : Nat) : Int)) (ev_2 (ev_var rfl) ev_c o_add)) (ev_seq w1 hr)))
      by_cases hf : Ft ws W i j'
      · have hjn : j' = ws.length := by
          rcases w5 with w5 | w5
          · exact w5
          · exact absurd hf w5
        rw [decide_eq_true hf.2.2] at b1
        have hpr := row_price_ev (r := row ws i j') (W := W) (by omega) (by omega)
        have e2 : pc ws W i j' = rp W (row ws i j') := by unfold pc; rw [if_pos hjn, Int.add_zero]
        rw [← e2] at hpr
        refine ⟨[.vl (tx (jn 32 ws)), .vl (.int W), .vl (.list (ws.map tx)), .ow ((ps ++ ad).map pcD ++ [pcD (i, j', pc ws W i j')]), .vl (.int (i : Int)), .vl (tx (row ws i j')), .vl (.int (j' : Int))], st _ (ev_ifS b1 (ite_T rfl (ev_app (d := pcD (i, j', pc ws W i j')) rfl (ev_tup (ds := [.int (i : Int), .int (j' : Int), .int (pc ws W i j')]) (ev_cons (ev_var rfl) (ev_cons (ev_var rfl) (ev_cons (ev_call (ev_cons (ev_var rfl) (ev_cons (ev_var rfl) ev_nil)) hpr) ev_nil))) rfl) (small_of (by rw [List.length_map, List.length_append]; omega))))), ps ++ ad ++ [(i, j', pc ws W i j')], _, _, _, ?_, fun i2 j2 c => ?_, by rw [List.map_append (l₁ := ps ++ ad)]; rfl⟩
        · rw [List.length_append, List.length_append, List.length_singleton]; omega
        · rw [List.mem_append, List.mem_append, q2, ham, List.mem_singleton]
          constructor
          · rintro ((⟨k1, k2, k3⟩ | ⟨rfl, k2, k3⟩) | k)
            · exact ⟨by omega, k2, k3⟩
            · exact ⟨by omega, w4 j2 (by omega) k2.2, k3⟩
            · cases k
              exact ⟨by omega, hf, rfl⟩
          · rintro ⟨k1, k2, k3⟩
            by_cases k4 : i2 < i
            · exact .inl (.inl ⟨k4, k2, k3⟩)
            · have k5 : i2 = i := by omega
              subst k5
              by_cases k6 : j2 < j'
              · exact .inl (.inr ⟨rfl, ⟨k2.1, k6⟩, k3⟩)
              · have k7 : j2 = j' := by have := k2.2.1; omega
                subst k7
                exact .inr (by rw [k3])
      · have hno : ¬ (((row ws i j').length : Nat) : Int) ≤ W := fun z => hf ⟨by omega, w3, z⟩
        rw [decide_eq_false hno] at b1
        refine ⟨[.vl (tx (jn 32 ws)), .vl (.int W), .vl (.list (ws.map tx)), .ow ((ps ++ ad).map pcD), .vl (.int (i : Int)), .vl (tx (row ws i j')), .vl (.int (j' : Int))], st _ (ev_pass1 b1 rfl), ps ++ ad, _, _, _, ?_, fun i2 j2 c => ?_, rfl⟩
        · rw [List.length_append]; omega
        · rw [List.mem_append, q2, ham]
          constructor
          · rintro (⟨k1, k2, k3⟩ | ⟨rfl, k2, k3⟩)
            · exact ⟨by omega, k2, k3⟩
            · exact ⟨by omega, w4 j2 (by omega) k2.2, k3⟩
          · rintro ⟨k1, k2, k3⟩
            by_cases k4 : i2 < i
            · exact .inl ⟨k4, k2, k3⟩
            · have k5 : i2 = i := by omega
              subst k5
              by_cases k6 : j2 < j'
              · exact .inr ⟨rfl, ⟨k2.1, k6⟩, k3⟩
              · exact absurd (k2.less (by omega) (by omega)) hf)
    obtain ⟨δ', h3, ps, x4, x5, x6, q1, q2, rfl⟩ := forD_pre _ (rngD 0 ws.length) [] [.vl (tx (jn 32 ws)), .vl (.int W), .vl (.list (ws.map tx)), .ow (([] : List Pc).map pcD), .un, .un, .un] ⟨[], _, _, _, Nat.zero_le _, (fun i j c => ⟨(fun z => nomatch z), fun z => absurd z.1 (Nat.not_lt_zero i)⟩), rfl⟩ hbody
    refine ⟨ps, fun i j p => ?_, by rw [List.nil_append, rng_len] at q1; omega, ?_⟩
    · rw [q2 i j p, List.nil_append, rng_len]
      exact ⟨fun z => z.2, fun z => ⟨by have := z.1.1; have := z.1.2.1; omega, z⟩⟩
    · refine ev_seq (ev_asg (d := .list (ws.map tx)) (ev_meth (ev_var rfl) (ev_cons ev_c ev_nil) hs)) ?_
      refine ev_seq (ev_newL (ds := []) (ev_nLst ev_nil rfl)) ?_
      exact ev_seq (ev_forG (ev_rngS (ev_cons (ev_cb (ev_cons (ev_var rfl) ev_nil) hln) ev_nil) (rng1_nat (by omega))) h3) rfl
  obtain ⟨ps, h1, hl, h2⟩ := main
  exact ⟨ps, h1, hl, ev_run h2⟩
end
end CT
open PySem PySem.Spec L2 DL CT TX NumText
namespace CT
theorem is_oD (x : Option Int) : oIs (oD x) .none = some (.bool x.isNone) := by cases x <;> rfl
theorem isnot_oD (x : Option Int) : oIsNot (oD x) .none = some (.bool x.isSome) := by cases x <;> rfl
theorem flat_oD (l : List (Option Int)) : flatDs (l.map oD) = true := by
  induction l with
  | nil => rfl
  | cons a r ih => cases a <;> simp only [List.map_cons, flatDs, ih, oD, flatD, Bool.and_self]
theorem ix_oD {l : List (Option Int)} {i : Nat} {x : Option Int} (h : l[i]? = some x) : oIx (.list (l.map oD)) (.int (i : Int)) = some (oD x) := ix_at (by rw [List.getElem?_map, h]; rfl)
theorem ixN_nat {n i : Nat} (h : i < n) : L2.ixN n (i : Int) = some i := by
  unfold L2.ixN
  rw [if_pos (by omega), if_pos (by omega), Int.toNat_natCast]
theorem below_ev {ps : List Pc} {a : List (Option Int)} (hb : ∀ i j p, (i, j, p) ∈ ps → i < a.length ∧ j < a.length) (hl : a.length ≤ 100000) : ∃ b, Bl ps a b ∧ F_list_below [.list (ps.map pcD), .list (a.map oD)] = M.ret (.list (b.map oD)) := by
  obtain ⟨PS, hPS⟩ : ∃ PS : D, PS = .list (ps.map pcD) := ⟨_, rfl⟩
  have main : ∀ (q p : List Pc) (b : List (Option Int)) (x3 x4 x5 : Sl), ps = p ++ q → Bl p a b → ∃ b' y3 y4 y5, Bl ps a b' ∧ forD (bodyD (tgTup 3 (tgCons (tgN 3) (tgCons (tgN 4) (tgCons (tgN 5) tgNil)))) (gIf (dLendT 2 (dAnd (dB (d2 oIsNot (d2 oIx (dVar 1) (dVar 3)) (dC .none))) (dOr (dB (d2 oIs (d2 oIx (dVar 2) (dVar 4)) (dC .none))) (dB (d2 oLt (d2 oAdd (d2 oIx (dVar 1) (dVar 3)) (dVar 5)) (d2 oIx (dVar 2) (dVar 4))))))) (gSetO 2 (dVar 4) (d2 oAdd (d2 oIx (dVar 1) (dVar 3)) (dVar 5))) gNext)) (q.map pcD) [.vl PS, .vl (.list (a.map oD)), .ow (b.map oD), x3, x4, x5] = M.ret (.nx [.vl PS, .vl (.list (a.map oD)), .ow (b'.map oD), y3, y4, y5]) := by
    intro q
    induction q with
    | nil =>
      intro p b x3 x4 x5 e B
      rw [List.append_nil] at e
      subst e
      exact ⟨b, x3, x4, x5, B, rfl⟩
    | cons c q ih =>
      intro p b x3 x4 x5 e B
      obtain ⟨i, j, w⟩ := c
      obtain ⟨hi, hj⟩ := hb i j w (by rw [e]; simp)
      have e2 : ps = (p ++ [(i, j, w)]) ++ q := by rw [List.append_assoc]; exact e
      obtain ⟨xa, ha⟩ : ∃ xa, a[i]? = some xa := ⟨_, List.getElem?_eq_getElem hi⟩
      have hjb : j < b.length := by rw [B.len]; exact hj
      obtain ⟨xb, hxb⟩ : ∃ xb, b[j]? = some xb := ⟨_, List.getElem?_eq_getElem hjb⟩
      have ia := ix_oD ha
      have ib := ix_oD hxb
      have tg : tgTup 3 (tgCons (tgN 3) (tgCons (tgN 4) (tgCons (tgN 5) tgNil))) (pcD (i, j, w)) [.vl PS, .vl (.list (a.map oD)), .ow (b.map oD), x3, x4, x5] = some [.vl PS, .vl (.list (a.map oD)), .ow (b.map oD), .vl (.int (i : Int)), .vl (.int (j : Int)), .vl (.int w)] := rfl
      have g1 : ∀ x2 : Sl, d2 oIx (dVar 1) (dVar 3) [.vl PS, .vl (.list (a.map oD)), x2, .vl (.int (i : Int)), .vl (.int (j : Int)), .vl (.int w)] = M.ret (oD xa) := fun x2 => ev_2 (ev_var rfl) (ev_var rfl) ia
      have g2 : d2 oIx (dVar 2) (dVar 4) [.vl PS, .vl (.list (a.map oD)), .vl (.list (b.map oD)), .vl (.int (i : Int)), .vl (.int (j : Int)), .vl (.int w)] = M.ret (oD xb) := ev_2 (ev_var rfl) (ev_var rfl) ib
      have g3 := ev_b (ev_2 (g1 (.vl (.list (b.map oD)))) ev_c (isnot_oD xa))
      have g4 := ev_b (ev_2 g2 ev_c (is_oD xb))
      have pass : ∀ (b0 : Bool), b0 = false → dAnd (dB (d2 oIsNot (d2 oIx (dVar 1) (dVar 3)) (dC .none))) (dOr (dB (d2 oIs (d2 oIx (dVar 2) (dVar 4)) (dC .none))) (dB (d2 oLt (d2 oAdd (d2 oIx (dVar 1) (dVar 3)) (dVar 5)) (d2 oIx (dVar 2) (dVar 4))))) [.vl PS, .vl (.list (a.map oD)), .vl (.list (b.map oD)), .vl (.int (i : Int)), .vl (.int (j : Int)), .vl (.int w)] = M.ret b0 → Bl (p ++ [(i, j, w)]) a b → ∃ b' y3 y4 y5, Bl ps a b' ∧ forD (bodyD (tgTup 3 (tgCons (tgN 3) (tgCons (tgN 4) (tgCons (tgN 5) tgNil)))) (gIf (dLendT 2 (dAnd (dB (d2 oIsNot (d2 oIx (dVar 1) (dVar 3)) (dC .none))) (dOr (dB (d2 oIs (d2 oIx (dVar 2) (dVar 4)) (dC .none))) (dB (d2 oLt (d2 oAdd (d2 oIx (dVar 1) (dVar 3)) (dVar 5)) (d2 oIx (dVar 2) (dVar 4))))))) (gSetO 2 (dVar 4) (d2 oAdd (d2 oIx (dVar 1) (dVar 3)) (dVar 5))) gNext)) (((i, j, w) :: q).map pcD) [.vl PS, .vl (.list (a.map oD)), .ow (b.map oD), x3, x4, x5] = M.ret (.nx [.vl PS, .vl (.list (a.map oD)), .ow (b'.map oD), y3, y4, y5]) := fun b0 hb0 hc B2 => by
        obtain ⟨b', y3, y4, y5, B3, hI⟩ := ih _ b (.vl (.int (i : Int))) (.vl (.int (j : Int))) (.vl (.int w)) e2 B2
        exact ⟨b', y3, y4, y5, B3, forD_cons (ev_body tg (ev_pass1 (ev_lendT (δ := [.vl PS, .vl (.list (a.map oD)), .ow (b.map oD), .vl (.int (i : Int)), .vl (.int (j : Int)), .vl (.int w)]) hc) hb0)) hI⟩
      have put : ∀ x : Int, xa = some x → dAnd (dB (d2 oIsNot (d2 oIx (dVar 1) (dVar 3)) (dC .none))) (dOr (dB (d2 oIs (d2 oIx (dVar 2) (dVar 4)) (dC .none))) (dB (d2 oLt (d2 oAdd (d2 oIx (dVar 1) (dVar 3)) (dVar 5)) (d2 oIx (dVar 2) (dVar 4))))) [.vl PS, .vl (.list (a.map oD)), .vl (.list (b.map oD)), .vl (.int (i : Int)), .vl (.int (j : Int)), .vl (.int w)] = M.ret true → (∀ v, b[j]? = some (some v) → x + w ≤ v) → ∃ b' y3 y4 y5, Bl ps a b' ∧ forD (bodyD (tgTup 3 (tgCons (tgN 3) (tgCons (tgN 4) (tgCons (tgN 5) tgNil)))) (gIf (dLendT 2 (dAnd (dB (d2 oIsNot (d2 oIx (dVar 1) (dVar 3)) (dC .none))) (dOr (dB (d2 oIs (d2 oIx (dVar 2) (dVar 4)) (dC .none))) (dB (d2 oLt (d2 oAdd (d2 oIx (dVar 1) (dVar 3)) (dVar 5)) (d2 oIx (dVar 2) (dVar 4))))))) (gSetO 2 (dVar 4) (d2 oAdd (d2 oIx (dVar 1) (dVar 3)) (dVar 5))) gNext)) (((i, j, w) :: q).map pcD) [.vl PS, .vl (.list (a.map oD)), .ow (b.map oD), x3, x4, x5] = M.ret (.nx [.vl PS, .vl (.list (a.map oD)), .ow (b'.map oD), y3, y4, y5]) := fun x hx hc hv => by
        subst hx
        obtain ⟨b', y3, y4, y5, B3, hI⟩ := ih _ (b.set j (some (x + w))) (.vl (.int (i : Int))) (.vl (.int (j : Int))) (.vl (.int w)) e2 (B.put ha hjb hv)
        refine ⟨b', y3, y4, y5, B3, forD_cons (ev_body tg (ev_ifS (ev_lendT (δ := [.vl PS, .vl (.list (a.map oD)), .ow (b.map oD), .vl (.int (i : Int)), .vl (.int (j : Int)), .vl (.int w)]) hc) (ite_T rfl (ev_setO (ds := b.map oD) (d := .int (x + w)) (k := (j : Int)) (j := j) rfl (ev_2 (g1 _) (ev_var rfl) o_add) (ev_var rfl) (ixN_nat (by rw [List.length_map]; exact hjb)))))) ?_⟩
        have es : (b.map oD).set j (.int (x + w)) = (b.set j (some (x + w))).map oD := by rw [List.map_set]; rfl
        rw [es]
        exact hI
      cases xa with
      | none => exact pass false rfl (ev_and_f g3) (B.skip ha)
      | some x =>
        cases xb with
        | none => exact put x rfl (ev_and_t g3 (ev_or_t g4)) fun v hv => (by rw [hxb] at hv; cases hv)
        | some v =>
          have g5 := ev_b (ev_2 (h := oLt) (ev_2 (h := oAdd) (d := .int (x + w)) (g1 (.vl (.list (b.map oD)))) (ev_var (n := 5) rfl) o_add) g2 o_lt)
          by_cases hlt : x + w < v
          · rw [decide_eq_true hlt] at g5
            exact put x rfl (ev_and_t g3 (ev_or_f g4 g5)) fun v' hv => (by rw [hxb] at hv; cases hv; omega)
          · rw [decide_eq_false hlt] at g5
            exact pass false rfl (ev_and_t g3 (ev_or_f g4 g5)) (B.keep ha hxb (by omega))
  obtain ⟨b', y3, y4, y5, B, hm⟩ := main ps [] (List.replicate a.length none) .un .un .un rfl (Bl.nil a)
  refine ⟨b', B, ev_run ?_⟩
  unfold g_list_below
  have hln : oLen [.list (a.map oD)] = some (.int ((a.length : Nat) : Int)) := by rw [o_lenL, List.length_map]
  have hrep := ev_nRep (δ := [.vl PS, .vl (.list (a.map oD)), .un, .un, .un, .un]) (d := .none) (fn := nLst (dCons (dC .none) dNil)) (g := dCB oLen (dCons (dVar 1) dNil)) (ev_nLst (ev_cons ev_c ev_nil) rfl) (ev_cb (ev_cons (ev_var rfl) ev_nil) hln) (by omega) (by omega)
  rw [Int.toNat_natCast] at hrep
  rw [← hPS]
  refine ev_seqN' (ev_newL hrep) ?_
  have er : List.replicate a.length (PyData.none) = (List.replicate a.length (none : Option Int)).map oD := by rw [List.map_replicate]; rfl
  rw [er]
  refine ev_seqN' (ev_forG (ds := ps.map pcD) (ev_any (x := PS) (ev_var rfl) (by rw [hPS]; rfl)) hm) ?_
  exact ev_retF rfl (flat_oD b')
end CT
namespace K48
open PySem PySem.Spec L2 DL CT SL
noncomputable def g__law_cell_at : DS → M Out := (gSeq (gIf (dB (d2 oLt (dVar 1) (dCB oLen (dCons (dVar 0) dNil)))) (gRet (d2 oIx (dVar 0) (dVar 1))) gNext)
    (gRet (dC (.int 0))))
noncomputable def F__law_cell_at : List D → M D := run 2 g__law_cell_at
noncomputable def g__law_mixed : DS → M Out := (gRet (d2 oMod (d2 oMul (d2 oMod (dVar 0) (dC (.int 2147483647))) (dVar 1)) (dC (.int 2147483647))))
noncomputable def F__law_mixed : List D → M D := run 2 g__law_mixed
noncomputable def g__law_word : DS → M Out := (gSeq (gAsg (dC (.str "!\"#$&'()*+,-./0123456789:;<=>?@ABCDEFGHIJKLMNOPQRSTUVWXYZ")) (tgN 2))
    (gSeq (gAsg (d2 oAdd (dVar 2) (dC (.str "[\\]^_`abcdefghijklmnopqrstuvwxyz{|}~"))) (tgN 2))
    (gSeq (gAsg (dC (.str "")) (tgN 3))
    (gSeq (gForI (dRng rng1 (dCons (dVar 1) dNil)) (tgN 4) (gSeq (gAsg (d2 oMod (d2 oAdd (d2 oMul (dVar 0) (dC (.int 48271))) (dC (.int 11))) (dC (.int 2147483647))) (tgN 0))
    (gAsg (d2 oAdd (dVar 3) (d2 oIx (dVar 2) (d2 oMod (dVar 0) (dC (.int 93))))) (tgN 3))))
    (gRet (dVar 3))))))
noncomputable def F__law_word : List D → M D := run 5 g__law_word
noncomputable def g__law_parts : DS → M Out := (gSeq (gNewL 1 (nLst dNil))
    (gSeq (gAsg (dC (.int 0)) (tgN 2))
    (gSeq (gForI (dAny (dVar 0)) (tgN 3) (gSeq (gAsg (dCall (fun ds => noX (F__law_mixed ds)) (dCons (dVar 3) (dCons (dC (.int 48271)) dNil))) (tgN 4))
    (gSeq (gAsg (d2 oAdd (dC (.int 1)) (d2 oMod (dVar 4) (dC (.int 5)))) (tgN 5))
    (gSeq (gIf (dAnd (dB (d2 oEq (d2 oMod (d2 oDiv (dVar 4) (dC (.int 5))) (dC (.int 8))) (dC (.int 0)))) (dB (d2 oLt (dVar 2) (dC (.int 150))))) (gAsg (d2 oAdd (dC (.int 1)) (d2 oMod (d2 oDiv (dVar 4) (dC (.int 40))) (dC (.int 30)))) (tgN 5)) gNext)
    (gSeq (gAsg (dCall (fun ds => noX (F__law_word ds)) (dCons (dCall (fun ds => noX (F__law_mixed ds)) (dCons (dVar 3) (dCons (dC (.int 69621)) dNil))) (dCons (dVar 5) dNil))) (tgN 6))
    (gSeq (gIf (dB (d2 oEq (d2 oMod (d2 oDiv (dVar 4) (dC (.int 7))) (dC (.int 3))) (dC (.int 0)))) (gAsg (d2 oAdd (dCutS (dVar 6) dNoPart (dPart (d1 oNeg (dC (.int 1))))) (d2 oIx (dC (.str ".!?,;:")) (d2 oMod (d2 oDiv (dVar 4) (dC (.int 21))) (dC (.int 6))))) (tgN 6)) gNext)
    (gSeq (gAsg (d2 oAdd (dVar 2) (dVar 5)) (tgN 2))
    (gApp 1 (dVar 6)))))))))
    (gRetO 1))))
noncomputable def F__law_parts : List D → M D := run 7 g__law_parts
noncomputable def g__law_cost : DS → M Out := (gSeq (gAsg (dCB oLen (dCons (dMeth sJoin (dC (.str " ")) (dCons (dCutS (dVar 0) (dPart (dVar 2)) (dPart (dVar 3))) dNil)) dNil)) (tgN 4))
    (gSeq (gIf (dB (d2 oGt (dVar 4) (dVar 1))) (gRet (dC .none)) gNext)
    (gSeq (gAsg (d2 oPow (d2 oSub (dVar 1) (dVar 4)) (dC (.int 2))) (tgN 5))
    (gSeq (gAsg (d2 oIx (d2 oIx (dVar 0) (d2 oSub (dVar 3) (dC (.int 1)))) (d1 oNeg (dC (.int 1)))) (tgN 6))
    (gSeq (gIf (dOr (dB (d2 oEq (dVar 3) (dCB oLen (dCons (dVar 0) dNil)))) (dB (d2 oInS (dVar 6) (dC (.str ".!?"))))) (gRet (dVar 5)) gNext)
    (gRet (d2 oAdd (dVar 5) (d2 oIx (dLst (dCons (dC (.int 200)) (dCons (dC (.int 50)) dNil))) (dCB oIntS (dCons (d2 oInS (dVar 6) (dC (.str ",;:"))) dNil))))))))))
noncomputable def F__law_cost : List D → M D := run 7 g__law_cost
noncomputable def b__law_next_0 : DS → M Out := (gSeq (gAsg (dCall (fun ds => noX (F__law_cost ds)) (dCons (dVar 0) (dCons (dVar 1) (dCons (dVar 6) (dCons (dVar 4) dNil))))) (tgN 7))
    (gIf (dAnd (dB (d2 oIsNot (d2 oIx (dVar 2) (dVar 6)) (dC .none))) (dAnd (dB (d2 oIsNot (dVar 7) (dC .none))) (dOr (dB (d2 oIs (dVar 5) (dC .none))) (dB (d2 oLt (d2 oAdd (d2 oIx (dVar 2) (dVar 6)) (dVar 7)) (dVar 5)))))) (gAsg (d2 oAdd (d2 oIx (dVar 2) (dVar 6)) (dVar 7)) (tgN 5)) gNext))
noncomputable def b__law_next_1 : DS → M Out := (gSeq (gAsg (dC .none) (tgN 5))
    (gSeq (gForI (dRng rng2 (dCons (dCB oMax (dCons (dC (.int 0)) (dCons (d2 oSub (dVar 4) (dVar 1)) dNil))) (dCons (dVar 4) dNil))) (tgN 6) b__law_next_0)
    (gApp 3 (dVar 5))))
noncomputable def g__law_next : DS → M Out := (gSeqN (gNewL 3 (nLst (dCons (dC .none) dNil)))
    (gSeqN (gForI (dRng rng2 (dCons (dC (.int 1)) (dCons (d2 oAdd (dCB oLen (dCons (dVar 0) dNil)) (dC (.int 1))) dNil))) (tgN 4) b__law_next_1)
    (gRetF 3)))
noncomputable def F__law_next : List D → M D := run 8 g__law_next
noncomputable def g__law_whole : DS → M Out := (gRet (dOrV (d2 oIs (dVar 0) (dC .none)) (dAndV (dIs "int" (dVar 0)) (dNotV (dIs "bool" (dVar 0))))))
noncomputable def F__law_whole : List D → M D := run 1 g__law_whole
noncomputable def b_law_0 : SL.SG := (sDrop (sApp (sVar 5) (sNewF (dCall (fun ds => noX (F__law_next ds)) (dCons (dVar 1) (dCons (dVar 3) (dCons (d2 oIx (dVar 5) (dVar 6)) dNil)))))))
noncomputable def b_law_1 : SL.SG := (sIf (sTest (dOr (dNot (dB (dIs "list" (dVar 8)))) (dNot (dB (dCB oAll (dCons (dCompG 1 [] (tgN 0) (dAny (dVar 8)) dYes (dCall (fun ds => noX (F__law_whole ds)) (dCons (dVar 0) dNil))) dNil)))))) (sRet (sPure (dC (.bool false)))) sNext)
noncomputable def g_law : SL.SG := (sSeq (sAsg 1 (sPure (dCall (fun ds => noX (F__law_parts ds)) (dCons (d2 oAdd (dLst (dCons (dCall (fun ds => noX (F__law_cell_at ds)) (dCons (dVar 0) (dCons (dC (.int 3)) dNil))) dNil)) (dCutS (dVar 0) (dPart (dC (.int 4))) (dPart (dC (.int 24))))) dNil))))
    (sSeq (sAsg 2 (sPure (dCB oMaxM (dCons (dCompG 1 [] (tgN 0) (dAny (dVar 1)) dYes (dCB oLen (dCons (dVar 0) dNil))) dNil))))
    (sSeq (sAsg 3 (sPure (d2 oAdd (dC (.int 1)) (d2 oMod (dCall (fun ds => noX (F__law_cell_at ds)) (dCons (dVar 0) (dCons (dC (.int 0)) dNil))) (dC (.int 100))))))
    (sSeq (sIf (sTest (dB (d2 oGt (d2 oMod (dCall (fun ds => noX (F__law_cell_at ds)) (dCons (dVar 0) (dCons (dC (.int 1)) dNil))) (dC (.int 3))) (dC (.int 0))))) (sAsg 3 (sPure (d2 oAdd (dVar 2) (d2 oMod (dCall (fun ds => noX (F__law_cell_at ds)) (dCons (dVar 0) (dCons (dC (.int 0)) dNil))) (dC (.int 21)))))) sNext)
    (sSeq (sAsg 4 (sPure (d2 oAdd (dC (.int 1)) (d2 oMod (dCall (fun ds => noX (F__law_cell_at ds)) (dCons (dVar 0) (dCons (dC (.int 2)) dNil))) (dC (.int 5))))))
    (sSeq (sAsg 5 (sLst (sCons (sNew (nCat (dLst (dCons (dC (.int 0)) dNil)) (dOfN (nRep (nLst (dCons (dC .none) dNil)) (dCB oLen (dCons (dVar 1) dNil)))))) sNil)))
    (sSeq (sFor (dRng rng1 (dCons (dVar 4) dNil)) (agN 6) b_law_0)
    (sSeq (sAsg 7 (sCall FS_parting_table (sCons (sPure (dMeth sJoin (dC (.str " ")) (dCons (dVar 1) dNil))) (sCons (sVar 3) (sCons (sVar 4) sNil)))))
    (sSeq (sIf (sTest (dOr (dNot (dB (dIs "list" (dVar 7)))) (dB (d2 oNe (dVar 7) (dVar 5))))) (sRet (sPure (dC (.bool false)))) sNext)
    (sSeq (sForT 8 (sVar 7) b_law_1)
    (sSeq (sSetX (sIx (sVar 7) (sPure (dC (.int 0)))) (sPure (dC (.int 0))) (sPure (dC (.int 7))))
    (sSeq (sDrop (sApp (sIx (sVar 7) (sVar 4)) (sPure (dC .none))))
    (sRet (sCmp oEq (sCall FS_parting_table (sCons (sPure (dMeth sJoin (dC (.str " ")) (dCons (dVar 1) dNil))) (sCons (sVar 3) (sCons (sVar 4) sNil)))) (sVar 5)))))))))))))))
noncomputable def FS_law : List SL.Val → SL.Sto → SL.R (SL.Val × SL.Sto) := SL.runS 9 g_law
noncomputable def F_law : List D → M D := SL.asD FS_law
end K48
open PySem PySem.Spec L2 DL CT
namespace K48
theorem cell_at_ev (ns : List Int) (k : Int) (k0 : 0 ≤ k) : ∃ c, F__law_cell_at [.list (ns.map PyData.int), .int k] = M.ret (.int c) := by
  by_cases h : k.toNat < ns.length
  · refine ⟨ns[k.toNat], ev_run ?_⟩
    unfold g__law_cell_at
    refine ev_seqIf (b := true) ?_ (ite_T rfl (ev_seqR (ev_ret ?_)))
    · walk_at "ev"
      first | rw [o_lt, List.length_map, decide_eq_true (by omega)] | rw [o_ltD, List.length_map, decide_eq_true (by omega)]
    · refine ev_2 (ev_var rfl) (ev_var rfl) (ix_nat k0 ?_)
      rw [List.getElem?_map, List.getElem?_eq_getElem h]
      rfl
  · refine ⟨0, ev_run ?_⟩
    unfold g__law_cell_at
    refine ev_seqIf (b := false) ?_ (ite_F rfl (ev_seqN ?_))
    · walk_at "ev"
      first | rw [o_lt, List.length_map, decide_eq_false (by omega)] | rw [o_ltD, List.length_map, decide_eq_false (by omega)]
    · walk_at "ev"
/-- an item of a written list -/
theorem item {ds : List D} {P : Int → Prop} {i : Int} (h0 : 0 ≤ i) (h1 : i < ds.length) (hP : ∀ d ∈ ds, ∃ n, d = .int n ∧ P n) : ∃ n, oIx (.list ds) (.int i) = some (.int n) ∧ P n := by
  obtain ⟨d, hd, e⟩ := ix_in h0 h1
  obtain ⟨n, rfl, p⟩ := hP d hd
  exact ⟨n, e, p⟩
theorem cut_len {α : Type} (xs : List α) (lo hi : Option Int) : (cutD xs lo hi).length ≤ xs.length := by
  unfold cutD
  rw [List.length_take, List.length_drop]
  omega
/-- [c] + script[lo:hi] -/
theorem cellsC (ns : List Int) (hl : ns.length ≤ 63) (c : Int) (lo hi : Option Int) : oAdd (.list [.int c]) (.list (cutD (ns.map PyData.int) lo hi)) = some (.list (PyData.int c :: cutD (ns.map PyData.int) lo hi)) := by
  refine o_addL (small_of ?_)
  have := cut_len (ns.map PyData.int) lo hi
  rw [List.length_map] at this
  show 1 + _ ≤ _
  omega
/-- [0] + script[lo:hi] -/
theorem cells (ns : List Int) (hl : ns.length ≤ 63) (lo hi : Option Int) : oAdd (.list [.int 0]) (.list (cutD (ns.map PyData.int) lo hi)) = some (.list (PyData.int 0 :: cutD (ns.map PyData.int) lo hi)) := by
  refine o_addL (small_of ?_)
  have := cut_len (ns.map PyData.int) lo hi
  rw [List.length_map] at this
  show 1 + _ ≤ _
  omega
end K48
open PySem PySem.Spec L2 DL CT TX NumText
namespace CT
/-- words of up to thirty-one signs -/
structure W31 (w : List Nat) : Prop where
  ne : w ≠ []
  free : ∀ c ∈ w, 33 ≤ c ∧ c < 128
  len : w.length ≤ 31
theorem W31.wd {w : List Nat} (h : W31 w) : Wd w := ⟨h.ne, h.free, by have := h.len; omega⟩
theorem tot31 : ∀ {ws : List (List Nat)}, (∀ w ∈ ws, W31 w) → tot ws ≤ 32 * ws.length
  | [], _ => Nat.zero_le _
  | w :: ws, h => by
    have := tot31 (ws := ws) fun v hv => h v (List.mem_cons_of_mem _ hv)
    have := (h w List.mem_cons_self).len
    rw [tot, List.length_cons]
    omega
end CT
namespace K48
theorem mixed_ev (c b : Int) (b0 : 0 ≤ b) (b1 : b < 100000000) : ∃ m, (0 ≤ m ∧ m < 2147483647) ∧ F__law_mixed [.int c, .int b] = M.ret (.int m) := by
  refine ⟨c % 2147483647 * b % 2147483647, by omega, ev_run ?_⟩
  unfold g__law_mixed
  walk_at "ev"
theorem cut_sub {l : List Nat} (hl : l.length ≤ 1000) (lo hi : Option Int) : ∃ t, oCutS lo hi (.str (S l)) = some (.str (S t)) ∧ (∀ c ∈ t, c ∈ l) ∧ t.length ≤ l.length := by
  refine ⟨_, o_cut hl lo hi, fun x hx => List.mem_of_mem_drop (List.mem_of_mem_take hx), ?_⟩
  rw [List.length_take, List.length_drop]
  omega
theorem sign_of {l : List Nat} {i : Int} (hl : l.length ≤ 1000) (h0 : 0 ≤ i) (h1 : i < l.length) : ∃ c, c ∈ l ∧ oIx (.str (S l)) (.int i) = some (.str (S [c])) := by
  have hi : i.toNat < l.length := by omega
  exact ⟨l[i.toNat], List.getElem_mem hi, ix_sign hl h0 (List.getElem?_eq_getElem hi)⟩
def m1 : List Nat := ("!\"#$&'()*+,-./0123456789:;<=>?@ABCDEFGHIJKLMNOPQRSTUVWXYZ" : Str).cps.toList
def m2 : List Nat := ("[\\]^_`abcdefghijklmnopqrstuvwxyz{|}~" : Str).cps.toList
theorem m1_is : ("!\"#$&'()*+,-./0123456789:;<=>?@ABCDEFGHIJKLMNOPQRSTUVWXYZ" : Str) = S m1 := (S_L _).symm
theorem m2_is : ("[\\]^_`abcdefghijklmnopqrstuvwxyz{|}~" : Str) = S m2 := (S_L _).symm
theorem m_len : (m1 ++ m2).length = 93 := by decide +kernel
theorem m_free : ∀ c ∈ m1 ++ m2, 33 ≤ c ∧ c < 128 := by decide +kernel
theorem m1_len : m1.length ≤ 100 := by decide +kernel
theorem m2_len : m2.length ≤ 100 := by decide +kernel
theorem word_ev (m : Int) (n : Nat) (m0 : 0 ≤ m) (h1 : 1 ≤ n) (h2 : n ≤ 30) : ∃ w, w.length = n ∧ (∀ c ∈ w, 33 ≤ c ∧ c < 128) ∧ F__law_word [.int m, .int (n : Int)] = M.ret (tx w) := by
  have hr : rng1 [.int (n : Int)] = some (rngD 0 n) := by
    show (if b62 (n : Int) = true then some (rngD 0 (n : Int).toNat) else none) = _
    rw [if_pos (by unfold b62; simp; omega), Int.toNat_natCast]
  have hlen : (rngD 0 n).length = n := by unfold rngD; rw [List.length_map, List.length_range]
  have hadd : oAdd (.str (S m1)) (.str (S m2)) = some (.str (S (m1 ++ m2))) := add_txt (by have := m1_len; have := m2_len; omega)
  have main : ∃ w, (w.length = n ∧ ∀ c ∈ w, 33 ≤ c ∧ c < 128) ∧ g__law_word (startD 5 [.int m, .int (n : Int)]) = M.ret (.rt (tx w)) := by
    unfold g__law_word
    have hbody := fun (p : List D) (d : D) (q : List D) (δ : DS) (e : rngD 0 n = p ++ d :: q) (hδ : ∃ (w : List Nat) (k : Int) (x4 : Sl), w.length = p.length ∧ (∀ c ∈ w, 33 ≤ c ∧ c < 128) ∧ 0 ≤ k ∧ δ = [.vl (.int k), .vl (.int (n : Int)), .vl (tx (m1 ++ m2)), .vl (tx w), x4]) => (show ∃ δ', bodyD (tgN 4) (gSeq (gAsg (d2 oMod (d2 oAdd (d2 oMul (dVar 0) (dC (.int 48271))) (dC (.int 11))) (dC (.int 2147483647))) (tgN 0))
    (gAsg (d2 oAdd (dVar 3) (d2 oIx (dVar 2) (d2 oMod (dVar 0) (dC (.int 93))))) (tgN 3))) d δ = M.ret (.nx δ') ∧ ∃ (w : List Nat) (k : Int) (x4 : Sl), w.length = (p ++ [d]).length ∧ (∀ c ∈ w, 33 ≤ c ∧ c < 128) ∧ 0 ≤ k ∧ δ' = [.vl (.int k), .vl (.int (n : Int)), .vl (tx (m1 ++ m2)), .vl (tx w), x4] from by
      obtain ⟨w, k, x4, q1, q2, q3, rfl⟩ := hδ
      have hp : p.length < n := by
        have := congrArg List.length e
        rw [hlen, List.length_append, List.length_cons] at this
        omega
      obtain ⟨K, hK⟩ : ∃ K, K = (k * 48271 + 11) % 2147483647 := ⟨_, rfl⟩
      obtain ⟨c, hc, hx⟩ := sign_of (l := m1 ++ m2) (i := K % 93) (by rw [m_len]; decide) (by omega) (by rw [m_len]; omega)
      have ha := add_txt (a := w) (b := [c]) (by show _ + 1 ≤ _; omega)
      refine ⟨[.vl (.int K), .vl (.int (n : Int)), .vl (tx (m1 ++ m2)), .vl (tx (w ++ [c])), .vl d], ?_, w ++ [c], K, _, by rw [List.length_append, List.length_append, q1]; rfl, fun x hx' => ?_, by omega, rfl⟩
      · refine ev_body (δ' := [.vl (.int k), .vl (.int (n : Int)), .vl (tx (m1 ++ m2)), .vl (tx w), .vl d]) rfl ?_
        refine ev_seq (ev_asg (d := .int K) (by rw [hK]; walk_at "ev")) ?_
        exact ev_asg (d := tx (w ++ [c])) (ev_2 (x := tx w) (y := .str (S [c])) (ev_var rfl) (ev_2 (x := tx (m1 ++ m2)) (y := .int (K % 93)) (ev_var rfl) (by walk_at "ev") hx) ha)
      · rcases List.mem_append.mp hx' with h | h
        · exact q2 x h
        · rw [List.mem_singleton] at h; rw [h]; exact m_free c hc)
    obtain ⟨δ', h3, w, k, x4, q1, q2, q3, rfl⟩ := forD_pre _ (rngD 0 n) [] [.vl (.int m), .vl (.int (n : Int)), .vl (tx (m1 ++ m2)), .vl (tx []), .un] ⟨[], m, _, rfl, (fun c hc => nomatch hc), m0, rfl⟩ hbody
    refine ⟨w, ⟨by rw [q1]; exact hlen, q2⟩, ?_⟩
    refine ev_seq (ev_asg (d := .str (S m1)) (by rw [← m1_is]; exact ev_c)) ?_
    refine ev_seq (ev_asg (d := .str (S (m1 ++ m2))) (ev_2 (ev_var rfl) (by rw [m2_is]; exact ev_c) hadd)) ?_
    refine ev_seq (ev_asg (d := .str (S [])) ev_c) ?_
    exact ev_seq (ev_forG (ev_rngS (ev_cons (ev_var rfl) ev_nil) hr) h3) (ev_ret (ev_var rfl))
  obtain ⟨w, ⟨h1, h2⟩, h3⟩ := main
  exact ⟨w, h1, h2, ev_run h3⟩
def mkS : List Nat := [46, 33, 63, 44, 59, 58]
theorem parts_ev (cs : List Int) (hc : cs.length ≤ 64) : ∃ ws : List (List Nat), ws.length = cs.length ∧ (∀ w ∈ ws, W31 w) ∧ F__law_parts [.list (cs.map PyData.int)] = M.ret (.list (ws.map tx)) := by
  have main : ∃ ws : List (List Nat), (ws.length = cs.length ∧ ∀ w ∈ ws, W31 w) ∧ g__law_parts (startD 7 [.list (cs.map PyData.int)]) = M.ret (.rt (.list (ws.map tx))) := by
    unfold g__law_parts
    have hbody := fun (p : List D) (d : D) (q : List D) (δ : DS) (e : cs.map PyData.int = p ++ d :: q) (hδ : ∃ (ws : List (List Nat)) (tt : Int) (x3 x4 x5 x6 : Sl), ws.length = p.length ∧ (∀ w ∈ ws, W31 w) ∧ δ = [.vl (.list (cs.map PyData.int)), .ow (ws.map tx), .vl (.int tt), x3, x4, x5, x6]) => (show ∃ δ', bodyD (tgN 3) (gSeq (gAsg (dCall (fun ds => noX (F__law_mixed ds)) (dCons (dVar 3) (dCons (dC (.int 48271)) dNil))) (tgN 4))
    (gSeq (gAsg (d2 oAdd (dC (.int 1)) (d2 oMod (dVar 4) (dC (.int 5)))) (tgN 5))
    (gSeq (gIf (dAnd (dB (d2 oEq (d2 oMod (d2 oDiv (dVar 4) (dC (.int 5))) (dC (.int 8))) (dC (.int 0)))) (dB (d2 oLt (dVar 2) (dC (.int 150))))) (gAsg (d2 oAdd (dC (.int 1)) (d2 oMod (d2 oDiv (dVar 4) (dC (.int 40))) (dC (.int 30)))) (tgN 5)) gNext)
    (gSeq (gAsg (dCall (fun ds => noX (F__law_word ds)) (dCons (dCall (fun ds => noX (F__law_mixed ds)) (dCons (dVar 3) (dCons (dC (.int 69621)) dNil))) (dCons (dVar 5) dNil))) (tgN 6))
    (gSeq (gIf (dB (d2 oEq (d2 oMod (d2 oDiv (dVar 4) (dC (.int 7))) (dC (.int 3))) (dC (.int 0)))) (gAsg (d2 oAdd (dCutS (dVar 6) dNoPart (dPart (d1 oNeg (dC (.int 1))))) (d2 oIx (dC (.str ".!?,;:")) (d2 oMod (d2 oDiv (dVar 4) (dC (.int 21))) (dC (.int 6))))) (tgN 6)) gNext)
    (gSeq (gAsg (d2 oAdd (dVar 2) (dVar 5)) (tgN 2))
    (gApp 1 (dVar 6)))))))) d δ = M.ret (.nx δ') ∧ ∃ (ws : List (List Nat)) (tt : Int) (x3 x4 x5 x6 : Sl), ws.length = (p ++ [d]).length ∧ (∀ w ∈ ws, W31 w) ∧ δ' = [.vl (.list (cs.map PyData.int)), .ow (ws.map tx), .vl (.int tt), x3, x4, x5, x6] from by
      obtain ⟨ws, tt, x3, x4, x5, x6, q1, q2, rfl⟩ := hδ
      have hd : d ∈ cs.map PyData.int := by rw [e]; exact List.mem_append_right _ List.mem_cons_self
      obtain ⟨c, _, rfl⟩ := List.mem_map.mp hd
      have hp : p.length < 64 := by
        have := congrArg List.length e
        rw [List.length_map, List.length_append, List.length_cons] at this
        omega
      obtain ⟨m, m0, hm⟩ := mixed_ev c 48271 (by decide) (by decide)
      obtain ⟨m', m0', hm'⟩ := mixed_ev c 69621 (by decide) (by decide)
      -- how long the word is
      obtain ⟨n, n1, n2, hsz⟩ : ∃ n : Nat, 1 ≤ n ∧ n ≤ 30 ∧ gIf (dAnd (dB (d2 oEq (d2 oMod (d2 oDiv (dVar 4) (dC (.int 5))) (dC (.int 8))) (dC (.int 0)))) (dB (d2 oLt (dVar 2) (dC (.int 150))))) (gAsg (d2 oAdd (dC (.int 1)) (d2 oMod (d2 oDiv (dVar 4) (dC (.int 40))) (dC (.int 30)))) (tgN 5)) gNext [.vl (.list (cs.map PyData.int)), .ow (ws.map tx), .vl (.int tt), .vl (.int c), .vl (.int m), .vl (.int (1 + m % 5)), x6] = M.ret (.nx [.vl (.list (cs.map PyData.int)), .ow (ws.map tx), .vl (.int tt), .vl (.int c), .vl (.int m), .vl (.int (n : Int)), x6]) := by
        have b1 : dB (d2 oEq (d2 oMod (d2 oDiv (dVar 4) (dC (.int 5))) (dC (.int 8))) (dC (.int 0))) [.vl (.list (cs.map PyData.int)), .ow (ws.map tx), .vl (.int tt), .vl (.int c), .vl (.int m), .vl (.int (1 + m % 5)), x6] = M.ret (decide (m / 5 % 8 = 0)) := by walk_at "ev"
        have b2 : dB (d2 oLt (dVar 2) (dC (.int 150))) [.vl (.list (cs.map PyData.int)), .ow (ws.map tx), .vl (.int tt), .vl (.int c), .vl (.int m), .vl (.int (1 + m % 5)), x6] = M.ret (decide (tt < 150)) := by walk_at "ev"
        have b3 := ev_and b1 b2
        cases hb : decide (m / 5 % 8 = 0) && decide (tt < 150) with
        | true =>
          rw [hb] at b3
          refine ⟨(1 + m / 40 % 30).toNat, by omega, by omega, ev_ifS b3 (ite_T rfl ?_)⟩
          rw [show (((1 + m / 40 % 30).toNat : Nat) : Int) = 1 + m / 40 % 30 by omega]
          exact ev_asg (d := .int (1 + m / 40 % 30)) (by walk_at "ev")
        | false =>
          rw [hb] at b3
          refine ⟨(1 + m % 5).toNat, by omega, by omega, ?_⟩
          rw [show (((1 + m % 5).toNat : Nat) : Int) = 1 + m % 5 by omega]
          exact ev_pass1 b3 rfl
      obtain ⟨w, hw1, hw2, hw⟩ := word_ev m' n m0'.1 n1 n2
      have wR : W31 w := ⟨by rintro rfl; simp at hw1; omega, hw2, by omega⟩
      have tl : ∀ v : List Nat, W31 v → ∃ δ', gSeq (gAsg (d2 oAdd (dVar 2) (dVar 5)) (tgN 2)) (gApp 1 (dVar 6)) [.vl (.list (cs.map PyData.int)), .ow (ws.map tx), .vl (.int tt), .vl (.int c), .vl (.int m), .vl (.int (n : Int)), .vl (tx v)] = M.ret (.nx δ') ∧ ∃ (ws' : List (List Nat)) (tt : Int) (x3 x4 x5 x6 : Sl), ws'.length = (p ++ [PyData.int c]).length ∧ (∀ w ∈ ws', W31 w) ∧ δ' = [.vl (.list (cs.map PyData.int)), .ow (ws'.map tx), .vl (.int tt), x3, x4, x5, x6] := fun v hv => by
        refine ⟨[.vl (.list (cs.map PyData.int)), .ow (ws.map tx ++ [tx v]), .vl (.int (tt + (n : Int))), .vl (.int c), .vl (.int m), .vl (.int (n : Int)), .vl (tx v)], ev_seq (ev_asg (d := .int (tt + (n : Int))) (by walk_at "ev")) (ev_app (d := tx v) rfl (ev_var rfl) (small_of (by rw [List.length_map]; omega))), ws ++ [v], _, _, _, _, _, by rw [List.length_append, List.length_append, q1]; rfl, fun u hu => ?_, by rw [List.map_append]; rfl⟩
        rcases List.mem_append.mp hu with hu | hu
        · exact q2 u hu
        · rw [List.mem_singleton] at hu; rw [hu]; exact hv
      have st : ∀ gt : DS → M Out, ∀ r, gt [.vl (.list (cs.map PyData.int)), .ow (ws.map tx), .vl (.int tt), .vl (.int c), .vl (.int m), .vl (.int (n : Int)), .vl (tx w)] = r → bodyD (tgN 3) (gSeq (gAsg (dCall (fun ds => noX (F__law_mixed ds)) (dCons (dVar 3) (dCons (dC (.int 48271)) dNil))) (tgN 4)) (gSeq (gAsg (d2 oAdd (dC (.int 1)) (d2 oMod (dVar 4) (dC (.int 5)))) (tgN 5)) (gSeq (gIf (dAnd (dB (d2 oEq (d2 oMod (d2 oDiv (dVar 4) (dC (.int 5))) (dC (.int 8))) (dC (.int 0)))) (dB (d2 oLt (dVar 2) (dC (.int 150))))) (gAsg (d2 oAdd (dC (.int 1)) (d2 oMod (d2 oDiv (dVar 4) (dC (.int 40))) (dC (.int 30)))) (tgN 5)) gNext) (gSeq (gAsg (dCall (fun ds => noX (F__law_word ds)) (dCons (dCall (fun ds => noX (F__law_mixed ds)) (dCons (dVar 3) (dCons (dC (.int 69621)) dNil))) (dCons (dVar 5) dNil))) (tgN 6)) gt)))) (.int c) [.vl (.list (cs.map PyData.int)), .ow (ws.map tx), .vl (.int tt), x3, x4, x5, x6] = r := fun gt r h => by
        refine ev_body (δ' := [.vl (.list (cs.map PyData.int)), .ow (ws.map tx), .vl (.int tt), .vl (.int c), x4, x5, x6]) rfl ?_
        refine ev_seq (ev_asg (d := .int m) (by walk_at "ev")) ?_
        refine ev_seq (ev_asg (d := .int (1 + m % 5)) (by walk_at "ev")) ?_
        refine ev_seq hsz ?_
        exact ev_seq (ev_asg (d := tx w) (ev_call (ev_cons (ev_call (ev_cons (ev_var rfl) (ev_cons ev_c ev_nil)) hm') (ev_cons (ev_var rfl) ev_nil)) hw)) h
      have h7 : d2 oMod (d2 oDiv (dVar 4) (dC (.int 7))) (dC (.int 3)) [.vl (.list (cs.map PyData.int)), .ow (ws.map tx), .vl (.int tt), .vl (.int c), .vl (.int m), .vl (.int (n : Int)), .vl (tx w)] = M.ret (.int (m / 7 % 3)) := by walk_at "ev"
      by_cases h3 : m / 7 % 3 = 0
      · obtain ⟨v, hv, hv1, hv2⟩ := cut_sub (l := w) (by omega) none (some (-1))
        obtain ⟨k, hk, hxk⟩ := sign_of (l := mkS) (i := m / 21 % 6) (by decide) (by omega) (by show m / 21 % 6 < 6; omega)
        have hxk : oIx (.str ".!?,;:") (.int (m / 21 % 6)) = some (.str (S [k])) := hxk
        have hb := add_txt (a := v) (b := [k]) (by show _ + 1 ≤ _; omega)
        have hk2 : 33 ≤ k ∧ k < 128 := (by decide : ∀ x ∈ mkS, 33 ≤ x ∧ x < 128) k hk
        obtain ⟨δ', e1, e2⟩ := tl (v ++ [k]) ⟨by simp, fun x hx => by
          rcases List.mem_append.mp hx with hx | hx
          · exact hw2 x (hv1 x hx)
          · rw [List.mem_singleton] at hx; rw [hx]; exact hk2, by rw [List.length_append, List.length_singleton]; omega⟩
        exact ⟨δ', st _ _ (ev_seq (ev_ifS (b := true) (ev_b (ev_2 h7 ev_c (by rw [o_eq, decide_eq_true h3]))) (ite_T rfl (ev_asg (d := tx (v ++ [k])) (ev_2 (x := .str (S v)) (y := .str (S [k])) (ev_cutS (ev_var rfl) ev_nopart (ev_part (ev_1 ev_c rfl)) hv) (ev_2 (y := .int (m / 21 % 6)) ev_c (by walk_at "ev") hxk) hb)))) e1), e2⟩
      · obtain ⟨δ', e1, e2⟩ := tl w wR
        exact ⟨δ', st _ _ (ev_seq (ev_pass1 (b := false) (ev_b (ev_2 h7 ev_c (by rw [o_eq, decide_eq_false h3]))) rfl) e1), e2⟩)
    obtain ⟨δ', h3, ws, tt, x3, x4, x5, x6, q1, q2, rfl⟩ := forD_pre _ (cs.map PyData.int) [] [.vl (.list (cs.map PyData.int)), .ow (([] : List (List Nat)).map tx), .vl (.int 0), .un, .un, .un, .un] ⟨[], 0, _, _, _, _, rfl, (fun w hw => nomatch hw), rfl⟩ hbody
    refine ⟨ws, ⟨by rw [q1, List.nil_append, List.length_map], q2⟩, ?_⟩
    refine ev_seq (ev_newL (ds := []) (ev_nLst ev_nil rfl)) ?_
    refine ev_seq (ev_asg (d := .int 0) ev_c) ?_
    exact ev_seq (ev_forG (ev_any (ev_var rfl) rfl) h3) rfl
  obtain ⟨ws, ⟨h1, h2⟩, h3⟩ := main
  exact ⟨ws, h1, h2, ev_run h3⟩
end K48
open PySem PySem.Spec L2 DL CT TX NumText
namespace CT
theorem cut_seg {xs : List D} {i e : Nat} (hi : i ≤ e) (he : e ≤ xs.length) : cutD xs (some (i : Int)) (some (e : Int)) = (xs.drop i).take (e - i) := by
  unfold cutD
  rw [HT.sIx_nat, HT.sIx_nat, Nat.min_eq_left (show i ≤ xs.length by omega), Nat.min_eq_left he]
theorem o_rowJ {ws : List (List Nat)} {i j : Nat} (hi : i ≤ j) (hj : j ≤ ws.length) (hz : tot ws ≤ 900) : oCutS (some (i : Int)) (some (j : Int)) (.list (ws.map tx)) = some (.list (((ws.drop i).take (j - i)).map tx)) ∧ sJoin (S [32]) [.list (((ws.drop i).take (j - i)).map tx)] = some (tx (row ws i j)) := by
  constructor
  · show some (PyData.list (cutD (ws.map tx) (some (i : Int)) (some (j : Int)))) = _
    rw [cut_seg hi (by rw [List.length_map]; exact hj), ← List.map_drop, ← List.map_take]
  · exact o_join (by have := tot_seg (ws := ws) i (j - i); omega)
theorem tot_two : ∀ {l : List (List Nat)}, (∀ w ∈ l, w ≠ []) → 2 * l.length ≤ tot l
  | [], _ => Nat.zero_le _
  | w :: l, h => by
    have h1 := tot_two (l := l) fun v hv => h v (List.mem_cons_of_mem _ hv)
    have h2 := List.length_pos_iff.mpr (h w List.mem_cons_self)
    rw [tot, List.length_cons]
    omega
theorem row_wide {ws : List (List Nat)} (h : ∀ w ∈ ws, Wd w) {i j : Nat} (hi : i < j) (hj : j ≤ ws.length) : j - i ≤ (row ws i j).length := by
  have h1 := jn_len 32 (seg_ne (ws := ws) hi hj)
  have h2 := tot_two (l := (ws.drop i).take (j - i)) fun w hw => (h w (seg_mem hw)).ne
  rw [List.length_take, List.length_drop] at h2
  unfold row
  omega
theorem row_last {ws : List (List Nat)} (h : ∀ w ∈ ws, Wd w) {i j : Nat} (hi : i ≤ j) (hj : j < ws.length) : ∃ u v c, ws[j] = v ++ [c] ∧ row ws i (j + 1) = u ++ [c] := by
  obtain ⟨v, c, hv⟩ := split_last (h ws[j] (List.getElem_mem hj)).ne
  rcases Nat.lt_or_eq_of_le hi with q | rfl
  · exact ⟨row ws i j ++ 32 :: v, v, c, hv, by rw [row_more q hj, hv]; simp⟩
  · exact ⟨v, v, c, hv, by rw [row_one hj, hv]⟩
end CT
namespace K48
section
variable {ws : List (List Nat)} {W : Int}
theorem cost_ev (h : ∀ w ∈ ws, Wd w) (hz : tot ws ≤ 900) (hW : 0 ≤ W ∧ W ≤ 1000) {i j : Nat} (hi : i ≤ j) (hj : j < ws.length) : F__law_cost [.list (ws.map tx), .int W, .int (i : Int), .int ((j : Int) + 1)] = M.ret (oD (if (((row ws i (j + 1)).length : Nat) : Int) ≤ W then some (pc ws W i (j + 1)) else none)) := by
  obtain ⟨u, v, c, hv, hu⟩ := row_last h hi hj
  have hrl := row_len (ws := ws) (i := i) (j := j + 1) (by omega) hj
  obtain ⟨k1, k2⟩ := o_rowJ (ws := ws) (i := i) (j := j + 1) (by omega) hj hz
  rw [show (((j + 1 : Nat) : Nat) : Int) = (j : Int) + 1 by omega] at k1
  have hln := o_lenX (l := row ws i (j + 1)) (by omega)
  have hjx : oIx (.list (ws.map tx)) (.int ((j : Int) + 1 - 1)) = some (tx (v ++ [c])) := by
    rw [show (j : Int) + 1 - 1 = (j : Int) by omega]
    exact ix_at (by rw [List.getElem?_map, List.getElem?_eq_getElem hj, hv]; rfl)
  have hvl : v.length ≤ 900 := by
    have := (h ws[j] (List.getElem_mem hj)).len
    rw [hv] at this
    simp at this
    omega
  have hlast := last_ix (u := v) (c := c) hvl
  have hbp : rb (row ws i (j + 1)) = bp c := by unfold rb; rw [hu, lst_snoc]
  have hlw : oLen [.list (ws.map tx)] = some (.int ((ws.length : Nat) : Int)) := by rw [o_lenL, List.length_map]
  generalize hL : (((row ws i (j + 1)).length : Nat) : Int) = L at *
  have hL1 : 0 ≤ L ∧ L ≤ 900 := by omega
  have hpw : oPow (.int (W - L)) (.int 2) = some (.int ((W - L) * (W - L))) := by
    show (if bPow (W - L) 2 = true then some (PyData.int ((W - L) ^ (2 : Int).toNat)) else none) = _
    rw [if_pos (by unfold bPow; simp; omega)]
    congr 2
    show (W - L) ^ 2 = _
    rw [Int.pow_succ, Int.pow_succ, Int.pow_zero, Int.one_mul]
  have hrp : rp W (row ws i (j + 1)) = (W - L) * (W - L) := by unfold rp; rw [hL]
  refine ev_run ?_
  unfold g__law_cost
  refine ev_seq (ev_asg (d := .int L) (ev_cb (ev_cons (ev_meth (z := S [32]) ev_c (ev_cons (ev_cutS (ev_var rfl) (ev_part (ev_var rfl)) (ev_part (ev_var rfl)) k1) ev_nil) k2) ev_nil) hln)) ?_
  by_cases hgt : W < L
  · rw [if_neg (by omega)]
    exact ev_seqIf (b := true) (ev_b (ev_2 (ev_var rfl) (ev_var rfl) (by rw [o_gt, decide_eq_true hgt]))) (ite_T rfl (ev_seqR (ev_ret ev_c)))
  rw [if_pos (by omega)]
  refine ev_pass (b := false) (ev_b (ev_2 (ev_var rfl) (ev_var rfl) (by rw [o_gt, decide_eq_false hgt]))) rfl ?_
  refine ev_seq (ev_asg (d := .int ((W - L) * (W - L))) (ev_2 (ev_2 (ev_var rfl) (ev_var rfl) o_sub) ev_c hpw)) ?_
  refine ev_seq (ev_asg (d := tx [c]) (ev_2 (ev_2 (ev_var rfl) (ev_2 (ev_var rfl) ev_c o_sub) hjx) (ev_1 ev_c rfl) hlast)) ?_
  have e1 := ev_b (δ := [.vl (.list (ws.map tx)), .vl (.int W), .vl (.int (i : Int)), .vl (.int ((j : Int) + 1)), .vl (.int L), .vl (.int ((W - L) * (W - L))), .vl (tx [c])]) (ev_2 (f := dVar 3) (g := dCB oLen (dCons (dVar 0) dNil)) (h := oEq) (ev_var rfl) (ev_cb (ev_cons (ev_var rfl) ev_nil) hlw) (o_eq (i := (j : Int) + 1) (j := ((ws.length : Nat) : Int))))
  have e2 := ev_b (δ := [.vl (.list (ws.map tx)), .vl (.int W), .vl (.int (i : Int)), .vl (.int ((j : Int) + 1)), .vl (.int L), .vl (.int ((W - L) * (W - L))), .vl (tx [c])]) (ev_2 (f := dVar 6) (g := dC (.str ".!?")) (h := oInS) (ev_var rfl) ev_c (in_stops c))
  by_cases hend : (j : Int) + 1 = ((ws.length : Nat) : Int)
  · rw [decide_eq_true hend] at e1
    have hpc : pc ws W i (j + 1) = (W - L) * (W - L) := by
      unfold pc
      rw [if_pos (by omega), hrp, Int.add_zero]
    rw [hpc]
    exact ev_seqIf (b := true) (ev_or_t e1) (ite_T rfl (ev_seqR (ev_ret (ev_var rfl))))
  · rw [decide_eq_false hend] at e1
    have hpc : pc ws W i (j + 1) = (W - L) * (W - L) + bp c := by
      unfold pc
      rw [if_neg (by omega), hrp, hbp]
    rw [hpc]
    by_cases hst : c = 46 ∨ c = 33 ∨ c = 63
    · rw [decide_eq_true hst] at e2
      have hb : bp c = 0 := by unfold bp; rw [if_pos hst]
      rw [hb, Int.add_zero]
      exact ev_seqIf (b := true) (ev_or_f e1 e2) (ite_T rfl (ev_seqR (ev_ret (ev_var rfl))))
    · rw [decide_eq_false hst] at e2
      refine ev_pass (b := false) (ev_or_f e1 e2) rfl ?_
      by_cases hmk : c = 44 ∨ c = 59 ∨ c = 58
      · have hb : bp c = 50 := by unfold bp; rw [if_neg hst, if_pos hmk]
        rw [hb]
        exact ev_ret (ev_2 (x := .int ((W - L) * (W - L))) (y := .int 50) (ev_var rfl) (ev_2 (x := .list [.int 200, .int 50]) (y := .int 1) (ev_lst (ev_cons ev_c (ev_cons ev_c ev_nil)) rfl) (ev_cb (ds := [.bool true]) (ev_cons (ev_2 (ev_var rfl) ev_c (by rw [in_marks, decide_eq_true hmk])) ev_nil) rfl) rfl) o_add)
      · have hb : bp c = 200 := by unfold bp; rw [if_neg hst, if_neg hmk]
        rw [hb]
        exact ev_ret (ev_2 (x := .int ((W - L) * (W - L))) (y := .int 200) (ev_var rfl) (ev_2 (x := .list [.int 200, .int 50]) (y := .int 0) (ev_lst (ev_cons ev_c (ev_cons ev_c ev_nil)) rfl) (ev_cb (ds := [.bool false]) (ev_cons (ev_2 (ev_var rfl) ev_c (by rw [in_marks, decide_eq_false hmk])) ev_nil) rfl) rfl) o_add)
/-- the least at j, over the pieces that begin at lo or behind -/
def Lj (ws : List (List Nat)) (W : Int) (a : List (Option Int)) (lo hi j : Nat) (L : Option Int) : Prop :=
  (∀ v, L = some v → ∃ i x, Ft ws W i j ∧ a[i]? = some (some x) ∧ x + pc ws W i j = v) ∧ ∀ i x, lo ≤ i → i < hi → Ft ws W i j → a[i]? = some (some x) → ∃ v, L = some v ∧ v ≤ x + pc ws W i j
theorem rngS (j m : Nat) : rngD (j : Int) (m + 1) = .int (j : Int) :: rngD ((j + 1 : Nat) : Int) m := by
  unfold rngD
  rw [List.range_succ_eq_map, List.map_cons, List.map_map]
  refine congr (congrArg _ (congrArg _ (by push_cast; omega))) (List.map_congr_left fun i _ => ?_)
  show PyData.int _ = PyData.int _
  congr 1
  push_cast
  omega
theorem rng2N {a b : Nat} (h : a ≤ b) (hb : b ≤ 100000) : rng2 [.int (a : Int), .int (b : Int)] = some (rngD (a : Int) (b - a)) := by
  unfold rng2
  dsimp only
  rw [if_pos (by unfold b62; simp; omega)]
  congr 2
  omega
theorem inner_ev (h : ∀ w ∈ ws, Wd w) (hz : tot ws ≤ 900) (hW : 0 ≤ W ∧ W ≤ 1000) {a : List (Option Int)} (ha : a.length = ws.length + 1) {j : Nat} (hj : j < ws.length) (P A : D) (hP : P = .list (ws.map tx)) (hA : A = .list (a.map oD)) (due : List D) (lo : Nat) : ∀ (m i : Nat) (L : Option Int) (x6 x7 : Sl), i + m = j + 1 → lo ≤ i → Lj ws W a lo i (j + 1) L → ∃ L' y6 y7, Lj ws W a lo (j + 1) (j + 1) L' ∧ forD (bodyD (tgN 6) b__law_next_0) (rngD (i : Int) m) [.vl P, .vl (.int W), .vl A, .ow due, .vl (.int ((j : Int) + 1)), .vl (oD L), x6, x7] = M.ret (.nx [.vl P, .vl (.int W), .vl A, .ow due, .vl (.int ((j : Int) + 1)), .vl (oD L'), y6, y7])
  | 0, i, L, x6, x7, e, hlo, hL => by
    have : i = j + 1 := by omega
    subst this
    exact ⟨L, x6, x7, hL, rfl⟩
  | m + 1, i, L, x6, x7, e, hlo, hL => by
    have hij : i ≤ j := by omega
    have hc := cost_ev h hz hW hij hj
    obtain ⟨xa, hxa⟩ : ∃ xa, a[i]? = some xa := ⟨_, List.getElem?_eq_getElem (by omega)⟩
    have ia := ix_oD hxa
    obtain ⟨C, hC⟩ : ∃ C, C = (if (((row ws i (j + 1)).length : Nat) : Int) ≤ W then some (pc ws W i (j + 1)) else none) := ⟨_, rfl⟩
    rw [← hC] at hc
    have hFt : Ft ws W i (j + 1) → C = some (pc ws W i (j + 1)) := fun q => by rw [hC, if_pos q.2.2]
    have hFt2 : ∀ p, C = some p → Ft ws W i (j + 1) ∧ p = pc ws W i (j + 1) := fun p q => by
      rw [hC] at q
      split at q
      · rename_i z
        cases q
        exact ⟨⟨by omega, by omega, z⟩, rfl⟩
      · cases q
    -- what the turn gives
    have turn : ∀ L', Lj ws W a lo (i + 1) (j + 1) L' → (gIf (dAnd (dB (d2 oIsNot (d2 oIx (dVar 2) (dVar 6)) (dC .none))) (dAnd (dB (d2 oIsNot (dVar 7) (dC .none))) (dOr (dB (d2 oIs (dVar 5) (dC .none))) (dB (d2 oLt (d2 oAdd (d2 oIx (dVar 2) (dVar 6)) (dVar 7)) (dVar 5)))))) (gAsg (d2 oAdd (d2 oIx (dVar 2) (dVar 6)) (dVar 7)) (tgN 5)) gNext) [.vl P, .vl (.int W), .vl A, .ow due, .vl (.int ((j : Int) + 1)), .vl (oD L), .vl (.int (i : Int)), .vl (oD C)] = M.ret (.nx [.vl P, .vl (.int W), .vl A, .ow due, .vl (.int ((j : Int) + 1)), .vl (oD L'), .vl (.int (i : Int)), .vl (oD C)]) → ∃ L' y6 y7, Lj ws W a lo (j + 1) (j + 1) L' ∧ forD (bodyD (tgN 6) b__law_next_0) (rngD (i : Int) (m + 1)) [.vl P, .vl (.int W), .vl A, .ow due, .vl (.int ((j : Int) + 1)), .vl (oD L), x6, x7] = M.ret (.nx [.vl P, .vl (.int W), .vl A, .ow due, .vl (.int ((j : Int) + 1)), .vl (oD L'), y6, y7]) := fun L1 hL1 ht => by
      obtain ⟨L', y6, y7, q1, q2⟩ := inner_ev h hz hW ha hj P A hP hA due lo m (i + 1) L1 (.vl (.int (i : Int))) (.vl (oD C)) (by omega) (by omega) hL1
      refine ⟨L', y6, y7, q1, ?_⟩
      rw [rngS]
      refine forD_cons (ev_body (δ' := [.vl P, .vl (.int W), .vl A, .ow due, .vl (.int ((j : Int) + 1)), .vl (oD L), .vl (.int (i : Int)), x7]) rfl ?_) q2
      unfold b__law_next_0
      refine ev_seq (ev_asg (d := oD C) (ev_call (ds := [.list (ws.map tx), .int W, .int (i : Int), .int ((j : Int) + 1)]) (ev_cons (by rw [← hP]; exact ev_var rfl) (ev_cons (ev_var rfl) (ev_cons (ev_var rfl) (ev_cons (ev_var rfl) ev_nil)))) hc)) ht
    have g1 : d2 oIx (dVar 2) (dVar 6) [.vl P, .vl (.int W), .vl A, .ow due, .vl (.int ((j : Int) + 1)), .vl (oD L), .vl (.int (i : Int)), .vl (oD C)] = M.ret (oD xa) := ev_2 (x := A) (ev_var rfl) (ev_var rfl) (by rw [hA]; exact ia)
    have g3 := ev_b (ev_2 g1 ev_c (isnot_oD xa))
    have g4 := ev_b (δ := [.vl P, .vl (.int W), .vl A, .ow due, .vl (.int ((j : Int) + 1)), .vl (oD L), .vl (.int (i : Int)), .vl (oD C)]) (ev_2 (f := dVar 7) (ev_var rfl) ev_c (isnot_oD C))
    have g5 := ev_b (δ := [.vl P, .vl (.int W), .vl A, .ow due, .vl (.int ((j : Int) + 1)), .vl (oD L), .vl (.int (i : Int)), .vl (oD C)]) (ev_2 (f := dVar 5) (ev_var rfl) ev_c (is_oD L))
    cases xa with
    | none =>
      refine turn L ⟨hL.1, fun i' x q1 q2 q3 q4 => ?_⟩ (ev_pass1 (b := false) (ev_and_f g3) rfl)
      by_cases e' : i' = i
      · subst e'
        rw [hxa] at q4
        cases q4
      · exact hL.2 i' x q1 (by omega) q3 q4
    | some x =>
      cases C with
      | none =>
        refine turn L ⟨hL.1, fun i' x' q1 q2 q3 q4 => ?_⟩ (ev_pass1 (b := false) (ev_and_t g3 (ev_and_f g4)) rfl)
        by_cases e' : i' = i
        · subst e'
          have := hFt q3
          cases this
        · exact hL.2 i' x' q1 (by omega) q3 q4
      | some p =>
        obtain ⟨hft, hp⟩ := hFt2 p rfl
        have put : (∀ v, L = some v → x + p ≤ v) → Lj ws W a lo (i + 1) (j + 1) (some (x + p)) := fun hv => by
          refine ⟨fun v q => ?_, fun i' x' q1 q2 q3 q4 => ?_⟩
          · cases q
            exact ⟨i, x, hft, hxa, by rw [hp]⟩
          · by_cases e' : i' = i
            · subst e'
              rw [hxa] at q4
              cases q4
              exact ⟨_, rfl, by rw [hp]; exact Int.le_refl _⟩
            · obtain ⟨v, z1, z2⟩ := hL.2 i' x' q1 (by omega) q3 q4
              have := hv v z1
              exact ⟨_, rfl, by omega⟩
        have asg : (gAsg (d2 oAdd (d2 oIx (dVar 2) (dVar 6)) (dVar 7)) (tgN 5)) [.vl P, .vl (.int W), .vl A, .ow due, .vl (.int ((j : Int) + 1)), .vl (oD L), .vl (.int (i : Int)), .vl (oD (some p))] = M.ret (.nx [.vl P, .vl (.int W), .vl A, .ow due, .vl (.int ((j : Int) + 1)), .vl (oD (some (x + p))), .vl (.int (i : Int)), .vl (oD (some p))]) := ev_asg (d := .int (x + p)) (ev_2 (x := .int x) (y := .int p) g1 (ev_var rfl) o_add)
        cases L with
        | none => exact turn _ (put fun v z => nomatch z) (ev_ifS (b := true) (ev_and_t g3 (ev_and_t g4 (ev_or_t g5))) (ite_T rfl asg))
        | some v =>
          have g6 := ev_b (ev_2 (h := oLt) (ev_2 (h := oAdd) (d := .int (x + p)) (x := .int x) (y := .int p) g1 (ev_var (n := 7) rfl) o_add) (ev_var (n := 5) (d := .int v) rfl) o_lt)
          by_cases hlt : x + p < v
          · rw [decide_eq_true hlt] at g6
            exact turn _ (put fun v' z => by cases z; omega) (ev_ifS (b := true) (ev_and_t g3 (ev_and_t g4 (ev_or_f g5 g6))) (ite_T rfl asg))
          · rw [decide_eq_false hlt] at g6
            refine turn (some v) ⟨hL.1, fun i' x' q1 q2 q3 q4 => ?_⟩ (ev_pass1 (b := false) (ev_and_t g3 (ev_and_t g4 (ev_or_f g5 g6))) rfl)
            by_cases e' : i' = i
            · subst e'
              rw [hxa] at q4
              cases q4
              exact ⟨v, rfl, by rw [← hp]; omega⟩
            · exact hL.2 i' x' q1 (by omega) q3 q4
end
end K48
open PySem PySem.Spec L2 DL CT TX NumText
namespace K48
section
variable {ws : List (List Nat)} {W : Int}
theorem Lj.all (h : ∀ w ∈ ws, Wd w) {a : List (Option Int)} {lo j : Nat} {L : Option Int} (hlo : (lo : Int) = max 0 ((j : Int) - W)) (q : Lj ws W a lo j j L) : Lj ws W a 0 j j L := by
  refine ⟨q.1, fun i x _ hi hf hx => q.2 i x ?_ hi hf hx⟩
  have := row_wide h hf.1 hf.2.1
  have := hf.2.2
  have := hf.1
  omega
theorem outer_ev (h : ∀ w ∈ ws, Wd w) (hz : tot ws ≤ 900) (hn : ws.length ≤ 64) (hW : 0 ≤ W ∧ W ≤ 1000) {a : List (Option Int)} (ha : a.length = ws.length + 1) (P A : D) (hP : P = .list (ws.map tx)) (hA : A = .list (a.map oD)) : ∀ (m j : Nat) (b : List (Option Int)) (x4 x5 x6 x7 : Sl), j + m = ws.length → b.length = j + 1 → (∀ k, k ≤ j → ∃ L, b[k]? = some L ∧ Lj ws W a 0 k k L) → ∃ (b' : List (Option Int)) (y4 y5 y6 y7 : Sl), b'.length = ws.length + 1 ∧ (∀ k, k ≤ ws.length → ∃ L, b'[k]? = some L ∧ Lj ws W a 0 k k L) ∧ forD (bodyD (tgN 4) b__law_next_1) (rngD ((j + 1 : Nat) : Int) m) [.vl P, .vl (.int W), .vl A, .ow (b.map oD), x4, x5, x6, x7] = M.ret (.nx [.vl P, .vl (.int W), .vl A, .ow (b'.map oD), y4, y5, y6, y7])
  | 0, j, b, x4, x5, x6, x7, e, hb, hL => by
    have : j = ws.length := by omega
    subst this
    exact ⟨b, x4, x5, x6, x7, hb, hL, rfl⟩
  | m + 1, j, b, x4, x5, x6, x7, e, hb, hL => by
    have hj : j < ws.length := by omega
    obtain ⟨lo, hlo⟩ : ∃ lo : Nat, (lo : Int) = max 0 ((j : Int) + 1 - W) := ⟨(max 0 ((j : Int) + 1 - W)).toNat, by omega⟩
    have hlo1 : lo ≤ j + 1 := by omega
    obtain ⟨L, y6, y7, hLj, hI⟩ := inner_ev h hz hW ha hj P A hP hA (b.map oD) lo (j + 1 - lo) lo none x6 x7 (by omega) (Nat.le_refl _) ⟨fun v z => (nomatch z), fun i x q1 q2 => by omega⟩
    have hLa := Lj.all h (by push_cast; omega) hLj
    obtain ⟨b', y4', y5', y6', y7', q1, q2, hO⟩ := outer_ev h hz hn hW ha P A hP hA m (j + 1) (b ++ [L]) (.vl (.int ((j : Int) + 1))) (.vl (oD L)) y6 y7 (by omega) (by rw [List.length_append, hb]; rfl) (fun k hk => by
      by_cases e' : k = j + 1
      · subst e'
        exact ⟨L, by rw [← hb, List.getElem?_append_right (Nat.le_refl _), Nat.sub_self]; rfl, hLa⟩
      · obtain ⟨L', z1, z2⟩ := hL k (by omega)
        exact ⟨L', by rw [List.getElem?_append_left (by omega)]; exact z1, z2⟩)
    refine ⟨b', y4', y5', y6', y7', q1, q2, ?_⟩
    rw [rngS]
    rw [List.map_append] at hO
    have ej : (((j + 1 : Nat) : Nat) : Int) = (j : Int) + 1 := by omega
    refine forD_cons (ev_body (δ' := [.vl P, .vl (.int W), .vl A, .ow (b.map oD), .vl (.int ((j : Int) + 1)), x5, x6, x7]) (by rw [ej]; rfl) ?_) hO
    unfold b__law_next_1
    refine ev_seq (ev_asg (d := oD none) ev_c) ?_
    have hr := rng2N (a := lo) (b := j + 1) hlo1 (by omega)
    rw [ej] at hr
    refine ev_seq (ev_forG (ev_rngS (xs := [.int (lo : Int), .int ((j : Int) + 1)]) (ev_cons (by rw [hlo]; exact ev_cb (ds := [.int 0, .int ((j : Int) + 1 - W)]) (ev_cons ev_c (ev_cons (ev_2 (ev_var rfl) (ev_var rfl) o_sub) ev_nil)) rfl) (ev_cons (ev_var rfl) ev_nil)) hr) hI) ?_
    exact ev_app (ds := b.map oD) (d := oD L) rfl (ev_var rfl) (small_of (by rw [List.length_map]; omega))
theorem next_ev (h : ∀ w ∈ ws, Wd w) (hz : tot ws ≤ 900) (hn : ws.length ≤ 64) (hW : 0 ≤ W ∧ W ≤ 1000) {ps : List Pc} (hps : Pcs ws W ps) {a : List (Option Int)} (ha : a.length = ws.length + 1) : ∃ b, Bl ps a b ∧ F__law_next [.list (ws.map tx), .int W, .list (a.map oD)] = M.ret (.list (b.map oD)) := by
  obtain ⟨b, y4, y5, y6, y7, q1, q2, hO⟩ := outer_ev h hz hn hW ha (.list (ws.map tx)) (.list (a.map oD)) rfl rfl ws.length 0 [none] .un .un .un .un (by omega) rfl (fun k hk => by
    have : k = 0 := by omega
    subst this
    exact ⟨none, rfl, fun v z => (nomatch z), fun i x _ q => by omega⟩)
  have hr := rng2N (a := 1) (b := ws.length + 1) (by omega) (by omega)
  rw [show ((ws.length + 1 : Nat) : Int) = (ws.length : Int) + 1 by omega, show ws.length + 1 - 1 = ws.length by omega] at hr
  refine ⟨b, ⟨by rw [q1, ha], fun j v hv => ?_, fun i j p x hi hx => ?_⟩, ev_run ?_⟩
  · have hjl : j < b.length := (List.getElem?_eq_some_iff.mp hv).1
    obtain ⟨L, z1, z2⟩ := q2 j (by omega)
    rw [hv] at z1
    cases z1
    obtain ⟨i, x, w1, w2, w3⟩ := z2.1 v rfl
    exact ⟨i, pc ws W i j, x, (hps i j _).mpr ⟨w1, rfl⟩, w2, w3⟩
  · obtain ⟨hf, rfl⟩ := (hps i j p).mp hi
    obtain ⟨L, z1, z2⟩ := q2 j hf.2.1
    obtain ⟨v, w1, w2⟩ := z2.2 i x (Nat.zero_le _) hf.1 hf hx
    exact ⟨v, by rw [z1, w1], w2⟩
  · have hlw : oLen [.list (ws.map tx)] = some (.int ((ws.length : Nat) : Int)) := by rw [o_lenL, List.length_map]
    generalize hP : PyData.list (ws.map tx) = P at *
    unfold g__law_next
    refine ev_seqN' (ev_newL (ds := [.none]) (ev_nLst (ev_cons ev_c ev_nil) rfl)) ?_
    refine ev_seqN' (ev_forG (ev_rngS (xs := [.int 1, .int ((ws.length : Int) + 1)]) (ev_cons ev_c (ev_cons (ev_2 (ev_cb (ev_cons (ev_var rfl) ev_nil) hlw) ev_c o_add) ev_nil)) hr) hO) ?_
    exact ev_retF rfl (flat_oD b)
theorem Bl.uniq {ps : List Pc} {a b b' : List (Option Int)} (h : Bl ps a b) (h' : Bl ps a b') : b = b' := by
  refine List.ext_getElem? fun j => ?_
  by_cases hj : j < a.length
  · obtain ⟨x, hx⟩ : ∃ x, b[j]? = some x := ⟨_, List.getElem?_eq_getElem (by rw [h.len]; exact hj)⟩
    obtain ⟨y, hy⟩ : ∃ y, b'[j]? = some y := ⟨_, List.getElem?_eq_getElem (by rw [h'.len]; exact hj)⟩
    rw [hx, hy]
    congr 1
    cases x with
    | none =>
      cases y with
      | none => rfl
      | some v =>
        obtain ⟨i, p, z, q1, q2, _⟩ := h'.snd j v hy
        obtain ⟨w, q3, _⟩ := h.cpl i j p z q1 q2
        rw [hx] at q3
        cases q3
    | some u =>
      obtain ⟨i, p, z, q1, q2, q3⟩ := h.snd j u hx
      obtain ⟨w, q4, q5⟩ := h'.cpl i j p z q1 q2
      rw [hy] at q4
      cases q4
      obtain ⟨i', p', z', r1, r2, r3⟩ := h'.snd j w hy
      obtain ⟨w', r4, r5⟩ := h.cpl i' j p' z' r1 r2
      rw [hx] at r4
      cases r4
      congr 1
      omega
  · rw [List.getElem?_eq_none (by rw [h.len]; omega), List.getElem?_eq_none (by rw [h'.len]; omega)]
end
end K48
namespace SL
open DL L2 PySem
section
variable {f fo fi : EnvS → Sto → R (Val × Sto)} {fa : EnvS → Sto → R (List Val × Sto)} {δ : EnvS} {μ μ' μ1 : Sto} {v : Val} {n : Nat}
theorem es_new {fn : DS → M (List D)} {ds : List D} (h : fn (view δ) = M.ret ds) : sNew fn δ μ = R.ret (.h μ.length, μ ++ [.lst (ds.map Val.d)]) := by
  unfold sNew
  rw [h]
  rfl
theorem es_newF {g : DS → M D} {ds : List D} (h : g (viewL 0 μ δ) = M.ret (.list ds)) (hf : flatDs ds = true) : sNewF g δ μ = R.ret (.h μ.length, μ ++ [.lst (ds.map Val.d)]) := by
  unfold sNewF
  rw [h]
  show (if flatDs ds = true then _ else _) = _
  rw [if_pos hf]
theorem es_lst {xs : List Val} (h : fa δ μ = R.ret (xs, μ')) (hs : small xs.length = true) : sLst fa δ μ = R.ret (.h μ'.length, μ' ++ [.lst xs]) := by
  unfold sLst
  rw [h, rthn_ret]
  dsimp only
  rw [if_pos hs]
theorem es_drop (h : f δ μ = R.ret (v, μ')) : sDrop f n δ μ = R.ret (.nx δ μ') := by
  unfold sDrop
  rw [h]
  rfl
theorem es_app {k : Nat} {xs ys : List Val} (h1 : fo δ μ = R.ret (.h k, μ1)) (h2 : μ1[k]? = some (.lst ys)) (h3 : f δ μ1 = R.ret (v, μ')) (h4 : μ'[k]? = some (.lst xs)) (hs : small (xs.length + 1) = true) : sApp fo f δ μ = R.ret (.d .none, μ'.set k (.lst (xs ++ [v]))) := by
  unfold sApp
  rw [h1, rthn_ret]
  dsimp only
  rw [h2]
  dsimp only
  rw [h3, rthn_ret]
  dsimp only
  rw [h4]
  dsimp only
  rw [if_pos hs]
theorem es_ix {k : Nat} {i : Int} {xs : List Val} (h1 : fo δ μ = R.ret (.h k, μ1)) (h2 : fi δ μ1 = R.ret (.d (.int i), μ')) (h3 : μ'[k]? = some (.lst xs)) (h4 : L2.atI xs i = some v) : sIx fo fi δ μ = R.ret (v, μ') := by
  unfold sIx
  rw [h1, rthn_ret]
  dsimp only
  rw [h2, rthn_ret]
  dsimp only
  rw [h3]
  dsimp only
  rw [h4]
end
end SL
open PySem PySem.Spec L2 DL CT TX NumText SL
namespace K48
/-- a row as a thing that is tracked -/
def rO (r : List (Option Int)) : Ob := .lst ((r.map oD).map Val.d)
/-- a table in the store -/
structure Ts (lo : Nat) (μ : Sto) (h : Nat) (T : List (List (Option Int))) (hs : List Nat) : Prop where
  top : μ[h]? = some (.lst (hs.map Val.h))
  rows : ∀ (i k : Nat), hs[i]? = some k → ∃ r, T[i]? = some r ∧ μ[k]? = some (rO r)
  len : hs.length = T.length
  low : lo ≤ h ∧ ∀ k ∈ hs, lo ≤ k ∧ k ≠ h
theorem Ts.lt {lo h : Nat} {μ : Sto} {T : List (List (Option Int))} {hs : List Nat} (q : Ts lo μ h T hs) : h < μ.length ∧ ∀ k ∈ hs, k < μ.length := by
  refine ⟨(List.getElem?_eq_some_iff.mp q.top).1, fun k hk => ?_⟩
  obtain ⟨i, hi, e⟩ := List.mem_iff_getElem.mp hk
  obtain ⟨r, _, z⟩ := q.rows i k (by rw [List.getElem?_eq_getElem hi, e])
  exact (List.getElem?_eq_some_iff.mp z).1
theorem Ts.agr {lo h N : Nat} {μ μ' : Sto} {T : List (List (Option Int))} {hs : List Nat} (q : Ts lo μ h T hs) (hN : h < N ∧ ∀ k ∈ hs, k < N) (a : ∀ k, k < N → μ'[k]? = μ[k]?) : Ts lo μ' h T hs :=
  ⟨by rw [a h hN.1]; exact q.top, fun i k hk => by
    obtain ⟨r, z1, z2⟩ := q.rows i k hk
    exact ⟨r, z1, by rw [a k (hN.2 k (List.mem_of_getElem? hk))]; exact z2⟩, q.len, q.low⟩
theorem lv_rows {μ : Sto} : ∀ {hs : List Nat} {T : List (List (Option Int))}, hs.length = T.length → (∀ (i k : Nat), hs[i]? = some k → ∃ r, T[i]? = some r ∧ μ[k]? = some (rO r)) → lv1s 0 μ (hs.map Val.h) = some (T.map rD)
  | [], [], _, _ => rfl
  | k :: hs, r :: T, hl, hr => by
    obtain ⟨r', z1, z2⟩ := hr 0 k rfl
    cases z1
    have ih := lv_rows (μ := μ) (hs := hs) (T := T) (by simpa using hl) fun i k hk => hr (i + 1) k hk
    have e1 : lv1 0 μ (.h k) = some (rD r) := by
      show (if 0 ≤ k then (match μ[k]? with | some (.lst xs) => (dataOf xs).map PyData.list | _ => none) else none) = _
      rw [if_pos (Nat.zero_le _), z2]
      show (dataOf ((r.map oD).map Val.d)).map PyData.list = _
      rw [dataOf_map]
      rfl
    show (match lv1 0 μ (.h k), lv1s 0 μ (hs.map Val.h) with | some d, some ds => some (d :: ds) | _, _ => none) = _
    rw [e1, ih]
    rfl
theorem Ts.view {lo h : Nat} {μ : Sto} {T : List (List (Option Int))} {hs : List Nat} (q : Ts lo μ h T hs) : lv2 0 μ (.h h) = some (.list (T.map rD)) := lv2_h (Nat.zero_le _) q.top (lv_rows q.len q.rows)
theorem Ts.more {lo h : Nat} {μ : Sto} {T : List (List (Option Int))} {hs : List Nat} (q : Ts lo μ h T hs) (hlo : lo ≤ μ.length) (r : List (Option Int)) : Ts lo ((μ ++ [rO r]).set h (.lst (hs.map Val.h ++ [.h μ.length]))) h (T ++ [r]) (hs ++ [μ.length]) := by
  obtain ⟨l1, l2⟩ := q.lt
  refine ⟨?_, fun i k hk => ?_, by rw [List.length_append, List.length_append, q.len]; rfl, q.low.1, fun k hk => ?_⟩
  · rw [List.getElem?_set_self (by rw [List.length_append]; omega), List.map_append]
    rfl
  · by_cases hi : i < hs.length
    · rw [List.getElem?_append_left hi] at hk
      have hm := List.mem_of_getElem? hk
      obtain ⟨r', z1, z2⟩ := q.rows i k hk
      refine ⟨r', by rw [List.getElem?_append_left (by rw [← q.len]; exact hi)]; exact z1, ?_⟩
      rw [List.getElem?_set_ne (Ne.symm (q.low.2 k hm).2), List.getElem?_append_left (l2 k hm)]
      exact z2
    · rw [List.getElem?_append_right (by omega)] at hk
      have h0 : i - hs.length = 0 := by
        have := (List.getElem?_eq_some_iff.mp hk).1
        simp at this
        omega
      rw [h0] at hk
      cases hk
      have ei : i = T.length := by rw [← q.len]; omega
      refine ⟨r, by rw [ei, List.getElem?_append_right (Nat.le_refl _), Nat.sub_self]; rfl, ?_⟩
      rw [List.getElem?_set_ne (by omega), List.getElem?_append_right (Nat.le_refl _), Nat.sub_self]
      rfl
  · rcases List.mem_append.mp hk with hk | hk
    · exact q.low.2 k hk
    · rw [List.mem_singleton.mp hk]
      omega
theorem set_agr {μ : Sto} {N k : Nat} {o : Ob} (h : N ≤ k) : ∀ j, j < N → (μ.set k o)[j]? = μ[j]? := fun j hj => List.getElem?_set_ne (by omega)
theorem app_agr {μ ν : Sto} {N : Nat} (h : N ≤ μ.length) : ∀ j, j < N → (μ ++ ν)[j]? = μ[j]? := fun j hj => List.getElem?_append_left (by omega)
/-- the tables: a row, then the next ones -/
def tbl (nx : List (Option Int) → List (Option Int)) (r : List (Option Int)) : Nat → List (List (Option Int))
  | 0 => [r]
  | k + 1 => tbl nx r k ++ [nx ((tbl nx r k).getD k [])]
theorem tbl_len (nx : List (Option Int) → List (Option Int)) (r : List (Option Int)) : ∀ k, (tbl nx r k).length = k + 1
  | 0 => rfl
  | k + 1 => by show (tbl nx r k ++ [_]).length = _; rw [List.length_append, tbl_len nx r k]; rfl
theorem tbl_all {nx : List (Option Int) → List (Option Int)} {r : List (Option Int)} {P : List (Option Int) → Prop} (h0 : P r) (hs : ∀ a, P a → P (nx a)) : ∀ k, ∀ a ∈ tbl nx r k, P a
  | 0, a, ha => by rw [List.mem_singleton.mp ha]; exact h0
  | k + 1, a, ha => by
    rcases List.mem_append.mp ha with ha | ha
    · exact tbl_all h0 hs k a ha
    · rw [List.mem_singleton.mp ha]
      refine hs _ (tbl_all h0 hs k _ ?_)
      rw [List.getD_eq_getElem?_getD, List.getElem?_eq_getElem (by rw [tbl_len]; omega)]
      exact List.getElem_mem _
theorem tbl_at {nx : List (Option Int) → List (Option Int)} {r : List (Option Int)} (k : Nat) : ∃ a, a ∈ tbl nx r k ∧ (tbl nx r k)[k]? = some a ∧ (tbl nx r k).getD k [] = a := by
  have hk : k < (tbl nx r k).length := by rw [tbl_len]; omega
  exact ⟨_, List.getElem_mem hk, List.getElem?_eq_getElem hk, by rw [List.getD_eq_getElem?_getD, List.getElem?_eq_getElem hk]; rfl⟩
section
variable {ws : List (List Nat)} {W : Int} {nx : List (Option Int) → List (Option Int)} {r0 : List (Option Int)}
/-- one row more, in whatever def -/
theorem more_ev {lo h k : Nat} {μ : Sto} {hs : List Nat} (q : Ts lo μ h (tbl nx r0 k) hs) (hlo : lo ≤ μ.length) (hk : k ≤ 100) {i : Nat} {δ : EnvS} {g : DS → M D} (hi : δ[i]? = some (some (.h h))) (hg : ∀ a, (tbl nx r0 k)[k]? = some a → a ∈ tbl nx r0 k → g (viewL 0 μ δ) = M.ret (.list ((nx a).map oD))) (n : Nat) :
    ∃ μ' hs', sDrop (sApp (sVar i) (sNewF g)) n δ μ = R.ret (.nx δ μ') ∧ Ts lo μ' h (tbl nx r0 (k + 1)) hs' ∧ (∀ j, j < lo → μ'[j]? = μ[j]?) ∧ μ.length ≤ μ'.length := by
  obtain ⟨a, a1, a2, a3⟩ := tbl_at (nx := nx) (r := r0) k
  have hl := q.len
  rw [tbl_len] at hl
  obtain ⟨l1, l2⟩ := q.lt
  refine ⟨_, hs ++ [μ.length], es_drop (es_app (k := h) (ys := hs.map Val.h) (xs := hs.map Val.h) (es_var hi) q.top (es_newF (hg a a2 a1) (flat_oD _)) (by rw [List.getElem?_append_left l1]; exact q.top) (small_of (by rw [List.length_map]; omega))), ?_, fun j hj => ?_, ?_⟩
  · have := q.more hlo (nx a)
    show Ts lo _ h (tbl nx r0 k ++ [nx ((tbl nx r0 k).getD k [])]) _
    rw [a3]
    exact this
  · rw [set_agr q.low.1 j hj, app_agr hlo j hj]
  · rw [List.length_set, List.length_append]
    omega
end
section
variable {ws : List (List Nat)} {W : Int} {ps : List Pc} {nx : List (Option Int) → List (Option Int)}
theorem rng1N {n : Nat} (h : n ≤ 1000000) : rng1 [.int (n : Int)] = some (rngD ((0 : Nat) : Int) n) := by
  show (if b62 (n : Int) = true then some (rngD 0 (n : Int).toNat) else none) = _
  rw [if_pos (by unfold b62; simp; omega), Int.toNat_natCast]
  rfl
theorem v_get {T : List (List (Option Int))} {k : Nat} {a : List (Option Int)} (h : T[k]? = some a) : oIx (.list (T.map rD)) (.int (k : Int)) = some (rD a) := ix_at (by rw [List.getElem?_map, h]; rfl)
theorem prog_loop (hbl : ∀ a : List (Option Int), a.length = ws.length + 1 → (nx a).length = ws.length + 1 ∧ F_list_below [.list (ps.map pcD), .list (a.map oD)] = M.ret (.list ((nx a).map oD))) {r0 : List (Option Int)} (hr0 : r0.length = ws.length + 1) (A B C PS : D) (hPS : PS = .list (ps.map pcD)) {lo h : Nat} (n : Nat) : ∀ (m k : Nat) (μ : Sto) (hs : List Nat) (x5 : Option Val), k + m ≤ 100 → Ts lo μ h (tbl nx r0 k) hs → lo ≤ μ.length → ∃ μ' hs' y5, forS (agN 5) (b_parting_table_0 n) (rngD (k : Int) m) [some (.d A), some (.d B), some (.d C), some (.d PS), some (.h h), x5] μ = R.ret (.nx [some (.d A), some (.d B), some (.d C), some (.d PS), some (.h h), y5] μ') ∧ Ts lo μ' h (tbl nx r0 (k + m)) hs' ∧ (∀ j, j < lo → μ'[j]? = μ[j]?) ∧ μ.length ≤ μ'.length
  | 0, k, μ, hs, x5, _, q, _ => ⟨μ, hs, x5, rfl, q, fun _ _ => rfl, Nat.le_refl _⟩
  | m + 1, k, μ, hs, x5, hk, q, hlo => by
    obtain ⟨μ1, hs1, e1, q1, a1, l1⟩ := more_ev q hlo (by omega) (i := 4) (δ := [some (.d A), some (.d B), some (.d C), some (.d PS), some (.h h), some (.d (.int (k : Int)))]) (g := dCall (fun ds => noX (F_list_below ds)) (dCons (dVar 3) (dCons (d2 oIx (dVar 4) (dVar 5)) dNil))) rfl (fun a ha hm => by
      have hv : viewL 0 μ [some (.d A), some (.d B), some (.d C), some (.d PS), some (.h h), some (.d (.int (k : Int)))] = [.vl A, .vl B, .vl C, .vl PS, .vl (.list ((tbl nx r0 k).map rD)), .vl (.int (k : Int))] := by
        show [.vl A, .vl B, .vl C, .vl PS, v1 0 μ (some (.h h)), .vl (.int (k : Int))] = _
        rw [v1_of q.view]
      rw [hv]
      have hal := tbl_all (nx := nx) (r := r0) (P := fun a => a.length = ws.length + 1) hr0 (fun a ha => (hbl a ha).1) k a hm
      exact ev_call (ds := [PS, rD a]) (ev_cons (ev_var rfl) (ev_cons (ev_2 (ev_var rfl) (ev_var rfl) (v_get ha)) ev_nil)) (by rw [hPS]; exact (hbl a hal).2)) n
    obtain ⟨μ', hs', y5, e2, q2, a2, l2⟩ := prog_loop hbl hr0 A B C PS hPS n m (k + 1) μ1 hs1 (some (.d (.int (k : Int)))) (by omega) q1 (by omega)
    refine ⟨μ', hs', y5, ?_, by rw [show k + (m + 1) = k + 1 + m by omega]; exact q2, fun j hj => by rw [a2 j hj, a1 j hj], by omega⟩
    rw [rngS]
    unfold b_parting_table_0 at e2 ⊢
    exact forS_cons rfl e1 e2
def r0 (n : Nat) : List (Option Int) := some 0 :: List.replicate n none
theorem first_ev {δ : DS} {f : DS → M D} {n : Nat} (hn : n ≤ 100) (h : f δ = M.ret (.int (n : Int))) : nCat (dLst (dCons (dC (.int 0)) dNil)) (dOfN (nRep (nLst (dCons (dC .none) dNil)) f)) δ = M.ret ((r0 n).map oD) := by
  have hrep := ev_nRep (δ := δ) (d := .none) (k := (n : Int)) (fn := nLst (dCons (dC .none) dNil)) (g := f) (ev_nLst (ev_cons ev_c ev_nil) rfl) h (by omega) (by omega)
  rw [Int.toNat_natCast] at hrep
  have := ev_nCat (δ := δ) (f := dLst (dCons (dC (.int 0)) dNil)) (xs := [.int 0]) (ev_lst (ev_cons ev_c ev_nil) rfl) (ev_ofN hrep) (small_of (by rw [List.length_replicate]; show 1 + n ≤ _; omega))
  rw [this]
  unfold r0
  rw [List.map_cons, List.map_replicate]
  rfl
theorem ts_new (μ : Sto) (r : List (Option Int)) (nx : List (Option Int) → List (Option Int)) : Ts μ.length (μ ++ [rO r] ++ [.lst [.h μ.length]]) (μ.length + 1) (tbl nx r 0) [μ.length] := by
  refine ⟨by simp, fun i k hk => ?_, rfl, by omega, fun k hk => by rw [List.mem_singleton.mp hk]; omega⟩
  have h0 : i = 0 := by
    have := (List.getElem?_eq_some_iff.mp hk).1
    simp at this
    omega
  subst h0
  cases hk
  exact ⟨r, rfl, by simp⟩
theorem table_S (h0 : ws ≠ []) (h : ∀ w ∈ ws, Wd w) (hz : tot ws ≤ 900) (hn : ws.length ≤ 64) (hp : F_pieces_of [tx (jn 32 ws), .int W] = M.ret (.list (ps.map pcD))) (hbl : ∀ a : List (Option Int), a.length = ws.length + 1 → (nx a).length = ws.length + 1 ∧ F_list_below [.list (ps.map pcD), .list (a.map oD)] = M.ret (.list ((nx a).map oD))) {m : Nat} (hm : m ≤ 10) (μ : Sto) :
    ∃ μ' hk hs, FS_parting_table [.d (tx (jn 32 ws)), .d (.int W), .d (.int (m : Int))] μ = R.ret (.h hk, μ') ∧ Ts μ.length μ' hk (tbl nx (r0 ws.length) m) hs ∧ (∀ j, j < μ.length → μ'[j]? = μ[j]?) ∧ μ.length ≤ μ'.length := by
  have hs := o_split h0 (fun w hw => (h w hw).no) (by omega : tot ws ≤ 1000000)
  have hlw : oLen [.list (ws.map fun l => .str (S l))] = some (.int ((ws.length : Nat) : Int)) := by rw [o_lenL, List.length_map]
  obtain ⟨μ', hs', y5, e2, q2, a2, l2⟩ := prog_loop (nx := nx) hbl (r0 := r0 ws.length) (by unfold r0; simp) (tx (jn 32 ws)) (.int W) (.int (m : Int)) (.list (ps.map pcD)) rfl (lo := μ.length) (h := μ.length + 1) μ.length m 0 (μ ++ [rO (r0 ws.length)] ++ [.lst [.h μ.length]]) [μ.length] none (by omega) (ts_new μ _ nx) (by simp)
  rw [Nat.zero_add] at q2
  refine ⟨μ', μ.length + 1, hs', ?_, q2, fun j hj => ?_, ?_⟩
  · unfold FS_parting_table
    refine es_run ?_
    unfold g_parting_table
    refine es_seq (es_asg (es_pure (d := .list (ps.map pcD)) (ev_call (ds := [tx (jn 32 ws), .int W]) (ev_cons (ev_var rfl) (ev_cons (ev_var rfl) ev_nil)) hp))) ?_
    have hfirst := first_ev (δ := [.vl (tx (jn 32 ws)), .vl (.int W), .vl (.int (m : Int)), .vl (.list (ps.map pcD)), .un, .un]) (f := dCB oLen (dCons (dMeth sSplit (dVar 0) (dCons (dC (.str " ")) dNil)) dNil)) (n := ws.length) (by omega) (ev_cb (ev_cons (ev_meth (z := S (jn 32 ws)) (ev_var rfl) (ev_cons (x := .str (S [32])) ev_c ev_nil) hs) ev_nil) hlw)
    refine es_seq (es_asg (v := .h (μ.length + 1)) (μ' := μ ++ [rO (r0 ws.length)] ++ [.lst [.h μ.length]]) ?_) ?_
    · have := es_lst (δ := [some (.d (tx (jn 32 ws))), some (.d (.int W)), some (.d (.int (m : Int))), some (.d (.list (ps.map pcD))), none, none]) (μ := μ) (fa := sCons (sNew (nCat (dLst (dCons (dC (.int 0)) dNil)) (dOfN (nRep (nLst (dCons (dC .none) dNil)) (dCB oLen (dCons (dMeth sSplit (dVar 0) (dCons (dC (.str " ")) dNil)) dNil)))))) sNil) (xs := [.h μ.length]) (μ' := μ ++ [rO (r0 ws.length)]) (es_cons (es_new (ds := (r0 ws.length).map oD) hfirst) es_nil) rfl
      rw [List.length_append] at this
      exact this
    refine es_seq (es_for (ds := rngD ((0 : Nat) : Int) m) (ev_rngS (xs := [.int (m : Int)]) (ev_cons (ev_var rfl) ev_nil) (rng1N (by omega))) e2) ?_
    exact es_ret (es_var rfl)
  · rw [a2 j hj, List.append_assoc, List.getElem?_append_left hj]
  · refine Nat.le_trans ?_ l2
    simp
theorem law_loop (hne : ∀ a : List (Option Int), a.length = ws.length + 1 → (nx a).length = ws.length + 1 ∧ F__law_next [.list (ws.map tx), .int W, .list (a.map oD)] = M.ret (.list ((nx a).map oD))) {r : List (Option Int)} (hr : r.length = ws.length + 1) (A P B C : D) (hP : P = .list (ws.map tx)) {lo h : Nat} (n : Nat) : ∀ (m k : Nat) (μ : Sto) (hs : List Nat) (x6 : Option Val), k + m ≤ 100 → Ts lo μ h (tbl nx r k) hs → lo ≤ μ.length → ∃ μ' hs' y6, forS (agN 6) (b_law_0 n) (rngD (k : Int) m) [some (.d A), some (.d P), some (.d B), some (.d (.int W)), some (.d C), some (.h h), x6, none, none] μ = R.ret (.nx [some (.d A), some (.d P), some (.d B), some (.d (.int W)), some (.d C), some (.h h), y6, none, none] μ') ∧ Ts lo μ' h (tbl nx r (k + m)) hs' ∧ (∀ j, j < lo → μ'[j]? = μ[j]?) ∧ μ.length ≤ μ'.length
  | 0, k, μ, hs, x6, _, q, _ => ⟨μ, hs, x6, rfl, q, fun _ _ => rfl, Nat.le_refl _⟩
  | m + 1, k, μ, hs, x6, hk, q, hlo => by
    obtain ⟨μ1, hs1, e1, q1, a1, l1⟩ := more_ev q hlo (by omega) (i := 5) (δ := [some (.d A), some (.d P), some (.d B), some (.d (.int W)), some (.d C), some (.h h), some (.d (.int (k : Int))), none, none]) (g := dCall (fun ds => noX (F__law_next ds)) (dCons (dVar 1) (dCons (dVar 3) (dCons (d2 oIx (dVar 5) (dVar 6)) dNil)))) rfl (fun a ha hm => by
      have hv : viewL 0 μ [some (.d A), some (.d P), some (.d B), some (.d (.int W)), some (.d C), some (.h h), some (.d (.int (k : Int))), none, none] = [.vl A, .vl P, .vl B, .vl (.int W), .vl C, .vl (.list ((tbl nx r k).map rD)), .vl (.int (k : Int)), .un, .un] := by
        show [.vl A, .vl P, .vl B, .vl (.int W), .vl C, v1 0 μ (some (.h h)), .vl (.int (k : Int)), .un, .un] = _
        rw [v1_of q.view]
      rw [hv]
      have hal := tbl_all (nx := nx) (r := r) (P := fun a => a.length = ws.length + 1) hr (fun a ha => (hne a ha).1) k a hm
      exact ev_call (ds := [P, .int W, rD a]) (ev_cons (ev_var rfl) (ev_cons (ev_var rfl) (ev_cons (ev_2 (ev_var rfl) (ev_var rfl) (v_get ha)) ev_nil))) (by rw [hP]; exact (hne a hal).2)) n
    obtain ⟨μ', hs', y6, e2, q2, a2, l2⟩ := law_loop hne hr A P B C hP n m (k + 1) μ1 hs1 (some (.d (.int (k : Int)))) (by omega) q1 (by omega)
    refine ⟨μ', hs', y6, ?_, by rw [show k + (m + 1) = k + 1 + m by omega]; exact q2, fun j hj => by rw [a2 j hj, a1 j hj], by omega⟩
    rw [rngS]
    unfold b_law_0 at e2 ⊢
    exact forS_cons rfl e1 e2
end
end K48
open PySem PySem.Spec L2 DL CT TX NumText SL
namespace K48
theorem o_maxL {l : List Int} (h : l ≠ []) : oMaxM [.list (l.map PyData.int)] = some (.int (maxL l)) := by
  match l, h with
  | [], h => exact absurd rfl h
  | a :: r, _ =>
    show (match intsOf ((a :: r).map PyData.int) with | some [] => none | some is => some (PyData.int (maxL is)) | none => none) = _
    rw [ints_of]
theorem cut_20 {ns : List Int} : ∃ cs : List Int, cutD (ns.map PyData.int) (some 4) (some 24) = cs.map PyData.int ∧ cs.length ≤ 20 := by
  unfold cutD
  refine ⟨((ns.drop (HT.sIx (ns.map PyData.int).length 0 (some 4))).take (HT.sIx (ns.map PyData.int).length (ns.map PyData.int).length (some 24) - HT.sIx (ns.map PyData.int).length 0 (some 4))), by rw [← List.map_drop, ← List.map_take], ?_⟩
  rw [List.length_take, List.length_drop, show (some 4 : Option Int) = some ((4 : Nat) : Int) from rfl, show (some 24 : Option Int) = some ((24 : Nat) : Int) from rfl, HT.sIx_nat, HT.sIx_nat, List.length_map]
  omega
theorem lens_comp : ∀ (q : List (List Nat)) (x : Sl), (∀ w ∈ q, w.length ≤ 900) → compD (tgN 0) (nX dYes) (nX (dCB oLen (dCons (dVar 0) dNil))) (q.map tx) [x] = M.ret ((q.map fun w => ((w.length : Nat) : Int)).map PyData.int) := by
  intro q
  induction q with
  | nil => intro x _; rfl
  | cons w q ih =>
    intro x hq
    have := hq w List.mem_cons_self
    exact ev_compC (δ' := [.vl (tx w)]) rfl (ev_cb (ev_cons (ev_var rfl) ev_nil) (o_lenX (by omega))) (ih _ fun r hr => hq r (List.mem_cons_of_mem _ hr))
theorem whole_ev (x : Option Int) : F__law_whole [oD x] = M.ret (.bool true) := by
  refine ev_run ?_
  unfold g__law_whole
  cases x with
  | none => exact ev_ret (ev_orV_t (ev_2 (ev_var rfl) ev_c rfl))
  | some i => exact ev_ret (ev_orV_f (ev_2 (x := .int i) (ev_var rfl) ev_c rfl) (ev_andV_t (ev_is (d := .int i) (ev_var rfl)) (ev_notV (ev_is (d := .int i) (ev_var rfl)))))
theorem all_ev : ∀ (q : List (Option Int)) (x : Sl), compD (tgN 0) (nX dYes) (nX (dCall (fun ds => noX (F__law_whole ds)) (dCons (dVar 0) dNil))) (q.map oD) [x] = M.ret ((q.map fun _ => true).map PyData.bool)
  | [], x => rfl
  | a :: q, x => ev_compC (δ' := [.vl (oD a)]) rfl (ev_call (ev_cons (ev_var rfl) ev_nil) (whole_ev a)) (all_ev q _)
theorem allT (l : List (Option Int)) : oAll [.list ((l.map fun _ => true).map PyData.bool)] = some (.bool true) := by
  have hb : bools ((l.map fun _ => true).map PyData.bool) = some (l.map fun _ => true) := by
    induction l with
    | nil => rfl
    | cons a r ih =>
      show (bools ((r.map fun _ => true).map PyData.bool)).map (true :: ·) = _
      rw [ih]
      rfl
  show (bools ((l.map fun _ => true).map PyData.bool)).map (fun bs => PyData.bool (bs.all id)) = _
  rw [hb]
  show some (PyData.bool ((l.map fun _ => true).all id)) = _
  congr 2
  induction l with
  | nil => rfl
  | cons a r ih =>
    simp
theorem lay_oD (r : List (Option Int)) : (rD r).canLay0 = true ∧ (rD r).depth ≤ 5 := by
  have h1 : PyData.canLayAll0 (r.map oD) = true := by
    induction r with
    | nil => rfl
    | cons a r ih =>
      cases a <;> simp [oD, PyData.canLayAll0, PyData.canLay0, ih]
  have h2 : PyData.depthAll (r.map oD) ≤ 0 := by
    clear h1
    induction r with
    | nil => exact Nat.le_refl _
    | cons a r ih =>
      cases a <;> simp [oD, PyData.depthAll, PyData.depth] at ih ⊢ <;> exact ih
  exact ⟨by unfold rD PyData.canLay0; exact h1, by unfold rD PyData.depth; omega⟩
theorem rows_loop {hs : List Nat} {k : Nat} {μ : Sto} (top : μ[k]? = some (.lst (hs.map Val.h))) (e0 e1 e2 e3 e4 e5 e6 e7 : Option Val) (n : Nat) : ∀ (q : List Nat) (x8 : Option Val), (∀ j ∈ q, ∃ r : List (Option Int), r.length ≤ 100 ∧ μ[j]? = some (rO r)) → ∃ y8, forT 8 k (hs.map Val.h) (b_law_1 n) (q.map Val.h) [e0, e1, e2, e3, e4, e5, e6, e7, x8] μ = R.ret (.nx [e0, e1, e2, e3, e4, e5, e6, e7, y8] μ)
  | [], x8, _ => ⟨x8, forT_nil top⟩
  | j :: q, x8, h => by
    obtain ⟨r, hl, hr⟩ := h j List.mem_cons_self
    obtain ⟨y8, hI⟩ := rows_loop top e0 e1 e2 e3 e4 e5 e6 e7 n q (some (.h j)) fun i hi => h i (List.mem_cons_of_mem _ hi)
    refine ⟨y8, forT_cons (δ' := [e0, e1, e2, e3, e4, e5, e6, e7, some (.h j)]) (μ' := μ) top ?_ hI⟩
    have hv : v1 0 μ (some (.h j)) = .vl (rD r) := v1_h (ds := r.map oD) (Nat.zero_le _) hr
    have hg : (viewL 0 μ [e0, e1, e2, e3, e4, e5, e6, e7, some (.h j)])[8]? = some (.vl (rD r)) := by
      show some (v1 0 μ (some (.h j))) = _
      rw [hv]
    unfold b_law_1
    refine es_if (b := false) (es_test (ev_or_f (ev_not (b := true) (ev_b (ev_is (d := rD r) (ev_var hg)))) (ev_not (b := true) (ev_b (ev_cb (ev_cons (x := .list ((r.map fun _ => true).map PyData.bool)) (ev_compG (ds := r.map oD) (ev_any (x := rD r) (ev_var hg) rfl) (small_of (by rw [List.length_map]; omega)) (all_ev r .un)) ev_nil) (allT r)))))) ?_
    rw [if_neg Bool.false_ne_true]
    rfl
theorem law_true (ns : List Int) (hl : ns.length ≤ 63) : F_law [.list (ns.map PyData.int)] = M.ret (.bool true) := by
  obtain ⟨c0, hc0⟩ := cell_at_ev ns 0 (by decide)
  obtain ⟨c1, hc1⟩ := cell_at_ev ns 1 (by decide)
  obtain ⟨c2, hc2⟩ := cell_at_ev ns 2 (by decide)
  obtain ⟨c3, hc3⟩ := cell_at_ev ns 3 (by decide)
  obtain ⟨ks, hks, hkl⟩ := cut_20 (ns := ns)
  obtain ⟨ws, hwl, hw31, hws⟩ := parts_ev (c3 :: ks) (by rw [List.length_cons]; omega)
  rw [List.length_cons] at hwl
  have hadd := cellsC ns hl c3 (some 4) (some 24)
  rw [hks] at hadd
  have hcut : oCutS (some 4) (some 24) (.list (ns.map PyData.int)) = some (.list (ks.map PyData.int)) := by rw [← hks]; rfl
  have hn : ws.length ≤ 64 := by omega
  have h0 : ws ≠ [] := by rintro rfl; simp at hwl
  have hz : tot ws ≤ 900 := by have := tot31 hw31; omega
  have hw : ∀ w ∈ ws, Wd w := fun w q => (hw31 w q).wd
  have lne : (ws.map fun w => ((w.length : Nat) : Int)) ≠ [] := by simpa using h0
  have hmax := o_maxL lne
  have M1 : 0 ≤ maxL (ws.map fun w => ((w.length : Nat) : Int)) ∧ maxL (ws.map fun w => ((w.length : Nat) : Int)) ≤ 31 := by
    obtain ⟨w, q1, q2⟩ := List.mem_map.mp (maxL_mem lne)
    have := (hw31 w q1).len
    omega
  have hlens := lens_comp ws .un fun w q => by have := (hw31 w q).len; omega
  generalize maxL (ws.map fun w => ((w.length : Nat) : Int)) = Mx at *
  have hlw : oLen [.list (ws.map tx)] = some (.int ((ws.length : Nat) : Int)) := by rw [o_lenL, List.length_map]
  have hjn := o_join (c := 32) (ts := ws) (by omega)
  obtain ⟨m, hm⟩ : ∃ m : Nat, (m : Int) = 1 + c2 % 5 := ⟨(1 + c2 % 5).toNat, by omega⟩
  have m5 : 1 ≤ m ∧ m ≤ 5 := by omega
  obtain ⟨W, hW⟩ : ∃ W : Int, W = if 0 < c1 % 3 then Mx + c0 % 21 else 1 + c0 % 100 := ⟨_, rfl⟩
  have hW1 : 0 ≤ W ∧ W ≤ 1000 := by rw [hW]; split <;> omega
  obtain ⟨ps, hps, hpl, hp⟩ := pieces_ev h0 hw hz hn hW1
  -- the next row
  have hpb : ∀ a : List (Option Int), a.length = ws.length + 1 → ∀ i j p, (i, j, p) ∈ ps → i < a.length ∧ j < a.length := fun a ha i j p q => by
    have := ((hps i j p).mp q).1
    unfold Ft at this
    omega
  have hex : ∀ a : List (Option Int), ∃ b : List (Option Int), a.length = ws.length + 1 → b.length = ws.length + 1 ∧ F_list_below [.list (ps.map pcD), .list (a.map oD)] = M.ret (.list (b.map oD)) ∧ F__law_next [.list (ws.map tx), .int W, .list (a.map oD)] = M.ret (.list (b.map oD)) := fun a => by
    by_cases ha : a.length = ws.length + 1
    · obtain ⟨b, b1, b2⟩ := below_ev (hpb a ha) (by omega)
      obtain ⟨b', c1, c2⟩ := next_ev hw hz hn hW1 hps ha
      have := Bl.uniq b1 c1
      subst this
      exact ⟨b, fun _ => ⟨by rw [b1.len, ha], b2, c2⟩⟩
    · exact ⟨[], fun z => absurd z ha⟩
  obtain ⟨nx, hnx⟩ := Classical.axiomOfChoice hex
  have hbl : ∀ a : List (Option Int), a.length = ws.length + 1 → (nx a).length = ws.length + 1 ∧ F_list_below [.list (ps.map pcD), .list (a.map oD)] = M.ret (.list ((nx a).map oD)) := fun a ha => ⟨(hnx a ha).1, (hnx a ha).2.1⟩
  have hne : ∀ a : List (Option Int), a.length = ws.length + 1 → (nx a).length = ws.length + 1 ∧ F__law_next [.list (ws.map tx), .int W, .list (a.map oD)] = M.ret (.list ((nx a).map oD)) := fun a ha => ⟨(hnx a ha).1, (hnx a ha).2.2⟩
  have hr0 : (r0 ws.length).length = ws.length + 1 := by unfold r0; simp
  obtain ⟨T, hT⟩ : ∃ T, T = tbl nx (r0 ws.length) m := ⟨_, rfl⟩
  have hTl : T.length = m + 1 := by rw [hT, tbl_len]
  have hTr : ∀ a ∈ T, a.length = ws.length + 1 := by rw [hT]; exact tbl_all hr0 (fun a ha => (hnx a ha).1) m
  have hTlay : ∀ d ∈ T.map rD, d.canLay0 = true ∧ d.depth ≤ 5 := fun d hd => by
    obtain ⟨r, _, rfl⟩ := List.mem_map.mp hd
    exact lay_oD r
  have hneT := ne_self hTlay
  have heqT : oEq (.list (T.map rD)) (.list (T.map rD)) = some (.bool true) := by
    obtain ⟨q1, q2⟩ := flat_all hTlay
    unfold oEq flat
    have hc : (PyData.list (T.map rD)).canLay0 = true := by unfold PyData.canLay0; exact q1
    have hd : (PyData.list (T.map rD)).depth ≤ 60 := by unfold PyData.depth; omega
    rw [hc, decide_eq_true (by omega : min (PyData.list (T.map rD)).depth (PyData.list (T.map rD)).depth ≤ 60), SeqAt.eqv_refl _ hc]
    rfl
  generalize hNS : PyData.list (ns.map PyData.int) = NS at *
  generalize hP : PyData.list (ws.map tx) = P at *
  -- what is due
  obtain ⟨μ1, hs1, y6, e1, q1, _, l1⟩ := law_loop (nx := nx) (W := W) (by rw [hP]; exact hne) hr0 NS P (.int Mx) (.int (m : Int)) hP.symm (lo := 0) (h := 1) 0 m 0 [rO (r0 ws.length), .lst [.h 0]] [0] none (by omega) (ts_new [] _ nx) (Nat.zero_le _)
  rw [Nat.zero_add, ← hT] at q1
  obtain ⟨μ2, h2, hs2, e2, q2, a2, l2⟩ := table_S h0 hw hz hn hp hbl (m := m) (by omega) μ1
  rw [← hT] at q2
  have q1' := q1.agr q1.lt a2
  -- the row at 0 and the last
  obtain ⟨k0, hk0⟩ : ∃ k0, hs2[0]? = some k0 := ⟨_, List.getElem?_eq_getElem (by rw [q2.len, hTl]; omega)⟩
  obtain ⟨km, hkm⟩ : ∃ km, hs2[m]? = some km := ⟨_, List.getElem?_eq_getElem (by rw [q2.len, hTl]; omega)⟩
  obtain ⟨rr0, z1, z2⟩ := q2.rows 0 k0 hk0
  obtain ⟨rrm, w1, w2⟩ := q2.rows m km hkm
  have hrr0 := hTr rr0 (List.mem_of_getElem? z1)
  have hrrm := hTr rrm (List.mem_of_getElem? w1)
  have k0m := List.mem_of_getElem? hk0
  have kmm := List.mem_of_getElem? hkm
  have hl2 := q2.len
  rw [hTl] at hl2
  obtain ⟨xs0, hxs0⟩ : ∃ xs0, xs0 = (rr0.map oD).map Val.d := ⟨_, rfl⟩
  have hx0l : xs0.length = ws.length + 1 := by rw [hxs0, List.length_map, List.length_map, hrr0]
  obtain ⟨μ3, hμ3⟩ : ∃ μ3, μ3 = μ2.set k0 (.lst (xs0.set 0 (.d (.int 7)))) := ⟨_, rfl⟩
  have top3 : μ3[h2]? = some (.lst (hs2.map Val.h)) := by
    rw [hμ3, List.getElem?_set_ne (q2.low.2 k0 k0m).2]
    exact q2.top
  obtain ⟨xsm, hxsm, hxml⟩ : ∃ xsm : List Val, μ3[km]? = some (.lst xsm) ∧ xsm.length = ws.length + 1 := by
    by_cases e : k0 = km
    · subst e
      exact ⟨_, by rw [hμ3, List.getElem?_set_self (q2.lt.2 _ k0m)], by rw [List.length_set, hx0l]⟩
    · exact ⟨_, by rw [hμ3, List.getElem?_set_ne e]; exact w2, by rw [List.length_map, List.length_map, hrrm]⟩
  obtain ⟨μ4, hμ4⟩ : ∃ μ4, μ4 = μ3.set km (.lst (xsm ++ [.d .none])) := ⟨_, rfl⟩
  have a4 : ∀ j, j < μ1.length → μ4[j]? = μ2[j]? := fun j hj => by
    rw [hμ4, set_agr (q2.low.2 km kmm).1 j hj, hμ3, set_agr (q2.low.2 k0 k0m).1 j hj]
  have l4 : μ1.length ≤ μ4.length := by rw [hμ4, List.length_set, hμ3, List.length_set]; exact l2
  obtain ⟨μ5, h5, hs5, e5, q5, a5, l5⟩ := table_S h0 hw hz hn hp hbl (m := m) (by omega) μ4
  rw [← hT] at q5
  have q15 : Ts 0 μ5 1 T hs1 := q1.agr q1.lt fun j hj => by rw [a5 j (by omega), a4 j hj, a2 j hj]
  have main : FS_law [.d NS] [] = R.ret (.d (.bool true), μ5) := by
    unfold FS_law
    refine es_run ?_
    unfold g_law
    refine es_seq (es_asg (es_pure (d := P) (ev_call (ds := [.list ((c3 :: ks).map PyData.int)]) (ev_cons (ev_2 (x := .list [.int c3]) (y := .list (ks.map PyData.int)) (ev_lst (ev_cons (ev_call (ev_cons (ev_var rfl) (ev_cons ev_c ev_nil)) hc3) ev_nil) rfl) (ev_cutS (ev_var rfl) (ev_part ev_c) (ev_part ev_c) hcut) hadd) ev_nil) hws))) ?_
    refine es_seq (es_asg (es_pure (d := .int Mx) (ev_cb (ev_cons (ev_compG (ds := ws.map tx) (ev_any (x := P) (ev_var rfl) (by rw [← hP]; rfl)) (small_of (by rw [List.length_map]; omega)) hlens) ev_nil) hmax))) ?_
    refine es_seq (es_asg (es_pure (d := .int (1 + c0 % 100)) (ev_2 ev_c (ev_2 (ev_call (ev_cons (ev_var rfl) (ev_cons ev_c ev_nil)) hc0) ev_c (o_mod (by decide))) o_add))) ?_
    refine es_seq (δ' := [some (.d NS), some (.d P), some (.d (.int Mx)), some (.d (.int W)), none, none, none, none, none]) (μ' := []) ?_ ?_
    · by_cases hb : 0 < c1 % 3
      · rw [hW, if_pos hb]
        refine es_if (b := true) (es_test (ev_b (ev_2 (ev_2 (ev_call (ev_cons (ev_var rfl) (ev_cons ev_c ev_nil)) hc1) ev_c (o_mod (by decide))) ev_c (by rw [o_gt, decide_eq_true hb])))) ?_
        rw [if_pos rfl]
        exact es_asg (es_pure (d := .int (Mx + c0 % 21)) (ev_2 (ev_var rfl) (ev_2 (ev_call (ev_cons (ev_var rfl) (ev_cons ev_c ev_nil)) hc0) ev_c (o_mod (by decide))) o_add))
      · rw [hW, if_neg hb]
        refine es_if (b := false) (es_test (ev_b (ev_2 (ev_2 (ev_call (ev_cons (ev_var rfl) (ev_cons ev_c ev_nil)) hc1) ev_c (o_mod (by decide))) ev_c (by rw [o_gt, decide_eq_false hb])))) ?_
        rw [if_neg Bool.false_ne_true]
        rfl
    refine es_seq (es_asg (es_pure (d := .int (m : Int)) (by rw [hm]; exact ev_2 ev_c (ev_2 (ev_call (ev_cons (ev_var rfl) (ev_cons ev_c ev_nil)) hc2) ev_c (o_mod (by decide))) o_add))) ?_
    refine es_seq (es_asg (v := .h 1) (μ' := [rO (r0 ws.length), .lst [.h 0]]) ?_) ?_
    · have hfirst := first_ev (δ := [.vl NS, .vl P, .vl (.int Mx), .vl (.int W), .vl (.int (m : Int)), .un, .un, .un, .un]) (f := dCB oLen (dCons (dVar 1) dNil)) (n := ws.length) (by omega) (ev_cb (ev_cons (ev_var rfl) ev_nil) hlw)
      exact es_lst (xs := [.h 0]) (μ' := [rO (r0 ws.length)]) (es_cons (es_new (ds := (r0 ws.length).map oD) hfirst) es_nil) rfl
    refine es_seq (es_for (ds := rngD ((0 : Nat) : Int) m) (ev_rngS (xs := [.int (m : Int)]) (ev_cons (ev_var rfl) ev_nil) (rng1N (by omega))) e1) ?_
    have hargs : ∀ (x6 x7 x8 : Option Val) (μ : Sto), sCons (sPure (dMeth sJoin (dC (.str " ")) (dCons (dVar 1) dNil))) (sCons (sVar 3) (sCons (sVar 4) sNil)) [some (.d NS), some (.d P), some (.d (.int Mx)), some (.d (.int W)), some (.d (.int (m : Int))), some (.h 1), x6, x7, x8] μ = R.ret ([.d (tx (jn 32 ws)), .d (.int W), .d (.int (m : Int))], μ) := fun x6 x7 x8 μ => es_cons (es_pure (ev_meth (z := S [32]) ev_c (ev_cons (x := P) (ev_var rfl) ev_nil) hjn)) (es_cons (es_var rfl) (es_cons (es_var rfl) es_nil))
    refine es_seq (es_asg (es_call (hargs y6 none none μ1) e2)) ?_
    have hv : viewL 0 μ2 [some (.d NS), some (.d P), some (.d (.int Mx)), some (.d (.int W)), some (.d (.int (m : Int))), some (.h 1), y6, some (.h h2), none] = [.vl NS, .vl P, .vl (.int Mx), .vl (.int W), .vl (.int (m : Int)), .vl (.list (T.map rD)), v1 0 μ2 y6, .vl (.list (T.map rD)), .un] := by
      show [.vl NS, .vl P, .vl (.int Mx), .vl (.int W), .vl (.int (m : Int)), v1 0 μ2 (some (.h 1)), v1 0 μ2 y6, v1 0 μ2 (some (.h h2)), .un] = _
      rw [v1_of q1'.view, v1_of q2.view]
    refine es_seq (δ' := [some (.d NS), some (.d P), some (.d (.int Mx)), some (.d (.int W)), some (.d (.int (m : Int))), some (.h 1), y6, some (.h h2), none]) (μ' := μ2) ?_ ?_
    · refine es_if (b := false) (es_test ?_) (by rw [if_neg Bool.false_ne_true]; rfl)
      show dOr _ _ (viewL 0 μ2 [some (.d NS), some (.d P), some (.d (.int Mx)), some (.d (.int W)), some (.d (.int (m : Int))), some (.h 1), y6, some (.h h2), none]) = _
      rw [hv]
      exact ev_or_f (ev_not (b := true) (ev_b (ev_is (d := .list (T.map rD)) (ev_var rfl)))) (ev_b (ev_2 (ev_var rfl) (ev_var rfl) hneT))
    obtain ⟨y8, hRL⟩ := rows_loop q2.top (some (.d NS)) (some (.d P)) (some (.d (.int Mx))) (some (.d (.int W))) (some (.d (.int (m : Int)))) (some (.h 1)) y6 (some (.h h2)) 0 hs2 none (fun j hj => by
      obtain ⟨i, hi, ei⟩ := List.mem_iff_getElem.mp hj
      obtain ⟨r, u1, u2⟩ := q2.rows i j (by rw [List.getElem?_eq_getElem hi, ei])
      exact ⟨r, by rw [hTr r (List.mem_of_getElem? u1)]; omega, u2⟩)
    refine es_seq (es_forT (es_var rfl) q2.top hRL) ?_
    refine es_seq (δ' := [some (.d NS), some (.d P), some (.d (.int Mx)), some (.d (.int W)), some (.d (.int (m : Int))), some (.h 1), y6, some (.h h2), y8]) (μ' := μ3) ?_ ?_
    · rw [hμ3]
      refine es_setX (k := k0) (j := 0) (i := 0) (xs := xs0) (es_pure ev_c) (es_ix (k := h2) (i := 0) (xs := hs2.map Val.h) (es_var rfl) (es_pure ev_c) q2.top ?_) (es_pure ev_c) (by rw [hxs0]; exact z2) ?_
      · show L2.atI (hs2.map Val.h) ((0 : Nat) : Int) = some (.h k0)
        unfold L2.atI
        rw [ixN_nat (by rw [List.length_map]; omega)]
        show (hs2.map Val.h)[0]? = _
        rw [List.getElem?_map, hk0]
        rfl
      · exact ixN_nat (i := 0) (by omega)
    refine es_seq (δ' := [some (.d NS), some (.d P), some (.d (.int Mx)), some (.d (.int W)), some (.d (.int (m : Int))), some (.h 1), y6, some (.h h2), y8]) (μ' := μ4) ?_ ?_
    · rw [hμ4]
      refine es_drop (es_app (k := km) (ys := xsm) (xs := xsm) (es_ix (k := h2) (i := (m : Int)) (xs := hs2.map Val.h) (es_var rfl) (es_var rfl) top3 ?_) hxsm (es_pure ev_c) hxsm (small_of (by omega)))
      unfold L2.atI
      rw [ixN_nat (by rw [List.length_map]; omega)]
      show (hs2.map Val.h)[m]? = _
      rw [List.getElem?_map, hkm]
      rfl
    exact es_ret (es_cmp (es_call (hargs y6 (some (.h h2)) y8 μ4) e5) (es_var rfl) q5.view q15.view heqT rfl)
  show asD FS_law [NS] = _
  unfold asD
  show (match FS_law [.d NS] [] with | some (.ok (.d x, _)) => M.ret x | _ => none) = _
  rw [main]
  rfl
end K48
namespace K48
open PySem PySem.Spec PyProof.Rows L2 DL CT SL
def top (i : Nat) : Stmt := PySem.Challenge.pw_cuetimer_k48_the_table.main.body.getD i (.Pass ⟨0, 0, 0, 0⟩)
section
variable {P : Program} {w : World} {K : PySem.W.Frag} {mg : Str → Option Value} {base : Heap}
theorem sc_row_price : FnScope ["row", "wide"] ["row", "wide"] (defScope (top 2)) := ⟨rfl, rfl, rfl, by decide +kernel, rfl, by decide +kernel, by decide +kernel⟩
theorem d_row_price {f : Addr} {fd : FuncData} (F0 : Fun K "row_price" "row_price" (top 2) f fd) (hm : mg "row_price" = some (.ref f)) (z_len : mg "len" = none) : Def P w K mg base 1 "row_price" 2 F_row_price := by
  have S := sc_row_price
  refine def_of (N := ["row", "wide"]) (ps := ["row", "wide"]) (k := 0) (g := g_row_price) F0 S hm (F0.binds fun _ _ _ _ _ _ us hl => match us, hl with | [_, _], _ => rfl) fun cdv A outer s H E hr => ?_
  unfold g_row_price
  exact (pds_one (pd_ret (pd_op dop_mul (pd_op dop_sub (pd_var (pv 1)) (pd_callB dcall_len rfl z_len PySem.boot_len (pda_cons (pd_var (pv 0)) pda_nil))) (pd_op dop_sub (pd_var (pv 1)) (pd_callB dcall_len rfl z_len PySem.boot_len (pda_cons (pd_var (pv 0)) pda_nil))))))
theorem sc_break_price : FnScope ["text"] ["text"] (defScope (top 3)) := ⟨rfl, rfl, rfl, by decide +kernel, rfl, by decide +kernel, by decide +kernel⟩
theorem d_break_price {f : Addr} {fd : FuncData} (F0 : Fun K "break_price" "break_price" (top 3) f fd) (hm : mg "break_price" = some (.ref f)) : Def P w K mg base 1 "break_price" 1 F_break_price := by
  have S := sc_break_price
  refine def_of (N := ["text"]) (ps := ["text"]) (k := 0) (g := g_break_price) F0 S hm (F0.binds fun _ _ _ _ _ _ us hl => match us, hl with | [_], _ => rfl) fun cdv A outer s H E hr => ?_
  unfold g_break_price
  exact (pds_cons (pd_ifS (pdt_cmp dop_inS (pd_ix (pd_var (pv 0)) (pd_neg pd_int) (fun _ _ => rfl)) pd_str rfl) (pds_one (pd_ret pd_int)) pds_nil)
    (pds_one (pd_ret (pd_if (pdt_cmp dop_inS (pd_ix (pd_var (pv 0)) (pd_neg pd_int) (fun _ _ => rfl)) pd_str rfl) pd_int pd_int))))
theorem sc_pieces_of : FnScope ["words", "wide", "parts", "pieces", "i", "row", "j"] ["words", "wide"] (defScope (top 4)) := ⟨rfl, rfl, rfl, by decide +kernel, rfl, by decide +kernel, by decide +kernel⟩
theorem d_pieces_of {f : Addr} {fd : FuncData} (F0 : Fun K "pieces_of" "pieces_of" (top 4) f fd) (hm : mg "pieces_of" = some (.ref f)) (d_row_price : Def P w K mg base 1 "row_price" 2 F_row_price) (d_break_price : Def P w K mg base 1 "break_price" 1 F_break_price) (z_len : mg "len" = none) (z_range : mg "range" = none) : Def P w K mg base 2 "pieces_of" 2 F_pieces_of := by
  have S := sc_pieces_of
  refine def_of (N := ["words", "wide", "parts", "pieces", "i", "row", "j"]) (ps := ["words", "wide"]) (k := 1) (g := g_pieces_of) F0 S hm (F0.binds fun _ _ _ _ _ _ us hl => match us, hl with | [_, _], _ => rfl) fun cdv A outer s H E hr => ?_
  unfold g_pieces_of
  exact (pds_cons (pd_set (i := 2) S.nd rfl (by first | exact Or.inl rfl | exact Or.inr rfl) (pd_meth PySem.F.slot_str_split PySem.F.type_str_split dmt_split (pd_var (pv 0)) (pda_cons pd_str pda_nil)))
    (pds_cons (pd_newL (i := 3) S.nd rfl (by first | exact Or.inl rfl | exact Or.inr rfl) (pdn_lst pda_nil))
    (pds_cons (pd_forI PassesOwn.never rfl (pdi_rng1 rfl z_range (pda_cons (pd_callB dcall_len rfl z_len PySem.boot_len (pda_cons (pd_var (pv 2)) pda_nil)) pda_nil)) (pdg_name (pg_name (i := 4) S.nd rfl (by first | exact Or.inl rfl | exact Or.inr rfl))) (pds_cons (pd_set (i := 5) S.nd rfl (by first | exact Or.inl rfl | exact Or.inr rfl) (pd_ix (pd_var (pv 2)) (pd_var (pv 4)) (fun _ _ => rfl)))
    (pds_cons (pd_set (i := 6) S.nd rfl (by first | exact Or.inl rfl | exact Or.inr rfl) (pd_op dop_add (pd_var (pv 4)) pd_int))
    (pds_cons (pd_while PassesOwn.never (PDW.t (pdw_and (pdt_cmp dop_leD (pd_callB dcall_len rfl z_len PySem.boot_len (pda_cons (pd_var (pv 5)) pda_nil)) (pd_var (pv 1)) (nomark _)) (pdw_and1 (pdt_cmp dop_lt (pd_var (pv 6)) (pd_callB dcall_len rfl z_len PySem.boot_len (pda_cons (pd_var (pv 2)) pda_nil)) (nomark _))))) (pds_cons (pd_app (i := 3) (pv 3) (pd_tup (pda_cons (pd_var (pv 4)) (pda_cons (pd_var (pv 6)) (pda_cons (pd_op dop_add (pd_call d_row_price (hr.mono (by decide)) rfl rfl (pda_cons (pd_var (pv 5)) (pda_cons (pd_var (pv 1)) pda_nil))) (pd_call d_break_price (hr.mono (by decide)) rfl rfl (pda_cons (pd_var (pv 5)) pda_nil))) pda_nil)))))
    (pds_cons (pd_set (i := 5) S.nd rfl (by first | exact Or.inl rfl | exact Or.inr rfl) (pd_op dop_add (pd_op dop_add (pd_var (pv 5)) pd_str) (pd_ix (pd_var (pv 2)) (pd_var (pv 6)) (fun _ _ => rfl))))
    (pds_one (pd_augN (i := 6) S.nd rfl (by first | exact Or.inl rfl | exact Or.inr rfl) ip_add pd_int)))))
    (pds_one (pd_ifS (pdt_cmp dop_leD (pd_callB dcall_len rfl z_len PySem.boot_len (pda_cons (pd_var (pv 5)) pda_nil)) (pd_var (pv 1)) (nomark _)) (pds_one (pd_app (i := 3) (pv 3) (pd_tup (pda_cons (pd_var (pv 4)) (pda_cons (pd_var (pv 6)) (pda_cons (pd_call d_row_price (hr.mono (by decide)) rfl rfl (pda_cons (pd_var (pv 5)) (pda_cons (pd_var (pv 1)) pda_nil))) pda_nil)))))) pds_nil))))))
    (pds_one (pd_retO (pv 3))))))
theorem sc_list_below : FnScope ["pieces", "above", "below", "i", "j", "price"] ["pieces", "above"] (defScope (top 5)) := ⟨rfl, rfl, rfl, by decide +kernel, rfl, by decide +kernel, by decide +kernel⟩
theorem d_list_below {f : Addr} {fd : FuncData} (F0 : Fun K "list_below" "list_below" (top 5) f fd) (hm : mg "list_below" = some (.ref f)) (z_len : mg "len" = none) : DefF P w K mg base 1 "list_below" 2 F_list_below := by
  have S := sc_list_below
  refine deff_of (N := ["pieces", "above", "below", "i", "j", "price"]) (ps := ["pieces", "above"]) (k := 0) (g := g_list_below) F0 S hm (F0.binds fun _ _ _ _ _ _ us hl => match us, hl with | [_, _], _ => rfl) fun cdv A outer s H E hr => ?_
  unfold g_list_below
  exact (pdsf_cons (pd_newL (i := 2) S.nd rfl (by first | exact Or.inl rfl | exact Or.inr rfl) (pdn_rep (pdn_lst (pda_cons pd_non pda_nil)) (pd_callB dcall_len rfl z_len PySem.boot_len (pda_cons (pd_var (pv 1)) pda_nil))))
    (pdsf_cons (pd_forI PassesOwn.never rfl (pdi_any (pd_var (pv 0))) (pdg_tup rfl (pdgs_cons (pdg_name (pg_name (i := 3) S.nd rfl (by first | exact Or.inl rfl | exact Or.inr rfl))) (pdgs_cons (pdg_name (pg_name (i := 4) S.nd rfl (by first | exact Or.inl rfl | exact Or.inr rfl))) (pdgs_cons (pdg_name (pg_name (i := 5) S.nd rfl (by first | exact Or.inl rfl | exact Or.inr rfl))) pdgs_nil)))) (pds_one (pd_ifS (pdt_lend 2 (PDW.t (pdw_and (pdt_cmp dop_isnot (pd_ix (pd_var (pv 1)) (pd_var (pv 3)) (fun _ _ => rfl)) pd_non (nomark _)) (pdw_and1 (PDW.t (pdw_or (pdt_cmp dop_is (pd_ix (pd_var (pv 2)) (pd_var (pv 4)) (fun _ _ => rfl)) pd_non (nomark _)) (pdw_or1 (pdt_cmp dop_lt (pd_op dop_add (pd_ix (pd_var (pv 1)) (pd_var (pv 3)) (fun _ _ => rfl)) (pd_var (pv 5))) (pd_ix (pd_var (pv 2)) (pd_var (pv 4)) (fun _ _ => rfl)) (nomark _))))))))) (pds_one (pd_setO (i := 2) (pv 2) (pd_var (pv 4)) (pd_op dop_add (pd_ix (pd_var (pv 1)) (pd_var (pv 3)) (fun _ _ => rfl)) (pd_var (pv 5))))) pds_nil)))
    (pdsf_retO (pv 2))))
theorem sc_parting_table : FnScope ["words", "wide", "most", "pieces", "table", "k"] ["words", "wide", "most"] (defScope (top 1)) := ⟨rfl, rfl, rfl, by decide +kernel, rfl, by decide +kernel, by decide +kernel⟩
theorem ds_parting_table {f : Addr} {fd : FuncData} (F0 : Fun K "parting_table" "parting_table" (top 1) f fd) (hm : mg "parting_table" = some (.ref f)) (d_pieces_of : Def P w K mg base 2 "pieces_of" 2 F_pieces_of) (d_list_below : DefF P w K mg base 1 "list_below" 2 F_list_below) (z_len : mg "len" = none) (z_range : mg "range" = none) : SL.DefS P w K mg base 3 "parting_table" 3 FS_parting_table := by
  have S := sc_parting_table
  refine SL.defs_of (N := ["words", "wide", "most", "pieces", "table", "k"]) (ps := ["words", "wide", "most"]) (k := 2) (g := g_parting_table) F0 S hm (F0.binds fun _ _ _ _ _ _ us hl => match us, hl with | [_, _, _], _ => rfl) fun cdv A outer s H E hr => ?_
  unfold g_parting_table b_parting_table_0
  exact (sss_cons (ss_set (i := 3) S.nd rfl (by first | exact Or.inl rfl | exact Or.inr rfl) (sx_pure (pd_call d_pieces_of (hr.mono (by decide)) rfl rfl (pda_cons (pd_var (pv 0)) (pda_cons (pd_var (pv 1)) pda_nil)))))
    (sss_cons (ss_set (i := 4) S.nd rfl (by first | exact Or.inl rfl | exact Or.inr rfl) (sx_lst (sa_cons (sx_new (pdn_cat (pd_lst (pda_cons pd_int pda_nil)) (pd_ofN (pdn_rep (pdn_lst (pda_cons pd_non pda_nil)) (pd_callB dcall_len rfl z_len PySem.boot_len (pda_cons (pd_meth PySem.F.slot_str_split PySem.F.type_str_split dmt_split (pd_var (pv 0)) (pda_cons pd_str pda_nil)) pda_nil)))))) sa_nil)))
    (sss_cons (ss_for PassesOwn.never rfl (pdi_rng1 rfl z_range (pda_cons (pd_var (pv 2)) pda_nil)) (sg_name (pg_name (i := 5) S.nd rfl (by first | exact Or.inl rfl | exact Or.inr rfl))) (sss_one (ss_expr (sx_app (sx_var (pv 4)) (sx_newF (pdf_call d_list_below (hr.mono (by decide)) rfl rfl (pda_cons (pd_var (pv 3)) (pda_cons (pd_ix (pd_var (pv 4)) (pd_var (pv 5)) (fun _ _ => rfl)) pda_nil))))))))
    (sss_one (ss_ret (sx_var (pv 4)))))))
theorem sc__law_cell_at : FnScope ["_law_script", "_law_k"] ["_law_script", "_law_k"] (defScope (top 7)) := ⟨rfl, rfl, rfl, by decide +kernel, rfl, by decide +kernel, by decide +kernel⟩
theorem d__law_cell_at {f : Addr} {fd : FuncData} (F0 : Fun K "_law_cell_at" "_law_cell_at" (top 7) f fd) (hm : mg "_law_cell_at" = some (.ref f)) (z_len : mg "len" = none) : Def P w K mg base 1 "_law_cell_at" 2 F__law_cell_at := by
  have S := sc__law_cell_at
  refine def_of (N := ["_law_script", "_law_k"]) (ps := ["_law_script", "_law_k"]) (k := 0) (g := g__law_cell_at) F0 S hm (F0.binds fun _ _ _ _ _ _ us hl => match us, hl with | [_, _], _ => rfl) fun cdv A outer s H E hr => ?_
  unfold g__law_cell_at
  exact (pds_cons (pd_ifS (pdt_cmp dop_lt (pd_var (pv 1)) (pd_callB dcall_len rfl z_len PySem.boot_len (pda_cons (pd_var (pv 0)) pda_nil)) (nomark _)) (pds_one (pd_ret (pd_ix (pd_var (pv 0)) (pd_var (pv 1)) (fun _ _ => rfl)))) pds_nil)
    (pds_one (pd_ret pd_int)))
theorem sc__law_mixed : FnScope ["_law_cell", "_law_by"] ["_law_cell", "_law_by"] (defScope (top 8)) := ⟨rfl, rfl, rfl, by decide +kernel, rfl, by decide +kernel, by decide +kernel⟩
theorem d__law_mixed {f : Addr} {fd : FuncData} (F0 : Fun K "_law_mixed" "_law_mixed" (top 8) f fd) (hm : mg "_law_mixed" = some (.ref f)) : Def P w K mg base 1 "_law_mixed" 2 F__law_mixed := by
  have S := sc__law_mixed
  refine def_of (N := ["_law_cell", "_law_by"]) (ps := ["_law_cell", "_law_by"]) (k := 0) (g := g__law_mixed) F0 S hm (F0.binds fun _ _ _ _ _ _ us hl => match us, hl with | [_, _], _ => rfl) fun cdv A outer s H E hr => ?_
  unfold g__law_mixed
  exact (pds_one (pd_ret (pd_op dop_mod (pd_op dop_mul (pd_op dop_mod (pd_var (pv 0)) pd_int) (pd_var (pv 1))) pd_int)))
theorem sc__law_word : FnScope ["_law_number", "_law_size", "_law_some", "_law_word_here", "_law_k"] ["_law_number", "_law_size"] (defScope (top 9)) := ⟨rfl, rfl, rfl, by decide +kernel, rfl, by decide +kernel, by decide +kernel⟩
theorem d__law_word {f : Addr} {fd : FuncData} (F0 : Fun K "_law_word" "_law_word" (top 9) f fd) (hm : mg "_law_word" = some (.ref f)) (z_range : mg "range" = none) : Def P w K mg base 1 "_law_word" 2 F__law_word := by
  have S := sc__law_word
  refine def_of (N := ["_law_number", "_law_size", "_law_some", "_law_word_here", "_law_k"]) (ps := ["_law_number", "_law_size"]) (k := 0) (g := g__law_word) F0 S hm (F0.binds fun _ _ _ _ _ _ us hl => match us, hl with | [_, _], _ => rfl) fun cdv A outer s H E hr => ?_
  unfold g__law_word
  exact (pds_cons (pd_set (i := 2) S.nd rfl (by first | exact Or.inl rfl | exact Or.inr rfl) pd_str)
    (pds_cons (pd_set (i := 2) S.nd rfl (by first | exact Or.inl rfl | exact Or.inr rfl) (pd_op dop_add (pd_var (pv 2)) pd_str))
    (pds_cons (pd_set (i := 3) S.nd rfl (by first | exact Or.inl rfl | exact Or.inr rfl) pd_str)
    (pds_cons (pd_forI PassesOwn.never rfl (pdi_rng1 rfl z_range (pda_cons (pd_var (pv 1)) pda_nil)) (pdg_name (pg_name (i := 4) S.nd rfl (by first | exact Or.inl rfl | exact Or.inr rfl))) (pds_cons (pd_set (i := 0) S.nd rfl (by first | exact Or.inl rfl | exact Or.inr rfl) (pd_op dop_mod (pd_op dop_add (pd_op dop_mul (pd_var (pv 0)) pd_int) pd_int) pd_int))
    (pds_one (pd_set (i := 3) S.nd rfl (by first | exact Or.inl rfl | exact Or.inr rfl) (pd_op dop_add (pd_var (pv 3)) (pd_ix (pd_var (pv 2)) (pd_op dop_mod (pd_var (pv 0)) pd_int) (fun _ _ => rfl)))))))
    (pds_one (pd_ret (pd_var (pv 3))))))))
theorem sc__law_parts : FnScope ["_law_cells", "_law_parts_here", "_law_total", "_law_cell", "_law_number", "_law_size", "_law_word_here"] ["_law_cells"] (defScope (top 10)) := ⟨rfl, rfl, rfl, by decide +kernel, rfl, by decide +kernel, by decide +kernel⟩
theorem d__law_parts {f : Addr} {fd : FuncData} (F0 : Fun K "_law_parts" "_law_parts" (top 10) f fd) (hm : mg "_law_parts" = some (.ref f)) (d__law_mixed : Def P w K mg base 1 "_law_mixed" 2 F__law_mixed) (d__law_word : Def P w K mg base 1 "_law_word" 2 F__law_word) : Def P w K mg base 2 "_law_parts" 1 F__law_parts := by
  have S := sc__law_parts
  refine def_of (N := ["_law_cells", "_law_parts_here", "_law_total", "_law_cell", "_law_number", "_law_size", "_law_word_here"]) (ps := ["_law_cells"]) (k := 1) (g := g__law_parts) F0 S hm (F0.binds fun _ _ _ _ _ _ us hl => match us, hl with | [_], _ => rfl) fun cdv A outer s H E hr => ?_
  unfold g__law_parts
  exact (pds_cons (pd_newL (i := 1) S.nd rfl (by first | exact Or.inl rfl | exact Or.inr rfl) (pdn_lst pda_nil))
    (pds_cons (pd_set (i := 2) S.nd rfl (by first | exact Or.inl rfl | exact Or.inr rfl) pd_int)
    (pds_cons (pd_forI PassesOwn.never rfl (pdi_any (pd_var (pv 0))) (pdg_name (pg_name (i := 3) S.nd rfl (by first | exact Or.inl rfl | exact Or.inr rfl))) (pds_cons (pd_set (i := 4) S.nd rfl (by first | exact Or.inl rfl | exact Or.inr rfl) (pd_call d__law_mixed (hr.mono (by decide)) rfl rfl (pda_cons (pd_var (pv 3)) (pda_cons pd_int pda_nil))))
    (pds_cons (pd_set (i := 5) S.nd rfl (by first | exact Or.inl rfl | exact Or.inr rfl) (pd_op dop_add pd_int (pd_op dop_mod (pd_var (pv 4)) pd_int)))
    (pds_cons (pd_ifS (PDW.t (pdw_and (pdt_cmp (dop_eq hr.units) (pd_op dop_mod (pd_op dop_div (pd_var (pv 4)) pd_int) pd_int) pd_int (nomark _)) (pdw_and1 (pdt_cmp dop_lt (pd_var (pv 2)) pd_int (nomark _))))) (pds_one (pd_set (i := 5) S.nd rfl (by first | exact Or.inl rfl | exact Or.inr rfl) (pd_op dop_add pd_int (pd_op dop_mod (pd_op dop_div (pd_var (pv 4)) pd_int) pd_int)))) pds_nil)
    (pds_cons (pd_set (i := 6) S.nd rfl (by first | exact Or.inl rfl | exact Or.inr rfl) (pd_call d__law_word (hr.mono (by decide)) rfl rfl (pda_cons (pd_call d__law_mixed (hr.mono (by decide)) rfl rfl (pda_cons (pd_var (pv 3)) (pda_cons pd_int pda_nil))) (pda_cons (pd_var (pv 5)) pda_nil))))
    (pds_cons (pd_ifS (pdt_cmp (dop_eq hr.units) (pd_op dop_mod (pd_op dop_div (pd_var (pv 4)) pd_int) pd_int) pd_int (nomark _)) (pds_one (pd_set (i := 6) S.nd rfl (by first | exact Or.inl rfl | exact Or.inr rfl) (pd_op dop_add (pd_cutS (pd_var (pv 6)) pdo_none (pdo_some (pd_neg pd_int))) (pd_ix pd_str (pd_op dop_mod (pd_op dop_div (pd_var (pv 4)) pd_int) pd_int) (fun _ _ => rfl))))) pds_nil)
    (pds_cons (pd_set (i := 2) S.nd rfl (by first | exact Or.inl rfl | exact Or.inr rfl) (pd_op dop_add (pd_var (pv 2)) (pd_var (pv 5))))
    (pds_one (pd_app (i := 1) (pv 1) (pd_var (pv 6)))))))))))
    (pds_one (pd_retO (pv 1))))))
theorem sc__law_cost : FnScope ["_law_parts_here", "_law_wide", "_law_i", "_law_j", "_law_length", "_law_cost_here", "_law_last"] ["_law_parts_here", "_law_wide", "_law_i", "_law_j"] (defScope (top 11)) := ⟨rfl, rfl, rfl, by decide +kernel, rfl, by decide +kernel, by decide +kernel⟩
theorem d__law_cost {f : Addr} {fd : FuncData} (F0 : Fun K "_law_cost" "_law_cost" (top 11) f fd) (hm : mg "_law_cost" = some (.ref f)) (z_len : mg "len" = none) (z_int : mg "int" = none) : Def P w K mg base 1 "_law_cost" 4 F__law_cost := by
  have S := sc__law_cost
  refine def_of (N := ["_law_parts_here", "_law_wide", "_law_i", "_law_j", "_law_length", "_law_cost_here", "_law_last"]) (ps := ["_law_parts_here", "_law_wide", "_law_i", "_law_j"]) (k := 0) (g := g__law_cost) F0 S hm (F0.binds fun _ _ _ _ _ _ us hl => match us, hl with | [_, _, _, _], _ => rfl) fun cdv A outer s H E hr => ?_
  unfold g__law_cost
  exact (pds_cons (pd_set (i := 4) S.nd rfl (by first | exact Or.inl rfl | exact Or.inr rfl) (pd_callB dcall_len rfl z_len PySem.boot_len (pda_cons (pd_meth PySem.F.slot_str_join PySem.F.type_str_join dmt_join pd_str (pda_cons (pd_cutS (pd_var (pv 0)) (pdo_some (pd_var (pv 2))) (pdo_some (pd_var (pv 3)))) pda_nil)) pda_nil)))
    (pds_cons (pd_ifS (pdt_cmp dop_gt (pd_var (pv 4)) (pd_var (pv 1)) (nomark _)) (pds_one (pd_ret pd_non)) pds_nil)
    (pds_cons (pd_set (i := 5) S.nd rfl (by first | exact Or.inl rfl | exact Or.inr rfl) (pd_op dop_pow (pd_op dop_sub (pd_var (pv 1)) (pd_var (pv 4))) pd_int))
    (pds_cons (pd_set (i := 6) S.nd rfl (by first | exact Or.inl rfl | exact Or.inr rfl) (pd_ix (pd_ix (pd_var (pv 0)) (pd_op dop_sub (pd_var (pv 3)) pd_int) (fun _ _ => rfl)) (pd_neg pd_int) (fun _ _ => rfl)))
    (pds_cons (pd_ifS (PDW.t (pdw_or (pdt_cmp (dop_eq hr.units) (pd_var (pv 3)) (pd_callB dcall_len rfl z_len PySem.boot_len (pda_cons (pd_var (pv 0)) pda_nil)) (nomark _)) (pdw_or1 (pdt_cmp dop_inS (pd_var (pv 6)) pd_str rfl)))) (pds_one (pd_ret (pd_var (pv 5)))) pds_nil)
    (pds_one (pd_ret (pd_op dop_add (pd_var (pv 5)) (pd_ix (pd_lst (pda_cons pd_int (pda_cons pd_int pda_nil))) (pd_callTy dcall_intS rfl z_int PyProof.Rows.boot_int (pda_cons (pd_cmp dop_inS (pd_var (pv 6)) pd_str rfl) pda_nil)) (fun _ _ => rfl))))))))))
theorem sc__law_next : FnScope ["_law_parts_here", "_law_wide", "_law_ahead", "_law_due", "_law_j", "_law_least", "_law_i", "_law_cost_here"] ["_law_parts_here", "_law_wide", "_law_ahead"] (defScope (top 12)) := ⟨rfl, rfl, rfl, by decide +kernel, rfl, by decide +kernel, by decide +kernel⟩
theorem d__law_next {f : Addr} {fd : FuncData} (F0 : Fun K "_law_next" "_law_next" (top 12) f fd) (hm : mg "_law_next" = some (.ref f)) (d__law_cost : Def P w K mg base 1 "_law_cost" 4 F__law_cost) (z_max : mg "max" = none) (z_range : mg "range" = none) (z_len : mg "len" = none) : DefF P w K mg base 2 "_law_next" 3 F__law_next := by
  have S := sc__law_next
  refine deff_of (N := ["_law_parts_here", "_law_wide", "_law_ahead", "_law_due", "_law_j", "_law_least", "_law_i", "_law_cost_here"]) (ps := ["_law_parts_here", "_law_wide", "_law_ahead"]) (k := 1) (g := g__law_next) F0 S hm (F0.binds fun _ _ _ _ _ _ us hl => match us, hl with | [_, _, _], _ => rfl) fun cdv A outer s H E hr => ?_
  unfold g__law_next b__law_next_1 b__law_next_0
  exact (pdsf_cons (pd_newL (i := 3) S.nd rfl (by first | exact Or.inl rfl | exact Or.inr rfl) (pdn_lst (pda_cons pd_non pda_nil)))
    (pdsf_cons (pd_forI PassesOwn.never rfl (pdi_rng2 rfl z_range (pda_cons pd_int (pda_cons (pd_op dop_add (pd_callB dcall_len rfl z_len PySem.boot_len (pda_cons (pd_var (pv 0)) pda_nil)) pd_int) pda_nil))) (pdg_name (pg_name (i := 4) S.nd rfl (by first | exact Or.inl rfl | exact Or.inr rfl))) (pds_cons (pd_set (i := 5) S.nd rfl (by first | exact Or.inl rfl | exact Or.inr rfl) pd_non)
    (pds_cons (pd_forI PassesOwn.never rfl (pdi_rng2 rfl z_range (pda_cons (pd_callB (dcall_max rfl) rfl z_max PyProof.Rows.boot_max (pda_cons pd_int (pda_cons (pd_op dop_sub (pd_var (pv 4)) (pd_var (pv 1))) pda_nil))) (pda_cons (pd_var (pv 4)) pda_nil))) (pdg_name (pg_name (i := 6) S.nd rfl (by first | exact Or.inl rfl | exact Or.inr rfl))) (pds_cons (pd_set (i := 7) S.nd rfl (by first | exact Or.inl rfl | exact Or.inr rfl) (pd_call d__law_cost (hr.mono (by decide)) rfl rfl (pda_cons (pd_var (pv 0)) (pda_cons (pd_var (pv 1)) (pda_cons (pd_var (pv 6)) (pda_cons (pd_var (pv 4)) pda_nil))))))
    (pds_one (pd_ifS (PDW.t (pdw_and (pdt_cmp dop_isnot (pd_ix (pd_var (pv 2)) (pd_var (pv 6)) (fun _ _ => rfl)) pd_non (nomark _)) (pdw_and (pdt_cmp dop_isnot (pd_var (pv 7)) pd_non (nomark _)) (pdw_and1 (PDW.t (pdw_or (pdt_cmp dop_is (pd_var (pv 5)) pd_non (nomark _)) (pdw_or1 (pdt_cmp dop_lt (pd_op dop_add (pd_ix (pd_var (pv 2)) (pd_var (pv 6)) (fun _ _ => rfl)) (pd_var (pv 7))) (pd_var (pv 5)) (nomark _))))))))) (pds_one (pd_set (i := 5) S.nd rfl (by first | exact Or.inl rfl | exact Or.inr rfl) (pd_op dop_add (pd_ix (pd_var (pv 2)) (pd_var (pv 6)) (fun _ _ => rfl)) (pd_var (pv 7))))) pds_nil))))
    (pds_one (pd_app (i := 3) (pv 3) (pd_var (pv 5)))))))
    (pdsf_retO (pv 3))))
theorem sc__law_whole : FnScope ["_law_found"] ["_law_found"] (defScope (top 13)) := ⟨rfl, rfl, rfl, by decide +kernel, rfl, by decide +kernel, by decide +kernel⟩
theorem d__law_whole {f : Addr} {fd : FuncData} (F0 : Fun K "_law_whole" "_law_whole" (top 13) f fd) (hm : mg "_law_whole" = some (.ref f)) (z_isinstance : mg "isinstance" = none) (z_int : mg "int" = none) (z_bool : mg "bool" = none) : Def P w K mg base 1 "_law_whole" 1 F__law_whole := by
  have S := sc__law_whole
  refine def_of (N := ["_law_found"]) (ps := ["_law_found"]) (k := 0) (g := g__law_whole) F0 S hm (F0.binds fun _ _ _ _ _ _ us hl => match us, hl with | [_], _ => rfl) fun cdv A outer s H E hr => ?_
  unfold g__law_whole
  exact (pds_one (pd_ret (pd_or (pd_cmp dop_is (pd_var (pv 0)) pd_non (nomark _)) (pd_one (pd_and (pd_isinst rfl (kit_int _) rfl z_isinstance rfl z_int PyProof.Rows.boot_int (pd_var (pv 0))) (pd_one (pd_not (pd_isinst rfl (kit_bool _) rfl z_isinstance rfl z_bool PyProof.Rows.boot_bool (pd_var (pv 0))))))))))
theorem sc_law : FnScope ["_law_script", "_law_parts_here", "_law_longest", "_law_wide", "_law_most", "_law_due", "_law_k", "_law_found", "_law_some"] ["_law_script"] (defScope (top 14)) := ⟨rfl, rfl, rfl, by decide +kernel, rfl, by decide +kernel, by decide +kernel⟩
theorem fn_law {f : Addr} {fd : FuncData} (F0 : Fun K "law" "law" (top 14) f fd) (d__law_cell_at : Def P w K mg base 1 "_law_cell_at" 2 F__law_cell_at) (d__law_parts : Def P w K mg base 2 "_law_parts" 1 F__law_parts) (d__law_next : DefF P w K mg base 2 "_law_next" 3 F__law_next) (d__law_whole : Def P w K mg base 1 "_law_whole" 1 F__law_whole) (z_len : mg "len" = none) (z_max : mg "max" = none) (z_range : mg "range" = none) (z_isinstance : mg "isinstance" = none) (z_list : mg "list" = none) (z_all : mg "all" = none) (ds_parting_table : SL.DefS P w K mg base 3 "parting_table" 3 FS_parting_table) : FnOk P w K mg base CX0 4 f fd ["_law_script"] (spD K 1 F_law) := by
  have S := sc_law
  refine SL.fn_toD (SL.fn_ofS (N := ["_law_script", "_law_parts_here", "_law_longest", "_law_wide", "_law_most", "_law_due", "_law_k", "_law_found", "_law_some"]) (ps := ["_law_script"]) (k := 3) (g := g_law) F0 S fun cdv A outer s H E hr => ?_)
  unfold g_law b_law_1 b_law_0
  exact (sss_cons (ss_set (i := 1) S.nd rfl (by first | exact Or.inl rfl | exact Or.inr rfl) (sx_pure (pd_call d__law_parts (hr.mono (by decide)) rfl rfl (pda_cons (pd_op dop_add (pd_lst (pda_cons (pd_call d__law_cell_at (hr.mono (by decide)) rfl rfl (pda_cons (pd_var (pv 0)) (pda_cons pd_int pda_nil))) pda_nil)) (pd_cutS (pd_var (pv 0)) (pdo_some pd_int) (pdo_some pd_int))) pda_nil))))
    (sss_cons (ss_set (i := 2) S.nd rfl (by first | exact Or.inl rfl | exact Or.inr rfl) (sx_pure (pd_callB (dcall_maxM rfl) rfl z_max PyProof.Rows.boot_max (pda_cons (pd_compG (fr := []) (tn := ["_law_part"]) rfl rfl (by decide +kernel) (by rfl) (fun _ _ h => h) (hhas_of (by rfl)) fr_nil (by decide +kernel) (pdi_any (pd_var (pv 1))) (fun C s3 H3 fp => (pdg_name (pg_name (i := 0) (show (["_law_part"] : List Str).Nodup from by decide +kernel) rfl (by first | exact Or.inl rfl | exact Or.inr rfl)))) (fun C s3 H3 fp => pdts_nil) (fun C s3 H3 fp => (pd_callB dcall_len rfl z_len PySem.boot_len (pda_cons (pd_var (pv 0)) pda_nil)))) pda_nil))))
    (sss_cons (ss_set (i := 3) S.nd rfl (by first | exact Or.inl rfl | exact Or.inr rfl) (sx_pure (pd_op dop_add pd_int (pd_op dop_mod (pd_call d__law_cell_at (hr.mono (by decide)) rfl rfl (pda_cons (pd_var (pv 0)) (pda_cons pd_int pda_nil))) pd_int))))
    (sss_cons (ss_if (st_test (pdt_cmp dop_gt (pd_op dop_mod (pd_call d__law_cell_at (hr.mono (by decide)) rfl rfl (pda_cons (pd_var (pv 0)) (pda_cons pd_int pda_nil))) pd_int) pd_int (nomark _))) (sss_one (ss_set (i := 3) S.nd rfl (by first | exact Or.inl rfl | exact Or.inr rfl) (sx_pure (pd_op dop_add (pd_var (pv 2)) (pd_op dop_mod (pd_call d__law_cell_at (hr.mono (by decide)) rfl rfl (pda_cons (pd_var (pv 0)) (pda_cons pd_int pda_nil))) pd_int))))) sss_nil)
    (sss_cons (ss_set (i := 4) S.nd rfl (by first | exact Or.inl rfl | exact Or.inr rfl) (sx_pure (pd_op dop_add pd_int (pd_op dop_mod (pd_call d__law_cell_at (hr.mono (by decide)) rfl rfl (pda_cons (pd_var (pv 0)) (pda_cons pd_int pda_nil))) pd_int))))
    (sss_cons (ss_set (i := 5) S.nd rfl (by first | exact Or.inl rfl | exact Or.inr rfl) (sx_lst (sa_cons (sx_new (pdn_cat (pd_lst (pda_cons pd_int pda_nil)) (pd_ofN (pdn_rep (pdn_lst (pda_cons pd_non pda_nil)) (pd_callB dcall_len rfl z_len PySem.boot_len (pda_cons (pd_var (pv 1)) pda_nil)))))) sa_nil)))
    (sss_cons (ss_for PassesOwn.never rfl (pdi_rng1 rfl z_range (pda_cons (pd_var (pv 4)) pda_nil)) (sg_name (pg_name (i := 6) S.nd rfl (by first | exact Or.inl rfl | exact Or.inr rfl))) (sss_one (ss_expr (sx_app (sx_var (pv 5)) (sx_newF (pdf_call d__law_next (hr.mono (by decide)) rfl rfl (pda_cons (pd_var (pv 1)) (pda_cons (pd_var (pv 3)) (pda_cons (pd_ix (pd_var (pv 5)) (pd_var (pv 6)) (fun _ _ => rfl)) pda_nil)))))))))
    (sss_cons (ss_set (i := 7) S.nd rfl (by first | exact Or.inl rfl | exact Or.inr rfl) (sx_call ds_parting_table (hr.mono (by decide)) rfl rfl (sa_cons (sx_pure (pd_meth PySem.F.slot_str_join PySem.F.type_str_join dmt_join pd_str (pda_cons (pd_var (pv 1)) pda_nil))) (sa_cons (sx_var (pv 3)) (sa_cons (sx_var (pv 4)) sa_nil)))))
    (sss_cons (ss_if (st_test (PDW.t (pdw_or (pdt_not (pdt_val (pd_isinst rfl (kit_list _) rfl z_isinstance rfl z_list PyProof.Rows.boot_list (pd_var (pv 7))))) (pdw_or1 (pdt_cmp (dop_ne hr.units) (pd_var (pv 7)) (pd_var (pv 5)) (nomark _)))))) (sss_one (ss_ret (sx_pure pd_bl))) sss_nil)
    (sss_cons (ss_forT (i := 8) PassesOwn.never rfl (sx_var (pv 7)) (pg_name (i := 8) S.nd rfl (by first | exact Or.inl rfl | exact Or.inr rfl)) (sss_one (ss_if (st_test (PDW.t (pdw_or (pdt_not (pdt_val (pd_isinst rfl (kit_list _) rfl z_isinstance rfl z_list PyProof.Rows.boot_list (pd_var (pv 8))))) (pdw_or1 (pdt_not (pdt_val (pd_callB (dcall_all rfl) rfl z_all PyProof.Rows.boot_all (pda_cons (pd_compG (fr := []) (tn := ["_law_one"]) rfl rfl (by decide +kernel) (by rfl) (fun _ _ h => h) (hhas_of (by rfl)) fr_nil (by decide +kernel) (pdi_any (pd_var (pv 8))) (fun C s3 H3 fp => (pdg_name (pg_name (i := 0) (show (["_law_one"] : List Str).Nodup from by decide +kernel) rfl (by first | exact Or.inl rfl | exact Or.inr rfl)))) (fun C s3 H3 fp => pdts_nil) (fun C s3 H3 fp => (pd_call d__law_whole (hr.mono (by decide)) rfl rfl (pda_cons (pd_var (pv 0)) pda_nil)))) pda_nil)))))))) (sss_one (ss_ret (sx_pure pd_bl))) sss_nil)))
    (sss_cons (ss_setX (sx_ix (sx_var (pv 7)) (sx_pure pd_int) (fun _ _ => rfl)) (sx_pure pd_int) (sx_pure pd_int))
    (sss_cons (ss_expr (sx_app (sx_ix (sx_var (pv 7)) (sx_var (pv 4)) (fun _ _ => rfl)) (sx_pure pd_non)))
    (sss_one (ss_ret (sx_cmp (dop_eq hr.units) (sx_call ds_parting_table (hr.mono (by decide)) rfl rfl (sa_cons (sx_pure (pd_meth PySem.F.slot_str_join PySem.F.type_str_join dmt_join pd_str (pda_cons (pd_var (pv 1)) pda_nil))) (sa_cons (sx_var (pv 3)) (sa_cons (sx_var (pv 4)) sa_nil)))) (sx_var (pv 5)) (nomark _))))))))))))))))
end
theorem all_mk {l : PySem.W.OpenLaw} {w : World} {K : PySem.W.Frag} {h : Heap} {mg : Str → Option Value} {fa f0 f1 f2 f3 f4 f5 f6 f7 f8 f9 f10 f11 f12 : Addr} (X : K.In h) (G : h.Ns mainGlobals mg) (hfa : mg "law" = some (.ref fa))
    {od0 an0 od1 an1 od2 an2 od3 an3 od4 an4 od5 an5 od6 an6 od7 an7 od8 an8 od9 an9 od10 an10 od11 an11 od12 an12 : Option Addr} {sl0 sl1 sl2 sl3 sl4 sl5 sl6 sl7 sl8 sl9 sl10 sl11 sl12 : Array (Option Value)} {oc0 kV0 dc0 pm0 cd0 ct0 oc1 kV1 dc1 pm1 cd1 ct1 oc2 kV2 dc2 pm2 cd2 ct2 oc3 kV3 dc3 pm3 cd3 ct3 oc4 kV4 dc4 pm4 cd4 ct4 oc5 kV5 dc5 pm5 cd5 ct5 oc6 kV6 dc6 pm6 cd6 ct6 oc7 kV7 dc7 pm7 cd7 ct7 oc8 kV8 dc8 pm8 cd8 ct8 oc9 kV9 dc9 pm9 cd9 ct9 oc10 kV10 dc10 pm10 cd10 ct10 oc11 kV11 dc11 pm11 cd11 ct11 oc12 kV12 dc12 pm12 cd12 ct12 : Value}
    (a0 : PySem.W.nsIn K mainGlobals "row_price" = some (some (.ref f0))) (l0 : K.lookup f0 = some ⟨oc0, od0, .func (PySem.W.fnOf "row_price" "row_price" (defArgs (top 2)) (defBody (top 2)) (defScope (top 2)) .none kV0 dc0 pm0 an0 cd0 ct0), sl0⟩) (c0 : PySem.W.codeIn K cd0 "row_price" = true) (k0 : PySem.W.keepIn K (.ref f0) = true)
    (a1 : PySem.W.nsIn K mainGlobals "break_price" = some (some (.ref f1))) (l1 : K.lookup f1 = some ⟨oc1, od1, .func (PySem.W.fnOf "break_price" "break_price" (defArgs (top 3)) (defBody (top 3)) (defScope (top 3)) .none kV1 dc1 pm1 an1 cd1 ct1), sl1⟩) (c1 : PySem.W.codeIn K cd1 "break_price" = true) (k1 : PySem.W.keepIn K (.ref f1) = true)
    (a2 : PySem.W.nsIn K mainGlobals "pieces_of" = some (some (.ref f2))) (l2 : K.lookup f2 = some ⟨oc2, od2, .func (PySem.W.fnOf "pieces_of" "pieces_of" (defArgs (top 4)) (defBody (top 4)) (defScope (top 4)) .none kV2 dc2 pm2 an2 cd2 ct2), sl2⟩) (c2 : PySem.W.codeIn K cd2 "pieces_of" = true) (k2 : PySem.W.keepIn K (.ref f2) = true)
    (a3 : PySem.W.nsIn K mainGlobals "list_below" = some (some (.ref f3))) (l3 : K.lookup f3 = some ⟨oc3, od3, .func (PySem.W.fnOf "list_below" "list_below" (defArgs (top 5)) (defBody (top 5)) (defScope (top 5)) .none kV3 dc3 pm3 an3 cd3 ct3), sl3⟩) (c3 : PySem.W.codeIn K cd3 "list_below" = true) (k3 : PySem.W.keepIn K (.ref f3) = true)
    (a4 : PySem.W.nsIn K mainGlobals "parting_table" = some (some (.ref f4))) (l4 : K.lookup f4 = some ⟨oc4, od4, .func (PySem.W.fnOf "parting_table" "parting_table" (defArgs (top 1)) (defBody (top 1)) (defScope (top 1)) .none kV4 dc4 pm4 an4 cd4 ct4), sl4⟩) (c4 : PySem.W.codeIn K cd4 "parting_table" = true) (k4 : PySem.W.keepIn K (.ref f4) = true)
    (a5 : PySem.W.nsIn K mainGlobals "_law_cell_at" = some (some (.ref f5))) (l5 : K.lookup f5 = some ⟨oc5, od5, .func (PySem.W.fnOf "_law_cell_at" "_law_cell_at" (defArgs (top 7)) (defBody (top 7)) (defScope (top 7)) .none kV5 dc5 pm5 an5 cd5 ct5), sl5⟩) (c5 : PySem.W.codeIn K cd5 "_law_cell_at" = true) (k5 : PySem.W.keepIn K (.ref f5) = true)
    (a6 : PySem.W.nsIn K mainGlobals "_law_mixed" = some (some (.ref f6))) (l6 : K.lookup f6 = some ⟨oc6, od6, .func (PySem.W.fnOf "_law_mixed" "_law_mixed" (defArgs (top 8)) (defBody (top 8)) (defScope (top 8)) .none kV6 dc6 pm6 an6 cd6 ct6), sl6⟩) (c6 : PySem.W.codeIn K cd6 "_law_mixed" = true) (k6 : PySem.W.keepIn K (.ref f6) = true)
    (a7 : PySem.W.nsIn K mainGlobals "_law_word" = some (some (.ref f7))) (l7 : K.lookup f7 = some ⟨oc7, od7, .func (PySem.W.fnOf "_law_word" "_law_word" (defArgs (top 9)) (defBody (top 9)) (defScope (top 9)) .none kV7 dc7 pm7 an7 cd7 ct7), sl7⟩) (c7 : PySem.W.codeIn K cd7 "_law_word" = true) (k7 : PySem.W.keepIn K (.ref f7) = true)
    (a8 : PySem.W.nsIn K mainGlobals "_law_parts" = some (some (.ref f8))) (l8 : K.lookup f8 = some ⟨oc8, od8, .func (PySem.W.fnOf "_law_parts" "_law_parts" (defArgs (top 10)) (defBody (top 10)) (defScope (top 10)) .none kV8 dc8 pm8 an8 cd8 ct8), sl8⟩) (c8 : PySem.W.codeIn K cd8 "_law_parts" = true) (k8 : PySem.W.keepIn K (.ref f8) = true)
    (a9 : PySem.W.nsIn K mainGlobals "_law_cost" = some (some (.ref f9))) (l9 : K.lookup f9 = some ⟨oc9, od9, .func (PySem.W.fnOf "_law_cost" "_law_cost" (defArgs (top 11)) (defBody (top 11)) (defScope (top 11)) .none kV9 dc9 pm9 an9 cd9 ct9), sl9⟩) (c9 : PySem.W.codeIn K cd9 "_law_cost" = true) (k9 : PySem.W.keepIn K (.ref f9) = true)
    (a10 : PySem.W.nsIn K mainGlobals "_law_next" = some (some (.ref f10))) (l10 : K.lookup f10 = some ⟨oc10, od10, .func (PySem.W.fnOf "_law_next" "_law_next" (defArgs (top 12)) (defBody (top 12)) (defScope (top 12)) .none kV10 dc10 pm10 an10 cd10 ct10), sl10⟩) (c10 : PySem.W.codeIn K cd10 "_law_next" = true) (k10 : PySem.W.keepIn K (.ref f10) = true)
    (a11 : PySem.W.nsIn K mainGlobals "_law_whole" = some (some (.ref f11))) (l11 : K.lookup f11 = some ⟨oc11, od11, .func (PySem.W.fnOf "_law_whole" "_law_whole" (defArgs (top 13)) (defBody (top 13)) (defScope (top 13)) .none kV11 dc11 pm11 an11 cd11 ct11), sl11⟩) (c11 : PySem.W.codeIn K cd11 "_law_whole" = true) (k11 : PySem.W.keepIn K (.ref f11) = true)
    (a12 : PySem.W.nsIn K mainGlobals "law" = some (some (.ref f12))) (l12 : K.lookup f12 = some ⟨oc12, od12, .func (PySem.W.fnOf "law" "law" (defArgs (top 14)) (defBody (top 14)) (defScope (top 14)) .none kV12 dc12 pm12 an12 cd12 ct12), sl12⟩) (c12 : PySem.W.codeIn K cd12 "law" = true) (k12 : PySem.W.keepIn K (.ref f12) = true)
    (z_len : PySem.W.nsIn K mainGlobals "len" = some none)
    (z_range : PySem.W.nsIn K mainGlobals "range" = some none)
    (z_int : PySem.W.nsIn K mainGlobals "int" = some none)
    (z_max : PySem.W.nsIn K mainGlobals "max" = some none)
    (z_isinstance : PySem.W.nsIn K mainGlobals "isinstance" = some none)
    (z_bool : PySem.W.nsIn K mainGlobals "bool" = some none)
    (z_list : PySem.W.nsIn K mainGlobals "list" = some none)
    (z_all : PySem.W.nsIn K mainGlobals "all" = some none) :
    ∃ fd : FuncData, (∀ (s : Shared) (v : Value), BindsTo s fd ⟨[v], []⟩ [("_law_script", v)]) ∧ ∀ base : Heap, K.In base → base.Ns mainGlobals mg → FnOk l.prog w K mg base CX0 4 fa fd ["_law_script"] (spD K 1 F_law) := by
  have e := hfa.symm.trans (PySem.W.mg_of X G a12)
  cases e
  have zz_len := PySem.W.mg_none_of X G z_len
  have zz_range := PySem.W.mg_none_of X G z_range
  have zz_int := PySem.W.mg_none_of X G z_int
  have zz_max := PySem.W.mg_none_of X G z_max
  have zz_isinstance := PySem.W.mg_none_of X G z_isinstance
  have zz_bool := PySem.W.mg_none_of X G z_bool
  have zz_list := PySem.W.mg_none_of X G z_list
  have zz_all := PySem.W.mg_none_of X G z_all
  refine ⟨PySem.W.fnOf "law" "law" (defArgs (top 14)) (defBody (top 14)) (defScope (top 14)) .none kV12 dc12 pm12 an12 cd12 ct12, fun s v => .of_eq rfl, fun base _ _ => ?_⟩
  have D0 : Def l.prog w K mg base 1 "row_price" 2 F_row_price := d_row_price (fun_mk l0 c0 k0) (PySem.W.mg_of X G a0) zz_len
  have D1 : Def l.prog w K mg base 1 "break_price" 1 F_break_price := d_break_price (fun_mk l1 c1 k1) (PySem.W.mg_of X G a1)
  have D2 : Def l.prog w K mg base 2 "pieces_of" 2 F_pieces_of := d_pieces_of (fun_mk l2 c2 k2) (PySem.W.mg_of X G a2) D0 D1 zz_len zz_range
  have D3 : DefF l.prog w K mg base 1 "list_below" 2 F_list_below := d_list_below (fun_mk l3 c3 k3) (PySem.W.mg_of X G a3) zz_len
  have DS4 : SL.DefS l.prog w K mg base 3 "parting_table" 3 FS_parting_table := ds_parting_table (fun_mk l4 c4 k4) (PySem.W.mg_of X G a4) D2 D3 zz_len zz_range
  have D4 : Def l.prog w K mg base 3 "parting_table" 3 F_parting_table := DS4.toD
  have D5 : Def l.prog w K mg base 1 "_law_cell_at" 2 F__law_cell_at := d__law_cell_at (fun_mk l5 c5 k5) (PySem.W.mg_of X G a5) zz_len
  have D6 : Def l.prog w K mg base 1 "_law_mixed" 2 F__law_mixed := d__law_mixed (fun_mk l6 c6 k6) (PySem.W.mg_of X G a6)
  have D7 : Def l.prog w K mg base 1 "_law_word" 2 F__law_word := d__law_word (fun_mk l7 c7 k7) (PySem.W.mg_of X G a7) zz_range
  have D8 : Def l.prog w K mg base 2 "_law_parts" 1 F__law_parts := d__law_parts (fun_mk l8 c8 k8) (PySem.W.mg_of X G a8) D6 D7
  have D9 : Def l.prog w K mg base 1 "_law_cost" 4 F__law_cost := d__law_cost (fun_mk l9 c9 k9) (PySem.W.mg_of X G a9) zz_len zz_int
  have D10 : DefF l.prog w K mg base 2 "_law_next" 3 F__law_next := d__law_next (fun_mk l10 c10 k10) (PySem.W.mg_of X G a10) D9 zz_max zz_range zz_len
  have D11 : Def l.prog w K mg base 1 "_law_whole" 1 F__law_whole := d__law_whole (fun_mk l11 c11 k11) (PySem.W.mg_of X G a11) zz_isinstance zz_int zz_bool
  exact fn_law (fun_mk l12 c12 k12) D5 D8 D10 D11 zz_len zz_max zz_range zz_isinstance zz_list zz_all DS4
end K48
def PySem.W.Fast.tw10899727580785433102 : Nat := 0
def PySem.W.Fast.tw8239881981748696942 : Nat := 0
def PySem.W.Fast.tw11629570310495367978 : Nat := 0
def PySem.W.Fast.tw12425287339124166232 : Nat := 0
def PySem.W.Fast.tw1320007864858891283 : Nat := 0
open PySem PySem.W PyProof.Rows
set_option maxRecDepth 100000 in
set_option maxHeartbeats 0 in
theorem PySem.Challenge.cw_cuetimer_k48_the_table_holds : PySem.Challenge.rw_cuetimer_k48_the_table.Holds := by
  w_on; o_law; k_head; (case hw => w_witness2)
  k_fill
  refine DL.walk (l := PySem.Challenge.rw_cuetimer_k48_the_table) (k := 4) (F := K48.F_law) (x := "_law_script") rfl rfl K48.law_true ⟨rfl, by decide, by decide⟩ (fun w h Y => PySem.W.kIn_of Y) ?T
  case T =>
    intro w mg fa h KX G hmg
    refine' K48.all_mk KX G hmg ?a0 ?l0 ?c0 ?k0 ?a1 ?l1 ?c1 ?k1 ?a2 ?l2 ?c2 ?k2 ?a3 ?l3 ?c3 ?k3 ?a4 ?l4 ?c4 ?k4 ?a5 ?l5 ?c5 ?k5 ?a6 ?l6 ?c6 ?k6 ?a7 ?l7 ?c7 ?k7 ?a8 ?l8 ?c8 ?k8 ?a9 ?l9 ?c9 ?k9 ?a10 ?l10 ?c10 ?k10 ?a11 ?l11 ?c11 ?k11 ?a12 ?l12 ?c12 ?k12 ?z_len ?z_range ?z_int ?z_max ?z_isinstance ?z_bool ?z_list ?z_all
    (case a0 => k_is)
    (case l0 => k_is)
    (case c0 => k_is)
    (case k0 => k_is)
    (case a1 => k_is)
    (case l1 => k_is)
    (case c1 => k_is)
    (case k1 => k_is)
    (case a2 => k_is)
    (case l2 => k_is)
    (case c2 => k_is)
    (case k2 => k_is)
    (case a3 => k_is)
    (case l3 => k_is)
    (case c3 => k_is)
    (case k3 => k_is)
    (case a4 => k_is)
    (case l4 => k_is)
    (case c4 => k_is)
    (case k4 => k_is)
    (case a5 => k_is)
    (case l5 => k_is)
    (case c5 => k_is)
    (case k5 => k_is)
    (case a6 => k_is)
    (case l6 => k_is)
    (case c6 => k_is)
    (case k6 => k_is)
    (case a7 => k_is)
    (case l7 => k_is)
    (case c7 => k_is)
    (case k7 => k_is)
    (case a8 => k_is)
    (case l8 => k_is)
    (case c8 => k_is)
    (case k8 => k_is)
    (case a9 => k_is)
    (case l9 => k_is)
    (case c9 => k_is)
    (case k9 => k_is)
    (case a10 => k_is)
    (case l10 => k_is)
    (case c10 => k_is)
    (case k10 => k_is)
    (case a11 => k_is)
    (case l11 => k_is)
    (case c11 => k_is)
    (case k11 => k_is)
    (case a12 => k_is)
    (case l12 => k_is)
    (case c12 => k_is)
    (case k12 => k_is)
    (case z_len => k_is)
    (case z_range => k_is)
    (case z_int => k_is)
    (case z_max => k_is)
    (case z_isinstance => k_is)
    (case z_bool => k_is)
    (case z_list => k_is)
    (case z_all => k_is)
#print axioms PySem.Challenge.cw_cuetimer_k48_the_table_holds
