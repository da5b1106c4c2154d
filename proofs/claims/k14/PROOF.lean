import PyProof.Rows.All
import Wide.All
import OpenK.AllK
import Wide.FinOn
import Lean
import PyProof.EqAt
import PyProof.EqKinds
import PyProof.TupleCall
import PySem.Challenge.RW_cuetimer_k14_whole_clocks
set_option Elab.async false
set_option linter.all false
set_option maxRecDepth 100000
set_option maxHeartbeats 4000000
/-! THE HAND LAYER, for ints, bools, texts, own classes, LISTS and tuples (index, slices, in, append, pop ..), calls, loops. Paste it whole ahead of your own text; what your proof does not reach may be deleted. -/
namespace L2
open PySem PySem.Spec PyProof.Rows

/-- a key: an int or a str -/
abbrev Key := Sum Int Str
def keyIs : Key → Value → Bool
  | .inl k, v => Value.isInt k v
  | .inr x, v => Value.isStrOf x v
def keyH (w : World) : Key → Int
  | .inl k => hashInt k
  | .inr x => hashStr w x
theorem keyIs_shape : ∀ {k : Key} {v : Value}, keyIs k v = true → (∃ i t, k = Sum.inl i ∧ v = Value.int i t) ∨ (∃ x t, k = Sum.inr x ∧ v = Value.str x t)
  | .inl i, v, h => by
    obtain ⟨t, e⟩ := Value.isInt_shape (k := i) (v := v) h
    exact .inl ⟨i, t, rfl, e⟩
  | .inr x, v, h => by
    obtain ⟨t, e⟩ := Value.isStrOf_shape (x := x) (v := v) h
    exact .inr ⟨x, t, rfl, e⟩
theorem key_ll (a b : Int) : decide ((Sum.inl a : Key) = Sum.inl b) = (a == b) := by
  by_cases e : a = b
  · subst e; simp
  · have h : ¬ (Sum.inl a : Key) = Sum.inl b := fun q => e (Sum.inl.inj q)
    rw [decide_eq_false h]
    exact (beq_eq_false_iff_ne.mpr e).symm
theorem key_rr (a b : Str) : decide ((Sum.inr a : Key) = Sum.inr b) = decide (a = b) := by
  by_cases e : a = b
  · subst e; simp
  · have h : ¬ (Sum.inr a : Key) = Sum.inr b := fun q => e (Sum.inr.inj q)
    rw [decide_eq_false h, decide_eq_false e]
theorem key_lr (a : Int) (b : Str) : decide ((Sum.inl a : Key) = Sum.inr b) = false := decide_eq_false (fun q => nomatch q)
theorem key_rl (a : Str) (b : Int) : decide ((Sum.inr a : Key) = Sum.inl b) = false := decide_eq_false (fun q => nomatch q)

def mixKind (prog : Program) (w : World) : PySem.KeyKind prog w Key where
  is := keyIs
  hash := keyH w
  inj := fun v a b ha hb => by
    rcases keyIs_shape ha with ⟨i, t, rfl, rfl⟩ | ⟨x, t, rfl, rfl⟩
    · rcases keyIs_shape hb with ⟨j, u, rfl, e⟩ | ⟨y, u, rfl, e⟩
      · injection e with e1 _; rw [e1]
      · exact nomatch e
    · rcases keyIs_shape hb with ⟨j, u, rfl, e⟩ | ⟨y, u, rfl, e⟩
      · exact nomatch e
      · injection e with e1 _; rw [e1]
  byValue := fun k v h => by
    rcases keyIs_shape h with ⟨i, t, rfl, rfl⟩ | ⟨x, t, rfl, rfl⟩ <;> rfl
  pyHash := fun hv h => by
    rcases keyIs_shape hv with ⟨i, t, rfl, rfl⟩ | ⟨x, t, rfl, rfl⟩
    · exact wpAny_pyHash_int h
    · exact wpAny_pyHash_str h
  eqBool := fun hu hv h => by
    rcases keyIs_shape hu with ⟨i, t, rfl, rfl⟩ | ⟨x, t, rfl, rfl⟩
    · rcases keyIs_shape hv with ⟨j, u, rfl, rfl⟩ | ⟨y, u, rfl, rfl⟩
      · rw [key_ll] at h; exact wpAny_eqBool_int h
      · rw [key_lr] at h; exact SeqAt.EqAt.int_str i t y u _ _ _ _ h
    · rcases keyIs_shape hv with ⟨j, u, rfl, rfl⟩ | ⟨y, u, rfl, rfl⟩
      · rw [key_rl] at h; exact SeqAt.EqAt.str_int x t j u _ _ _ _ h
      · rw [key_rr] at h; exact wpAny_eqBool_str h
  «strs» := fun k x t v h => by
    rcases keyIs_shape h with ⟨i, u, rfl, e⟩ | ⟨y, u, rfl, e⟩
    · exact nomatch e
    · injection e with e1 _
      subst e1
      cases v <;> rfl

end L2

namespace L2
open PySem PySem.Spec PyProof.Rows

/-- a value, without the heap -/
inductive V where
  | non | bl (b : Bool) | int (i : Int) | str (x : Str) | byt (b : Array UInt8) | flt (b : UInt64) | ref (a : Addr) | ty (n : String)
  deriving DecidableEq

def RelV : V → Value → Prop
  | .non, u => u = Value.none
  | .bl b, u => u = Value.bool b
  | .int i, u => ∃ t, u = Value.int i t
  | .str x, u => ∃ t, u = Value.str x t
  | .byt b, u => ∃ t, u = Value.bytes b t
  | .flt b, u => ∃ t, u = Value.float b t
  | .ref a, u => u = Value.ref a
  | .ty n, u => u = Value.type n

abbrev Vals : List V → List Value → Prop := Paired RelV
theorem Vals.length {xs : List V} {us : List Value} (r : Vals xs us) : xs.length = us.length := Paired.length r
theorem Vals.get : ∀ {xs : List V} {us : List Value} {i : Nat} {x : V}, Vals xs us → xs[i]? = some x → ∃ u, us[i]? = some u ∧ RelV x u
  | _, _, _, _, .nil, e => by simp at e
  | _, _, 0, _, .cons r _, e => by simp at e; subst e; exact ⟨_, rfl, r⟩
  | _, _, i + 1, x, .cons _ t, e => by
    obtain ⟨u, h1, h2⟩ := Vals.get (i := i) (x := x) t (by simpa using e)
    exact ⟨u, by simpa using h1, h2⟩
theorem Vals.set {x : V} {u : Value} (r : RelV x u) : ∀ {xs : List V} {us : List Value} (i : Nat), Vals xs us → Vals (xs.set i x) (us.set i u)
  | _, _, _, .nil => .nil
  | _, _, 0, .cons _ t => .cons r t
  | _, _, i + 1, .cons q t => .cons q (Vals.set r i t)
theorem Vals.append : ∀ {xs ys : List V} {us ws : List Value}, Vals xs us → Vals ys ws → Vals (xs ++ ys) (us ++ ws)
  | _, _, _, _, .nil, s => s
  | _, _, _, _, .cons r t, s => .cons r (Vals.append t s)
theorem Vals.take : ∀ {xs : List V} {us : List Value} (n : Nat), Vals xs us → Vals (xs.take n) (us.take n)
  | _, _, 0, _ => .nil
  | _, _, _ + 1, .nil => .nil
  | _, _, n + 1, .cons r t => .cons r (Vals.take n t)
theorem Vals.drop : ∀ {xs : List V} {us : List Value} (n : Nat), Vals xs us → Vals (xs.drop n) (us.drop n)
  | _, _, 0, r => r
  | _, _, _ + 1, .nil => .nil
  | _, _, n + 1, .cons _ t => Vals.drop n t
theorem Vals.none_of : ∀ {xs : List V} {us : List Value} {i : Nat}, Vals xs us → xs[i]? = none → us[i]? = none := fun {xs us i} r e => by
  have h1 := r.length
  have h2 : xs.length ≤ i := List.getElem?_eq_none_iff.mp e
  exact List.getElem?_eq_none_iff.mpr (by omega)

def RelO : Option V → Option Value → Prop
  | some v, some u => RelV v u
  | none, none => True
  | _, _ => False
def KV {κ : Type} : List (κ × V) → List (κ × Value) → Prop := Paired fun (p : κ × V) (q : κ × Value) => p.1 = q.1 ∧ RelV p.2 q.2

/-- a key of a dict (00_mix): an int or a text -/
def kV : Key → V
  | .inl i => .int i
  | .inr x => .str x

/-- what stands at a tracked address -/
inductive HO where
  /-- a list -/
  | lst (xs : List V)
  /-- a tuple (never changes) -/
  | tup (xs : List V)
  /-- a dict whose keys are ints and texts; one whose keys are tuples of ints and texts (the empty one is both) -/
  | dK (kvs : List (Key × V)) | dT (kvs : List (List Key × V))
  /-- a set of ints: its members, its size -/
  | set (S : Int → Bool) (n : Nat)
  /-- an instance of the class at C, its dict at dx, its attributes -/
  | ins (C dx : Addr) (fs : List (Str × V))
  /-- the dict of the instance at x -/
  | own (x : Addr)
  /-- the dict of an exception -/
  | xd (fs : List (Str × V))
  /-- a bound method, f of x -/
  | met (f x : Addr)
  /-- a range object lo, lo + 1, .. below hi -/
  | rng (lo hi : Int)
  /-- a thing that is known to the object (the script; a dict while a loop walks it): read, never written while it is so -/
  | frz (o : Obj) (u : HO)
  /-- a code object's table -/
  | tbl (ps : Array Value)
  /-- any other thing, by what is true of its one object (a def of one's own: SetO a S n := HO.ext fun h => ..) -/
  | ext (φ : Heap → Prop)

abbrev Hp := Addr → Option HO
def upd (H : Hp) (a : Addr) (o : HO) : Hp := fun b => if b = a then some o else H b
theorem upd_same {H : Hp} {a : Addr} {o : HO} : upd H a o a = some o := by unfold upd; rw [if_pos rfl]
theorem upd_ne {H : Hp} {a b : Addr} {o : HO} (h : b ≠ a) : upd H a o b = H b := by unfold upd; rw [if_neg h]
/-- two objects of different content stand apart -/
theorem ne_of {H : Hp} {a b : Addr} {o u : HO} (h : H a = some o) (h' : H b = some u) (d : o ≠ u) : a ≠ b := by
  intro e; subst e; rw [h] at h'; exact d (Option.some.inj h')
theorem ne_of_none {H : Hp} {a b : Addr} {o : HO} (h : H a = some o) (h' : H b = none) : a ≠ b := by
  intro e; subst e; rw [h] at h'; cases h'

section
variable (P : Program) (w : World)
def ObjOk (H : Hp) (h : Heap) (a : Addr) : HO → Prop
  | .lst xs => xs.length ≤ sizeLine ∧ ∃ (its : List Value) (n : Nat), Vals xs its ∧ h.get? a = some { cls := .type "list", data := .seq its.toArray n }
  | .tup xs => xs.length ≤ sizeLine ∧ ∃ its : List Value, Vals xs its ∧ IsTup h a its.toArray
  | .dK kvs => kvs.length ≤ sizeLine ∧ (a == sysModules) = false ∧ ∃ vs, KV kvs vs ∧ h.DictOf (mixKind P w) a vs
  | .dT kvs => kvs.length ≤ sizeLine ∧ (a == sysModules) = false ∧ ∃ xs : List (List Key × Addr × Value),
      Paired (fun (p : List Key × V) (q : List Key × Addr × Value) => p.1 = q.1 ∧ H q.2.1 = some (.tup (p.1.map kV)) ∧ RelV p.2 q.2.2) kvs xs ∧
      ∃ o es ep, h.get? a = some o ∧ o.ExactDict ∧ o.data = .dict es ep ∧ es.toList = xs.map (entryOfKey (tupleKind (mixKind P w))) ∧ (xs.map (·.1)).Nodup
  | .set S n => h.SetOf (intKind P w) a S n
  | .ins C dx fs => H dx = some (.own a) ∧ fs.length ≤ 1000 ∧ dx ≠ a ∧ h.get? a = some (PySem.W.instObj C dx) ∧
      ∃ mA, h.Ns1 dx mA ∧ (∀ f, RelO (fs.lookup f) (mA f)) ∧ PySem.Within mA (fs.map (·.1))
  | .own _ => ∃ o, h.get? a = some o
  | .xd fs => ∃ mA, h.Ns1 a mA ∧ ∀ f, RelO (fs.lookup f) (mA f)
  | .rng lo hi => ∃ t u v, h.get? a = some { cls := .type "range", data := .fields #[.int lo t, .int hi u, .int 1 v] }
  | .frz o u => h.get? a = some o ∧ ObjOk H h a u
  | .tbl ps => h.get? a = some { cls := .none, data := .fields ps }
  | .met f x => h.get? a = some (PySem.W.methodObj (.ref f) (.ref x))
  | .ext φ => φ h ∧ (∃ o, h.get? a = some o) ∧ ∀ h1 h2 : Heap, φ h1 → (∀ o, h1.get? a = some o → h2.get? a = some o) → φ h2
/-- the abstract heap is held -/
def HOk (H : Hp) (h : Heap) : Prop := ∀ a o, H a = some o → ObjOk P w H h a o
end

section
variable {P : Program} {w : World} {H H' : Hp} {h h' : Heap} {a : Addr} {o : HO}
theorem ObjOk.lt (x : ObjOk P w H h a o) : a < h.objs.size := by
  cases o with
  | lst xs => obtain ⟨_, _, _, _, e⟩ := x; exact Heap.lt_size e
  | tup xs => obtain ⟨_, _, _, p⟩ := x; exact p.lt
  | dK kvs => obtain ⟨_, _, _, _, o, _, _, e, _⟩ := x; exact Heap.lt_size e
  | dT kvs => obtain ⟨_, _, _, _, o, _, _, e, _⟩ := x; exact Heap.lt_size e
  | set S n => obtain ⟨o, _, _, _, e, _⟩ := x; exact Heap.lt_size e
  | ins C dx fs => obtain ⟨_, _, _, e, _⟩ := x; exact Heap.lt_size e
  | own y => obtain ⟨_, e⟩ := x; exact Heap.lt_size e
  | xd fs => obtain ⟨_, ⟨_, _, _, e, _⟩, _⟩ := x; exact Heap.lt_size e
  | rng lo hi => obtain ⟨_, _, _, e⟩ := x; exact Heap.lt_size e
  | frz ob u => obtain ⟨e, _⟩ := x; exact Heap.lt_size e
  | tbl ps => exact Heap.lt_size (show h.get? a = some _ from x)
  | met f y => exact Heap.lt_size (show h.get? a = some _ from x)
  | ext φ => obtain ⟨_, ⟨_, e⟩, _⟩ := x; exact Heap.lt_size e
theorem Paired.mapP {α β : Type} {F G : α → β → Prop} : ∀ {l₁ : List α} {l₂ : List β}, Paired F l₁ l₂ → (∀ a b, F a b → G a b) → Paired G l₁ l₂
  | _, _, .nil, _ => .nil
  | _, _, .cons r t, f => .cons (f _ _ r) (Paired.mapP t f)
theorem Paired.imp' {α β : Type} {F G : α → β → Prop} (f : ∀ a b, F a b → G a b) {l₁ : List α} {l₂ : List β} (r : Paired F l₁ l₂) : Paired G l₁ l₂ := Paired.mapP r f
/-- what an object's description leans on: its own object, its own dict, the tuples -/
theorem ObjOk.stay (x : ObjOk P w H h a o) (k : ∀ b u, (b = a ∨ H b = some (.own a)) → h.get? b = some u → h'.get? b = some u)
    (ho : ∀ b, H b = some (.own a) → H' b = some (.own a)) (ht : ∀ b xs, H b = some (.tup xs) → H' b = some (.tup xs)) : ObjOk P w H' h' a o := by
  induction o with
  | lst xs => obtain ⟨z, its, n, r, e⟩ := x; exact ⟨z, its, n, r, k _ _ (.inl rfl) e⟩
  | tup xs => obtain ⟨z, its, r, ob, e, c⟩ := x; exact ⟨z, its, r, ob, k _ _ (.inl rfl) e, c⟩
  | dK kvs => obtain ⟨z, y, vs, r, ob, es, ep, e, c⟩ := x; exact ⟨z, y, vs, r, ob, es, ep, k _ _ (.inl rfl) e, c⟩
  | dT kvs =>
    obtain ⟨z, y, xs, r, ob, es, ep, e, c⟩ := x
    exact ⟨z, y, xs, Paired.mapP r fun p q z => ⟨z.1, ht _ _ z.2.1, z.2.2⟩, ob, es, ep, k _ _ (.inl rfl) e, c⟩
  | set S n => obtain ⟨ob, es, ep, t, e, c⟩ := x; exact ⟨ob, es, ep, t, k _ _ (.inl rfl) e, c⟩
  | ins C dx fs =>
    obtain ⟨d, z, ne, e, mA, ⟨od, es, ep, e2, c⟩, r⟩ := x
    exact ⟨ho _ d, z, ne, k _ _ (.inl rfl) e, mA, ⟨od, es, ep, k _ _ (.inr d) e2, c⟩, r⟩
  | own y => obtain ⟨ob, e⟩ := x; exact ⟨ob, k _ _ (.inl rfl) e⟩
  | xd fs => obtain ⟨mA, ⟨od, es, ep, e, c⟩, r⟩ := x; exact ⟨mA, ⟨od, es, ep, k _ _ (.inl rfl) e, c⟩, r⟩
  | rng lo hi => obtain ⟨t, u, v, e⟩ := x; exact ⟨t, u, v, k _ _ (.inl rfl) e⟩
  | frz ob u ih => obtain ⟨e, q⟩ := x; exact ⟨k _ _ (.inl rfl) e, ih q⟩
  | tbl ps =>
    have e : h.get? a = some { cls := .none, data := .fields ps } := x
    show h'.get? a = some { cls := .none, data := .fields ps }
    exact k a _ (.inl rfl) e
  | met f y =>
    have e : h.get? a = some (PySem.W.methodObj (.ref f) (.ref y)) := x
    show h'.get? a = some (PySem.W.methodObj (.ref f) (.ref y))
    exact k a _ (.inl rfl) e
  | ext φ => obtain ⟨p, ⟨o, e⟩, st⟩ := x; exact ⟨st _ _ p fun o q => k _ _ (.inl rfl) q, ⟨o, k _ _ (.inl rfl) e⟩, st⟩
theorem HOk.lt (x : HOk P w H h) (e : H a = some o) : a < h.objs.size := (x a o e).lt
theorem HOk.fresh (x : HOk P w H h) (e : h.objs.size ≤ a) : H a = none := by
  cases q : H a with
  | none => rfl
  | some u => exact absurd (Nat.lt_of_lt_of_le (x.lt q) e) (Nat.lt_irrefl _)
/-- every object of the heap is kept -/
theorem HOk.kept (x : HOk P w H h) (k : ∀ b u, h.get? b = some u → h'.get? b = some u) : HOk P w H h' := fun a o e =>
  (x a o e).stay (fun b u _ q => k b u q) (fun _ q => q) fun _ _ q => q
/-- a new object is laid and tracked -/
theorem HOk.laid (x : HOk P w H h) (k : ∀ b u, h.get? b = some u → h'.get? b = some u) (hp : h.objs.size ≤ a) (new : ObjOk P w (upd H a o) h' a o) : HOk P w (upd H a o) h' := fun b u e => by
  have hn := x.fresh hp
  by_cases hb : b = a
  · subst hb; rw [upd_same] at e; cases e; exact new
  · rw [upd_ne hb] at e
    exact (x b u e).stay (fun c v _ q => k c v q) (fun c q => by rw [upd_ne (ne_of_none q hn)]; exact q) fun c xs q => by rw [upd_ne (ne_of_none q hn)]; exact q
end

/-- what may be read as u: it is u, or a known u -/
def Rd (H : Hp) (a : Addr) (u : HO) : Prop := H a = some u ∨ ∃ o, H a = some (.frz o u)
theorem Rd.of {H : Hp} {a : Addr} {u : HO} (h : H a = some u) : Rd H a u := .inl h
theorem Rd.ok {P : Program} {w : World} {H : Hp} {h : Heap} {a : Addr} {u : HO} (r : Rd H a u) (x : HOk P w H h) : ObjOk P w H h a u := by
  rcases r with r | ⟨o, r⟩
  · exact x a u r
  · obtain ⟨_, q⟩ := x a _ r
    exact q
/-- what may be written -/
def Mut : Option HO → Prop
  | some (.lst _) => True
  | some (.dK _) => True
  | some (.dT _) => True
  | some (.set _ _) => True
  | some (.ins _ _ _) => True
  | some (.ext _) => True
  | _ => False
section
variable {P : Program} {w : World} {H : Hp} {h h' : Heap} {x e : Addr} {o' : HO}
/-- the object at e is changed: x itself, or the dict of the instance x -/
theorem HOk.write (ok : HOk P w H h) (mu : Mut (H x)) (he : e = x ∨ H e = some (.own x)) (k : ∀ b u, b ≠ e → h.get? b = some u → h'.get? b = some u) (heo : ∃ u, h'.get? e = some u)
    (new : ObjOk P w (upd H x o') h' x o') : HOk P w (upd H x o') h' := fun b u q => by
  have nown : ∀ c y, H c = some (.own y) → c ≠ x := fun c y r z => by subst z; rw [r] at mu; exact mu
  have ntup : ∀ c xs, H c = some (.tup xs) → c ≠ x := fun c xs r z => by subst z; rw [r] at mu; exact mu
  by_cases hb : b = x
  · subst hb; rw [upd_same] at q; cases q; exact new
  · rw [upd_ne hb] at q
    by_cases hbe : b = e
    · have q' : H b = some (.own x) := by
        rcases he with z | z
        · exact absurd (hbe.trans z) hb
        · rw [hbe]; exact z
      rw [q] at q'; cases q'
      obtain ⟨v, hv⟩ := heo
      exact ⟨v, by rw [hbe]; exact hv⟩
    · refine (ok b u q).stay (fun c v hc r => k c v ?_ r) (fun c r => by rw [upd_ne (nown c b r)]; exact r) fun c xs r => by rw [upd_ne (ntup c xs r)]; exact r
      rcases hc with rfl | hc
      · exact hbe
      · rintro rfl
        rcases he with z | z
        · exact nown c b hc z
        · rw [hc] at z; cases z; exact hb rfl
end

/-! ### kept unless tracked; of the frames at fs (the callers') the slots may change (an exception that passes writes there); of the records at ex (iterators) nothing is said -/
structure Un (fs ex : List Addr) (H H' : Hp) (h h' : Heap) : Prop where
  keep : ∀ b o, h.get? b = some o → H b = none → b ∉ fs → b ∉ ex → h'.get? b = some o
  slot : ∀ b o, h.get? b = some o → H b = none → b ∈ fs → b ∉ ex → ∃ sl, h'.get? b = some { o with slots := sl }
  free : ∀ b o, h.get? b = some o → H b = none → b ∉ ex → H' b = none
  there : ∀ b o, h.get? b = some o → b ∉ ex → ∃ o', h'.get? b = some o'
  tups : ∀ b xs, H b = some (.tup xs) → H' b = some (.tup xs)
  frzs : ∀ b o u, H b = some (.frz o u) → H' b = some (.frz o u)
  tbls : ∀ b ps, H b = some (.tbl ps) → ∃ more, H' b = some (.tbl (ps ++ more))
section
variable {fs fs' ex ex' : List Addr} {H H1 H2 : Hp} {h h1 h2 h' : Heap} {a x e : Addr} {o : HO}
theorem Un.any (u : Un fs ex H H1 h h1) {b : Addr} {ob : Obj} (q : h.get? b = some ob) (n : H b = none) (hx : b ∉ ex) : ∃ sl, h1.get? b = some { ob with slots := sl } := by
  by_cases hb : b ∈ fs
  · exact u.slot b ob q n hb hx
  · exact ⟨ob.slots, u.keep b ob q n hb hx⟩
theorem Un.trans (a : Un fs ex H H1 h h1) (b : Un fs ex H1 H2 h1 h2) : Un fs ex H H2 h h2 where
  keep := fun c ob q n hc hx => b.keep c ob (a.keep c ob q n hc hx) (a.free c ob q n hx) hc hx
  slot := fun c ob q n hc hx => by
    obtain ⟨sl, e1⟩ := a.slot c ob q n hc hx
    obtain ⟨sl', e2⟩ := b.slot c _ e1 (a.free c ob q n hx) hc hx
    exact ⟨sl', e2⟩
  free := fun c ob q n hx => by
    obtain ⟨o', e1⟩ := a.there c ob q hx
    exact b.free c o' e1 (a.free c ob q n hx) hx
  there := fun c ob q hx => by
    obtain ⟨o', e1⟩ := a.there c ob q hx
    exact b.there c o' e1 hx
  tups := fun c xs q => b.tups c xs (a.tups c xs q)
  frzs := fun c ob xs q => b.frzs c ob xs (a.frzs c ob xs q)
  tbls := fun c ps q => by
    obtain ⟨m1, e1⟩ := a.tbls c ps q
    obtain ⟨m2, e2⟩ := b.tbls c _ e1
    exact ⟨m1 ++ m2, by rw [e2, Array.append_assoc]⟩
theorem Un.kept (k : ∀ b u, h.get? b = some u → h'.get? b = some u) : Un fs ex H H h h' :=
  ⟨fun b ob q _ _ _ => k b ob q, fun b ob q _ _ _ => ⟨ob.slots, k b ob q⟩, fun _ _ _ n _ => n, fun b ob q _ => ⟨ob, k b ob q⟩, fun _ _ q => q, fun _ _ _ q => q, fun _ ps q => ⟨#[], by rw [q]; simp⟩⟩
theorem Un.refl : Un fs ex H H h h := Un.kept fun _ _ q => q
theorem Un.laid (k : ∀ b u, h.get? b = some u → h'.get? b = some u) (hp : h.objs.size ≤ a) (hn : H a = none) : Un fs ex H (upd H a o) h h' where
  keep := fun b u q _ _ _ => k b u q
  slot := fun b u q _ _ _ => ⟨u.slots, k b u q⟩
  free := fun b u q n _ => by rw [upd_ne (Nat.ne_of_lt (Nat.lt_of_lt_of_le (Heap.lt_size q) hp))]; exact n
  there := fun b u q _ => ⟨u, k b u q⟩
  tups := fun b xs q => by rw [upd_ne (ne_of_none q hn)]; exact q
  frzs := fun b u xs q => by rw [upd_ne (ne_of_none q hn)]; exact q
  tbls := fun b ps q => ⟨#[], by rw [upd_ne (ne_of_none q hn), q]; simp⟩
theorem Un.write (mu : Mut (H x)) (he : e = x ∨ H e = some (.own x)) (k : ∀ b u, b ≠ e → h.get? b = some u → h'.get? b = some u) (heo : ∃ u, h'.get? e = some u) : Un fs ex H (upd H x o) h h' := by
  have hx : ∀ b, H b = none → b ≠ x := fun b n z => by subst z; rw [n] at mu; exact mu
  have hb : ∀ b, H b = none → b ≠ e := fun b n z => by
    subst z
    rcases he with r | r
    · exact hx b n r
    · rw [n] at r; cases r
  have hm : ∀ b u, H b = some u → ¬ Mut (some u) → b ≠ x := fun b u q nm z => by subst z; rw [q] at mu; exact nm mu
  refine ⟨fun b u q n _ _ => k b u (hb b n) q, fun b u q n _ _ => ⟨u.slots, k b u (hb b n) q⟩, fun b u q n _ => by rw [upd_ne (hx b n)]; exact n, fun b u q _ => ?_,
    fun b xs q => by rw [upd_ne (hm b _ q fun z => z)]; exact q, fun b u xs q => by rw [upd_ne (hm b _ q fun z => z)]; exact q, fun b ps q => ⟨#[], by rw [upd_ne (hm b _ q fun z => z), q]; simp⟩⟩
  by_cases hbe : b = e
  · subst hbe; exact heo
  · exact ⟨u, k b u hbe q⟩
theorem Un.mono (u : Un fs ex H H1 h h1) (hs : ∀ b ∈ fs, b ∈ fs') (hx : ∀ b ∈ ex, b ∈ ex') : Un fs' ex' H H1 h h1 :=
  ⟨fun b ob q n hb he => u.keep b ob q n (fun z => hb (hs b z)) fun z => he (hx b z), fun _ _ q n _ he => u.any q n fun z => he (hx _ z), fun b ob q n he => u.free b ob q n fun z => he (hx b z), fun b ob q he => u.there b ob q fun z => he (hx b z), u.tups, u.frzs, u.tbls⟩
end

/-! ### the heap without what is tracked -/
def trk (h : Heap) (H : Hp) : List Addr := (List.range h.objs.size).filter fun a => (H a).isSome
def hidT (h : Heap) (H : Hp) : Heap := PySem.W.hideAll h (trk h H)
theorem hidT_size (h : Heap) (H : Hp) : (hidT h H).objs.size = h.objs.size := PySem.W.hideAll_size _ _
theorem hidT_get {h : Heap} {H : Hp} {b : Addr} {o : Obj} (e : h.get? b = some o) (n : H b = none) : (hidT h H).get? b = some o :=
  PySem.W.hideAll_get _ e fun hm => by
    have q : (H b).isSome = true := (List.mem_filter.mp hm).2
    rw [n] at q; simp at q
theorem of_hidT {h : Heap} {H : Hp} {b : Addr} {o : Obj} (e : (hidT h H).get? b = some o) : h.get? b = some o ∧ H b = none := by
  have e' : h.get? b = some o := PySem.W.of_hideAll (trk h H) e
  refine ⟨e', ?_⟩
  cases q : H b with
  | none => rfl
  | some x =>
    have hm : b ∈ trk h H := List.mem_filter.mpr ⟨List.mem_range.mpr (Heap.lt_size e'), by simp [q]⟩
    have z : (hidT h H).get? b = none := PySem.W.hideAll_none (trk h H) hm
    rw [z] at e; cases e

/-! ### OpenK's ledger, filled with every new object but one -/
def allNews (g h : Heap) (L : Addr) : List (Addr × Obj) := (List.range h.objs.size).filterMap fun a => if a = L ∨ (g.get? a).isSome = true then none else (h.get? a).map fun o => (a, o)
def rest (g h : Heap) (L d : Addr) : List (Addr × Obj) := (allNews g h L).filter fun p => decide (p.1 ≠ d)
end L2

namespace L2
open PySem PySem.Spec PyProof.Rows

/-- the module's facts, over the base: the heap at the law's entry without what is tracked there -/
structure Mod (K : PySem.W.Frag) (mg : Str → Option Value) (base : Heap) : Prop where
  kin : K.In base
  glob : base.Ns mainGlobals mg
  blt : ∃ mb, base.Ns builtinsNs mb ∧ ∀ x : Str, x ≠ "__name__" → mb x = bootBuiltins x
  nolimit : base.NoLimit

/-- the context: a def's body (or a comprehension's block) running. base: fixed through the whole law; s₀, H₀: the entry; outer: the frames whose slots others may change (a def's callers); stack: all frames that run;
   ex: iterators that were made ahead of the entry and are walked here (a comprehension's); fn: the names whose cells were made at the entry (a def: all; a comprehension's block: its own); calm: not within an except suite; pn: pins that every state bears; xe: what is wanted of an exception that leaves the code -/
structure Cx where
  prog : Program
  w : World
  K : PySem.W.Frag
  mg : Str → Option Value
  base : Heap
  A : Around
  N : List Str
  s₀ : Shared
  H₀ : Hp
  env : Env
  outer : List Env
  stack : List Env
  ex : List Addr
  fn : Str → Bool
  calm : Bool
  pn : List (Addr × Obj)
  xe : Value → Shared → Prop
/-- the callers' frames -/
def frs (l : List Env) : List Addr := l.filterMap (·.frame)
abbrev Cx.fs (X : Cx) : List Addr := frs X.outer

def Vis (sc : Scope) (x : Str) : Prop := sc.names.lookup x = some .local ∨ sc.names.lookup x = some .cell ∨ sc.names.lookup x = some .free
def Loc (sc : Scope) (x : Str) : Prop := sc.names.lookup x = some .local ∨ sc.names.lookup x = some .cell
def Look (env : Env) (h : Heap) (m : Str → Option Value) (x : Str) (u : Value) : Prop :=
  (env.kindOf x = some .local ∧ m x = some u) ∨ ((env.kindOf x = some .cell ∨ env.kindOf x = some .free) ∧ ∃ c, env.cells.lookup x = some c ∧ h.IsCell c (some u))

structure Cx.Ok (X : Cx) : Prop where
  mod : Mod X.K X.mg X.base
  kind : X.env.scope.kind = .function
  glob : X.env.globals = mainGlobals
  blt : X.env.builtins = builtinsNs
  above : X.s₀.heap.objs.size ≤ X.env.locals
  inj : ∀ x y c, X.env.cells.lookup x = some c → X.env.cells.lookup y = some c → x = y
  has : ∀ x, (X.env.kindOf x = some .cell ∨ X.env.kindOf x = some .free) → ∃ c, X.env.cells.lookup x = some c
  cab : ∀ x c, X.fn x = true → X.env.cells.lookup x = some c → X.s₀.heap.objs.size ≤ c
  hd : X.calm = true → X.A.handled = none
  frames : X.A.frames = some X.stack
  stk : X.stack = X.outer ∨ (X.stack = X.env :: X.outer ∧ X.env.frame = some X.env.locals)
  exf : ∀ b ∈ X.ex, b ≠ X.env.locals ∧ ∀ x c, X.env.cells.lookup x = some c → c ≠ b
  bs : ∀ b o, X.base.get? b = some o → X.s₀.heap.get? b = some o ∧ X.H₀ b = none
  bsz : X.base.objs.size ≤ X.s₀.heap.objs.size
  noex : ∀ b o, X.base.get? b = some o → b ∉ X.ex
  exfs : ∀ b ∈ X.ex, b ∉ X.fs
  funs : X.s₀.heap.FunFrames X.base X.outer
  frf : ∀ b ∈ X.fs, X.H₀ b = none

structure Inv (X : Cx) (pins : List (Addr × Obj)) (σ : List (Option V)) (H : Hp) (s : Shared) : Prop where
  ok : X.Ok
  os : s.os = X.s₀.os
  bare : AllBare s.gens
  base : Un X.fs X.ex X.H₀ H X.s₀.heap s.heap
  loc : ∃ m, s.heap.Ns X.env.locals m ∧ ∀ (i : Nat) (x : Str) (v : V), X.N[i]? = some x → σ[i]? = some (some v) → Vis X.env.scope x → ∃ u, RelV v u ∧ Look X.env s.heap m x u
  cell : ∀ x c, X.env.cells.lookup x = some c → ∃ v, s.heap.IsCell c v
  free : H X.env.locals = none
  freeC : ∀ x c, X.env.cells.lookup x = some c → H c = none
  pin : ∀ p ∈ X.pn ++ pins, s.heap.get? p.1 = some p.2 ∧ H p.1 = none ∧ p.1 ≠ X.env.locals ∧ p.1 ∉ X.fs ∧ ∀ v, p.2.data ≠ .cell v
  hok : HOk X.prog X.w H s.heap
  len : σ.length = X.N.length

section
variable {X : Cx} {pins : List (Addr × Obj)} {σ : List (Option V)} {H H' : Hp} {s : Shared} {h' : Heap}

theorem Cx.Ok.nofr (ok : X.Ok) {b : Addr} {o : Obj} (e : X.base.get? b = some o) : b ∉ X.fs := fun hb => by
  have := (ok.funs.mem hb).1
  rw [e] at this; cases this
theorem Inv.bs (I : Inv X pins σ H s) : ∀ b o, X.base.get? b = some o → s.heap.get? b = some o ∧ H b = none := fun b o e =>
  ⟨I.base.keep b o (I.ok.bs b o e).1 (I.ok.bs b o e).2 (I.ok.nofr e) (I.ok.noex b o e), I.base.free b o (I.ok.bs b o e).1 (I.ok.bs b o e).2 (I.ok.noex b o e)⟩
theorem Inv.bk (I : Inv X pins σ H s) : ∀ b o, X.base.get? b = some o → s.heap.get? b = some o := fun b o e => (I.bs b o e).1
theorem Inv.mod (I : Inv X pins σ H s) : Mod X.K X.mg X.base := I.ok.mod
theorem Inv.kIn (I : Inv X pins σ H s) : X.K.In s.heap := I.ok.mod.kin.keeps I.bk
theorem Inv.nolimit (I : Inv X pins σ H s) : s.heap.NoLimit := I.ok.mod.nolimit.keeps I.bk
/-- the frame over the base: for OpenK's rules (K.In X.base is I.mod.kin) -/
theorem Inv.fr (I : Inv X pins σ H s) : ∃ m, Fr X.base X.env.locals s.heap m :=
  let ⟨m, hn, _⟩ := I.loc
  ⟨m, hn, I.bk, Nat.le_trans I.ok.bsz I.ok.above⟩
theorem Inv.lt (I : Inv X pins σ H s) : X.env.locals < s.heap.objs.size := let ⟨_, hn, _⟩ := I.loc; hn.lt
theorem Inv.sz (I : Inv X pins σ H s) : X.s₀.heap.objs.size ≤ s.heap.objs.size := Nat.le_trans I.ok.above (Nat.le_of_lt I.lt)
theorem Inv.nofs (I : Inv X pins σ H s) {a : Addr} (h : s.heap.objs.size ≤ a) : a ∉ X.fs := fun hb => by
  obtain ⟨_, o, ho, _⟩ := I.ok.funs.mem hb
  exact absurd (Nat.lt_of_lt_of_le (Heap.lt_size ho) (Nat.le_trans I.sz h)) (Nat.lt_irrefl _)
theorem Inv.cne (I : Inv X pins σ H s) : ∀ x c, X.env.cells.lookup x = some c → c ≠ X.env.locals := fun x c e z => by
  obtain ⟨v, o, ho, hd⟩ := I.cell x c e
  obtain ⟨m, ⟨o', es, ep, ho', hd', _⟩, _⟩ := I.loc
  rw [z, ho'] at ho; cases ho; rw [hd'] at hd; cases hd
theorem Inv.funs (I : Inv X pins σ H s) : s.heap.FunFrames X.base X.outer := by
  have all : ∀ (l : List Env), (∀ b ∈ frs l, b ∈ X.fs) → X.s₀.heap.FunFrames X.base l → s.heap.FunFrames X.base l := by
    intro l
    induction l with
    | nil => intro _ _; trivial
    | cons env r ih =>
      intro hs hl
      obtain ⟨hk, ⟨L, o, hf, hn, ho, hd⟩, hr⟩ := hl
      have hL : L ∈ X.fs := hs L (by unfold frs; rw [List.filterMap_cons, hf]; exact List.mem_cons_self)
      obtain ⟨sl, e⟩ := I.base.slot L o ho (I.ok.frf L hL) hL fun z => I.ok.exfs L z hL
      exact ⟨hk, ⟨L, _, hf, hn, e, hd⟩, ih (fun b hb => hs b (by unfold frs; rw [List.filterMap_cons, hf]; exact List.mem_cons_of_mem _ hb)) hr⟩
  exact all X.outer (fun _ hb => hb) I.ok.funs

/-- the frames that run, for a call -/
theorem Inv.stack (I : Inv X pins σ H s) : s.heap.FunFrames X.base X.stack := by
  rcases I.ok.stk with e | ⟨e, hf⟩
  · rw [e]; exact I.funs
  · rw [e]
    obtain ⟨m, hn, _⟩ := I.loc
    refine .cons (by rw [I.ok.kind]; decide) hf hn ?_ I.funs
    exact Heap.get?_none_of_le (Nat.le_trans I.ok.bsz I.ok.above)
theorem Inv.stkSub (I : Inv X pins σ H s) : ∀ b ∈ frs X.stack, b ∈ X.env.locals :: X.fs := fun b hb => by
  rcases I.ok.stk with e | ⟨e, hf⟩
  · rw [e] at hb; exact List.mem_cons_of_mem _ hb
  · rw [e] at hb
    unfold frs at hb
    rw [List.filterMap_cons, hf] at hb
    exact hb
theorem Inv.stkFree (I : Inv X pins σ H s) : ∀ b ∈ frs X.stack, H b = none := fun b hb => by
  rcases List.mem_cons.mp (I.stkSub b hb) with e | hb
  · rw [e]; exact I.free
  · obtain ⟨_, o, ho, _⟩ := I.ok.funs.mem hb
    exact I.base.free b o ho (I.ok.frf b hb) fun z => I.ok.exfs b z hb

/-- THE STEP: the untracked objects but the frame and the records at ch are kept (the callers' frames up to slots), the frame's map is kept, the new abstract heap is held -/
theorem Inv.step {g' : Array GenState} {t' : Nat} {d' : Drawn} {ch : List Addr} (I : Inv X pins σ H s)
    (hch : ∀ b ∈ ch, (b ∈ X.ex ∨ X.s₀.heap.objs.size ≤ b) ∧ b ≠ X.env.locals ∧ (∀ x c, X.env.cells.lookup x = some c → c ≠ b) ∧ ∀ p ∈ X.pn ++ pins, p.1 ≠ b)
    (keep : ∀ b o, b ≠ X.env.locals → b ∉ X.fs → b ∉ ch → s.heap.get? b = some o → H b = none → h'.get? b = some o)
    (slot : ∀ b o, b ≠ X.env.locals → b ∈ X.fs → b ∉ ch → s.heap.get? b = some o → H b = none → ∃ sl, h'.get? b = some { o with slots := sl }) (free : ∀ b o, b ∉ ch → s.heap.get? b = some o → H b = none → H' b = none)
    (there : ∀ b o, b ∉ ch → s.heap.get? b = some o → ∃ o', h'.get? b = some o')
    (tups : ∀ b xs, H b = some (.tup xs) → H' b = some (.tup xs)) (frzs : ∀ b o u, H b = some (.frz o u) → H' b = some (.frz o u)) (tbls : ∀ b ps, H b = some (.tbl ps) → ∃ more, H' b = some (.tbl (ps ++ more)))
    (ns : ∀ m, s.heap.Ns X.env.locals m → h'.Ns X.env.locals m) (hok : HOk X.prog X.w H' h') (hg : AllBare g') :
    Inv X pins σ H' { s with heap := h', gens := g', drawn := d', toks := t' } := by
  have neL : ∀ b o, X.s₀.heap.get? b = some o → b ≠ X.env.locals := fun b o e => Nat.ne_of_lt (Nat.lt_of_lt_of_le (Heap.lt_size e) I.ok.above)
  have neC : ∀ b o, X.s₀.heap.get? b = some o → b ∉ X.ex → b ∉ ch := fun b o e hx hb => by
    rcases (hch b hb).1 with z | z
    · exact hx z
    · exact absurd (Nat.lt_of_lt_of_le (Heap.lt_size e) z) (Nat.lt_irrefl _)
  have cellK : ∀ x c, X.env.cells.lookup x = some c → ∀ v, s.heap.IsCell c v → h'.IsCell c v := fun x c e v ⟨o, ho, hd⟩ => by
    have nch : c ∉ ch := fun z => (hch c z).2.2.1 x c e rfl
    by_cases hc : c ∈ X.fs
    · obtain ⟨sl, q⟩ := slot c o (I.cne x c e) hc nch ho (I.freeC x c e)
      exact ⟨_, q, hd⟩
    · exact ⟨o, keep c o (I.cne x c e) hc nch ho (I.freeC x c e), hd⟩
  refine ⟨I.ok, I.os, hg, ⟨fun b o e n hb hx => ?_, fun b o e n hb hx => ?_, fun b o e n hx => ?_, fun b o e hx => ?_, fun b xs e => tups b xs (I.base.tups b xs e), fun b o xs e => frzs b o xs (I.base.frzs b o xs e), fun b ps e => ?_⟩, ?_, fun x c e => ?_, ?_, fun x c e => ?_, fun p hp => ?_, hok, I.len⟩
  · exact keep b o (neL b o e) hb (neC b o e hx) (I.base.keep b o e n hb hx) (I.base.free b o e n hx)
  · obtain ⟨sl, e1⟩ := I.base.slot b o e n hb hx
    obtain ⟨sl', e2⟩ := slot b _ (neL b o e) hb (neC b o e hx) e1 (I.base.free b o e n hx)
    exact ⟨sl', e2⟩
  · obtain ⟨o', e1⟩ := I.base.there b o e hx
    exact free b o' (neC b o e hx) e1 (I.base.free b o e n hx)
  · obtain ⟨o', e1⟩ := I.base.there b o e hx
    exact there b o' (neC b o e hx) e1
  · obtain ⟨m1, e1⟩ := I.base.tbls b ps e
    obtain ⟨m2, e2⟩ := tbls b _ e1
    exact ⟨m1 ++ m2, by rw [e2, Array.append_assoc]⟩
  · obtain ⟨m, hn, hl⟩ := I.loc
    refine ⟨m, ns m hn, fun i x v e1 e2 e3 => ?_⟩
    obtain ⟨u, r, l⟩ := hl i x v e1 e2 e3
    refine ⟨u, r, ?_⟩
    rcases l with l | ⟨k, c, e, z⟩
    · exact .inl l
    · exact .inr ⟨k, c, e, cellK x c e _ z⟩
  · obtain ⟨v, z⟩ := I.cell x c e
    exact ⟨v, cellK x c e v z⟩
  · obtain ⟨m, ⟨o, _, _, ho, _⟩, _⟩ := I.loc
    exact free _ o (fun z => (hch _ z).2.1 rfl) ho I.free
  · obtain ⟨v, o, ho, hd⟩ := I.cell x c e
    exact free c o (fun z => (hch c z).2.2.1 x c e rfl) ho (I.freeC x c e)
  · obtain ⟨e, n, ne, nf, d⟩ := I.pin p hp
    have nch : p.1 ∉ ch := fun z => (hch p.1 z).2.2.2 p hp rfl
    exact ⟨keep p.1 p.2 ne nf nch e n, free p.1 p.2 nch e n, ne, nf, d⟩
/-- .. where the frame's own object is kept too -/
theorem Inv.un {t' : Nat} (I : Inv X pins σ H s) (u : Un X.fs [] H H' s.heap h') (hok : HOk X.prog X.w H' h') : Inv X pins σ H' { s with heap := h', toks := t' } := by
  obtain ⟨m, ⟨o, es, ep, ho, r⟩, _⟩ := id I.loc
  obtain ⟨sl, hL⟩ := u.any ho I.free (by simp)
  exact I.step (g' := s.gens) (d' := s.drawn) (ch := []) (fun _ z => nomatch z) (fun b o _ hb _ e n => u.keep b o e n hb (by simp)) (fun b o _ hb _ e n => u.slot b o e n hb (by simp)) (fun b o _ e n => u.free b o e n (by simp)) (fun b o _ e => u.there b o e (by simp)) u.tups u.frzs u.tbls (fun m' hm => by
    obtain ⟨o', es', ep', ho', r'⟩ := hm
    rw [ho] at ho'; cases ho'
    exact ⟨_, es', ep', hL, r'⟩) hok I.bare
/-- behind a call (or a comprehension's block): the slots of this frame may have changed too, the records at ch may have turned -/
theorem Inv.call {g' : Array GenState} {t' : Nat} {d' : Drawn} {ch : List Addr} (I : Inv X pins σ H s) (u : Un (frs X.stack) ch H H' s.heap h') (hok : HOk X.prog X.w H' h') (hg : AllBare g')
    (hch : ∀ b ∈ ch, (b ∈ X.ex ∨ X.s₀.heap.objs.size ≤ b) ∧ b ≠ X.env.locals ∧ (∀ x c, X.env.cells.lookup x = some c → c ≠ b) ∧ ∀ p ∈ X.pn ++ pins, p.1 ≠ b) :
    Inv X pins σ H' { s with heap := h', gens := g', drawn := d', toks := t' } := by
  obtain ⟨m, ⟨o, es, ep, ho, r⟩, _⟩ := id I.loc
  obtain ⟨sl, hL⟩ := u.any ho I.free fun z => (hch _ z).2.1 rfl
  exact I.step (ch := ch) hch (fun b o hL hb hc e n => u.keep b o e n (fun z => (List.mem_cons.mp (I.stkSub b z)).elim hL hb) hc) (fun b o _ _ hc e n => u.any e n hc) (fun b o hc e n => u.free b o e n hc) (fun b o hc e => u.there b o e hc) u.tups u.frzs u.tbls (fun m' hm => by
    obtain ⟨o', es', ep', ho', r'⟩ := hm
    rw [ho] at ho'; cases ho'
    exact ⟨_, es', ep', hL, r'⟩) hok hg
/-- an untracked record of ours (an iterator) has turned -/
theorem Inv.turned {t' : Nat} {it : Addr} (I : Inv X pins σ H s) (k : ∀ b o, b ≠ it → s.heap.get? b = some o → h'.get? b = some o) (hn : H it = none) (hL : it ≠ X.env.locals)
    (h1 : it ∈ X.ex ∨ X.s₀.heap.objs.size ≤ it) (h2 : ∀ x c, X.env.cells.lookup x = some c → c ≠ it) (h3 : ∀ p ∈ X.pn ++ pins, p.1 ≠ it) : Inv X pins σ H { s with heap := h', toks := t' } := by
  have nit : ∀ b u, H b = some u → b ≠ it := fun b u e z => by rw [z, hn] at e; cases e
  refine I.step (g' := s.gens) (d' := s.drawn) (ch := [it]) (fun b hb => ?_) (fun b o _ _ hc e _ => k b o (fun z => hc (by simp [z])) e) (fun b o _ _ hc e _ => ⟨o.slots, k b o (fun z => hc (by simp [z])) e⟩) (fun _ _ _ _ n => n)
    (fun b o hc e => ⟨o, k b o (fun z => hc (by simp [z])) e⟩) (fun _ _ e => e) (fun _ _ _ e => e) (fun b ps e => ⟨#[], by rw [e]; simp⟩) (fun m hm => ?_) (fun b u e => ?_) I.bare
  · have e : b = it := by simpa using hb
    subst e
    exact ⟨h1, hL, h2, h3⟩
  · obtain ⟨o, es, ep, ho, r⟩ := hm
    exact ⟨o, es, ep, k _ o (Ne.symm hL) ho, r⟩
  · refine (I.hok b u e).stay (fun c v hc q => k c v ?_ q) (fun _ q => q) fun _ _ q => q
    rcases hc with z | z
    · rw [z]; exact nit b u e
    · exact nit c _ z
theorem Inv.tok (I : Inv X pins σ H s) (t : Nat) : Inv X pins σ H { s with toks := t } := I.un (h' := s.heap) (t' := t) Un.refl I.hok
/-- all objects kept -/
theorem Inv.kept {t' : Nat} (I : Inv X pins σ H s) (k : ∀ b u, s.heap.get? b = some u → h'.get? b = some u) : Inv X pins σ H { s with heap := h', toks := t' } := I.un (Un.kept k) (I.hok.kept k)
/-- a new object laid and tracked -/
theorem Inv.laid {a : Addr} {o : HO} {t' : Nat} (I : Inv X pins σ H s) (k : ∀ b u, s.heap.get? b = some u → h'.get? b = some u) (hp : s.heap.objs.size ≤ a) (new : ObjOk X.prog X.w (upd H a o) h' a o) :
    Inv X pins σ (upd H a o) { s with heap := h', toks := t' } := I.un (Un.laid k hp (I.hok.fresh hp)) (I.hok.laid k hp new)
/-- an object written -/
theorem Inv.write {x e : Addr} {o : HO} {t' : Nat} (I : Inv X pins σ H s) (mu : Mut (H x)) (he : e = x ∨ H e = some (.own x)) (k : ∀ b u, b ≠ e → s.heap.get? b = some u → h'.get? b = some u) (heo : ∃ u, h'.get? e = some u)
    (new : ObjOk X.prog X.w (upd H x o) h' x o) : Inv X pins σ (upd H x o) { s with heap := h', toks := t' } := I.un (Un.write mu he k heo) (I.hok.write mu he k heo new)
/-- forgetting slots, pins -/
theorem Inv.weak {σ' : List (Option V)} (I : Inv X pins σ H s) (hl : σ'.length = σ.length) (w : ∀ (i : Nat) v, σ'[i]? = some (some v) → σ[i]? = some (some v)) : Inv X pins σ' H s :=
  ⟨I.ok, I.os, I.bare, I.base, let ⟨m, hn, hl'⟩ := I.loc; ⟨m, hn, fun i x v e1 e2 e3 => hl' i x v e1 (w i v e2) e3⟩, I.cell, I.free, I.freeC, I.pin, I.hok, hl.trans I.len⟩
theorem Inv.pins_of {pins' : List (Addr × Obj)} (I : Inv X pins σ H s) (h : ∀ p ∈ pins', s.heap.get? p.1 = some p.2 ∧ H p.1 = none ∧ p.1 ≠ X.env.locals ∧ p.1 ∉ X.fs ∧ ∀ v, p.2.data ≠ .cell v) : Inv X pins' σ H s :=
  ⟨I.ok, I.os, I.bare, I.base, I.loc, I.cell, I.free, I.freeC, fun p hp => (List.mem_append.mp hp).elim (fun z => I.pin p (List.mem_append_left _ z)) (h p), I.hok, I.len⟩

theorem nodup_ix {N : List Str} (hN : N.Nodup) {i j : Nat} {x : Str} (a : N[i]? = some x) (b : N[j]? = some x) : i = j := by
  obtain ⟨h1, e1⟩ := List.getElem?_eq_some_iff.mp a
  obtain ⟨h2, e2⟩ := List.getElem?_eq_some_iff.mp b
  exact (List.getElem_inj hN).mp (e1.trans e2.symm)

/-- a name is stored; what changed -/
theorem store_ok2 {M : Model} {A : Around} {E : Value → Shared → Prop} {i : Nat} {x : Str} {v : V} {u : Value} {Q : Unit → Shared → Prop} (I : Inv X pins σ H s) (hN : X.N.Nodup) (hi : X.N[i]? = some x) (hx : Loc X.env.scope x) (r : RelV v u)
    (h : ∀ s', Inv X pins (σ.set i (some v)) H s' → (∃ a, Heap.SameBut a s.heap s'.heap ∧ (a = X.env.locals ∨ X.env.cells.lookup x = some a)) → Q () s') (hf : X.fn x = true ∨ X.env.scope.names.lookup x = some .local := by first | exact .inl rfl | exact .inr rfl | assumption) : wpAny M A (storeName X.env x u) Q E s := by
  obtain ⟨m, hn, hl⟩ := id I.loc
  have hcls : (X.env.scope.kind == .class || (X.env.scope.kind == .module && X.env.locals != X.env.globals)) = false := by rw [I.ok.kind]; rfl
  have hiσ : i < σ.length := by rw [I.len]; exact (List.getElem?_eq_some_iff.mp hi).1
  have cne := I.cne
  have tracked : ∀ {a : Addr} {h' : Heap}, (∃ o, s.heap.get? a = some o ∧ H a = none) → Heap.SameBut a s.heap h' → HOk X.prog X.w H h' := fun {a h'} ha hs b ob e => by
    obtain ⟨_, _, hfree⟩ := ha
    refine (I.hok b ob e).stay (fun c w' hc q => (hs.2 c ?_).trans q) (fun _ q => q) fun _ _ q => q
    rintro rfl
    rcases hc with rfl | hc
    · rw [hfree] at e; cases e
    · rw [hfree] at hc; cases hc
  rcases hx with hk | hk
  · refine wpAny_storeName_local hk hn (fun h' hn' hs => ?_) hcls
    obtain ⟨oL, _, _, hoL, _⟩ := id hn
    refine h _ ⟨I.ok, I.os, I.bare, ⟨fun b o e n hb hx => ?_, fun b o e n hb hx => ?_, I.base.free, fun b o e hx => ?_, I.base.tups, I.base.frzs, I.base.tbls⟩, ⟨_, hn', fun j y v' e1 e2 e3 => ?_⟩, fun y c e => ?_, I.free, I.freeC, fun p hp => ?_, tracked ⟨oL, hoL, I.free⟩ hs, by simpa using I.len⟩ ⟨_, hs, .inl rfl⟩
    · exact (hs.2 b (Nat.ne_of_lt (Nat.lt_of_lt_of_le (Heap.lt_size e) I.ok.above))).trans (I.base.keep b o e n hb hx)
    · obtain ⟨sl, e1⟩ := I.base.slot b o e n hb hx
      exact ⟨sl, (hs.2 b (Nat.ne_of_lt (Nat.lt_of_lt_of_le (Heap.lt_size e) I.ok.above))).trans e1⟩
    · obtain ⟨o', e1⟩ := I.base.there b o e hx
      exact ⟨o', (hs.2 b (Nat.ne_of_lt (Nat.lt_of_lt_of_le (Heap.lt_size e) I.ok.above))).trans e1⟩
    · by_cases hj : j = i
      · subst hj
        rw [hi] at e1; cases e1
        rw [List.getElem?_set_self hiσ] at e2
        cases e2
        exact ⟨u, r, .inl ⟨hk, by simp⟩⟩
      · rw [List.getElem?_set_ne (Ne.symm hj)] at e2
        obtain ⟨u', r', q⟩ := hl j y v' e1 e2 e3
        refine ⟨u', r', ?_⟩
        rcases q with ⟨k, e⟩ | ⟨k, c, e, z⟩
        · refine .inl ⟨k, ?_⟩
          have : y ≠ x := fun e => hj (nodup_ix hN e1 (e ▸ hi))
          simp [this, e]
        · exact .inr ⟨k, c, e, z.sameBut hs (cne y c e)⟩
    · obtain ⟨w', z⟩ := I.cell y c e
      exact ⟨w', z.sameBut hs (cne y c e)⟩
    · obtain ⟨e, n, ne, nf, d⟩ := I.pin p hp
      exact ⟨(hs.2 p.1 ne).trans e, n, ne, nf, d⟩
  · have hfn : X.fn x = true := by
      rcases hf with z | z
      · exact z
      · rw [z] at hk; cases hk
    obtain ⟨c, hc⟩ := I.ok.has x (.inl hk)
    obtain ⟨w', z⟩ := I.cell x c hc
    refine wpAny_storeName_cell I.ok.kind hk hc z (fun h' hc' hs => ?_)
    obtain ⟨oc, hoc, hocd⟩ := id z
    refine h { s with heap := h' } ⟨I.ok, I.os, I.bare, ⟨fun b o e n hb hx => ?_, fun b o e n hb hx => ?_, I.base.free, fun b o e hx => ?_, I.base.tups, I.base.frzs, I.base.tbls⟩, ⟨m, hn.sameBut hs (Ne.symm (cne x c hc)), fun j y v' e1 e2 e3 => ?_⟩, fun y c' e => ?_, I.free, I.freeC, fun p hp => ?_, tracked ⟨oc, hoc, I.freeC x c hc⟩ hs, by simpa using I.len⟩ ⟨c, hs, .inr hc⟩
    · exact (hs.2 b (Nat.ne_of_lt (Nat.lt_of_lt_of_le (Heap.lt_size e) (I.ok.cab x c hfn hc)))).trans (I.base.keep b o e n hb hx)
    · obtain ⟨sl, e1⟩ := I.base.slot b o e n hb hx
      exact ⟨sl, (hs.2 b (Nat.ne_of_lt (Nat.lt_of_lt_of_le (Heap.lt_size e) (I.ok.cab x c hfn hc)))).trans e1⟩
    · obtain ⟨o', e1⟩ := I.base.there b o e hx
      exact ⟨o', (hs.2 b (Nat.ne_of_lt (Nat.lt_of_lt_of_le (Heap.lt_size e) (I.ok.cab x c hfn hc)))).trans e1⟩
    · by_cases hj : j = i
      · subst hj
        rw [hi] at e1; cases e1
        rw [List.getElem?_set_self hiσ] at e2
        cases e2
        exact ⟨u, r, .inr ⟨.inl hk, c, hc, hc'⟩⟩
      · rw [List.getElem?_set_ne (Ne.symm hj)] at e2
        obtain ⟨u', r', q⟩ := hl j y v' e1 e2 e3
        refine ⟨u', r', ?_⟩
        rcases q with q | ⟨k, c', e, z'⟩
        · exact .inl q
        · refine .inr ⟨k, c', e, z'.sameBut hs ?_⟩
          rintro rfl
          exact hj (nodup_ix hN e1 (I.ok.inj _ _ _ e hc ▸ hi))
    · by_cases hcc : c' = c
      · subst hcc; exact ⟨_, hc'⟩
      · obtain ⟨w2, z2⟩ := I.cell y c' e
        exact ⟨w2, z2.sameBut hs hcc⟩
    · obtain ⟨e, n, ne, nf, d⟩ := I.pin p hp
      refine ⟨(hs.2 p.1 ?_).trans e, n, ne, nf, d⟩
      intro q
      rw [q, hoc] at e
      have q' : oc = p.2 := Option.some.inj e
      exact d w' (by rw [← q']; exact hocd)
theorem store_ok {M : Model} {A : Around} {E : Value → Shared → Prop} {i : Nat} {x : Str} {v : V} {u : Value} {Q : Unit → Shared → Prop} (I : Inv X pins σ H s) (hN : X.N.Nodup) (hi : X.N[i]? = some x) (hx : Loc X.env.scope x) (r : RelV v u)
    (h : ∀ s', Inv X pins (σ.set i (some v)) H s' → Q () s') (hf : X.fn x = true ∨ X.env.scope.names.lookup x = some .local := by first | exact .inl rfl | exact .inr rfl | assumption) : wpAny M A (storeName X.env x u) Q E s :=
  store_ok2 I hN hi hx r (fun s' I' _ => h s' I') hf
/-- behind a call or a block, the state as it is -/
theorem Inv.call' {s' : Shared} {ch : List Addr} (I : Inv X pins σ H s) (ho : s'.os = s.os) (u : Un (frs X.stack) ch H H' s.heap s'.heap) (hok : HOk X.prog X.w H' s'.heap) (hg : AllBare s'.gens)
    (hch : ∀ b ∈ ch, (b ∈ X.ex ∨ X.s₀.heap.objs.size ≤ b) ∧ b ≠ X.env.locals ∧ (∀ x c, X.env.cells.lookup x = some c → c ≠ b) ∧ ∀ p ∈ X.pn ++ pins, p.1 ≠ b) : Inv X pins σ H' s' := by
  obtain ⟨h', g', d', t', o'⟩ := s'
  have e : o' = s.os := ho
  subst e
  exact I.call (g' := g') (t' := t') (d' := d') u hok hg hch
end

/-! ### the judgements -/
/-- an exception: its class, its own dict's address (where it has one), the abstract heap behind it -/
abbrev XK := Value → Option Addr → Hp → Prop
abbrev St := List (Option V)
abbrev VK := V → Hp → Prop
/-- an expression's reading; a test's; an argument list's -/
abbrev TE := St → Hp → VK → Prop
abbrev TT := St → Hp → (Bool → Hp → Prop) → Prop
abbrev TA := St → Hp → (List V → Hp → Prop) → Prop
/-- what is wanted behind a statement -/
structure Ends where
  nx : St → Hp → Prop
  rt : VK
  bk : St → Hp → Prop := fun _ _ => False
  ct : St → Hp → Prop := fun _ _ => False
abbrev TS := Ends → St → Hp → Prop

def EP (X : Cx) (pins : List (Addr × Obj)) (σ : St) (Q : VK) (u : Value) (s' : Shared) : Prop := ∃ v H', Inv X pins σ H' s' ∧ RelV v u ∧ Q v H'
def TP (X : Cx) (pins : List (Addr × Obj)) (σ : St) (Q : Bool → Hp → Prop) (b : Bool) (s' : Shared) : Prop := ∃ H', Inv X pins σ H' s' ∧ Q b H'
def AP (X : Cx) (pins : List (Addr × Obj)) (σ : St) (Q : List V → Hp → Prop) (us : List Value) (s' : Shared) : Prop := ∃ vs H', Inv X pins σ H' s' ∧ Vals vs us ∧ Q vs H'
def SP (X : Cx) (pins : List (Addr × Obj)) (D : Ends) (f : Flow) (s' : Shared) : Prop :=
  match f with
  | .next => ∃ σ' H', Inv X pins σ' H' s' ∧ D.nx σ' H'
  | .brk => ∃ σ' H', Inv X pins σ' H' s' ∧ D.bk σ' H'
  | .cont => ∃ σ' H', Inv X pins σ' H' s' ∧ D.ct σ' H'
  | .ret u => ∃ v σ' H', Inv X pins σ' H' s' ∧ RelV v u ∧ D.rt v H'

def PE (X : Cx) (e : Expr) (t : TE) : Prop :=
  ∀ (pins : List (Addr × Obj)) (s : Shared) (σ : St) (H : Hp) (Q : VK), Inv X pins σ H s → t σ H Q → wpAny (model X.prog X.w) X.A (eval e X.env) (EP X pins σ Q) X.xe s
def PT (X : Cx) (e : Expr) (t : TT) : Prop :=
  ∀ (pins : List (Addr × Obj)) (s : Shared) (σ : St) (H : Hp) (Q : Bool → Hp → Prop), Inv X pins σ H s → t σ H Q → wpAny (model X.prog X.w) X.A (isTrue e X.env (eval e X.env)) (TP X pins σ Q) X.xe s
/-- a test whatever its 'whole' is (and, or) -/
def PW (X : Cx) (e : Expr) (t : TT) : Prop :=
  ∀ (whole : Sem Value) (pins : List (Addr × Obj)) (s : Shared) (σ : St) (H : Hp) (Q : Bool → Hp → Prop), Inv X pins σ H s → t σ H Q → wpAny (model X.prog X.w) X.A (isTrue e X.env whole) (TP X pins σ Q) X.xe s
theorem PW.pt {X : Cx} {e : Expr} {t : TT} (h : PW X e t) : PT X e t := h _
/-- an argument list (no star), from the left -/
def PA (X : Cx) (es : List Expr) (t : TA) : Prop :=
  ∀ (pos : Pos) (pins : List (Addr × Obj)) (s : Shared) (σ : St) (H : Hp) (Q : List V → Hp → Prop), Inv X pins σ H s → t σ H Q → wpAny (model X.prog X.w) X.A (spliced (backTo pos (starEach es X.env))) (AP X pins σ Q) X.xe s
def PS (X : Cx) (st : Stmt) (t : TS) : Prop :=
  ∀ (pins : List (Addr × Obj)) (s : Shared) (σ : St) (H : Hp) (D : Ends), Inv X pins σ H s → t D σ H → wpAny (model X.prog X.w) X.A (exec st X.env) (SP X pins D) X.xe s
def PSs (X : Cx) (st : List Stmt) (t : TS) : Prop :=
  ∀ (pins : List (Addr × Obj)) (s : Shared) (σ : St) (H : Hp) (D : Ends), Inv X pins σ H s → t D σ H → wpAny (model X.prog X.w) X.A (execs st X.env) (SP X pins D) X.xe s
/-- weaken the end -/
theorem thn {α : Type} {t : Sem α} {Q Q' : α → Shared → Prop} {M : Model} {A : Around} {E : Value → Shared → Prop} {s : Shared} (h : wpAny M A t Q E s) (hQ : ∀ a s, Q a s → Q' a s) : wpAny M A t Q' E s := wpAny_mono h hQ fun _ _ x => x
end L2

namespace L2
open PySem PySem.Spec PyProof.Rows
section
variable {X : Cx}

/-! ### names and constants -/
def tVar (i : Nat) : TE := fun σ H Q => ∃ v, σ[i]? = some (some v) ∧ Q v H
def tC (v : V) : TE := fun _ H Q => Q v H
theorem pe_var {i : Nat} {x : Str} {pos : Pos} (hN : X.N[i]? = some x) (hv : Vis X.env.scope x) (hd : (x == ("__debug__" : Str)) = false := by decide) (hcd : (x == ("__classdict__" : Str)) = false := by decide) : PE X (.Name x pos) (tVar i) := by
  intro pins s σ H Q I h
  obtain ⟨v, e, h⟩ := h
  obtain ⟨m, hn, hl⟩ := I.loc
  obtain ⟨u, r, l⟩ := hl i x v hN e hv
  have fin : EP X pins σ Q u s := ⟨v, H, I, r, h⟩
  rcases l with ⟨hk, hm⟩ | ⟨hk, c, hc, hcell⟩
  · exact wpAny_Name (wpAny_loadName_local I.ok.kind hk hn hm fin) hd
  · rcases hk with hk | hk
    · exact wpAny_Name (wpAny_loadName_cell I.ok.kind hk hc hcell fin) hd
    · exact wpAny_Name (wpAny_loadName_free I.ok.kind hk hc hcell fin hcd) hd
theorem pe_int {i j pos} : PE X (.Constant (.int i) j pos) (tC (.int i)) := fun _ _ _ H _ I h => wpAny_Constant_int ⟨.int i, H, I.tok _, ⟨_, rfl⟩, h⟩
theorem pe_bl {b j pos} : PE X (.Constant (.bool b) j pos) (tC (.bl b)) := fun _ _ _ H _ I h => Constant_bool ⟨.bl b, H, I, rfl, h⟩
theorem pe_str {x j pos} : PE X (.Constant (.str x) j pos) (tC (.str x)) := fun _ _ _ H _ I h => Calls.Constant_str ⟨.str x, H, I.tok _, ⟨_, rfl⟩, h⟩

/-- a global name of the def -/
def Gl (X : Cx) (x : Str) : Prop := X.env.kindOf x = some .globalImplicit
theorem ld_glob {E : Value → Shared → Prop} {pins : List (Addr × Obj)} {s : Shared} {σ : St} {H : Hp} {x : Str} {u : Value} {pos : Pos} {Q : Value → Shared → Prop} (I : Inv X pins σ H s) (hg : Gl X x) (hm : X.mg x = some u) (h : Q u s)
    (hd : (x == ("__debug__" : Str)) = false := by decide) : wpAny (model X.prog X.w) X.A (eval (.Name x pos) X.env) Q E s :=
  Calls.Name_function_global I.ok.kind hg (Calls.loadGlobal_global (by rw [I.ok.glob]; exact I.mod.glob.keeps I.bk) hm h) hd
theorem ld_blt {E : Value → Shared → Prop} {pins : List (Addr × Obj)} {s : Shared} {σ : St} {H : Hp} {x : Str} {u : Value} {pos : Pos} {Q : Value → Shared → Prop} (I : Inv X pins σ H s) (hg : Gl X x) (hm : X.mg x = none) (hv : bootBuiltins x = some u) (h : Q u s)
    (hn : x ≠ "__name__" := by decide) (hd : (x == ("__debug__" : Str)) = false := by decide) : wpAny (model X.prog X.w) X.A (eval (.Name x pos) X.env) Q E s := by
  obtain ⟨mb, h1, h2⟩ := I.mod.blt
  exact Calls.Name_function_global I.ok.kind hg (Calls.loadGlobal_builtin (by rw [I.ok.glob]; exact I.mod.glob.keeps I.bk) hm (by rw [I.ok.blt]; exact h1.keeps I.bk) ((h2 x hn).trans hv) h) hd
/-- a module's constant, a class, a function, as a value -/
theorem pe_glob {x : Str} {v : V} {u : Value} {pos : Pos} (hg : Gl X x) (hm : X.mg x = some u) (r : RelV v u) (hd : (x == ("__debug__" : Str)) = false := by decide) : PE X (.Name x pos) (tC v) :=
  fun _ _ _ H _ I h => ld_glob I hg hm ⟨v, H, I, r, h⟩ hd
theorem pe_bltn {x : Str} {v : V} {u : Value} {pos : Pos} (hg : Gl X x) (hm : X.mg x = none) (hv : bootBuiltins x = some u) (r : RelV v u) (hn : x ≠ "__name__" := by decide) (hd : (x == ("__debug__" : Str)) = false := by decide) : PE X (.Name x pos) (tC v) :=
  fun _ _ _ H _ I h => ld_blt I hg hm hv ⟨v, H, I, r, h⟩ hn hd

/-! ### arithmetic -/
/-- two ints -/
def t2I (ta tb : TE) (k : Int → Int → Hp → Prop) : St → Hp → Prop := fun σ H => ta σ H fun x H1 => tb σ H1 fun y H2 => ∃ i j, x = .int i ∧ y = .int j ∧ k i j H2
def tAdd (ta tb : TE) : TE := fun σ H Q => t2I ta tb (fun i j H2 => Q (.int (i + j)) H2) σ H
def tSub (ta tb : TE) : TE := fun σ H Q => t2I ta tb (fun i j H2 => Q (.int (i - j)) H2) σ H
/-- the left factor below 2^64 -/
def tMul (ta tb : TE) : TE := fun σ H Q => t2I ta tb (fun i j H2 => (-(2 ^ 64) < i ∧ i < 2 ^ 64) ∧ Q (.int (i * j)) H2) σ H
variable {a b : Expr} {ta tb : TE} {pos : Pos}
/-! ### comparisons -/
def PC (X : Cx) (op : CmpOp) (a b : Expr) (t : TE) : Prop :=
  ∀ (pins : List (Addr × Obj)) (s : Shared) (σ : St) (H : Hp) (Q : VK), Inv X pins σ H s → t σ H Q →
    wpAny (model X.prog X.w) X.A (eval a X.env) (fun v s₁ => wpAny (model X.prog X.w) X.A (eval b X.env) (fun u s₂ => wpAny (model X.prog X.w) X.A (compareOp op v u) (EP X pins σ Q) X.xe s₂) X.xe s₁) X.xe s
def tCmp (p : Int → Int → Bool) (ta tb : TE) : TE := fun σ H Q => t2I ta tb (fun i j H2 => Q (.bl (p i j)) H2) σ H
abbrev tLt : TE → TE → TE := tCmp fun i j => decide (i < j)
abbrev tLe : TE → TE → TE := tCmp fun i j => decide (i ≤ j)
abbrev tGt : TE → TE → TE := tCmp fun i j => decide (j < i)
abbrev tGe : TE → TE → TE := tCmp fun i j => decide (j ≤ i)
abbrev tEqI : TE → TE → TE := tCmp fun i j => decide (i = j)
abbrev tNeI : TE → TE → TE := tCmp fun i j => !decide (i = j)
/-- is None -/
def tIsN (ta : TE) : TE := fun σ H Q => ta σ H fun x H1 => Q (.bl (decide (x = .non))) H1
def tNotN (ta : TE) : TE := fun σ H Q => ta σ H fun x H1 => Q (.bl (!decide (x = .non))) H1
theorem RelV.none_iff {x : V} {v : Value} (r : RelV x v) : (v == Value.none) = decide (x = .non) := by
  cases x with
  | non => cases r; rfl
  | bl _ => cases r; rfl
  | int _ => obtain ⟨t, rfl⟩ := r; rfl
  | str _ => obtain ⟨t, rfl⟩ := r; rfl
  | byt _ => obtain ⟨t, rfl⟩ := r; rfl
  | flt _ => obtain ⟨t, rfl⟩ := r; rfl
  | ref _ => cases r; rfl
  | ty _ => cases r; rfl
/-- a comparison as a value, as a test -/
def tB (t : TE) : TT := fun σ H Q => t σ H fun x H1 => ∃ c, x = .bl c ∧ Q c H1
/-- an expression whose value is a bool, as a test -/
theorem pt_val {e : Expr} {t : TE} (h : PE X e t) (he : ∀ whole, isTrue e X.env whole = (do let v ← whole; standAt e.pos; holding [v] (truthy v)) := by intro _; rfl) : PT X e (tB t) := by
  intro pins s σ H Q I hw
  refine isTrue_plain (thn (h pins s σ H _ I hw) fun v s1 ⟨x, H1, I1, r1, q1⟩ => ?_) (he _)
  obtain ⟨d, rfl, q⟩ := q1
  cases r1
  exact wpAny_truthy_bool ⟨H1, I1, q⟩

/-! ### and, or, not -/
variable {tA tB' : TT} {rest : List Expr}
def tAnd (t u : TT) : TT := fun σ H Q => t σ H fun c H1 => if c = true then u σ H1 Q else Q false H1
def tOr (t u : TT) : TT := fun σ H Q => t σ H fun c H1 => if c = true then Q true H1 else u σ H1 Q
def tNot (t : TT) : TT := fun σ H Q => t σ H fun c H1 => Q (!c) H1
theorem pw_and1 (ha : PT X a tA) : PW X (.BoolOp .And [a] pos) tA := by
  intro wh pins s σ H Q I h
  refine isTrue_and (thn (ha pins s σ H Q I h) fun c s1 e => ?_)
  cases c with
  | true => exact isTrue_and_nil e
  | false => exact e
theorem pw_or1 (ha : PT X a tA) : PW X (.BoolOp .Or [a] pos) tA := by
  intro wh pins s σ H Q I h
  refine isTrue_or (thn (ha pins s σ H Q I h) fun c s1 e => ?_)
  cases c with
  | false => exact isTrue_or_nil e
  | true => exact e
theorem pw_and (ha : PT X a tA) (hb : PW X (.BoolOp .And (b :: rest) pos) tB') : PW X (.BoolOp .And (a :: b :: rest) pos) (tAnd tA tB') := by
  intro wh pins s σ H Q I h
  refine isTrue_and (thn (ha pins s σ H _ I h) fun c s1 ⟨H1, I1, q1⟩ => ?_)
  cases c with
  | true => exact hb wh pins s1 σ H1 Q I1 q1
  | false => exact ⟨H1, I1, q1⟩
theorem pw_or (ha : PT X a tA) (hb : PW X (.BoolOp .Or (b :: rest) pos) tB') : PW X (.BoolOp .Or (a :: b :: rest) pos) (tOr tA tB') := by
  intro wh pins s σ H Q I h
  refine isTrue_or (thn (ha pins s σ H _ I h) fun c s1 ⟨H1, I1, q1⟩ => ?_)
  cases c with
  | true => exact ⟨H1, I1, q1⟩
  | false => exact hb wh pins s1 σ H1 Q I1 q1
theorem pt_not (ha : PT X a tA) : PT X (.UnaryOp .Not a pos) (tNot tA) := by
  intro pins s σ H Q I h
  exact isTrue_not (ha pins s σ H (fun c H1 => Q (!c) H1) I h)
/-- .. as values (bools) -/
def tAndV (ta tb : TE) : TE := fun σ H Q => ta σ H fun x H1 => ∃ c, x = .bl c ∧ if c = true then tb σ H1 Q else Q (.bl false) H1
def tOrV (ta tb : TE) : TE := fun σ H Q => ta σ H fun x H1 => ∃ c, x = .bl c ∧ if c = true then Q (.bl true) H1 else tb σ H1 Q
def tNotV (ta : TE) : TE := fun σ H Q => ta σ H fun x H1 => ∃ c, x = .bl c ∧ Q (.bl (!c)) H1
theorem pe_one {op} {t : TE} (h : PE X a t) : PE X (.BoolOp op [a] pos) t := fun pins s σ H Q I hw => BoolOp_one (h pins s σ H Q I hw)
theorem pe_and (ha : PE X a ta) (hb : PE X (.BoolOp .And (b :: rest) pos) tb) : PE X (.BoolOp .And (a :: b :: rest) pos) (tAndV ta tb) := by
  intro pins s σ H Q I h
  refine BoolOp_and (thn (ha pins s σ H _ I h) fun v s1 ⟨x, H1, I1, r1, q1⟩ => ?_)
  obtain ⟨c, rfl, q1⟩ := q1
  cases r1
  refine wpAny_truthy_bool ?_
  cases c with
  | true => exact hb pins s1 σ H1 Q I1 q1
  | false => exact ⟨.bl false, H1, I1, rfl, q1⟩
theorem pe_not (ha : PE X a ta) : PE X (.UnaryOp .Not a pos) (tNotV ta) := by
  intro pins s σ H Q I h
  refine UnaryOp_ (thn (ha pins s σ H _ I h) fun v s1 ⟨x, H1, I1, r1, q1⟩ => ?_)
  obtain ⟨c, rfl, q1⟩ := q1
  cases r1
  exact not_of (wpAny_truthy_bool ⟨.bl (!c), H1, I1, rfl, q1⟩)
/-- a if t else b -/
def tIf (t : TT) (ta tb : TE) : TE := fun σ H Q => t σ H fun c H1 => if c = true then ta σ H1 Q else tb σ H1 Q
theorem pe_ifExp {c : Expr} (hc : PT X c tA) (ha : PE X a ta) (hb : PE X b tb) : PE X (.IfExp c a b pos) (tIf tA ta tb) := by
  intro pins s σ H Q I h
  refine wpAny_IfExp (thn (hc pins s σ H _ I h) fun d s1 ⟨H1, I1, q1⟩ => ?_)
  cases d with
  | true => exact ha pins s1 σ H1 Q I1 q1
  | false => exact hb pins s1 σ H1 Q I1 q1
end
end L2

namespace L2
open PySem PySem.Spec PyProof.Rows

/-! ### a list, a tuple that is read: tracked, frozen, or an object of the module -/
def SqL (K : PySem.W.Frag) (H : Hp) (a : Addr) (xs : List V) : Prop :=
  Rd H a (.lst xs) ∨
    ∃ (o : Obj) (its : Array Value) (n : Nat), K.lookup a = some o ∧ o.cls = .type "list" ∧ o.dict = none ∧ o.data = .seq its n ∧ its.size ≤ sizeLine ∧ Vals xs its.toList
def SqT (K : PySem.W.Frag) (H : Hp) (a : Addr) (xs : List V) : Prop :=
  Rd H a (.tup xs) ∨
    ∃ (o : Obj) (its : Array Value) (n : Nat), K.lookup a = some o ∧ o.cls = .type "tuple" ∧ o.data = .seq its n ∧ its.size ≤ sizeLine ∧ Vals xs its.toList
def absV : Value → Option V
  | .none => some .non
  | .bool b => some (.bl b)
  | .int i _ => some (.int i)
  | .str x _ => some (.str x)
  | .bytes b _ => some (.byt b)
  | .float b _ => some (.flt b)
  | .ref a => some (.ref a)
  | .type n => some (.ty n)
  | _ => none
theorem RelV.abs {x : V} {u : Value} (r : RelV x u) : absV u = some x := by
  cases x with
  | non => cases r; rfl
  | bl _ => cases r; rfl
  | int _ => obtain ⟨t, rfl⟩ := r; rfl
  | str _ => obtain ⟨t, rfl⟩ := r; rfl
  | byt _ => obtain ⟨t, rfl⟩ := r; rfl
  | flt _ => obtain ⟨t, rfl⟩ := r; rfl
  | ref _ => cases r; rfl
  | ty _ => cases r; rfl
theorem RelV.inj {x y : V} {u : Value} (r : RelV x u) (q : RelV y u) : x = y := Option.some.inj (r.abs.symm.trans q.abs)
theorem Vals.inj : ∀ {xs ys : List V} {us : List Value}, Vals xs us → Vals ys us → xs = ys
  | _, _, _, .nil, .nil => rfl
  | _, _, _, .cons r t, .cons r' t' => by rw [r.inj r', Vals.inj t t']
section
variable {X : Cx} {pins : List (Addr × Obj)} {σ : St} {H : Hp} {s : Shared} {a : Addr} {xs ys : List V}
theorem SqL.of {K : PySem.W.Frag} (h : H a = some (.lst xs)) : SqL K H a xs := .inl (.inl h)
theorem SqT.of {K : PySem.W.Frag} (h : H a = some (.tup xs)) : SqT K H a xs := .inl (.inl h)
theorem Inv.list (I : Inv X pins σ H s) (h : SqL X.K H a xs) : ∃ its : List Value, Vals xs its ∧ PlainL s.heap a its.toArray ∧ xs.length ≤ sizeLine := by
  rcases h with h | ⟨o, its, n, hk, hc, hd, hs, hz, r⟩
  · obtain ⟨z, its, n, r, e⟩ := h.ok I.hok
    exact ⟨its, r, ⟨_, n, e, rfl, rfl, rfl⟩, z⟩
  · refine ⟨its.toList, r, ⟨o, n, I.kIn a o hk, hc, hd, by simpa using hs⟩, ?_⟩
    have e := r.length
    simp only [Array.length_toList] at e
    omega
theorem Inv.tuple (I : Inv X pins σ H s) (h : SqT X.K H a xs) : ∃ its : List Value, Vals xs its ∧ IsTup s.heap a its.toArray ∧ xs.length ≤ sizeLine := by
  rcases h with h | ⟨o, its, n, hk, hc, hs, hz, r⟩
  · obtain ⟨z, its, r, p⟩ := h.ok I.hok
    exact ⟨its, r, p, z⟩
  · refine ⟨its.toList, r, ⟨o, I.kIn a o hk, hc, n, by simpa using hs⟩, ?_⟩
    have e := r.length
    simp only [Array.length_toList] at e
    omega
theorem Inv.list_inj (I : Inv X pins σ H s) (h : SqL X.K H a xs) (h' : SqL X.K H a ys) : xs = ys := by
  obtain ⟨its, r, ⟨o, n, e, _, _, d⟩, _⟩ := I.list h
  obtain ⟨its', r', ⟨o', n', e', _, _, d'⟩, _⟩ := I.list h'
  rw [e] at e'; cases e'
  rw [d] at d'
  injection d' with d1 _
  have : its = its' := by simpa using congrArg Array.toList d1
  subst this
  exact r.inj r'
theorem Inv.tuple_inj (I : Inv X pins σ H s) (h : SqT X.K H a xs) (h' : SqT X.K H a ys) : xs = ys := by
  obtain ⟨its, r, ⟨o, e, _, n, d⟩, _⟩ := I.tuple h
  obtain ⟨its', r', ⟨o', e', _, n', d'⟩, _⟩ := I.tuple h'
  rw [e] at e'; cases e'
  rw [d] at d'
  injection d' with d1 _
  have : its = its' := by simpa using congrArg Array.toList d1
  subst this
  exact r.inj r'
end

/-! ### another wish about exceptions -/
abbrev Cx.wish (X : Cx) (E : Value → Shared → Prop) : Cx := { X with xe := E }
/-- no exception leaves -/
abbrev Cx.nox (X : Cx) : Cx := X.wish fun _ _ => False
theorem Cx.Ok.wish {X : Cx} (ok : X.Ok) (E : Value → Shared → Prop) : (X.wish E).Ok :=
  ⟨ok.mod, ok.kind, ok.glob, ok.blt, ok.above, ok.inj, ok.has, ok.cab, ok.hd, ok.frames, ok.stk, ok.exf, ok.bs, ok.bsz, ok.noex, ok.exfs, ok.funs, ok.frf⟩
theorem Cx.Ok.unwish {X : Cx} {E : Value → Shared → Prop} (ok : (X.wish E).Ok) : X.Ok :=
  ⟨ok.mod, ok.kind, ok.glob, ok.blt, ok.above, ok.inj, ok.has, ok.cab, ok.hd, ok.frames, ok.stk, ok.exf, ok.bs, ok.bsz, ok.noex, ok.exfs, ok.funs, ok.frf⟩
section
variable {X : Cx} {pins : List (Addr × Obj)} {σ : St} {H : Hp} {s : Shared} {E : Value → Shared → Prop}
theorem Inv.wish (I : Inv X pins σ H s) (E : Value → Shared → Prop) : Inv (X.wish E) pins σ H s := ⟨I.ok.wish E, I.os, I.bare, I.base, I.loc, I.cell, I.free, I.freeC, I.pin, I.hok, I.len⟩
theorem Inv.unwish (I : Inv (X.wish E) pins σ H s) : Inv X pins σ H s := ⟨I.ok.unwish, I.os, I.bare, I.base, I.loc, I.cell, I.free, I.freeC, I.pin, I.hok, I.len⟩
theorem SP.unwish {D : Ends} {f : Flow} {s' : Shared} (h : SP (X.wish E) pins D f s') : SP X pins D f s' := by
  cases f with
  | next => obtain ⟨σ', H', I, q⟩ := h; exact ⟨σ', H', I.unwish, q⟩
  | brk => obtain ⟨σ', H', I, q⟩ := h; exact ⟨σ', H', I.unwish, q⟩
  | cont => obtain ⟨σ', H', I, q⟩ := h; exact ⟨σ', H', I.unwish, q⟩
  | ret u => obtain ⟨v, σ', H', I, r, q⟩ := h; exact ⟨v, σ', H', I.unwish, r, q⟩
theorem PE.nox {e : Expr} {t : TE} (h : PE X.nox e t) : PE X e t := fun pins s σ H Q I hw =>
  wpAny_mono (h pins s σ H Q (I.wish _) hw) (fun _ _ ⟨v, H', I', r, q⟩ => ⟨v, H', I'.unwish, r, q⟩) fun _ _ z => False.elim z
theorem PT.nox {e : Expr} {t : TT} (h : PT X.nox e t) : PT X e t := fun pins s σ H Q I hw =>
  wpAny_mono (h pins s σ H Q (I.wish _) hw) (fun _ _ ⟨H', I', q⟩ => ⟨H', I'.unwish, q⟩) fun _ _ z => False.elim z
theorem PSs.nox {st : List Stmt} {t : TS} (h : PSs X.nox st t) : PSs X st t := fun pins s σ H D I hw =>
  wpAny_mono (h pins s σ H D (I.wish _) hw) (fun _ _ q => q.unwish) fun _ _ z => False.elim z
end

/-! ### blocks and small statements -/
section
variable {X : Cx} {st : Stmt} {rest : List Stmt} {t u : TS} {e : Expr} {te : TE} {pos : Pos}
def tNext : TS := fun D σ H => D.nx σ H
def tSeq (t u : TS) : TS := fun D σ H => t { D with nx := u D } σ H
theorem pss_nil : PSs X [] tNext := fun _ _ σ H _ I h => wpAny_execs_nil ⟨σ, H, I, h⟩
theorem pss_cons (h1 : PS X st t) (h2 : PSs X rest u) : PSs X (st :: rest) (tSeq t u) := by
  intro pins s σ H D I h
  refine wpAny_execs_cons (thn (h1 pins s σ H { D with nx := u D } I h) fun f s1 q => ?_)
  cases f with
  | next =>
    obtain ⟨σ', H', I', q⟩ := q
    exact h2 pins s1 σ' H' D I' q
  | ret v => exact q
  | brk => exact q
  | cont => exact q
theorem pss_one (h1 : PS X st t) : PSs X [st] t := by
  intro pins s σ H D I h
  refine wpAny_execs_cons (thn (h1 pins s σ H D I h) fun f s1 q => ?_)
  cases f with
  | next => exact wpAny_execs_nil q
  | ret v => exact q
  | brk => exact q
  | cont => exact q
def tBreak : TS := fun D σ H => D.bk σ H
def tCont : TS := fun D σ H => D.ct σ H
/-- in a def's body nothing is shown -/
theorem Inv.quiet {pins : List (Addr × Obj)} {σ : St} {H : Hp} {s : Shared} (I : Inv X pins σ H s) : interactive X.env = false := by simp [interactive, I.ok.kind]
/-- an expression whose value is dropped -/
def tDrop (te : TE) : TS := fun D σ H => te σ H fun _ H1 => D.nx σ H1
theorem ps_expr (he : PE X e te) (hs : swapsWith e none pos.line X.env = pure false := by rfl) : PS X (.Expr e pos) (tDrop te) := by
  intro pins s σ H D I h
  exact wpAny_Expr_any (thn (he pins s σ H _ I h) fun v s1 ⟨x, H1, I1, r1, q1⟩ => ⟨σ, H1, I1, q1⟩) I.quiet hs
def tRet (te : TE) : TS := fun D σ H => te σ H D.rt
theorem ps_ret (he : PE X e te) : PS X (.Return (some e) pos) (tRet te) := by
  intro pins s σ H D I h
  exact wpAny_Return_some (thn (he pins s σ H _ I h) fun v s1 ⟨x, H1, I1, r1, q1⟩ => ⟨x, σ, H1, I1, r1, q1⟩)
def tRetN : TS := fun D _ H => D.rt .non H
def tIfS (c : TT) (t u : TS) : TS := fun D σ H => c σ H fun b H1 => if b = true then t D σ H1 else u D σ H1
theorem ps_if {c : Expr} {a b : List Stmt} {tc : TT} (hc : PT X c tc) (ha : PSs X a t) (hb : PSs X b u) : PS X (.If c a b pos) (tIfS tc t u) := by
  intro pins s σ H D I h
  refine wpAny_If (thn (hc pins s σ H _ I h) fun d s1 ⟨H1, I1, q1⟩ => ?_)
  cases d with
  | true => exact ha pins s1 σ H1 D I1 q1
  | false => exact hb pins s1 σ H1 D I1 q1
/-- code that the proof never comes to -/
def tNever : TS := fun _ _ _ => False
theorem ps_never : PS X st tNever := fun _ _ _ _ _ _ h => h.elim
end

/-! ### targets -/
abbrev TG := V → St → Hp → (St → Hp → Prop) → Prop
abbrev TGs := List V → St → Hp → (St → Hp → Prop) → Prop
def PG (X : Cx) (target : Expr) (t : TG) : Prop :=
  ∀ (pins : List (Addr × Obj)) (s : Shared) (σ : St) (H : Hp) (v : V) (u : Value) (Q : St → Hp → Prop), Inv X pins σ H s → RelV v u → t v σ H Q →
    wpAny (model X.prog X.w) X.A (assign target X.env u) (fun _ s' => ∃ σ' H', Inv X pins σ' H' s' ∧ Q σ' H') X.xe s
/-- several targets, one after another -/
def PGs (X : Cx) (ts : List Expr) (t : TGs) : Prop :=
  ∀ (pins : List (Addr × Obj)) (s : Shared) (σ : St) (H : Hp) (vs : List V) (us : List Value) (Q : St → Hp → Prop), Inv X pins σ H s → Vals vs us → t vs σ H Q →
    wpAny (model X.prog X.w) X.A (assignInOrder ((assignEach ts X.env).map (·.2)) us) (fun _ s' => ∃ σ' H', Inv X pins σ' H' s' ∧ Q σ' H') X.xe s
/-- o[i] = v, by values -/
abbrev TSet := V → V → V → Hp → (Hp → Prop) → Prop
def PSet (X : Cx) (t : TSet) : Prop :=
  ∀ (pins : List (Addr × Obj)) (s : Shared) (σ : St) (H : Hp) (o i v : V) (ov iv u : Value) (Q : Hp → Prop), Inv X pins σ H s → RelV o ov → RelV i iv → RelV v u → t o i v H Q →
    wpAny (model X.prog X.w) X.A (setItem ov iv u) (fun _ s' => ∃ H', Inv X pins σ H' s' ∧ Q H') X.xe s
/-- a op= b, by values -/
abbrev TIp := V → V → Hp → VK → Prop
def PIp (X : Cx) (op : Operator) (t : TIp) : Prop :=
  ∀ (pins : List (Addr × Obj)) (s : Shared) (σ : St) (H : Hp) (x y : V) (v u : Value) (Q : VK), Inv X pins σ H s → RelV x v → RelV y u → t x y H Q →
    wpAny (model X.prog X.w) X.A (inplaceOp op v u) (EP X pins σ Q) X.xe s
section
variable {X : Cx} {pos : Pos}
def gName (i : Nat) : TG := fun v σ H Q => Q (σ.set i (some v)) H
theorem pg_name {i : Nat} {x : Str} (hN : X.N.Nodup) (hi : X.N[i]? = some x) (hx : Loc X.env.scope x) (hf : X.fn x = true ∨ X.env.scope.names.lookup x = some .local := by first | exact .inl rfl | exact .inr rfl | assumption) : PG X (.Name x pos) (gName i) := by
  intro pins s σ H v u Q I r h
  exact wpAny_assign_Name (store_ok I hN hi hx r (fun s' I' => ⟨_, H, I', h⟩) hf)
def gNil : TGs := fun vs σ H Q => vs = [] ∧ Q σ H
def gCons (t : TG) (u : TGs) : TGs := fun vs σ H Q => ∃ v r, vs = v :: r ∧ t v σ H fun σ' H' => u r σ' H' Q
theorem pgs_nil : PGs X [] gNil := by
  intro pins s σ H vs us Q I r h
  obtain ⟨e, h⟩ := h
  subst e
  cases r
  exact assignInOrder_nil ⟨σ, H, I, h⟩
theorem pgs_cons {e : Expr} {es : List Expr} {t : TG} {u : TGs} (h1 : PG X e t) (h2 : PGs X es u)
    (hs : (assignEach (e :: es) X.env).map (·.2) = assign e X.env :: (assignEach es X.env).map (·.2) := by rfl) : PGs X (e :: es) (gCons t u) := by
  intro pins s σ H vs us Q I r h
  obtain ⟨v, vr, e1, h⟩ := h
  subst e1
  cases r with
  | cons r rr =>
    rw [hs]
    refine assignInOrder_cons (thn (h1 pins s σ H _ _ _ I r h) fun _ s1 ⟨σ1, H1, I1, q1⟩ => ?_)
    exact h2 pins s1 σ1 H1 _ _ Q I1 rr q1
/-- (a, b, ..) = a tuple of that length -/
def gTup (K : PySem.W.Frag) (n : Nat) (t : TGs) : TG := fun v σ H Q => ∃ a xs, v = .ref a ∧ SqT K H a xs ∧ xs.length = n ∧ t xs σ H Q
theorem pg_tup {es : List Expr} {k : Nat} {t : TGs} {n : Nat} (hc : X.calm = true) (h : PGs X es t)
    (hn : (assignEach es X.env).length = n := by rfl) (hst : (assignEach es X.env).findIdx? (·.1) = none := by rfl) : PG X (.Tuple es k pos) (gTup X.K n t) := by
  intro pins s σ H v u Q I r hw
  obtain ⟨a, xs, e1, hq, hl, hw⟩ := hw
  subst e1
  cases r
  obtain ⟨its, rv, ht, hz⟩ := I.tuple hq
  refine assign_Tuple_tuple (I.ok.hd hc) ht (by simp [hn, ← hl, rv.length]) hst fun h' hx => ?_
  have I1 : Inv X pins σ H { s with heap := h' } := I.kept (t' := s.toks) fun b o e => hx b o (Nat.ne_of_lt (Heap.lt_size e)) e
  exact h pins _ σ H xs _ Q I1 (by simpa using rv) hw
/-- o[i] = .. -/
def gSub (to ti : TE) (t : TSet) : TG := fun v σ H Q => to σ H fun o H1 => ti σ H1 fun i H2 => t o i v H2 fun H3 => Q σ H3
/-- target = value -/
def tAsg (te : TE) (g : TG) : TS := fun D σ H => te σ H fun x H1 => g x σ H1 D.nx
theorem ps_asg {tg e : Expr} {te : TE} {g : TG} (he : PE X e te) (hg : PG X tg g) (hs : swapsWithSole [tg] e pos.line X.env = pure false := by rfl) (hw : swappedStores [tg] e X.env = pure none := by rfl)
    (h1 : (assignEach [tg] X.env).map (·.2) = [assign tg X.env] := by rfl) : PS X (.Assign [tg] e pos) (tAsg te g) := by
  intro pins s σ H D I h
  refine wpAny_Assign_stores (thn (he pins s σ H _ I h) fun v s1 ⟨x, H1, I1, r1, q1⟩ => ?_) hs hw
  rw [h1]
  exact thn (hg pins s1 σ H1 x v _ I1 r1 q1) fun _ s2 q => q
/-- name = value -/
theorem ps_set {i : Nat} {x : Str} {e : Expr} {te : TE} {pos' : Pos} (hN : X.N.Nodup) (hi : X.N[i]? = some x) (hx : Loc X.env.scope x) (he : PE X e te) (hs : swapsWith e (some (.Name x pos')) pos.line X.env = pure false := by rfl) (hf : X.fn x = true ∨ X.env.scope.names.lookup x = some .local := by first | exact .inl rfl | exact .inr rfl | assumption) :
    PS X (.Assign [.Name x pos'] e pos) (tAsg te (gName i)) := by
  intro pins s σ H D I h
  refine wpAny_Assign_Name (thn (he pins s σ H _ I h) fun v s1 ⟨y, H1, I1, r1, q1⟩ => ?_) hs
  exact store_ok I1 hN hi hx r1 (fun s2 I2 => ⟨_, H1, I2, q1⟩) hf
/-- a, b = x, y with plain local names: stored from the right; the pair itself is not tracked (the opening rows as in PyProof/Rows/TupAssign.lean:23) -/
def tPar (i j : Nat) (ta : TA) : TS := fun D σ H => ta σ H fun vs H1 => ∃ v w, vs = [v, w] ∧ D.nx ((σ.set i (some v)).set j (some w)) H1
/-- name op= e -/
def tAug (i : Nat) (te : TE) (ti : TIp) : TS := fun D σ H => ∃ x, σ[i]? = some (some x) ∧ te σ H fun y H1 => ti x y H1 fun z H2 => D.nx (σ.set i (some z)) H2
/-- o[i] op= e -/
def tAugS (to ti te : TE) (tget : V → V → Hp → VK → Prop) (tip : TIp) (tset : TSet) : TS := fun D σ H => to σ H fun o H1 => ti σ H1 fun i H2 => tget o i H2 fun x H3 => te σ H3 fun y H4 => tip x y H4 fun z H5 => tset o i z H5 fun H6 => D.nx σ H6
/-- o[i], by values -/
def PGet (X : Cx) (t : V → V → Hp → VK → Prop) : Prop :=
  ∀ (pins : List (Addr × Obj)) (s : Shared) (σ : St) (H : Hp) (o i : V) (ov iv : Value) (Q : VK), Inv X pins σ H s → RelV o ov → RelV i iv → t o i H Q →
    wpAny (model X.prog X.w) X.A (getItem ov iv) (EP X pins σ Q) X.xe s
/-- ints -/
def ipI (f : Int → Int → Int) : TIp := fun x y H Q => ∃ i j, x = .int i ∧ y = .int j ∧ Q (.int (f i j)) H
end

/-! ### while -/
section
variable {X : Cx} {pos : Pos}
/-- the invariant W with its measure -/
def tWhile (c : TT) (tb : TS) : TS := fun D σ H => ∃ W : Nat → St → Hp → Prop, (∃ m, W m σ H) ∧ ∀ m σ H, W m σ H →
  c σ H fun b H1 => if b = true then ∃ N : St → Hp → Prop, (∀ σ' H', N σ' H' → ∃ m', m' < m ∧ W m' σ' H') ∧ tb { D with nx := N, ct := N, bk := D.nx } σ H1 else D.nx σ H1
end

/-! ### what a loop or a comprehension walks -/
/-- at turn i: it yields x (the heap may grow), or it stops -/
structure It where
  go : Nat → Hp → Prop
  yld : Nat → Hp → V → Hp → Prop
  stop : Nat → Hp → Prop
/-- the iterator's own objects may turn: they are not the frame's, not pinned, younger than the entry (or a comprehension's own) -/
def FpOk (X : Cx) (pins : List (Addr × Obj)) (H : Hp) (b : Addr) : Prop :=
  H b = none ∧ b ≠ X.env.locals ∧ b ∉ X.fs ∧ (b ∈ X.ex ∨ X.s₀.heap.objs.size ≤ b) ∧ (∀ x c, X.env.cells.lookup x = some c → c ≠ b) ∧ ∀ p ∈ X.pn ++ pins, p.1 ≠ b
theorem Inv.fpOk {X : Cx} {pins : List (Addr × Obj)} {σ : St} {H H' : Hp} {s : Shared} {b : Addr} (I : Inv X pins σ H s) (hb : s.heap.objs.size ≤ b) (hn : H' b = none) : FpOk X pins H' b := by
  refine ⟨hn, Nat.ne_of_gt (Nat.lt_of_lt_of_le I.lt hb), I.nofs hb, .inr (Nat.le_trans I.sz hb), fun x c e z => ?_, fun p hp z => ?_⟩
  · obtain ⟨v, q⟩ := I.cell x c e
    exact absurd (Nat.lt_of_lt_of_le q.lt (by rw [z]; exact hb)) (Nat.lt_irrefl _)
  · exact absurd (Nat.lt_of_lt_of_le (Heap.lt_size (I.pin p hp).1) (by rw [z]; exact hb)) (Nat.lt_irrefl _)
structure Turn (P : Program) (w : World) (K : PySem.W.Frag) (tg : Expr) (J : It) (fp : List Addr) (it : Addr) (tn : Nat → Heap → Prop) : Prop where
  mem : it ∈ fp
  obj : ∀ i h, tn i h → ∀ b ∈ fp, ∃ o, h.get? b = some o ∧ ∀ v, o.data ≠ .cell v
  keep : ∀ i h h', tn i h → (∀ b ∈ fp, ∀ o, h.get? b = some o → h'.get? b = some o) → tn i h'
  item : ∀ (X : Cx), X.prog = P → X.w = w → X.K = K → X.calm = true → ∀ (i : Nat) (pins : List (Addr × Obj)) (s : Shared) (σ : St) (H : Hp) (E : Value → Shared → Prop), Inv X pins σ H s → (∀ b ∈ fp, FpOk X pins H b) → tn i s.heap → J.go i H →
    wpAny (model P w) X.A (pyNext (.ref it)) (fun r s1 => ∃ u, r = some u ∧
      wpAny (model P w) X.A (letOwnedTupleGo tg (.ref it) u) (fun _ s2 => ∃ x H', Inv X pins σ H' s2 ∧ RelV x u ∧ J.yld i H x H' ∧ tn (i + 1) s2.heap ∧ ∀ b ∈ fp, H' b = none) E s1) E s
  done : ∀ (X : Cx), X.prog = P → X.w = w → X.K = K → X.calm = true → ∀ (i : Nat) (pins : List (Addr × Obj)) (s : Shared) (σ : St) (H : Hp) (E : Value → Shared → Prop), Inv X pins σ H s → (∀ b ∈ fp, FpOk X pins H b) → tn i s.heap → J.stop i H →
    wpAny (model P w) X.A (pyNext (.ref it)) (fun r s1 => r = none ∧ Inv X pins σ H s1) E s
  self : ∀ (A : Around) (i : Nat) (s : Shared) (Q : Value → Shared → Prop) (E : Value → Shared → Prop), tn i s.heap → Q (.ref it) s → wpAny (model P w) A (pyIter (.ref it)) Q E s
abbrev TI := St → Hp → (It → Hp → Prop) → Prop
/-- an iterator has come -/
def PIE (X : Cx) (pins : List (Addr × Obj)) (σ : St) (tg : Expr) (R : It → Hp → Prop) (itv : Value) (s2 : Shared) : Prop :=
  ∃ (it : Addr) (fp : List Addr) (tn : Nat → Heap → Prop) (J : It) (H' : Hp), itv = .ref it ∧ Inv X pins σ H' s2 ∧ Turn X.prog X.w X.K tg J fp it tn ∧ tn 0 s2.heap ∧ (∀ b ∈ fp, FpOk X pins H' b) ∧ R J H'
def PI (X : Cx) (tg iter : Expr) (wi : TI) : Prop :=
  ∀ (pins : List (Addr × Obj)) (s : Shared) (σ : St) (H : Hp) (R : It → Hp → Prop), Inv X pins σ H s → wi σ H R →
    wpAny (model X.prog X.w) X.A (eval iter X.env) (fun v s1 => wpAny (model X.prog X.w) X.A (pyIter v) (PIE X pins σ tg R) X.xe s1) X.xe s

/-- the step ahead of the store is nothing for an iterator that keeps no tuple -/
theorem go_of {M : Model} {A : Around} {E : Value → Shared → Prop} {s : Shared} {tg : Expr} {it : Addr} {u : Value} {o : Obj} {n : String} {vs : Array Value} {Q : Unit → Shared → Prop} (ho : s.heap.get? it = some o) (hc : o.cls = .type n) (hd : o.data = .fields vs)
    (hn : ["enumerate", "zip", "dict_itemiterator", "dict_reverseitemiterator", "odict_iterator", "itertools.zip_longest", "itertools.pairwise"].contains n = false) (hQ : Q () s) : wpAny M A (letOwnedTupleGo tg (.ref it) u) Q E s := by
  unfold letOwnedTupleGo
  cases tg <;> first
    | exact wpAny_pure hQ
    | (cases u <;> first
        | exact wpAny_pure hQ
        | (refine wpAny_bind (wpAny_load ho ?_)
           rw [hc, hd]
           show wpAny M A (if (["enumerate", "zip", "dict_itemiterator", "dict_reverseitemiterator", "odict_iterator", "itertools.zip_longest", "itertools.pairwise"].contains n && vs[0]? == some (rawInt _)) = true then _ else _) Q E s
           rw [if_neg (by intro h; rw [hn, Bool.false_and] at h; cases h)]
           exact wpAny_pure hQ))

/-- the list at a, as it stands at each turn (a loop may append to it) -/
def Itl (K : PySem.W.Frag) (a : Addr) : It :=
  ⟨fun i H => ∃ xs x, SqL K H a xs ∧ xs[i]? = some x, fun i H x H' => H' = H ∧ ∀ xs, SqL K H a xs → xs[i]? = some x, fun i H => ∃ xs, SqL K H a xs ∧ xs.length ≤ i⟩
def Itt (K : PySem.W.Frag) (a : Addr) : It :=
  ⟨fun i H => ∃ xs x, SqT K H a xs ∧ xs[i]? = some x, fun i H x H' => H' = H ∧ ∀ xs, SqT K H a xs → xs[i]? = some x, fun i H => ∃ xs, SqT K H a xs ∧ xs.length ≤ i⟩
/-- lo, lo + 1, .. (n of them) -/
def Itr (lo : Int) (n : Nat) : It := ⟨fun i _ => i < n, fun i H x H' => H' = H ∧ x = .int (lo + i), fun i _ => n ≤ i⟩
theorem turn_list {P : Program} {w : World} {K : PySem.W.Frag} {tg : Expr} (a it : Addr) : Turn P w K tg (Itl K a) [it] it (fun i h => h.IsListIter it a i) where
  mem := by simp
  obj := fun i h st b hb => by
    have e : b = it := by simpa using hb
    subst e
    obtain ⟨o, e, c, d⟩ := st
    exact ⟨o, e, fun v z => by rw [d] at z; cases z⟩
  keep := fun i h h' st k => st.at fun o e => k it (by simp) o e
  item := by
    intro X hP hw hK hc i pins s σ H E I hf st hg
    subst hP hw hK
    obtain ⟨xs, x, hq, hx⟩ := hg
    obtain ⟨its, rv, p, hz⟩ := I.list hq
    obtain ⟨u, hu, ru⟩ := rv.get hx
    obtain ⟨f0, f1, f2, f3, f4, f5⟩ := hf it (by simp)
    refine wpAny_pyNext_list_item st p.isList (x := u) (by simpa using hu) fun h' st' sb => ?_
    have I1 : Inv X pins σ H { s with heap := h' } := I.turned (t' := s.toks) (fun b o hb e => (sb.2 b hb).trans e) f0 f1 f3 f4 f5
    obtain ⟨o, e, c, d⟩ := id st'
    exact ⟨u, rfl, go_of (s := { s with heap := h' }) e c d (by decide) ⟨x, H, I1, ru, ⟨rfl, fun ys hy => by rw [I.list_inj hy hq]; exact hx⟩, st', fun b hb => (hf b hb).1⟩⟩
  done := by
    intro X hP hw hK hc i pins s σ H E I hf st hg
    subst hP hw hK
    obtain ⟨xs, hq, hx⟩ := hg
    obtain ⟨its, rv, p, hz⟩ := I.list hq
    obtain ⟨f0, f1, f2, f3, f4, f5⟩ := hf it (by simp)
    have hl := rv.length
    exact wpAny_pyNext_list_end (I.ok.hd hc) st p.isList (by simp; omega) fun h' eb => ⟨rfl, I.turned (t' := s.toks) (fun b o hb e => eb b o hb e) f0 f1 f3 f4 f5⟩
  self := fun _ _ _ _ _ st h => wpAny_pyIter_listiter st h
theorem turn_tuple {P : Program} {w : World} {K : PySem.W.Frag} {tg : Expr} (a it : Addr) : Turn P w K tg (Itt K a) [it] it (fun i h => h.IsTupleIter it a i) where
  mem := by simp
  obj := fun i h st b hb => by
    have e : b = it := by simpa using hb
    subst e
    obtain ⟨o, e, c, d⟩ := st
    exact ⟨o, e, fun v z => by rw [d] at z; cases z⟩
  keep := fun i h h' st k => st.at fun o e => k it (by simp) o e
  item := by
    intro X hP hw hK hc i pins s σ H E I hf st hg
    subst hP hw hK
    obtain ⟨xs, x, hq, hx⟩ := hg
    obtain ⟨its, rv, p, hz⟩ := I.tuple hq
    obtain ⟨u, hu, ru⟩ := rv.get hx
    obtain ⟨f0, f1, f2, f3, f4, f5⟩ := hf it (by simp)
    refine wpAny_pyNext_tuple_item st (show s.heap.IsTuple a its.toArray from p) (x := u) (by simpa using hu) fun h' st' sb => ?_
    have I1 : Inv X pins σ H { s with heap := h' } := I.turned (t' := s.toks) (fun b o hb e => (sb.2 b hb).trans e) f0 f1 f3 f4 f5
    obtain ⟨o, e, c, d⟩ := id st'
    exact ⟨u, rfl, go_of (s := { s with heap := h' }) e c d (by decide) ⟨x, H, I1, ru, ⟨rfl, fun ys hy => by rw [I.tuple_inj hy hq]; exact hx⟩, st', fun b hb => (hf b hb).1⟩⟩
  done := by
    intro X hP hw hK hc i pins s σ H E I hf st hg
    subst hP hw hK
    obtain ⟨xs, hq, hx⟩ := hg
    obtain ⟨its, rv, p, hz⟩ := I.tuple hq
    obtain ⟨f0, f1, f2, f3, f4, f5⟩ := hf it (by simp)
    have hl := rv.length
    exact wpAny_pyNext_tuple_end (I.ok.hd hc) st (show s.heap.IsTuple a its.toArray from p) (by simp; omega) fun h' eb => ⟨rfl, I.turned (t' := s.toks) (fun b o hb e => eb b o hb e) f0 f1 f3 f4 f5⟩
  self := fun _ _ _ _ _ st h => wpAny_pyIter_tupleiter st h
theorem turn_range {P : Program} {w : World} {K : PySem.W.Frag} {tg : Expr} (it : Addr) (lo : Int) (n : Nat) : Turn P w K tg (Itr lo n) [it] it (fun i h => IsRangeIter h it (lo + (i : Nat) * 1) ((n : Int) - (i : Nat)) 1) where
  mem := by simp
  obj := fun i h st b hb => by
    have e : b = it := by simpa using hb
    subst e
    exact ⟨_, st, fun v z => by
      have z' : Data.fields _ = Data.cell v := z
      cases z'⟩
  keep := fun i h h' st k => k it (by simp) _ st
  item := by
    intro X hP hw hK hc i pins s σ H E I hf st hg
    subst hP hw hK
    obtain ⟨f0, f1, f2, f3, f4, f5⟩ := hf it (by simp)
    have W := Walks.range (prog := X.prog) (w := X.w) (I.ok.hd hc) it lo 1 n
    refine W.item i s _ _ hg st fun v h' tk hv st' kk => ?_
    obtain ⟨t, rfl⟩ := hv
    have I1 : Inv X pins σ H { s with heap := h', toks := tk } := I.turned (fun b o hb e => kk b o (by simpa using hb) e) f0 f1 f3 f4 f5
    refine ⟨_, rfl, go_of (s := { s with heap := h', toks := tk }) (n := "range_iterator") st' rfl rfl (by decide) ⟨.int (lo + i), H, I1, ⟨t, ?_⟩, ⟨rfl, rfl⟩, st', fun b hb => (hf b hb).1⟩⟩
    rw [Int.mul_one]
  done := by
    intro X hP hw hK hc i pins s σ H E I hf st hg
    subst hP hw hK
    obtain ⟨f0, f1, f2, f3, f4, f5⟩ := hf it (by simp)
    exact wpAny_pyNext_range_end (I.ok.hd hc) st (by have : n ≤ i := hg; omega) fun h' eb => ⟨rfl, I.turned (t' := s.toks) (fun b o hb e => eb b o hb e) f0 f1 f3 f4 f5⟩
  self := fun _ _ _ _ _ st h => wpAny_pyIter_rangeiter st h
end L2

namespace L2
open PySem PySem.Spec PyProof.Rows
section
variable {X : Cx} {tg : Expr}
def iList (K : PySem.W.Frag) (tl : TE) : TI := fun σ H R => tl σ H fun x H1 => ∃ a, x = .ref a ∧ (∃ xs, SqL K H1 a xs) ∧ R (Itl K a) H1
def iTup (K : PySem.W.Frag) (tl : TE) : TI := fun σ H R => tl σ H fun x H1 => ∃ a, x = .ref a ∧ (∃ xs, SqT K H1 a xs) ∧ R (Itt K a) H1
theorem pi_list {l : Expr} {tl : TE} (hl : PE X l tl) : PI X tg l (iList X.K tl) := by
  intro pins s σ H R I h
  refine thn (hl pins s σ H _ I h) fun v s1 ⟨x, H1, I1, r1, q1⟩ => ?_
  obtain ⟨a, e, ⟨xs, hq⟩, q⟩ := q1
  subst e
  cases r1
  obtain ⟨its, rv, p, hz⟩ := I1.list hq
  refine wpAny_pyIter_list p.isList ?_
  refine ⟨s1.heap.objs.size, [s1.heap.objs.size], _, _, H1, rfl, I1.kept (t' := s1.toks) fun b o e => Heap.get?_push_of_some _ e, turn_list a _, ⟨_, Heap.get?_push_size _ rfl, rfl, rfl⟩, fun b hb => ?_, q⟩
  have e : b = s1.heap.objs.size := by simpa using hb
  subst e
  exact I1.fpOk (Nat.le_refl _) (I1.hok.fresh (Nat.le_refl _))
/-- a range object just made, walked -/
theorem range_it {pins : List (Addr × Obj)} {σ : St} {H : Hp} {s : Shared} {R : It → Hp → Prop} {E : Value → Shared → Prop} {lo hi : Int} {t u v : Tok} {tk : Nat} (I : Inv X pins σ H s) (h1 : -(2 ^ 62) ≤ lo) (h2 : lo < 2 ^ 62) (h3 : -(2 ^ 62) ≤ hi) (h4 : hi < 2 ^ 62)
    (q : R (Itr lo (hi - lo).toNat) H) : wpAny (model X.prog X.w) X.A (pyIter (.ref s.heap.objs.size)) (PIE X pins σ tg R) E { s with heap := s.heap.push { cls := .type "range", data := .fields #[.int lo t, .int hi u, .int 1 v] }, toks := tk } := by
  refine wpAny_pyIter_range (IsRange.new ..) (small_one h1 h2 h3 h4) ?_
  have I1 : Inv X pins σ H { s with heap := s.heap.push { cls := .type "range", data := .fields #[.int lo t, .int hi u, .int 1 v] }, toks := tk } := I.kept fun b o e => Heap.get?_push_of_some _ e
  refine ⟨(s.heap.push { cls := .type "range", data := .fields #[.int lo t, .int hi u, .int 1 v] }).objs.size, [(s.heap.push { cls := .type "range", data := .fields #[.int lo t, .int hi u, .int 1 v] }).objs.size], _, _, H, rfl,
    I1.kept (t' := tk) fun b o e => Heap.get?_push_of_some _ e, turn_range _ lo (hi - lo).toNat, ?_, fun b hb => ?_, q⟩
  · have e1 : lo + ((0 : Nat) : Int) * 1 = lo := by simp
    have e2 : (((hi - lo).toNat : Nat) : Int) - ((0 : Nat) : Int) = Builtin.Range.rangeSize lo hi 1 := by rw [rangeSize_one]; split <;> omega
    show IsRangeIter _ _ (lo + ((0 : Nat) : Int) * 1) ((((hi - lo).toNat : Nat) : Int) - ((0 : Nat) : Int)) 1
    rw [e1, e2]
    exact Heap.get?_push_size _ rfl
  · have e : b = (s.heap.push { cls := .type "range", data := .fields #[.int lo t, .int hi u, .int 1 v] }).objs.size := by simpa using hb
    subst e
    exact I1.fpOk (Nat.le_refl _) (I1.hok.fresh (Nat.le_refl _))
def iRng1 (ta : TA) : TI := fun σ H R => ta σ H fun vs H1 => ∃ j : Int, vs = [.int j] ∧ -(2 ^ 62) ≤ j ∧ j < 2 ^ 62 ∧ R (Itr 0 j.toNat) H1
def iRng2 (ta : TA) : TI := fun σ H R => ta σ H fun vs H1 => ∃ i j : Int, vs = [.int i, .int j] ∧ (-(2 ^ 62) ≤ i ∧ i < 2 ^ 62 ∧ -(2 ^ 62) ≤ j ∧ j < 2 ^ 62) ∧ R (Itr i (j - i).toNat) H1
theorem pi_range2 {a b : Expr} {ta : TA} {p pos : Pos} (hg : Gl X "range") (hm : X.mg "range" = none) (ha : PA X [a, b] ta) (hs : starEach [a, b] X.env = [(false, eval a X.env), (false, eval b X.env)] := by rfl) (hs2 : starEach [b] X.env = [(false, eval b X.env)] := by rfl) :
    PI X tg (.Call (.Name "range" p) [a, b] [] pos) (iRng2 ta) := by
  intro pins s σ H R I h
  refine Call_ (ld_blt I hg hm boot_range (PyProof.Rows.callWith_type1 (thn (ha pos pins s σ H _ I h) fun us s1 ⟨vs, H1, I1, r1, q1⟩ => ?_) (by rw [hs, hs2]) (by rw [hs2]; rfl)))
  obtain ⟨i, j, e, ⟨q1, q2, q3, q4⟩, q⟩ := q1
  subst e
  cases r1 with
  | cons r rr =>
    cases rr with
    | cons r' rr =>
      cases rr
      obtain ⟨t, rfl⟩ := r
      obtain ⟨t', rfl⟩ := r'
      exact call_range_2 (range_it I1 q1 q2 q3 q4 q)

/-! ### for -/
/-- W: the invariant by the turn and a measure; N: what the body is to reach -/
def tFor (wi : TI) (g : TG) (tb : TS) : TS := fun D σ H => wi σ H fun J H1 => ∃ W : Nat → Nat → St → Hp → Prop, (∃ m, W 0 m σ H1) ∧ ∀ i m σ H, W i m σ H →
  (J.stop i H ∧ D.nx σ H) ∨ (J.go i H ∧ ∃ N : St → Hp → Prop, (∀ σ' H', N σ' H' → ∃ m', m' < m ∧ W (i + 1) m' σ' H') ∧ ∀ x H', J.yld i H x H' → g x σ H' fun σ2 H2 => tb { D with nx := N, ct := N, bk := D.nx } σ2 H2)
/-- the records at fp as they stand -/
def pinsAt (fp : List Addr) (h : Heap) : List (Addr × Obj) := fp.filterMap fun b => (h.get? b).map fun o => (b, o)
theorem mem_pinsAt {fp : List Addr} {h : Heap} {b : Addr} {o : Obj} (hb : b ∈ fp) (e : h.get? b = some o) : (b, o) ∈ pinsAt fp h := List.mem_filterMap.mpr ⟨b, hb, by rw [e]; rfl⟩
theorem of_pinsAt {fp : List Addr} {h : Heap} {p : Addr × Obj} (hp : p ∈ pinsAt fp h) : p.1 ∈ fp ∧ h.get? p.1 = some p.2 := by
  obtain ⟨b, hb, e⟩ := List.mem_filterMap.mp hp
  cases q : h.get? b with
  | none => rw [q] at e; cases e
  | some o =>
    rw [q] at e
    have e' : (b, o) = p := Option.some.inj e
    subst e'
    exact ⟨hb, q⟩
theorem Inv.pinned {pins : List (Addr × Obj)} {σ : St} {H : Hp} {s : Shared} {fp : List Addr} (I : Inv X pins σ H s) (hf : ∀ b ∈ fp, FpOk X pins H b) (ho : ∀ b ∈ fp, ∃ o, s.heap.get? b = some o ∧ ∀ v, o.data ≠ .cell v) : Inv X (pins ++ pinsAt fp s.heap) σ H s :=
  I.pins_of fun p hp => (List.mem_append.mp hp).elim (fun z => I.pin p (List.mem_append_right _ z)) fun z => by
    obtain ⟨hb, e⟩ := of_pinsAt z
    obtain ⟨f0, f1, f2, _⟩ := hf p.1 hb
    obtain ⟨o, e', d⟩ := ho p.1 hb
    rw [e] at e'; cases e'
    exact ⟨e, f0, f1, f2, d⟩
theorem Inv.unpinned {pins pl : List (Addr × Obj)} {σ : St} {H : Hp} {s : Shared} (I : Inv X (pins ++ pl) σ H s) : Inv X pins σ H s := I.pins_of fun p hp => I.pin p (List.mem_append_right _ (List.mem_append_left _ hp))
theorem ps_for {iter : Expr} {body : List Stmt} {wi : TI} {g : TG} {tb : TS} {pos : Pos} (hp : PassesOwn (model X.prog X.w) X.A X.env X.xe) (hc : X.calm = true) (hi : PI X tg iter wi) (hg : PG X tg g) (hb : PSs X body tb)
    (hs : ∀ x, foldedSetIterable iter X.env x = pure x := by intro _; rfl) : PS X (.For tg iter body [] pos) (tFor wi g tb) := by
  intro pins s σ H D I h
  refine wpAny_For (thn (hi pins s σ H _ I h) fun v s1 h1 => thn h1 fun itv s2 h2 => ?_) hs
  obtain ⟨it, fp, tn, J, H2, e, I2, T, st2, f2, W, ⟨m0, w0⟩, turn⟩ := h2
  subst e
  -- what stays true of the iterator's objects through the loop
  have stat : ∀ {H' : Hp}, (∀ b ∈ fp, H' b = none) → ∀ b ∈ fp, FpOk X pins H' b := fun hn b hb => ⟨hn b hb, (f2 b hb).2⟩
  refine codeAny_forLoop_any (fun n s' => ∃ i σ' H', Inv X pins σ' H' s' ∧ tn i s'.heap ∧ (∀ b ∈ fp, H' b = none) ∧ W i n σ' H') ?_ m0 ⟨0, σ, H2, I2, st2, fun b hb => (f2 b hb).1, w0⟩
  rintro n s3 ⟨i, σ3, H3, I3, st3, fr3, w3⟩
  rcases turn i n σ3 H3 w3 with ⟨stop, qn⟩ | ⟨go, N, hN, step⟩
  · refine wpAny_passesOwn hp (thn (T.done X rfl rfl rfl hc i pins s3 σ3 H3 X.xe I3 (stat fr3) st3 stop) fun r s4 ⟨hr, I4⟩ => ?_)
    subst hr
    exact wpAny_execs_nil ⟨σ3, H3, I4, qn⟩
  · refine wpAny_passesOwn hp (thn (T.item X rfl rfl rfl hc i pins s3 σ3 H3 X.xe I3 (stat fr3) st3 go) fun r s4 ⟨u, hr, h4⟩ => ?_)
    subst hr
    refine wpAny_passesOwn hp (thn h4 fun _ s5 ⟨x, H5, I5, r5, y5, st5, fr5⟩ => ?_)
    have I5' := I5.pinned (stat fr5) (T.obj _ _ st5)
    refine wpAny_passesOwn hp (thn (hg _ s5 σ3 H5 x u _ I5' r5 (step x H5 y5)) fun _ s6 ⟨σ6, H6, I6, q6⟩ => ?_)
    refine wpAny_passesOwn hp (thn (hb _ s6 σ6 H6 _ I6 q6) fun f s7 q7 => ?_)
    have again : ∀ {σ7 : St} {H7 : Hp}, Inv X (pins ++ pinsAt fp s5.heap) σ7 H7 s7 → N σ7 H7 → ∃ m, m < n ∧ ∃ i σ' H', Inv X pins σ' H' s7 ∧ tn i s7.heap ∧ (∀ b ∈ fp, H' b = none) ∧ W i m σ' H' := fun {σ7 H7} I7 n7 => by
      obtain ⟨m', hm, w7⟩ := hN σ7 H7 n7
      refine ⟨m', hm, i + 1, σ7, H7, I7.unpinned, T.keep _ _ _ st5 fun b hb o e => (I7.pin (b, o) (List.mem_append_right _ (List.mem_append_right _ (mem_pinsAt hb e)))).1, fun b hb => ?_, w7⟩
      obtain ⟨o, e, d⟩ := T.obj _ _ st5 b hb
      exact (I7.pin (b, o) (List.mem_append_right _ (List.mem_append_right _ (mem_pinsAt hb e)))).2.1
    cases f with
    | next => obtain ⟨σ7, H7, I7, n7⟩ := q7; exact again I7 n7
    | cont => obtain ⟨σ7, H7, I7, n7⟩ := q7; exact again I7 n7
    | brk => obtain ⟨σ7, H7, I7, q7⟩ := q7; exact ⟨σ7, H7, I7.unpinned, q7⟩
    | ret v => obtain ⟨x7, σ7, H7, I7, r7, q7⟩ := q7; exact ⟨x7, σ7, H7, I7.unpinned, r7, q7⟩
end

/-! ### the forms one uses -/
end L2

namespace L2
open PySem PySem.Spec PyProof.Rows

abbrev R2 := V → V → Hp → VK → Prop
/-- a two-place operation on values: f is binaryOp op, inplaceOp op or compareOp op -/
def OpR (X : Cx) (f : Value → Value → Sem Value) (r : R2) : Prop :=
  ∀ (pins : List (Addr × Obj)) (s : Shared) (σ : St) (H : Hp) (x y : V) (v u : Value) (Q : VK), Inv X pins σ H s → RelV x v → RelV y u → r x y H Q →
    wpAny (model X.prog X.w) X.A (f v u) (EP X pins σ Q) X.xe s
/-- a one-place operation -/
def UnR (X : Cx) (f : Value → Sem Value) (r : V → Hp → VK → Prop) : Prop :=
  ∀ (pins : List (Addr × Obj)) (s : Shared) (σ : St) (H : Hp) (x : V) (v : Value) (Q : VK), Inv X pins σ H s → RelV x v → r x H Q →
    wpAny (model X.prog X.w) X.A (f v) (EP X pins σ Q) X.xe s
/-- a call of a value that is known (a builtin, a type) with values -/
def CallR (X : Cx) (f : Value) (r : List V → Hp → VK → Prop) : Prop :=
  ∀ (pins : List (Addr × Obj)) (s : Shared) (σ : St) (H : Hp) (xs : List V) (us : List Value) (Q : VK), Inv X pins σ H s → Vals xs us → r xs H Q →
    wpAny (model X.prog X.w) X.A (call f us) (EP X pins σ Q) X.xe s
/-- a value's truth -/
def TruR (X : Cx) (r : V → Hp → (Bool → Hp → Prop) → Prop) : Prop :=
  ∀ (pins : List (Addr × Obj)) (s : Shared) (σ : St) (H : Hp) (x : V) (v : Value) (Q : Bool → Hp → Prop), Inv X pins σ H s → RelV x v → r x H Q →
    wpAny (model X.prog X.w) X.A (truthy v) (TP X pins σ Q) X.xe s

def tOp (r : R2) (ta tb : TE) : TE := fun σ H Q => ta σ H fun x H1 => tb σ H1 fun y H2 => r x y H2 Q
def tUn (r : V → Hp → VK → Prop) (ta : TE) : TE := fun σ H Q => ta σ H fun x H1 => r x H1 Q
/-- ints in, under C, and a value out -/
def rI (C : Int → Int → Prop) (g : Int → Int → V) : R2 := fun x y H Q => ∃ i j, x = .int i ∧ y = .int j ∧ C i j ∧ Q (g i j) H
def rI0 (g : Int → Int → V) : R2 := fun x y H Q => ∃ i j, x = .int i ∧ y = .int j ∧ Q (g i j) H
def rU (g : Int → V) : V → Hp → VK → Prop := fun x H Q => ∃ i, x = .int i ∧ Q (g i) H

section
variable {X : Cx} {a b c : Expr} {ta tb tc : TE} {pos : Pos}

theorem binT (ha : PE X a ta) (hb : PE X b tb) {pins : List (Addr × Obj)} {s : Shared} {σ : St} {H : Hp} {R : V → V → Hp → Prop} (I : Inv X pins σ H s)
    (h : ta σ H fun x H1 => tb σ H1 fun y H2 => R x y H2) {Q : Value → Shared → Prop} {f : Value → Value → Sem Value}
    (hf : ∀ v u s2 x y H2, Inv X pins σ H2 s2 → RelV x v → RelV y u → R x y H2 → wpAny (model X.prog X.w) X.A (f v u) Q X.xe s2) :
    wpAny (model X.prog X.w) X.A (eval a X.env) (fun v s₁ => wpAny (model X.prog X.w) X.A (eval b X.env) (fun u s₂ => wpAny (model X.prog X.w) X.A (f v u) Q X.xe s₂) X.xe s₁) X.xe s := by
  refine thn (ha pins s σ H _ I h) fun v s1 ⟨x, H1, I1, r1, q1⟩ => ?_
  refine thn (hb pins s1 σ H1 _ I1 q1) fun u s2 ⟨y, H2, I2, r2, q2⟩ => ?_
  exact hf v u s2 x y H2 I2 r1 r2 q2

theorem pe_op {op : Operator} {r : R2} (ho : OpR X (binaryOp op) r) (ha : PE X a ta) (hb : PE X b tb) : PE X (.BinOp a op b pos) (tOp r ta tb) := by
  intro pins s σ H Q I h
  exact wpAny_BinOp (binT ha hb I h fun v u s2 x y H2 I2 rx ry q => ho pins s2 σ H2 x y v u Q I2 rx ry q)
theorem pe_un {op : UnaryOp} {r : V → Hp → VK → Prop} (ho : UnR X (unaryOp op) r) (ha : PE X a ta) : PE X (.UnaryOp op a pos) (tUn r ta) := by
  intro pins s σ H Q I h
  exact UnaryOp_ (thn (ha pins s σ H _ I h) fun v s1 ⟨x, H1, I1, r1, q1⟩ => ho pins s1 σ H1 x v Q I1 r1 q1)
/-! ### ints -/
theorem opI {f : Value → Value → Sem Value} {C : Int → Int → Prop} {g : Int → Int → Int}
    (rule : ∀ (i j : Int) (t u : Tok) (s : Shared) (Q : Value → Shared → Prop) (E : Value → Shared → Prop), C i j → Q (.int (g i j) s.toks) { s with toks := s.toks + 1 } → wpAny (model X.prog X.w) X.A (f (.int i t) (.int j u)) Q E s) :
    OpR X f (rI C fun i j => .int (g i j)) := by
  intro pins s σ H x y v u Q I rx ry h
  obtain ⟨i, j, rfl, rfl, hc, q⟩ := h
  obtain ⟨t, rfl⟩ := rx
  obtain ⟨t', rfl⟩ := ry
  exact rule i j t t' s _ _ hc ⟨.int (g i j), H, I.tok _, ⟨_, rfl⟩, q⟩
theorem opI0 {f : Value → Value → Sem Value} {g : Int → Int → Int}
    (rule : ∀ (i j : Int) (t u : Tok) (s : Shared) (Q : Value → Shared → Prop) (E : Value → Shared → Prop), Q (.int (g i j) s.toks) { s with toks := s.toks + 1 } → wpAny (model X.prog X.w) X.A (f (.int i t) (.int j u)) Q E s) :
    OpR X f (rI0 fun i j => .int (g i j)) := by
  intro pins s σ H x y v u Q I rx ry h
  obtain ⟨i, j, rfl, rfl, q⟩ := h
  obtain ⟨t, rfl⟩ := rx
  obtain ⟨t', rfl⟩ := ry
  exact rule i j t t' s _ _ ⟨.int (g i j), H, I.tok _, ⟨_, rfl⟩, q⟩
theorem opB0 {f : Value → Value → Sem Value} {g : Int → Int → Bool}
    (rule : ∀ (i j : Int) (t u : Tok) (s : Shared) (Q : Value → Shared → Prop) (E : Value → Shared → Prop), Q (.bool (g i j)) s → wpAny (model X.prog X.w) X.A (f (.int i t) (.int j u)) Q E s) :
    OpR X f (rI0 fun i j => .bl (g i j)) := by
  intro pins s σ H x y v u Q I rx ry h
  obtain ⟨i, j, rfl, rfl, q⟩ := h
  obtain ⟨t, rfl⟩ := rx
  obtain ⟨t', rfl⟩ := ry
  exact rule i j t t' s _ _ ⟨.bl (g i j), H, I, rfl, q⟩

def CDiv (i j : Int) : Prop := 0 < j ∧ j < 1073741824
def CDivN (i j : Int) : Prop := j ≠ 0 ∧ j.natAbs < 1073741824
def CPow (i j : Int) : Prop := 0 ≤ j ∧ j ≤ 1000000 ∧ i.natAbs < 2 ^ 64
def CMul (i j : Int) : Prop := (-(2 ^ 64) < i ∧ i < 2 ^ 64) ∨ (-(2 ^ 64) < j ∧ j < 2 ^ 64)
theorem CMul.ok {i j : Int} (h : CMul i j) : IntMulOk i j := by
  rcases h with ⟨h1, h2⟩ | ⟨h1, h2⟩
  · exact .of_left (intBits_le_64 h1 h2)
  · exact .of_right (intBits_le_64 h1 h2)
theorem op_add : OpR X (binaryOp .Add) (rI0 fun i j => .int (i + j)) := opI0 fun _ _ _ _ _ _ _ q => add_int q
theorem op_sub : OpR X (binaryOp .Sub) (rI0 fun i j => .int (i - j)) := opI0 fun _ _ _ _ _ _ _ q => sub_int q
theorem op_mul : OpR X (binaryOp .Mult) (rI CMul fun i j => .int (i * j)) := opI fun _ _ _ _ _ _ _ hc q => mul_int q hc.ok
/-- % by a positive divisor of any size -/
theorem op_mod : OpR X (binaryOp .Mod) (rI (fun _ j => 0 < j) fun i j => .int (i % j)) := opI fun i j _ _ _ _ _ hc q => by
  have h1 : (0 : Int) < j := hc
  exact mod_int' (by omega) (by rw [Int.fmod_eq_emod_of_nonneg i (by omega)]; exact q)
theorem op_pow : OpR X (binaryOp .Pow) (rI CPow fun i j => .int (i ^ j.toNat)) := opI fun _ _ _ _ _ _ _ hc q => pow_int_small hc.1 hc.2.1 hc.2.2 q
theorem unI {f : Value → Sem Value} {g : Int → Int}
    (rule : ∀ (i : Int) (t : Tok) (s : Shared) (Q : Value → Shared → Prop) (E : Value → Shared → Prop), Q (.int (g i) s.toks) { s with toks := s.toks + 1 } → wpAny (model X.prog X.w) X.A (f (.int i t)) Q E s) :
    UnR X f (rU fun i => .int (g i)) := by
  intro pins s σ H x v Q I rx h
  obtain ⟨i, rfl, q⟩ := h
  obtain ⟨t, rfl⟩ := rx
  exact rule i t s _ _ ⟨.int (g i), H, I.tok _, ⟨_, rfl⟩, q⟩
theorem un_neg : UnR X (unaryOp .USub) (rU fun i => .int (-i)) := unI fun _ _ _ _ _ q => neg_int q
/-! ### bools among ints: n += (a < b) -/
end

/-! ### comparisons -/
/-- the scalars that == tells apart as data does -/
def scal : V → V → Bool
  | .non, .non => true | .non, .int _ => true | .int _, .non => true | .non, .bl _ => true | .bl _, .non => true | .non, .str _ => true | .str _, .non => true
  | .int _, .int _ => true | .bl _, .bl _ => true | .str _, .str _ => true | .byt _, .byt _ => true
  | .int _, .str _ => true | .str _, .int _ => true | .bl _, .str _ => true | .str _, .bl _ => true
  | _, _ => false
def rEq : R2 := fun x y H Q => scal x y = true ∧ Q (.bl (decide (x = y))) H
def rNe : R2 := fun x y H Q => scal x y = true ∧ Q (.bl (!decide (x = y))) H

section
variable {X : Cx} {a b c : Expr} {ta tb tc : TE} {pos : Pos}
theorem fin_bl {pins : List (Addr × Obj)} {σ : St} {H : Hp} {s : Shared} {Q : VK} {k k' : Bool} (I : Inv X pins σ H s) (q : Q (.bl k) H) (e : k = k') : EP X pins σ Q (.bool k') s := by
  subst e
  exact ⟨.bl k, H, I, rfl, q⟩
theorem op_lt : OpR X (compareOp .Lt) (rI0 fun i j => .bl (decide (i < j))) := opB0 fun _ _ _ _ _ _ _ q => lt_int q
theorem op_le : OpR X (compareOp .LtE) (rI0 fun i j => .bl (decide (i ≤ j))) := opB0 fun _ _ _ _ _ _ _ q => le_int q
theorem op_gt : OpR X (compareOp .Gt) (rI0 fun i j => .bl (decide (j < i))) := opB0 fun _ _ _ _ _ _ _ q => gt_int q
theorem op_ge : OpR X (compareOp .GtE) (rI0 fun i j => .bl (decide (j ≤ i))) := opB0 fun _ _ _ _ _ _ _ q => ge_int q
theorem op_lt_str : OpR X (compareOp .Lt) (fun x y H Q => ∃ i j, x = .str i ∧ y = .str j ∧ Q (.bl (decide (i.cps.toList < j.cps.toList))) H) := by
  intro pins s σ H x y v u Q I rx ry h
  obtain ⟨i, j, rfl, rfl, q⟩ := h
  obtain ⟨t, rfl⟩ := rx
  obtain ⟨t', rfl⟩ := ry
  exact lt_str (fin_bl I q rfl)
/-- the one string within the other -/
theorem op_in_str : OpR X (compareOp .In) (fun x y H Q => ∃ i j, x = .str i ∧ y = .str j ∧ Q (.bl (!(Builtin.Str.occurrences j i 0 j.length 1).isEmpty)) H) := by
  intro pins s σ H x y v u Q I rx ry h
  obtain ⟨i, j, rfl, rfl, q⟩ := h
  obtain ⟨t, rfl⟩ := rx
  obtain ⟨t', rfl⟩ := ry
  exact in_str (fin_bl I q rfl)

/-- is, is not of two objects that are tracked lists or instances -/
def isObj : HO → Bool
  | .lst _ => true
  | .ins _ _ _ => true
  | _ => false
/-- two rules for one operation: by cases -/
theorem OpR.or {f : Value → Value → Sem Value} {r r' : R2} (h : OpR X f r) (h' : OpR X f r') : OpR X f (fun x y H Q => r x y H Q ∨ r' x y H Q) := by
  intro pins s σ H x y v u Q I rx ry q
  rcases q with q | q
  · exact h pins s σ H x y v u Q I rx ry q
  · exact h' pins s σ H x y v u Q I rx ry q

theorem nomark (b : Expr) {op : CmpOp} (h : op ≠ .In := by decide) (h2 : op ≠ .NotIn := by decide) : behindInMarks op b = false := by
  have e1 : (op == CmpOp.In) = false := by cases op <;> first | rfl | exact absurd rfl h
  have e2 : (op == CmpOp.NotIn) = false := by cases op <;> first | rfl | exact absurd rfl h2
  cases b <;> simp [behindInMarks, e1, e2]
/-- a comparison as a value; hm: nomark b, or (for in, not in) by with_unfolding_all rfl -/
theorem pe_cmpR {op : CmpOp} {r : R2} (ho : OpR X (compareOp op) r) (ha : PE X a ta) (hb : PE X b tb) (hm : behindInMarks op b = false) : PE X (.Compare a [op] [b] pos) (tOp r ta tb) := by
  intro pins s σ H Q I h
  exact wpAny_Compare1 (binT ha hb I h fun v u s2 x y H2 I2 rx ry q => ho pins s2 σ H2 x y v u Q I2 rx ry q) hm
/-- a reading of a value as a test -/
def tTest (t : TE) : TT := fun σ H Q => t σ H fun x H' => ∃ k, x = .bl k ∧ Q k H'
theorem pt_cmpR {op : CmpOp} {r : R2} (ho : OpR X (compareOp op) r) (ha : PE X a ta) (hb : PE X b tb) (hm : behindInMarks op b = false) : PT X (.Compare a [op] [b] pos) (tTest (tOp r ta tb)) := by
  intro pins s σ H Q I h
  refine wpAny_isTrue_Compare1 (thn (ha pins s σ H _ I h) fun v s1 ⟨x, H1, I1, r1, q1⟩ => thn (hb pins s1 σ H1 _ I1 q1) fun u s2 ⟨y, H2, I2, r2, q2⟩ =>
    thn (ho pins s2 σ H2 x y v u _ I2 r1 r2 q2) fun c s3 ⟨z, H3, I3, r3, k, e, q3⟩ => ?_) hm
  subst e
  cases r3
  exact wpAny_truthy_bool ⟨H3, I3, q3⟩
/-- a op1 b op2 c -/
def tChain (r r' : R2) (ta tb tc : TE) : TE := fun σ H Q => ta σ H fun x H1 => tb σ H1 fun y H2 => r x y H2 fun z H3 => ∃ k, z = .bl k ∧
  (if k = true then tc σ H3 fun w' H4 => r' y w' H4 Q else Q (.bl false) H3)
theorem pe_chain {op op' : CmpOp} {r r' : R2} (ho : OpR X (compareOp op) r) (ho' : OpR X (compareOp op') r') (ha : PE X a ta) (hb : PE X b tb) (hc : PE X c tc)
    (hm : lastMarks [op, op'] [b, c] = false := by with_unfolding_all rfl) : PE X (.Compare a [op, op'] [b, c] pos) (tChain r r' ta tb tc) := by
  intro pins s σ H Q I h
  refine Compare_chain (thn (ha pins s σ H _ I h) fun v s1 ⟨x, H1, I1, r1, q1⟩ => chain_link (thn (hb pins s1 σ H1 _ I1 q1) fun u s2 ⟨y, H2, I2, r2, q2⟩ =>
    thn (ho pins s2 σ H2 x y v u _ I2 r1 r2 q2) fun d s3 ⟨z, H3, I3, r3, k, e, q3⟩ => ?_)) hm
  subst e
  cases r3
  refine wpAny_truthy_bool ?_
  cases k with
  | false => exact ite_ff ⟨.bl false, H3, I3, rfl, q3⟩
  | true => exact ite_tt (chain_last (thn (hc pins s3 σ H3 _ I3 q3) fun w' s4 ⟨z', H4, I4, r4, q4⟩ => ho' pins s4 σ H4 y z' u w' Q I4 r2 r4 q4))
/-! ### truth -/
/-- a value's truth by the abstract heap -/
def TruV (K : PySem.W.Frag) (x : V) (H : Hp) (k : Bool) : Prop :=
  match x with
  | .non => k = false
  | .bl b => k = b
  | .int i => k = (i != 0)
  | .str y => y.length ≤ sizeLine ∧ k = ((y.length : Int) != 0)
  | .byt y => y.size ≤ sizeLine ∧ k = ((y.size : Int) != 0)
  | .ref p => (∃ xs, SqL K H p xs ∧ k = !xs.isEmpty) ∨ (∃ xs, SqT K H p xs ∧ k = !xs.isEmpty) ∨ ∃ kvs, H p = some (.dK kvs) ∧ k = !kvs.isEmpty
  | _ => False
theorem line63 : (sizeLine : Nat) < 2 ^ 63 := by rw [sizeLine_eq]; decide
/-! ### strs and bytes -/
theorem op_add_str : OpR X (binaryOp .Add) (fun x y H Q => ∃ i j, x = .str i ∧ y = .str j ∧ i.length + j.length ≤ sizeLine ∧ Q (.str (i ++ j)) H) := by
  intro pins s σ H x y v u Q I rx ry h
  obtain ⟨i, j, rfl, rfl, hz, q⟩ := h
  obtain ⟨t, rfl⟩ := rx
  obtain ⟨t', rfl⟩ := ry
  exact add_str (fun t' tk => ⟨.str (i ++ j), H, I.tok _, ⟨_, rfl⟩, q⟩) hz
def PlainIxT (b : Expr) : Prop := ∀ o i, subscripted b false o i = operate [o, i] (getItem o i)
/-! ### scalar builtins, by CallR -/
theorem vals1 {x : V} {us : List Value} (r : Vals [x] us) : ∃ u, us = [u] ∧ RelV x u := by
  cases r with
  | cons r1 r2 => cases r2; exact ⟨_, rfl, r1⟩
theorem vals2 {x y : V} {us : List Value} (r : Vals [x, y] us) : ∃ u w', us = [u, w'] ∧ RelV x u ∧ RelV y w' := by
  cases r with
  | cons r1 r2 =>
    cases r2 with
    | cons r3 r4 => cases r4; exact ⟨_, _, rfl, r1, r3⟩
theorem call_max2 (hc : X.calm = true) : CallR X (.builtin "max") (fun xs H Q => ∃ i j, xs = [.int i, .int j] ∧ Q (.int (if j > i then j else i)) H) := by
  intro pins s σ H xs us Q I r h
  obtain ⟨i, j, rfl, q⟩ := h
  obtain ⟨u, w', rfl, ⟨t, rfl⟩, ⟨t', rfl⟩⟩ := vals2 r
  refine max_two_ints (I.ok.hd hc) fun h' tk k => ⟨_, H, I.kept k, ?_, q⟩
  by_cases hj : j > i
  · rw [if_pos hj, if_pos hj]; exact ⟨_, rfl⟩
  · rw [if_neg hj, if_neg hj]; exact ⟨_, rfl⟩
theorem call_min2 (hc : X.calm = true) : CallR X (.builtin "min") (fun xs H Q => ∃ i j, xs = [.int i, .int j] ∧ Q (.int (if j < i then j else i)) H) := by
  intro pins s σ H xs us Q I r h
  obtain ⟨i, j, rfl, q⟩ := h
  obtain ⟨u, w', rfl, ⟨t, rfl⟩, ⟨t', rfl⟩⟩ := vals2 r
  refine min_two_ints (I.ok.hd hc) fun h' tk k => ⟨_, H, I.kept k, ?_, q⟩
  by_cases hj : j < i
  · rw [if_pos hj, if_pos hj]; exact ⟨_, rfl⟩
  · rw [if_neg hj, if_neg hj]; exact ⟨_, rfl⟩
theorem call_int1 : CallR X (.type "int") (fun xs H Q => (∃ i, xs = [.int i] ∧ Q (.int i) H) ∨ ∃ k, xs = [.bl k] ∧ Q (.int (if k then 1 else 0)) H) := by
  intro pins s σ H xs us Q I r h
  rcases h with ⟨i, rfl, q⟩ | ⟨k, rfl, q⟩
  · obtain ⟨u, rfl, t, rfl⟩ := vals1 r
    exact call_int_int ⟨.int i, H, I, ⟨_, rfl⟩, q⟩
  · obtain ⟨u, rfl, r1⟩ := vals1 r
    cases r1
    exact call_int_bool ⟨.int (if k then 1 else 0), H, I.tok _, ⟨_, rfl⟩, q⟩
theorem call_str_int : CallR X (.type "str") (fun xs H Q => ∃ i, xs = [.int i] ∧ i.natAbs.log2 < 1920 ∧ Q (.str (toString i)) H) := by
  intro pins s σ H xs us Q I r h
  obtain ⟨i, rfl, hz, q⟩ := h
  obtain ⟨u, rfl, t, rfl⟩ := vals1 r
  exact PySem.P.str_of_int hz ⟨.str _, H, I.tok _, ⟨_, rfl⟩, q⟩
/-- len of a str, a bytes, a list, a tuple -/
def LenV (K : PySem.W.Frag) (x : V) (H : Hp) (n : Nat) : Prop :=
  match x with
  | .str y => y.length ≤ sizeLine ∧ n = y.length
  | .byt y => y.size ≤ sizeLine ∧ n = y.size
  | .ref p => (∃ xs, SqL K H p xs ∧ n = xs.length) ∨ ∃ xs, SqT K H p xs ∧ n = xs.length
  | _ => False
end
end L2

namespace L2
open PySem PySem.Spec PyProof.Rows

/-! ### an instance, its attributes a map -/
structure ObjM (h : Heap) (x dx C : Addr) (mA : Str → Option Value) : Prop where
  obj : h.get? x = some (PySem.W.instObj C dx)
  ns : h.Ns1 dx mA
  ne : dx ≠ x

theorem lookIn_ns {h : Heap} {dx : Addr} {mA : Str → Option Value} (n : h.Ns1 dx mA) : ∃ od, h.get? dx = some od ∧ ∀ name, PySem.W.lookIn name od = some (mA name) := by
  obtain ⟨o, es, ep, ho, hd, hk, _, hm⟩ := n
  refine ⟨o, ho, fun name => ?_⟩
  have e := hm name
  unfold nsFind findBy at e
  rw [← Array.find?_toList] at e
  unfold PySem.W.lookIn
  rw [hd]
  dsimp only
  split
  · rename_i y q
    rw [q] at e
    exact congrArg some e
  · rename_i q
    rw [q] at e
    have a : es.toList.any (·.refKey) = false := by
      rw [List.any_eq_false]
      intro y hy
      obtain ⟨z, t, hkey⟩ := hk y (Array.mem_toList_iff.mp hy)
      simp [DictEntry.refKey, hkey]
    have a' : ¬ es.toList.any (·.refKey) = true := by rw [a]; exact Bool.false_ne_true
    rw [if_neg a']
    exact congrArg some e

theorem ObjM.look {h : Heap} {x dx C : Addr} {mA : Str → Option Value} (I : ObjM h x dx C mA) : ∃ od, PySem.W.InstAt h x (PySem.W.instObj C dx) C (some od) ∧ ∀ name, PySem.W.lookIn name od = some (mA name) :=
  let ⟨od, ho, hl⟩ := lookIn_ns I.ns
  ⟨od, ⟨I.obj, rfl, rfl, ho⟩, hl⟩

section
variable {prog : Program} {w : World} {A : Around} {E : Value → Shared → Prop} {s : Shared} {K : PySem.W.Frag} {x dx C f : Addr} {mA : Str → Option Value} {name : Str} {v : Value}

theorem get_map {expr : Bool} {Q : Value → Shared → Prop} (X : K.In s.heap) (I : ObjM s.heap x dx C mA) (hg : PySem.W.plainGet K C name = true) (hh : PySem.W.hasDictIn K C = true)
    (ha : PySem.W.findIn K (.ref C) name = some none) (hv : mA name = some v) (hv' : PySem.W.handedIn v = true) (h : Q v { s with toks := s.toks + 1 }) :
    wpAny (model prog w) A (getAttr (.ref x) name expr) Q E s := by
  obtain ⟨od, J, hl⟩ := I.look
  exact PySem.W.get_value X J (PySem.W.plainGet_of hg).1 (PySem.W.findObj_own hh ha rfl (by rw [hl, hv])) hv' h

theorem get_meth {pl : Sem Bool} {Q : Value × List Value → Shared → Prop} (X : K.In s.heap) (I : ObjM s.heap x dx C mA) (hg : PySem.W.plainGet K C name = true)
    (hf : PySem.W.findIn K (.ref C) name = some (some (.ref f))) (ht : PySem.W.isFn K (.ref f) = true) (hv : mA name = none) (h : Q (.ref f, [.ref x]) s) :
    wpAny (model prog w) A (getMethod (.ref x) name pl) Q E s := by
  obtain ⟨od, J, hl⟩ := I.look
  exact PySem.W.method_fn X J (PySem.W.plainGet_of hg).1 (PySem.W.plainGet_of hg).2 hf (beq_iff_eq.mp ht) (by show (PySem.W.lookIn name od).map (·.isSome) = some false; rw [hl, hv]; rfl) h

theorem set_map {ns : List Str} {Q : Unit → Shared → Prop} (X : K.In s.heap) (I : ObjM s.heap x dx C mA)
    (hs : PySem.W.findIn K (.ref C) "__setattr__" = some (some (.builtin "object.__setattr__"))) (hp : PySem.W.plainOver K C = true) (ht : PySem.W.takerIn K C name = some none) (hh : PySem.W.hasDictIn K C = true)
    (hw : PySem.Within mA ns) (hsz : ns.length ≤ sizeLine)
    (h : ∀ h', ObjM h' x dx C (fun y => if y = name then some v else mA y) → Heap.SameBut dx s.heap h' → Q () { s with heap := h', toks := s.toks + 2 }) :
    wpAny (model prog w) A (setAttr (.ref x) name v) Q E s := by
  obtain ⟨od, J, hl⟩ := I.look
  refine PySem.W.set_plain X J hs (PySem.W.osa_open (s := { s with toks := s.toks + 1 }) (r := none) X J hp ht fun b => ?_)
  obtain ⟨cd, hc, hd'⟩ := PySem.W.any_some hh
  have hx : s.heap.get? x = some ⟨.ref C, some dx, .plain, #[]⟩ := I.obj
  refine wpAny_bind (wpAny_pure (wpAny_bind (wpAny_bind (wpAny_loadPart hx (wpAny_bind (PySem.W.Looks.here (s := { s with toks := s.toks + 1 }) (PySem.W.looks_clsIn X hc) ?_))))))
  rw [hd']
  refine wpAny_pure (a := some dx) (wpAny_bind (wpAny_pure (wpAny_bind ?_)))
  refine wpAny_nsSet1 (s := { s with toks := s.toks + 1 }) I.ns fun h' hn2 hs2 => ?_
  obtain ⟨oD, esD, epD, hoD, hdD, hcD⟩ := hn2.count (PySem.Within.cons name v hw)
  refine wpAny_bind (wpAny_lookBehind hoD (by rw [hdD]; exact pastItsLine_dict (Nat.le_trans hcD (by rw [List.length_cons]; omega))) ?_)
  exact wpAny_pure (h _ ⟨(hs2.2 _ (Ne.symm I.ne)).trans I.obj, hn2, I.ne⟩ hs2)

/-- C(..): the dict at the heap's end, the instance behind it; then its __init__ -/
theorem make_map {R : Result → Shared → Prop} {vs : List Value} {kw : List (Str × Value)} (X : K.In s.heap) (hm : PySem.W.makesIn K C = true)
    (hi : PySem.W.findIn K (.ref C) "__init__" = some (some (.ref f))) (hf : PySem.W.typeIn K (.ref f) = some (.type "function"))
    (h : codeAny (model prog w) (A.under (.builtin "type.__call__" ⟨.ref C :: vs, kw⟩)) (.call (.ref f) ⟨.ref (s.heap.objs.size + 1) :: vs, kw⟩) (PySem.W.InitBack (s.heap.objs.size + 1) R)
      { s with heap := (s.heap.push PySem.W.emptyDict).push (PySem.W.instObj C s.heap.objs.size) }) :
    codeAny (model prog w) A (.call (.ref C) ⟨vs, kw⟩) R s := by
  obtain ⟨hh, g, d, t, os⟩ := s
  exact PySem.W.make_core (PySem.W.makes_of X hm) (PySem.W.looks_findIn X hi) (fun self => PySem.W.bind_fn X self hf) (.inl rfl) h
/-- C() where there is no __init__ but object's -/
theorem make_map0 {R : Result → Shared → Prop} (X : K.In s.heap) (hm : PySem.W.makesIn K C = true)
    (hi : PySem.W.findIn K (.ref C) "__init__" = some (some (.builtin "object.__init__")))
    (hb : ∀ self, PySem.W.Looks (model prog w) s.heap (bindSpecial (.builtin "object.__init__") self) (.builtin "object.__init__", [self]))
    (h : codeAny (model prog w) (A.under (.builtin "type.__call__" ⟨[.ref C], []⟩)) (.call (.builtin "object.__init__") ⟨[.ref (s.heap.objs.size + 1)], []⟩) (PySem.W.InitBack (s.heap.objs.size + 1) R)
      { s with heap := (s.heap.push PySem.W.emptyDict).push (PySem.W.instObj C s.heap.objs.size) }) :
    codeAny (model prog w) A (.call (.ref C) ⟨[], []⟩) R s := by
  obtain ⟨hh, g, d, t, os⟩ := s
  exact PySem.W.make_core (PySem.W.makes_of X hm) (PySem.W.looks_findIn X hi) hb (.inr ⟨rfl, rfl⟩) h
end

/-! ### the attributes as a list of pairs -/
def putF (f : Str) (v : V) : List (Str × V) → List (Str × V)
  | [] => [(f, v)]
  | (g, x) :: r => if g = f then (g, v) :: r else (g, x) :: putF f v r
theorem lookup_putF (f g : Str) (v : V) : ∀ fs : List (Str × V), (putF f v fs).lookup g = if g = f then some v else fs.lookup g
  | [] => by
    show List.lookup g [(f, v)] = _
    by_cases h : g = f
    · have hb : (g == f) = true := beq_iff_eq.mpr h
      simp only [List.lookup, hb, if_pos h]
    · have hb : (g == f) = false := beq_eq_false_iff_ne.mpr h
      simp only [List.lookup, hb, if_neg h]
  | (k, x) :: r => by
    have ih := lookup_putF f g v r
    rw [show putF f v ((k, x) :: r) = (if k = f then (k, v) :: r else (k, x) :: putF f v r) from rfl]
    by_cases hk : k = f
    · rw [if_pos hk]
      by_cases h : g = k
      · have hb : (g == k) = true := beq_iff_eq.mpr h
        simp only [List.lookup, hb, if_pos (h.trans hk)]
      · have hb : (g == k) = false := beq_eq_false_iff_ne.mpr h
        simp only [List.lookup, hb, if_neg (fun e : g = f => h (e.trans hk.symm))]
    · rw [if_neg hk]
      by_cases h : g = k
      · have hb : (g == k) = true := beq_iff_eq.mpr h
        simp only [List.lookup, hb, if_neg (fun e : g = f => hk (h.symm.trans e))]
      · have hb : (g == k) = false := beq_eq_false_iff_ne.mpr h
        simp only [List.lookup, hb]
        exact ih
theorem keys_putF (f : Str) (v : V) : ∀ fs : List (Str × V), f ∈ (putF f v fs).map (·.1) ∧ ∀ g, g ∈ fs.map (·.1) → g ∈ (putF f v fs).map (·.1)
  | [] => ⟨by simp [putF], fun g h => by simp at h⟩
  | (k, x) :: r => by
    obtain ⟨i1, i2⟩ := keys_putF f v r
    rw [show putF f v ((k, x) :: r) = (if k = f then (k, v) :: r else (k, x) :: putF f v r) from rfl]
    by_cases hk : k = f
    · rw [if_pos hk]
      subst hk
      exact ⟨by simp, fun g h => by simpa using h⟩
    · rw [if_neg hk]
      refine ⟨?_, fun g h => ?_⟩
      · rw [List.map_cons]
        exact List.mem_cons_of_mem _ i1
      · rw [List.map_cons] at h ⊢
        rcases List.mem_cons.mp h with e | e
        · exact List.mem_cons.mpr (.inl e)
        · exact List.mem_cons_of_mem _ (i2 g e)
theorem length_putF (f : Str) (v : V) : ∀ fs : List (Str × V), (putF f v fs).length ≤ fs.length + 1
  | [] => by simp [putF]
  | (k, x) :: r => by
    have ih := length_putF f v r
    rw [show putF f v ((k, x) :: r) = (if k = f then (k, v) :: r else (k, x) :: putF f v r) from rfl]
    by_cases hk : k = f
    · rw [if_pos hk, List.length_cons, List.length_cons]; omega
    · rw [if_neg hk, List.length_cons, List.length_cons]; omega

theorem RelO.some_of {v : V} {o : Option Value} (r : RelO (some v) o) : ∃ u, o = some u ∧ RelV v u := by
  cases o with
  | none => exact (show False from r).elim
  | some u => exact ⟨u, rfl, r⟩
theorem RelO.none_of {o : Option Value} (r : RelO none o) : o = none := by
  cases o with
  | none => rfl
  | some u => exact (show False from r).elim
theorem handed_of {v : V} {u : Value} (r : RelV v u) : PySem.W.handedIn u = true := by
  cases v with
  | non => cases (show u = Value.none from r); rfl
  | bl b => cases (show u = Value.bool b from r); rfl
  | int i => obtain ⟨t, e⟩ := (show ∃ t, u = Value.int i t from r); cases e; rfl
  | str x => obtain ⟨t, e⟩ := (show ∃ t, u = Value.str x t from r); cases e; rfl
  | byt b => obtain ⟨t, e⟩ := (show ∃ t, u = Value.bytes b t from r); cases e; rfl
  | flt b => obtain ⟨t, e⟩ := (show ∃ t, u = Value.float b t from r); cases e; rfl
  | ref a => cases (show u = Value.ref a from r); rfl
  | ty n => cases (show u = Value.type n from r); rfl

section
variable {P : Program} {w : World} {H H' : Hp} {h h' : Heap} {a C dx : Addr} {fs fs' : List (Str × V)}
theorem ins_get (hok : HOk P w H h) (e : H a = some (.ins C dx fs)) : ∃ mA, ObjM h a dx C mA ∧ (∀ f, RelO (fs.lookup f) (mA f)) ∧ PySem.Within mA (fs.map (·.1)) ∧ fs.length ≤ 1000 ∧ H dx = some (.own a) := by
  obtain ⟨d, z, ne, ob, mA, n, r, q⟩ := (show ObjOk P w H h a (.ins C dx fs) from hok a _ e)
  exact ⟨mA, ⟨ob, n, ne⟩, r, q, z, d⟩
end

/-! ### what of the text a class must have -/
structure Cls (K : PySem.W.Frag) (C : Addr) : Prop where
  pg : PySem.W.plainGet K C Str.empty = true
  hd : PySem.W.hasDictIn K C = true
  po : PySem.W.plainOver K C = true
  sa : PySem.W.findIn K (.ref C) "__setattr__" = some (some (.builtin "object.__setattr__"))
theorem Cls.get {K : PySem.W.Frag} {C : Addr} (c : Cls K C) (f : Str) : PySem.W.plainGet K C f = true := c.pg
/-- no class of it has the name -/
def NoAttr (K : PySem.W.Frag) (C : Addr) (f : Str) : Prop := PySem.W.findIn K (.ref C) f = some none
theorem NoAttr.taker {K : PySem.W.Frag} {C : Addr} {f : Str} (n : NoAttr K C f) : PySem.W.takerIn K C f = some none := by
  unfold PySem.W.takerIn
  rw [show PySem.W.findIn K (.ref C) f = some none from n]
  rfl
/-- a constant of the class -/
structure Con (K : PySem.W.Frag) (C : Addr) (f : Str) (v : V) (u : Value) : Prop where
  at_ : PySem.W.findIn K (.ref C) f = some (some u)
  rel : RelV v u
  get : PySem.W.specialIn K u "__get__" = some none
  cp : PySem.W.copiedNames.contains f = false
/-- a method: a plain def of the class or of one above it -/
structure Meth (K : PySem.W.Frag) (C : Addr) (m : Str) (f : Addr) : Prop where
  at_ : PySem.W.findIn K (.ref C) m = some (some (.ref f))
  fn : PySem.W.isFn K (.ref f) = true
  kp : PySem.W.keepIn K (.ref f) = true

section
variable {X : Cx} {pins : List (Addr × Obj)} {σ : St} {H : Hp} {s : Shared} {a C dx : Addr} {fs : List (Str × V)} {f : Str} {v : V} {A : Around} {E : Value → Shared → Prop}

theorem getattr_ok {b : Bool} {Q : Value → Shared → Prop} (I : Inv X pins σ H s) (e : H a = some (.ins C dx fs)) (c : Cls X.K C) (n : NoAttr X.K C f) (l : fs.lookup f = some v)
    (h : ∀ u s', Inv X pins σ H s' → RelV v u → Q u s') : wpAny (model X.prog X.w) A (getAttr (.ref a) f b) Q E s := by
  obtain ⟨mA, O, r, _, _, _⟩ := ins_get I.hok e
  obtain ⟨u, hu, ru⟩ := RelO.some_of (v := v) (o := mA f) (by rw [← l]; exact r f)
  exact get_map I.kIn O (c.get f) c.hd n hu (handed_of ru) (h u _ (I.tok _) ru)

theorem getmeth_ok {m : Str} {g : Addr} {pl : Sem Bool} {Q : Value × List Value → Shared → Prop} (I : Inv X pins σ H s) (e : H a = some (.ins C dx fs)) (c : Cls X.K C) (k : Meth X.K C m g) (l : fs.lookup m = none)
    (h : Q (.ref g, [.ref a]) s) : wpAny (model X.prog X.w) A (getMethod (.ref a) m pl) Q E s := by
  obtain ⟨mA, O, r, _, _, _⟩ := ins_get I.hok e
  have hn : mA m = none := RelO.none_of (by rw [← l]; exact r m)
  exact get_meth I.kIn O (c.get m) k.at_ k.fn hn h

theorem setattr_ok {y : V} {u : Value} {Q : Unit → Shared → Prop} (I : Inv X pins σ H s) (e : H a = some (.ins C dx fs)) (c : Cls X.K C) (n : NoAttr X.K C f) (hl : fs.length < 1000) (ry : RelV y u)
    (h : ∀ s', Inv X pins σ (upd H a (.ins C dx (putF f y fs))) s' → Q () s') : wpAny (model X.prog X.w) A (setAttr (.ref a) f u) Q E s := by
  obtain ⟨mA, O, r, wi, _, ho⟩ := ins_get I.hok e
  have hz : (fs.map (·.1)).length ≤ sizeLine := by rw [List.length_map, sizeLine_eq]; omega
  refine set_map I.kIn O c.sa c.po n.taker c.hd wi hz fun h' O' sb => h _ ?_
  have hd : ∃ o, h'.get? dx = some o := let ⟨o, _, _, e', _⟩ := O'.ns; ⟨o, e'⟩
  refine I.write (x := a) (e := dx) (by rw [e]; exact True.intro) (.inr ho) (fun b q hb z => (sb.2 b hb).trans z) hd ?_
  refine ⟨by rw [upd_ne O.ne]; exact ho, ?_, O.ne, O'.obj, _, O'.ns, fun g => ?_, fun g hg => ?_⟩
  · have := length_putF f y fs; omega
  · show RelO ((putF f y fs).lookup g) (if g = f then some u else mA g)
    rw [lookup_putF]
    by_cases q : g = f
    · rw [if_pos q, if_pos q]; exact ry
    · rw [if_neg q, if_neg q]; exact r g
  · by_cases q : g = f
    · rw [q]; exact (keys_putF f y fs).1
    · refine (keys_putF f y fs).2 g (wi g fun z => hg ?_)
      show (if g = f then some u else mA g) = none
      rw [if_neg q]; exact z

/-- a new instance, tracked, without attributes -/
theorem Inv.made (I : Inv X pins σ H s) : Inv X pins σ (upd (upd H s.heap.objs.size (.own (s.heap.objs.size + 1))) (s.heap.objs.size + 1) (.ins C s.heap.objs.size []))
    { s with heap := (s.heap.push PySem.W.emptyDict).push (PySem.W.instObj C s.heap.objs.size) } := by
  have e1 : (s.heap.push PySem.W.emptyDict).get? s.heap.objs.size = some PySem.W.emptyDict := Heap.get?_push_size s.heap rfl
  have e2 : ((s.heap.push PySem.W.emptyDict).push (PySem.W.instObj C s.heap.objs.size)).get? (s.heap.objs.size + 1) = some (PySem.W.instObj C s.heap.objs.size) := by
    have := Heap.get?_push_size (s.heap.push PySem.W.emptyDict) (o := PySem.W.instObj C s.heap.objs.size) rfl
    rwa [Heap.size_push] at this
  have e3 : (s.heap.push PySem.W.emptyDict).Ns s.heap.objs.size (fun _ => none) := ⟨PySem.W.emptyDict, #[], _, e1, rfl, (fun e he => absurd he (by simp)), fun _ => rfl⟩
  have I1 := I.laid (a := s.heap.objs.size) (o := .own (s.heap.objs.size + 1)) (h' := s.heap.push PySem.W.emptyDict) (t' := s.toks) (fun b u q => Heap.get?_push_of_some _ q) (Nat.le_refl _) ⟨_, e1⟩
  refine I1.laid (a := s.heap.objs.size + 1) (o := .ins C s.heap.objs.size []) (t' := s.toks) (fun b u q => Heap.get?_push_of_some _ q) (Nat.le_of_eq (Heap.size_push _ _)) ?_
  have ne : s.heap.objs.size ≠ s.heap.objs.size + 1 := Nat.ne_of_lt (Nat.lt_succ_self _)
  refine ⟨by rw [upd_ne ne, upd_same], Nat.zero_le _, ne, e2, fun _ => none, (Heap.Ns1.of_empty e3).at fun o q => Heap.get?_push_of_some _ q, fun _ => True.intro, fun y hy => absurd rfl hy⟩

/-- e.f where nothing but the object is asked: through attributeBase (super) and the last hold -/
theorem attr_of {prog : Program} {w : World} {env : Env} {e : Expr} {f : Str} {pos : Pos} {s : Shared} {Q : Value → Shared → Prop} (hb : attributeBase e f env (eval e env) = eval e env)
    (h : wpAny (model prog w) A (eval e env) (fun o s₁ => wpAny (model prog w) A (getAttr o f true) Q E s₁) E s) : wpAny (model prog w) A (eval (.Attribute e f pos) env) Q E s :=
  Attribute_any_ h (by rw [arm_eval_Attribute, hb])
end

/-! ### readings and rules -/
/-- e.f, an attribute of the instance -/
def tFld (K : PySem.W.Frag) (ta : TE) (f : Str) : TE := fun σ H Q => ta σ H fun x H1 => ∃ a C dx fs v, x = .ref a ∧ H1 a = some (.ins C dx fs) ∧ Cls K C ∧ NoAttr K C f ∧ fs.lookup f = some v ∧ Q v H1
/-- e.f, a constant of the class -/
def tCon (K : PySem.W.Frag) (ta : TE) (f : Str) : TE := fun σ H Q => ta σ H fun x H1 => ∃ a C dx fs v u, x = .ref a ∧ H1 a = some (.ins C dx fs) ∧ Cls K C ∧ Con K C f v u ∧ fs.lookup f = none ∧ Q v H1
/-- e.f = value -/
def sFld (K : PySem.W.Frag) (ta tv : TE) (f : Str) : TS := fun D σ H => tv σ H fun y H1 => ta σ H1 fun x H2 => ∃ a C dx fs, x = .ref a ∧ H2 a = some (.ins C dx fs) ∧ Cls K C ∧ NoAttr K C f ∧ fs.length < 1000 ∧
  D.nx σ (upd H2 a (.ins C dx (putF f y fs)))
/-- an augmented operator on two values -/
def InOp (X : Cx) (op : Operator) (rd : V → V → Hp → VK → Prop) : Prop :=
  ∀ (pins : List (Addr × Obj)) (s : Shared) (σ : St) (H : Hp) (x y : V) (u v : Value) (Q : VK), Inv X pins σ H s → RelV x u → RelV y v → rd x y H Q → wpAny (model X.prog X.w) X.A (inplaceOp op u v) (EP X pins σ Q) X.xe s
/-- e.f op= value -/
def sFldAug (K : PySem.W.Frag) (ta tv : TE) (rd : V → V → Hp → VK → Prop) (f : Str) : TS := fun D σ H => ta σ H fun x H1 => ∃ a C dx fs v, x = .ref a ∧ H1 a = some (.ins C dx fs) ∧ Cls K C ∧ NoAttr K C f ∧ fs.lookup f = some v ∧
  tv σ H1 fun y H2 => rd v y H2 fun z H3 => ∃ dx' fs', H3 a = some (.ins C dx' fs') ∧ fs'.length < 1000 ∧ D.nx σ (upd H3 a (.ins C dx' (putF f z fs')))

section
variable {X : Cx} {o e value : Expr} {f : Str} {pos pos' tpos : Pos} {ta tv : TE}
theorem pe_fld (he : PE X e ta) (hb : attributeBase e f X.env (eval e X.env) = eval e X.env) : PE X (.Attribute e f pos) (tFld X.K ta f) := by
  intro pins s σ H Q I h
  refine attr_of hb (thn (he pins s σ H _ I h) fun u s1 ⟨x, H1, I1, rx, a, C, dx, fs, v, ex, ea, c, n, l, q⟩ => ?_)
  subst ex
  obtain rfl : u = Value.ref a := rx
  exact getattr_ok I1 ea c n l fun u' s2 I2 ru => ⟨v, H1, I2, ru, q⟩
theorem ps_fld (ha : PE X o ta) (hv : PE X value tv) (hs : swapsWith value (some (.Attribute o f pos')) pos.line X.env = pure false) : PS X (.Assign [.Attribute o f pos'] value pos) (sFld X.K ta tv f) := by
  intro pins s σ H D I h
  refine plainObj_wpAny_Assign_Attribute (thn (hv pins s σ H _ I h) fun u s1 ⟨y, H1, I1, ry, q⟩ => thn (ha pins s1 σ H1 _ I1 q) fun ov s2 ⟨x, H2, I2, rx, a, C, dx, fs, ex, ea, c, n, l, q2⟩ => ?_) hs
  subst ex
  obtain rfl : ov = Value.ref a := rx
  exact setattr_ok I2 ea c n l ry fun s3 I3 => ⟨σ, _, I3, q2⟩
def rAdd : V → V → Hp → VK → Prop := fun x y H Q => ∃ i j, x = .int i ∧ y = .int j ∧ Q (.int (i + j)) H
def rSub : V → V → Hp → VK → Prop := fun x y H Q => ∃ i j, x = .int i ∧ y = .int j ∧ Q (.int (i - j)) H
end

/-! ### isinstance -/
section
variable {X : Cx} {pins : List (Addr × Obj)} {σ : St} {H : Hp} {s : Shared} {A : Around} {E : Value → Shared → Prop} {Q : Value → Shared → Prop} {c : Value} {b : Bool}
/-- the type of a value, as the fragment's deciders take it; for an instance its class -/
inductive TyOf (K : PySem.W.Frag) (H : Hp) : V → Value → Prop where
  | non : TyOf K H .non (.type "NoneType")
  | bl (x : Bool) : TyOf K H (.bl x) (.type "bool")
  | int (i : Int) : TyOf K H (.int i) (.type "int")
  | str (x : Str) : TyOf K H (.str x) (.type "str")
  | flt (x : UInt64) : TyOf K H (.flt x) (.type "float")
  | lst {a : Addr} {xs : List V} (e : H a = some (.lst xs)) : TyOf K H (.ref a) (.type "list")
  | frz {a : Addr} {o : Obj} {xs : List V} (e : H a = some (.frz o (.lst xs))) : TyOf K H (.ref a) (.type "list")
  | tup {a : Addr} {xs : List V} (e : H a = some (.tup xs)) : TyOf K H (.ref a) (.type "tuple")
  | dK {a : Addr} {kvs : List (Key × V)} (e : H a = some (.dK kvs)) : TyOf K H (.ref a) (.type "dict")
  | dT {a : Addr} {kvs : List (List Key × V)} (e : H a = some (.dT kvs)) : TyOf K H (.ref a) (.type "dict")
  | ins {a C dx : Addr} {fs : List (Str × V)} (e : H a = some (.ins C dx fs)) (cl : Cls K C) (ha : PySem.W.findIn K (.ref C) "__class__" = some (some (.builtin "object.__class__")))
      (hn : PySem.W.specialIn K (.builtin "object.__class__") "__get__" = some (some (.builtin "getset_descriptor.__get__"))) (htk : PySem.W.takesIn K (.builtin "object.__class__") = some true)
      (hm : PySem.W.mroIn K C (.type "object") = some true) : TyOf K H (.ref a) (.ref C)
/-- isinstance(x, c) for one class c, a built-in or an own one: kitOne's answer -/
theorem isinst_ok {x : V} {u t : Value} (I : Inv X pins σ H s) (rx : RelV x u) (ty : TyOf X.K H x t) (e : PySem.W.kitOne X.K t c = some b) (h : ∀ tk, Q (.bool b) { s with toks := tk }) :
    wpAny (model X.prog X.w) A (call (.builtin "isinstance") [u, c]) Q E s := by
  cases ty with
  | non => cases (show u = Value.none from rx); exact PySem.W.kia_one PySem.W.kitx_none I.kIn True.intro e (fun z => nomatch z) h
  | bl y => cases (show u = Value.bool y from rx); exact PySem.W.kia_one PySem.W.kitx_bool I.kIn True.intro e (fun z => nomatch z) h
  | int i => obtain ⟨t, q⟩ := (show ∃ t, u = Value.int i t from rx); cases q; exact PySem.W.kia_one PySem.W.kitx_int I.kIn True.intro e (fun z => nomatch z) h
  | str y => obtain ⟨t, q⟩ := (show ∃ t, u = Value.str y t from rx); cases q; exact PySem.W.kia_one PySem.W.kitx_str I.kIn True.intro e (fun z => nomatch z) h
  | flt y => obtain ⟨t, q⟩ := (show ∃ t, u = Value.float y t from rx); cases q; exact PySem.W.kia_one PySem.W.kitx_float I.kIn True.intro e (fun z => nomatch z) h
  | @lst a xs ea =>
    cases (show u = Value.ref a from rx)
    obtain ⟨_, _, n, _, h1⟩ := (show ObjOk X.prog X.w H s.heap a (.lst xs) from I.hok a _ ea)
    exact PySem.W.kia_one PySem.W.kitx_list I.kIn ⟨_, h1, rfl⟩ e (fun z => nomatch z) h
  | @frz a ob xs ea =>
    cases (show u = Value.ref a from rx)
    obtain ⟨_, _, _, n, _, h1⟩ := (show ObjOk X.prog X.w H s.heap a (.frz ob (.lst xs)) from I.hok a _ ea)
    exact PySem.W.kia_one PySem.W.kitx_list I.kIn ⟨_, h1, rfl⟩ e (fun z => nomatch z) h
  | @tup a xs ea =>
    cases (show u = Value.ref a from rx)
    obtain ⟨_, _, _, p⟩ := (show ObjOk X.prog X.w H s.heap a (.tup xs) from I.hok a _ ea)
    obtain ⟨o, h1, h2, _⟩ := p
    exact PySem.W.kia_one PySem.W.kitx_tuple I.kIn ⟨o, h1, h2⟩ e (fun z => nomatch z) h
  | @dK a kvs ea =>
    cases (show u = Value.ref a from rx)
    obtain ⟨_, _, vs, _, p⟩ := (show ObjOk X.prog X.w H s.heap a (.dK kvs) from I.hok a _ ea)
    obtain ⟨o, es, ep, h1, h2, _⟩ := p
    exact PySem.W.kia_one PySem.W.kitx_dict I.kIn ⟨o, h1, h2.1⟩ e (fun z => nomatch z) h
  | @dT a kvs ea =>
    cases (show u = Value.ref a from rx)
    obtain ⟨_, _, xs, _, o, es, ep, h1, h2, _⟩ := (show ObjOk X.prog X.w H s.heap a (.dT kvs) from I.hok a _ ea)
    exact PySem.W.kia_one PySem.W.kitx_dict I.kIn ⟨o, h1, h2.1⟩ e (fun z => nomatch z) h
  | @ins a C dx fs ea cl ha hn htk hm =>
    cases (show u = Value.ref a from rx)
    obtain ⟨mA, O, _⟩ := ins_get I.hok ea
    obtain ⟨od, J, _⟩ := O.look
    exact PySem.W.kia_one (PySem.W.kitx_own (cl.get _) cl.hd ha hn htk hm) I.kIn J e (fun z => nomatch z) h
end
end L2

namespace L2
open PySem PySem.Spec PyProof.Rows

/-! ### room -/
structure Room (k : Nat) (A : Around) : Prop where
  hd : A.handled = none
  dp : A.depth + 3 * k + 5 < recursionLimit
  un : A.units + 16 * k + 200 < cLine
theorem Room.mono {j k : Nat} {A : Around} (r : Room k A) (h : j ≤ k) : Room j A := ⟨r.hd, by have := r.dp; omega, by have := r.un; omega⟩
theorem Room.deeper {k : Nat} {A : Around} (r : Room (k + 1) A) (env : Env) : Room k (A.deeper env) :=
  ⟨r.hd, by have := r.dp; show A.depth + 1 + 3 * k + 5 < _; omega, by have := r.un; show A.units + 3 + 16 * k + 200 < _; omega⟩
theorem Room.in1 {k : Nat} {A : Around} (r : Room (k + 1) A) : Room k A.in1 :=
  ⟨r.hd, by have := r.dp; show A.depth + 3 * k + 5 < _; omega, by have := r.un; show A.units + 1 + 16 * k + 200 < _; omega⟩
theorem make_depth {A : Around} {C : Addr} {us : List Value} {kw : List (Str × Value)} : (A.under (.builtin "type.__call__" ⟨.ref C :: us, kw⟩)).depth = A.depth + 1 := by
  first | rfl | simp [Around.under, Code.weight, Code.isCreation, Code.isGuard, Code.isCaller, Code.frames, Code.isFrame, guardIds]
theorem make_units {A : Around} {C : Addr} {us : List Value} {kw : List (Str × Value)} : (A.under (.builtin "type.__call__" ⟨.ref C :: us, kw⟩)).units = A.units + 1 := by
  first | rfl | simp [Around.under, Code.cUnits, Code.frames, Code.isFrame]
theorem Room.make {k : Nat} {A : Around} (r : Room (k + 1) A) (C : Addr) (us : List Value) (kw : List (Str × Value)) : Room k (A.under (.builtin "type.__call__" ⟨.ref C :: us, kw⟩)) :=
  ⟨r.hd, by have := r.dp; rw [make_depth]; omega, by have := r.un; rw [make_units]; omega⟩
theorem Room.depth {k : Nat} {A : Around} (r : Room k A) : A.depth < recursionLimit := by have := r.dp; omega
theorem Room.units {k : Nat} {A : Around} (r : Room k A) : A.units + 64 < cLine := by have := r.un; omega
theorem Room.units0 {k : Nat} {A : Around} (r : Room k A) : A.units < cLine := by have := r.un; omega

/-! ### argument lists and displays -/
def tNil : TA := fun _ H Q => Q [] H
def tCons (ta : TE) (tr : TA) : TA := fun σ H Q => ta σ H fun x H1 => tr σ H1 fun xs H2 => Q (x :: xs) H2
section
variable {X : Cx} {e : Expr} {es : List Expr} {te : TE} {t : TA} {pos : Pos}
theorem pa_nil : PA X [] tNil := fun _ _ _ _ H Q I h => Calls.spliced_nil ⟨[], H, I, .nil, h⟩
theorem pa_cons (ha : PE X e te) (hr : PA X es t) (hs : starEach (e :: es) X.env = (false, eval e X.env) :: starEach es X.env := by rfl) : PA X (e :: es) (tCons te t) := by
  intro pos pins s σ H Q I h
  rw [hs]
  show wpAny _ _ (spliced ((false, eval e X.env) :: backTo pos (starEach es X.env))) _ _ s
  refine Calls.spliced_cons (thn (ha pins s σ H _ I h) fun u s1 ⟨x, H1, I1, r1, q1⟩ => ?_)
  exact thn (hr pos pins s1 σ H1 _ I1 q1) fun us s2 ⟨xs, H2, I2, r2, q2⟩ => ⟨x :: xs, H2, I2, .cons r1 r2, q2⟩

/-- a tuple, a list of written items -/
def tTup (t : TA) : TE := fun σ H Q => t σ H fun xs H1 => xs.length ≤ sizeLine ∧ ∀ p, H1 p = none → Q (.ref p) (upd H1 p (.tup xs))
def tLst (t : TA) : TE := fun σ H Q => t σ H fun xs H1 => xs.length ≤ sizeLine ∧ ∀ p, H1 p = none → Q (.ref p) (upd H1 p (.lst xs))
theorem pe_tup {x1} (h : PA X es t) : PE X (.Tuple es x1 pos) (tTup t) := by
  intro pins s σ H Q I hq
  refine wpAny_Tuple_spliced (thn (h pos pins s σ H _ I hq) fun us s1 ⟨xs, H1, I1, r, z, q⟩ => ⟨by rw [← r.length]; exact z, ?_⟩)
  have hf : H1 s1.heap.objs.size = none := I1.hok.fresh (Nat.le_refl _)
  refine ⟨.ref s1.heap.objs.size, upd H1 s1.heap.objs.size (.tup xs), I1.laid (t' := s1.toks) (fun b u e => Heap.get?_push_of_some _ e) (Nat.le_refl _) ?_, rfl, q _ hf⟩
  exact ⟨z, us, r, ⟨_, Heap.get?_push_size _ rfl, rfl, _, rfl⟩⟩
theorem pe_lst (h : PA X es t) : PE X (.List es pos) (tLst t) := by
  intro pins s σ H Q I hq
  refine wpAny_List_spliced (thn (h pos pins s σ H _ I hq) fun us s1 ⟨xs, H1, I1, r, z, q⟩ => ⟨by rw [← r.length]; exact z, ?_⟩)
  have hf : H1 s1.heap.objs.size = none := I1.hok.fresh (Nat.le_refl _)
  refine ⟨.ref s1.heap.objs.size, upd H1 s1.heap.objs.size (.lst xs), I1.laid (t' := s1.toks) (fun b u e => Heap.get?_push_of_some _ e) (Nat.le_refl _) ?_, rfl, q _ hf⟩
  exact ⟨z, us, 0, r, Heap.get?_push_size _ rfl⟩
end

/-! ### what a def promises -/
/-- a def's promise: the bound arguments in the parameters' order, the heap, the wanted end, the wanted exception -/
abbrev Sp := List V → Hp → VK → XK → Prop
/-- how an exception lies behind a call (file 08 gives it): the callers' frames, abstract heap and state ahead of the call, the wish, the exception, the state -/
abbrev CXT := List Env → Hp → Shared → XK → Value → Shared → Prop

/-- the state at a call -/
structure Env0 (P : Program) (w : World) (K : PySem.W.Frag) (mg : Str → Option Value) (base : Heap) (A : Around) (outer : List Env) (s : Shared) (H : Hp) : Prop where
  frames : A.frames = some outer
  mod : Mod K mg base
  bs : ∀ b o, base.get? b = some o → s.heap.get? b = some o ∧ H b = none
  bsz : base.objs.size ≤ s.heap.objs.size
  funs : s.heap.FunFrames base outer
  frf : ∀ b ∈ frs outer, H b = none
  hok : HOk P w H s.heap
  bare : AllBare s.gens
/-- a call's end -/
def CE (outer : List Env) (P : Program) (w : World) (H : Hp) (s : Shared) (Q : VK) (u : Value) (s' : Shared) : Prop :=
  ∃ v H', s'.os = s.os ∧ AllBare s'.gens ∧ Un (frs outer) [] H H' s.heap s'.heap ∧ HOk P w H' s'.heap ∧ RelV v u ∧ Q v H'
def CR (CX : CXT) (outer : List Env) (P : Program) (w : World) (H : Hp) (s : Shared) (Q : VK) (E : XK) (r : Result) (s' : Shared) : Prop :=
  match r with
  | .ok (.ret u) => CE outer P w H s Q u s'
  | .ok _ => False
  | .error e => CX outer H s E e s'
structure FnOk (P : Program) (w : World) (K : PySem.W.Frag) (mg : Str → Option Value) (base : Heap) (CX : CXT) (k : Nat) (f : Addr) (fd : FuncData) (ps : List Str) (sp : Sp) : Prop where
  len : ∀ vs H Q E, sp vs H Q E → vs.length = ps.length
  run : ∀ (A : Around) (outer : List Env) (s : Shared) (H : Hp) (args : Args) (us : List Value) (vs : List V) (Q : VK) (E : XK), Room k A → Env0 P w K mg base A outer s H → BindsTo s fd args (ps.zip us) → Vals vs us → sp vs H Q E →
    codeAny (model P w) A (.call (.ref f) args) (CR CX outer P w H s Q E) s
theorem FnOk.mono {P : Program} {w : World} {K : PySem.W.Frag} {mg : Str → Option Value} {base : Heap} {CX : CXT} {j k : Nat} {f : Addr} {fd : FuncData} {ps : List Str} {sp : Sp} (F : FnOk P w K mg base CX j f fd ps sp) (h : j ≤ k) :
    FnOk P w K mg base CX k f fd ps sp := ⟨F.len, fun A outer s H args us vs Q E hr => F.run A outer s H args us vs Q E (hr.mono h)⟩
/-- a weaker promise -/
theorem FnOk.imp {P : Program} {w : World} {K : PySem.W.Frag} {mg : Str → Option Value} {base : Heap} {CX : CXT} {k : Nat} {f : Addr} {fd : FuncData} {ps : List Str} {sp sp' : Sp} (F : FnOk P w K mg base CX k f fd ps sp)
    (h : ∀ vs H Q E, sp' vs H Q E → sp vs H Q E) : FnOk P w K mg base CX k f fd ps sp' :=
  ⟨fun vs H Q E q => F.len vs H Q E (h _ _ _ _ q), fun A outer s H args us vs Q E hr he hb hv hs => F.run A outer s H args us vs Q E hr he hb hv (h _ _ _ _ hs)⟩

theorem Env0.make {P : Program} {w : World} {K : PySem.W.Frag} {mg : Str → Option Value} {base : Heap} {A : Around} {outer : List Env} {s : Shared} {H : Hp} (e : Env0 P w K mg base A outer s H) (C : Addr) (us : List Value) (kw : List (Str × Value)) :
    Env0 P w K mg base (A.under (.builtin "type.__call__" ⟨.ref C :: us, kw⟩)) outer s H := ⟨by first | exact e.frames | (simpa [Around.under, Code.envs, Code.isFrame, pushEnvs] using e.frames), e.mod, e.bs, e.bsz, e.funs, e.frf, e.hok, e.bare⟩
theorem Env0.in1 {P : Program} {w : World} {K : PySem.W.Frag} {mg : Str → Option Value} {base : Heap} {A : Around} {outer : List Env} {s : Shared} {H : Hp} (e : Env0 P w K mg base A outer s H) :
    Env0 P w K mg base A.in1 outer s H := ⟨e.frames, e.mod, e.bs, e.bsz, e.funs, e.frf, e.hok, e.bare⟩

section
variable {X : Cx} {pins : List (Addr × Obj)} {σ : St} {H : Hp} {s s' : Shared}
/-- from a body: what a callee wants -/
theorem Inv.env0 (I : Inv X pins σ H s) : Env0 X.prog X.w X.K X.mg X.base X.A X.stack s H :=
  ⟨I.ok.frames, I.ok.mod, I.bs, Nat.le_trans I.ok.bsz I.sz, I.stack, I.stkFree, I.hok, I.bare⟩
/-- behind a call -/
theorem Inv.after {Q : VK} {u : Value} (I : Inv X pins σ H s) (h : CE X.stack X.prog X.w H s Q u s') : EP X pins σ Q u s' := by
  obtain ⟨v, H', os, bare, un, hok, r, q⟩ := h
  obtain ⟨hh, g, d, t, os'⟩ := s'
  obtain rfl : os' = s.os := os
  exact ⟨v, H', I.call (h' := hh) (g' := g) (d' := d) (t' := t) (ch := []) un hok bare (fun b z => absurd z (by simp)), r, q⟩
end

/-! ### calls -/
/-- f(..): the written arguments, then the defaults dvs; E: what is wanted of an exception -/
def tCall (sp : Sp) (dvs : List V) (E : XK) (t : TA) : TE := fun σ H Q => t σ H fun vs H1 => sp (vs ++ dvs) H1 Q E
/-- o.m(..) of an instance of the class at C -/
def tMeth (C : Addr) (m : Str) (sp : Sp) (dvs : List V) (E : XK) (ta : TE) (t : TA) : TE := fun σ H Q => ta σ H fun x H1 => ∃ a dx fs, x = .ref a ∧ H1 a = some (.ins C dx fs) ∧ fs.lookup m = none ∧
  t σ H1 fun vs H2 => sp (x :: (vs ++ dvs)) H2 Q E
/-- C(..): a new instance and its dict, then __init__ -/
def tMake (C : Addr) (sp : Sp) (dvs : List V) (E : XK) (t : TA) : TE := fun σ H Q => t σ H fun vs H1 => ∀ x dx, H1 x = none → H1 dx = none → dx ≠ x →
  sp (.ref x :: (vs ++ dvs)) (upd (upd H1 dx (.own x)) x (.ins C dx [])) (fun v H2 => v = .non ∧ Q (.ref x) H2) E

/-- how the parameters are bound: us the positional arguments, kw the keywords' values by name, ds the defaults that fill up -/
def Binds (K : PySem.W.Frag) (fd : FuncData) (ps : List Str) (ds : List Value) : Prop :=
  ∀ (s : Shared) (us : List Value), K.In s.heap → (us ++ ds).length = ps.length → BindsTo s fd ⟨us, []⟩ (ps.zip (us ++ ds))
/-- every parameter is given -/
theorem Binds.all {K : PySem.W.Frag} {fd : FuncData} {ps : List Str} (h : ∀ us : List Value, us.length = ps.length → bindArgs fd ⟨us, []⟩ = pure (ps.zip us)) : Binds K fd ps [] := fun s us _ hl => by
  rw [List.append_nil] at hl ⊢
  exact .of_eq (h us hl)

/-- an exception of a callee reaches what this body wants of exceptions -/
def Passes (CX : CXT) (X : Cx) (E : XK) : Prop := ∀ (pins : List (Addr × Obj)) (σ : St) (H : Hp) (s : Shared) (e : Value) (s' : Shared), Inv X pins σ H s → CX X.stack H s E e s' → X.xe e s'

section
variable {X : Cx} {CX : CXT} {k : Nat} {f C : Addr} {fd : FuncData} {ps : List Str} {sp : Sp} {dvs : List V} {ds : List Value} {E : XK} {x m : Str} {p pos apos : Pos} {e o : Expr} {es : List Expr} {ta : TE} {t : TA}

/-- the callee runs -/
theorem run_fn {pins : List (Addr × Obj)} {σ : St} {H : Hp} {s : Shared} {Q : VK} {us : List Value} {vs : List V} (F : FnOk X.prog X.w X.K X.mg X.base CX k f fd ps sp) (hr : Room k X.A) (hb : Binds X.K fd ps ds) (hd : Vals dvs ds) (hx : Passes CX X E)
    (I : Inv X pins σ H s) (r : Vals vs us) (h : sp (vs ++ dvs) H Q E) : wpAny (model X.prog X.w) X.A (call (.ref f) us) (EP X pins σ Q) X.xe s := by
  have r2 : Vals (vs ++ dvs) (us ++ ds) := r.append hd
  have hl : (us ++ ds).length = ps.length := by rw [← r2.length]; exact F.len _ _ _ _ h
  refine wpAny_call (codeAny_mono (F.run X.A X.stack s H ⟨us, []⟩ (us ++ ds) (vs ++ dvs) Q E hr I.env0 (hb s us I.kIn hl) r2 h) fun r s' hq => ?_)
  cases r with
  | error e => exact hx pins σ H s e s' I hq
  | ok fl =>
    cases fl with
    | ret u => exact I.after hq
    | next => exact False.elim hq
    | brk => exact False.elim hq
    | cont => exact False.elim hq

theorem pe_call (F : FnOk X.prog X.w X.K X.mg X.base CX k f fd ps sp) (hr : Room k X.A) (hg : Gl X x) (hm : X.mg x = some (.ref f)) (hk : PySem.W.keepIn X.K (.ref f) = true) (hb : Binds X.K fd ps ds) (hd : Vals dvs ds) (hx : Passes CX X E)
    (ha : PA X (e :: es) t) (hdb : (x == ("__debug__" : Str)) = false := by decide) (he : starEach (e :: es) X.env = (false, eval e X.env) :: starEach es X.env := by rfl) (hpl : (backTo pos (starEach es X.env)).any (·.1) = false := by rfl) :
    PE X (.Call (.Name x p) (e :: es) [] pos) (tCall sp dvs E t) := by
  intro pins s σ H Q I h
  refine wpAny_Call_Name_kw (ld_glob I hg hm ?_ hdb)
  refine PySem.W.callWith_K (h₀ := X.base) I.ok.mod.kin hk (thn (ha pos pins s σ H _ I h) fun us s1 ⟨vs, H1, I1, r, q⟩ => ⟨I1.kIn, ?_⟩) he hpl
  exact run_fn F hr hb hd hx I1 r q
/-- o.m(e, ..) -/
theorem pe_meth {pl : Sem Bool} (he : PE X o ta) (c : Cls X.K C) (hm : Meth X.K C m f) (F : FnOk X.prog X.w X.K X.mg X.base CX k f fd ps sp) (hr : Room k X.A) (hb : Binds X.K fd ps ds) (hd : Vals dvs ds) (hx : Passes CX X E) (ha : PA X (e :: es) t)
    (hst : starEach (e :: es) X.env = (false, eval e X.env) :: starEach es X.env := by rfl) (hpl : (backTo pos (starEach es X.env)).any (·.1) = false := by rfl)
    (ht : eval (.Call (.Attribute o m apos) (e :: es) [] pos) X.env = (do
      let ov ← eval o X.env
      standAt apos.atName
      let (f, first) ← holding [ov] (getMethod ov m pl)
      callWith pos f first (backTo pos (starEach (e :: es) X.env)) (backToKw pos (keywordEach [] X.env))) := by rfl) :
    PE X (.Call (.Attribute o m apos) (e :: es) [] pos) (tMeth C m sp dvs E ta t) := by
  intro pins s σ H Q I h
  refine PySem.W.methodCall_KW (pl := pl) (thn (he pins s σ H _ I h) fun u s1 ⟨x, H1, I1, rx, a, dx, fs, ex, ea, l, q⟩ => ?_) ht
  subst ex
  obtain rfl : u = Value.ref a := rx
  refine getmeth_ok I1 ea c hm l ?_
  refine PySem.W.callWith_K (first := [.ref a]) (h₀ := X.base) I.ok.mod.kin hm.kp (thn (ha pos pins s1 σ H1 _ I1 q) fun us s2 ⟨vs, H2, I2, r, q2⟩ => ⟨I2.kIn, ?_⟩) hst hpl
  exact run_fn (us := .ref a :: us) (vs := .ref a :: vs) F hr hb hd hx I2 (.cons rfl r) q2
/-- what a class must have to be made -/
structure Mk (K : PySem.W.Frag) (C f : Addr) : Prop where
  makes : PySem.W.makesIn K C = true
  init : PySem.W.findIn K (.ref C) "__init__" = some (some (.ref f))
  fn : PySem.W.isFn K (.ref f) = true
  kp : PySem.W.keepIn K (.ref C) = true

theorem run_make {pins : List (Addr × Obj)} {σ : St} {H : Hp} {s : Shared} {Q : VK} {us : List Value} {vs : List V} (M : Mk X.K C f) (F : FnOk X.prog X.w X.K X.mg X.base CX k f fd ps sp) (hr : Room (k + 1) X.A) (hb : Binds X.K fd ps ds) (hd : Vals dvs ds)
    (hx : Passes CX X E) (I : Inv X pins σ H s) (r : Vals vs us)
    (h : ∀ x dx, H x = none → H dx = none → dx ≠ x → sp (.ref x :: (vs ++ dvs)) (upd (upd H dx (.own x)) x (.ins C dx [])) (fun v H2 => v = .non ∧ Q (.ref x) H2) E) :
    wpAny (model X.prog X.w) X.A (call (.ref C) us) (EP X pins σ Q) X.xe s := by
  have hq := h (s.heap.objs.size + 1) s.heap.objs.size (I.hok.fresh (Nat.le_succ _)) (I.hok.fresh (Nat.le_refl _)) (Nat.ne_of_lt (Nat.lt_succ_self _))
  have I2 := Inv.made (C := C) I
  have r2 : Vals (V.ref (s.heap.objs.size + 1) :: (vs ++ dvs)) (Value.ref (s.heap.objs.size + 1) :: (us ++ ds)) := .cons rfl (r.append hd)
  have hl : (Value.ref (s.heap.objs.size + 1) :: us ++ ds).length = ps.length := by
    have e := r2.length
    rw [F.len _ _ _ _ hq] at e
    exact e.symm
  refine wpAny_call (make_map (f := f) I.kIn M.makes M.init (beq_iff_eq.mp M.fn) (codeAny_mono (F.run _ X.stack _ _ ⟨Value.ref (s.heap.objs.size + 1) :: us, []⟩ (Value.ref (s.heap.objs.size + 1) :: (us ++ ds)) _ _ E (hr.make C us [])
    (I2.env0.make C us []) (hb _ (Value.ref (s.heap.objs.size + 1) :: us) I2.kIn hl) r2 hq) fun r s' hq' => ?_))
  cases r with
  | error e => exact hx pins σ _ _ e s' I2 hq'
  | ok fl =>
    cases fl with
    | ret u =>
      obtain ⟨v, H', I3, rv, ev, q3⟩ := I2.after hq'
      subst ev
      exact ⟨rv, ⟨V.ref (s.heap.objs.size + 1), H', I3, rfl, q3⟩⟩
    | next => exact False.elim hq'
    | brk => exact False.elim hq'
    | cont => exact False.elim hq'
theorem pe_make (M : Mk X.K C f) (F : FnOk X.prog X.w X.K X.mg X.base CX k f fd ps sp) (hr : Room (k + 1) X.A) (hg : Gl X x) (hm : X.mg x = some (.ref C)) (hb : Binds X.K fd ps ds) (hd : Vals dvs ds) (hx : Passes CX X E)
    (ha : PA X (e :: es) t) (hdb : (x == ("__debug__" : Str)) = false := by decide) (he : starEach (e :: es) X.env = (false, eval e X.env) :: starEach es X.env := by rfl) (hpl : (backTo pos (starEach es X.env)).any (·.1) = false := by rfl) :
    PE X (.Call (.Name x p) (e :: es) [] pos) (tMake C sp dvs E t) := by
  intro pins s σ H Q I h
  refine wpAny_Call_Name_kw (ld_glob I hg hm ?_ hdb)
  refine PySem.W.callWith_K (h₀ := X.base) I.ok.mod.kin M.kp (thn (ha pos pins s σ H _ I h) fun us s1 ⟨vs, H1, I1, r, q⟩ => ⟨I1.kIn, ?_⟩) he hpl
  exact run_make M F hr hb hd hx I1 r q
end

/-! ### keywords -/
/-- the values of the keywords, from the left -/
def PK (X : Cx) (kws : List Keyword) (t : TA) : Prop :=
  ∀ (pos : Pos) (pins : List (Addr × Obj)) (s : Shared) (σ : St) (H : Hp) (Q : List V → Hp → Prop), Inv X pins σ H s → t σ H Q → wpAny (model X.prog X.w) X.A (evalAll ((backToKw pos (keywordEach kws X.env)).map (·.2))) (AP X pins σ Q) X.xe s
section
variable {X : Cx} {CX : CXT} {k : Nat} {f C : Addr} {fd : FuncData} {ps ks : List Str} {sp : Sp} {E : XK} {x m : Str} {p pos apos kpos : Pos} {e o : Expr} {es : List Expr} {kws : List Keyword} {te ta : TE} {t tk : TA} {nm : Option Str}
/-- how a call with keywords binds: g puts the positional values us and the keywords' values ws (names ks) in the parameters' order, defaults among them -/
structure KBinds (K : PySem.W.Frag) (fd : FuncData) (ps ks : List Str) (g : List Value → List Value → List Value) (gV : List V → List V → List V) : Prop where
  to : ∀ (s : Shared) (us ws : List Value), K.In s.heap → (g us ws).length = ps.length → BindsTo s fd ⟨us, ks.zip ws⟩ (ps.zip (g us ws))
  rel : ∀ {vs : List V} {us : List Value} {zs : List V} {ws : List Value}, Vals vs us → Vals zs ws → Vals (gV vs zs) (g us ws)
def tCallK (sp : Sp) (gV : List V → List V → List V) (E : XK) (t tk : TA) : TE := fun σ H Q => t σ H fun vs H1 => tk σ H1 fun zs H2 => sp (gV vs zs) H2 Q E
variable {g : List Value → List Value → List Value} {gV : List V → List V → List V}
end

/-! ### a def's body keeps its promise -/
/-- names: the parameters first -/
structure FnScope (N P : List Str) (sc : Scope) : Prop where
  kind : sc.kind = .function
  co : sc.isCoroutine = false
  gen : sc.isGenerator = false
  nd : N.Nodup
  pre : N.take P.length = P
  par : ∀ x ∈ P, sc.names.lookup x = some .local ∨ sc.names.lookup x = some .cell
  nofree : ∀ y ∈ sc.names, y.2 ≠ .free

theorem bindL_out {kindOf : Str → Option NameKind} {x : Str} : ∀ {binds : List (Str × Value)} {m : Str → Option Value}, (∀ v, (x, v) ∉ binds) → bindL kindOf binds m x = m x
  | [], _, _ => rfl
  | (n, v) :: r, m, h => by
    unfold bindL
    rw [bindL_out fun w hw => h w (List.mem_cons_of_mem _ hw)]
    split
    · have : x ≠ n := by rintro rfl; exact h v List.mem_cons_self
      simp [this]
    · rfl
theorem bindC_out {kindOf : Str → Option NameKind} {x : Str} : ∀ {binds : List (Str × Value)} {m : Str → Option Value}, (∀ v, (x, v) ∉ binds) → bindC kindOf binds m x = m x
  | [], _, _ => rfl
  | (n, v) :: r, m, h => by
    unfold bindC
    rw [bindC_out fun w hw => h w (List.mem_cons_of_mem _ hw)]
    split
    · rfl
    · have : x ≠ n := by rintro rfl; exact h v List.mem_cons_self
      simp [this]
theorem bindL_get {kindOf : Str → Option NameKind} {x : Str} {v : Value} : ∀ {P : List Str} {vs : List Value} {i : Nat} {m : Str → Option Value}, P.Nodup → P[i]? = some x → vs[i]? = some v → kindOf x = some .local →
    bindL kindOf (P.zip vs) m x = some v
  | [], _, _, _, _, h, _, _ => by simp at h
  | _ :: _, [], _, _, _, _, h, _ => by simp at h
  | p :: P, w :: vs, 0, m, nd, h1, h2, hk => by
    simp at h1 h2; subst h1; subst h2
    show bindL kindOf ((p, w) :: P.zip vs) m p = _
    unfold bindL
    rw [bindL_out fun v hv => (List.nodup_cons.mp nd).1 (List.of_mem_zip hv).1, if_pos hk]
    simp
  | p :: P, w :: vs, i + 1, m, nd, h1, h2, hk => by
    show bindL kindOf ((p, w) :: P.zip vs) m x = _
    unfold bindL
    exact bindL_get (i := i) (List.nodup_cons.mp nd).2 (by simpa using h1) (by simpa using h2) hk
theorem bindC_get {kindOf : Str → Option NameKind} {x : Str} {v : Value} : ∀ {P : List Str} {vs : List Value} {i : Nat} {m : Str → Option Value}, P.Nodup → P[i]? = some x → vs[i]? = some v → kindOf x ≠ some .local →
    bindC kindOf (P.zip vs) m x = some v
  | [], _, _, _, _, h, _, _ => by simp at h
  | _ :: _, [], _, _, _, _, h, _ => by simp at h
  | p :: P, w :: vs, 0, m, nd, h1, h2, hk => by
    simp at h1 h2; subst h1; subst h2
    show bindC kindOf ((p, w) :: P.zip vs) m p = _
    unfold bindC
    rw [bindC_out fun v hv => (List.nodup_cons.mp nd).1 (List.of_mem_zip hv).1, if_neg hk]
    simp
  | p :: P, w :: vs, i + 1, m, nd, h1, h2, hk => by
    show bindC kindOf ((p, w) :: P.zip vs) m x = _
    unfold bindC
    exact bindC_get (i := i) (List.nodup_cons.mp nd).2 (by simpa using h1) (by simpa using h2) hk

/-- the names' values at the entry -/
def start (N : List Str) (vs : List V) : St := vs.map some ++ List.replicate (N.length - vs.length) none

/-- the context of a def's body, at its entry; an exception leaves the frame, then lies as CX says -/
def cxOf (CX : CXT) (P : Program) (w : World) (K : PySem.W.Frag) (mg : Str → Option Value) (base : Heap) (N : List Str) (qual : Str) (scope : Scope) (f : Addr) (cd : Value) (A : Around) (outer : List Env) (s : Shared) (H : Hp) (E : XK) : Cx where
  prog := P
  w := w
  K := K
  mg := mg
  base := base
  A := A.deeper (envOfC qual scope s.heap.objs.size f cd)
  N := N
  s₀ := s
  H₀ := H
  env := envOfC qual scope s.heap.objs.size f cd
  outer := outer
  stack := envOfC qual scope s.heap.objs.size f cd :: outer
  ex := []
  calm := true
  fn := fun _ => true
  pn := []
  xe := fun e s' => wpAny (model P w) (A.deeper (envOfC qual scope s.heap.objs.size f cd)) (leaving (envOfC qual scope s.heap.objs.size f cd) e) (fun _ s'' => CX outer H s E e s'') (fun e' s'' => CX outer H s E e' s'') s'

theorem cell_has {sc : Scope} {n : Nat} {x : Str} (h : sc.names.lookup x = some .cell) : ∃ c, (cellsFrom n sc.names []).lookup x = some c := by
  have q := PySem.W.cellsFrom_some sc.names n [] (.inl h)
  exact Option.isSome_iff_exists.mp q

theorem inv_start {CX : CXT} {P : Program} {w : World} {K : PySem.W.Frag} {mg : Str → Option Value} {base : Heap} {N ps : List Str} {qual : Str} {scope : Scope} {f : Addr} {cd : Value} {A : Around} {outer : List Env} {s s1 : Shared} {H : Hp} {E : XK} {us : List Value} {vs : List V}
    (S : FnScope N ps scope) (hd : A.handled = none) (e0 : Env0 P w K mg base A outer s H) (hl : vs.length = ps.length) (r : Vals vs us)
    (x : InCallC s s.heap.objs.size (bindL (envOfC qual scope s.heap.objs.size f cd).kindOf (ps.zip us) fun _ => none) (cellsFrom (s.heap.objs.size + 1) scope.names []) (bindC (envOfC qual scope s.heap.objs.size f cd).kindOf (ps.zip us) fun _ => none) s1) :
    Inv (cxOf CX P w K mg base N qual scope f cd A outer s H E) [] (start N vs) H s1 := by
  have hpl : ps.length ≤ N.length := by have := congrArg List.length S.pre; rw [List.length_take] at this; omega
  obtain ⟨h1, tk, rfl, hk⟩ := x.done
  have noA : ∀ b : Addr, b ∉ (cxOf CX P w K mg base N qual scope f cd A outer s H E).ex := fun b z => absurd (show b ∈ ([] : List Addr) from z) (by simp)
  refine ⟨⟨e0.mod, S.kind, rfl, rfl, Nat.le_refl _, fun y z c h1 h2 => ?_, fun y hy => ?_, fun y c _ h => ?_, fun _ => hd, Around.frames_deeper e0.frames, .inr ⟨rfl, rfl⟩, fun b z => absurd z (noA b), e0.bs, e0.bsz, fun b _ _ => noA b, fun b z => absurd z (noA b), e0.funs, e0.frf⟩,
    rfl, e0.bare, Un.kept hk, ⟨_, x.toInCall.ns, fun i y v h1 h2 h3 => ?_⟩, fun y c h => ⟨_, x.cell y c h⟩, e0.hok.fresh (Nat.le_refl _), fun y c h => ?_, fun p hp => absurd (show p ∈ ([] : List (Addr × Obj)) from hp) (by simp), e0.hok.kept hk, ?_⟩
  · exact name_of_addr x.apart (PySem.mem_of_lookup h1) (PySem.mem_of_lookup h2)
  · have hy : scope.names.lookup y = some .cell ∨ scope.names.lookup y = some .free := hy
    rcases hy with hy | hy
    · exact cell_has hy
    · exact absurd rfl (S.nofree _ (PySem.mem_of_lookup hy))
  · exact Nat.le_of_lt (x.above y c (PySem.mem_of_lookup h))
  · have hi : i < vs.length := by
      unfold start at h2
      by_cases hi : i < vs.length
      · exact hi
      · rw [List.getElem?_append_right (by simpa using hi)] at h2
        rw [List.getElem?_replicate] at h2
        split at h2 <;> cases h2
    have ha : vs[i]? = some v := by
      unfold start at h2
      rw [List.getElem?_append_left (by simpa using hi), List.getElem?_map] at h2
      cases e : vs[i]? with
      | none => rw [e] at h2; cases h2
      | some a => rw [e] at h2; cases h2; rfl
    obtain ⟨u, hu, rv⟩ := r.get ha
    have hp : ps[i]? = some y := by
      rw [← S.pre, List.getElem?_take_of_lt (by omega)]; exact h1
    have ndP : ps.Nodup := by rw [← S.pre]; exact S.nd.sublist (List.take_sublist _ _)
    refine ⟨u, rv, ?_⟩
    rcases S.par y (List.mem_of_getElem? hp) with k | k
    · exact .inl ⟨k, bindL_get ndP hp hu k⟩
    · obtain ⟨c, e⟩ := cell_has (n := s.heap.objs.size + 1) k
      refine .inr ⟨.inl k, c, e, ?_⟩
      have q := x.cell y c e
      rw [bindC_get ndP hp hu (by show scope.names.lookup y ≠ _; rw [k]; decide)] at q
      exact q
  · exact e0.hok.fresh (Nat.le_of_lt (x.above y c (PySem.mem_of_lookup h)))
  · unfold start
    show _ = N.length
    rw [List.length_append, List.length_map, List.length_replicate]
    omega

/-- THE RULE: a def (or a method) of the text, by its body. The body's reading t is chosen for each entry; it is run at the parameters' values -/
theorem fn_of {CX : CXT} {P : Program} {w : World} {K : PySem.W.Frag} {mg : Str → Option Value} {base : Heap} {k : Nat} {f : Addr} {name qual : Str} {params : Arguments} {body : List Stmt} {scope : Scope} {dV kV doc pm cdv ct oc : Value} {an od : Option Addr}
    {osl : Array (Option Value)} {N ps : List Str} {sp : Sp} (lk : K.lookup f = some ⟨oc, od, .func (PySem.W.fnOf name qual params body scope dV kV doc pm an cdv ct), osl⟩) (hcd : PySem.W.codeIn K cdv qual = true) (S : FnScope N ps scope)
    (len : ∀ vs H Q E, sp vs H Q E → vs.length = ps.length)
    (hbody : ∀ (A : Around) (outer : List Env) (s : Shared) (H : Hp) (vs : List V) (Q : VK) (E : XK), Room k (A.deeper (envOfC qual scope s.heap.objs.size f cdv)) → sp vs H Q E →
      ∃ t, PSs (cxOf CX P w K mg base N qual scope f cdv A outer s H E) body t ∧ t { nx := fun _ H' => Q .non H', rt := Q } (start N vs) H) :
    FnOk P w K mg base CX (k + 1) f (PySem.W.fnOf name qual params body scope dV kV doc pm an cdv ct) ps sp := by
  refine ⟨len, fun A outer s H args us vs Q E hr e0 hb r hsp => ?_⟩
  have hl := len _ _ _ _ hsp
  have KX : K.In s.heap := e0.mod.kin.keeps fun b o e => (e0.bs b o e).1
  have lim : s.heap.NoLimit := e0.mod.nolimit.keeps fun b o e => (e0.bs b o e).1
  have hkind : ∀ y ∈ ps.zip us, scope.names.lookup y.1 = some .local ∨ (scope.names.lookup y.1 = some .cell ∧ ((cellsFrom (s.heap.objs.size + 1) scope.names []).lookup y.1).isSome = true) := fun ⟨n, v⟩ hy => by
    rcases S.par n (List.of_mem_zip hy).1 with q | q
    · exact .inl q
    · exact .inr ⟨q, PySem.W.cellsFrom_some _ _ _ (.inl q)⟩
  refine codeAny_call_function hr.depth (KX _ _ lk) rfl S.co S.gen rfl (PySem.W.codeRec_of KX hcd) (hb _ _ _ _ ?_)
  refine wpAny_newFunctionEnv_cells S.kind hkind fun env he s1 x => ?_
  subst he
  refine ⟨lim.keeps x.toInCall.keep, codeAny_func ?_⟩
  obtain ⟨t, ht, hq⟩ := hbody A outer s H vs Q E (hr.deeper _) hsp
  have I : Inv (cxOf CX P w K mg base N qual scope f cdv A outer s H E) [] (start N vs) H s1 := inv_start S hr.hd e0 hl r x
  refine wpAny_mono (ht [] s1 (start N vs) H _ I hq) (fun fl s' hs => ?_) fun e s' hs => hs
  have fin : ∀ {σ' : St} {H' : Hp} {v : V} {u : Value}, Inv (cxOf CX P w K mg base N qual scope f cdv A outer s H E) [] σ' H' s' → RelV v u → Q v H' → CE outer P w H s Q u s' :=
    fun {σ' H' v u} J rv q => ⟨v, H', J.os, J.bare, J.base, J.hok, rv, q⟩
  cases fl with
  | ret u =>
    obtain ⟨v, σ', H', J, rv, q⟩ := hs
    exact fin J rv q
  | next =>
    obtain ⟨σ', H', J, q⟩ := hs
    exact fin (v := V.non) (u := Value.none) J rfl q
  | brk =>
    obtain ⟨_, _, _, q⟩ := hs
    exact False.elim q
  | cont =>
    obtain ⟨_, _, _, q⟩ := hs
    exact False.elim q
end L2

namespace L2
open PySem PySem.Spec PyProof.Rows
section
variable {X : Cx} {x : Str} {p pos : Pos} {e : Expr} {es : List Expr} {t : TA} {id T : String} {r : List V → Hp → VK → Prop}

def tCB (r : List V → Hp → VK → Prop) (t : TA) : TE := fun σ H Q => t σ H fun vs H1 => r vs H1 Q
/-- f(e, ..), f a built-in function -/
theorem pe_callB (hc : CallR X (.builtin id) r) (hg : Gl X x) (hm : X.mg x = none) (hv : bootBuiltins x = some (.builtin id)) (ha : PA X (e :: es) t) (hn : x ≠ "__name__" := by decide) (hdb : (x == ("__debug__" : Str)) = false := by decide)
    (he : starEach (e :: es) X.env = (false, eval e X.env) :: starEach es X.env := by rfl) (hpl : (backTo pos (starEach es X.env)).any (·.1) = false := by rfl) : PE X (.Call (.Name x p) (e :: es) [] pos) (tCB r t) := by
  intro pins s σ H Q I h
  refine wpAny_Call_Name_kw (ld_blt I hg hm hv ?_ hn hdb)
  exact PyProof.Rows.callWith_builtin1 (thn (ha pos pins s σ H _ I h) fun us s1 ⟨vs, H1, I1, r1, q1⟩ => hc pins s1 σ H1 vs us Q I1 r1 q1) he hpl
/-- T(e, ..), T a built-in type -/
theorem pe_callTy (hc : CallR X (.type T) r) (hg : Gl X x) (hm : X.mg x = none) (hv : bootBuiltins x = some (.type T)) (ha : PA X (e :: es) t) (hn : x ≠ "__name__" := by decide) (hdb : (x == ("__debug__" : Str)) = false := by decide)
    (he : starEach (e :: es) X.env = (false, eval e X.env) :: starEach es X.env := by rfl) (hpl : (backTo pos (starEach es X.env)).any (·.1) = false := by rfl) : PE X (.Call (.Name x p) (e :: es) [] pos) (tCB r t) := by
  intro pins s σ H Q I h
  refine wpAny_Call_Name_kw (ld_blt I hg hm hv ?_ hn hdb)
  exact PyProof.Rows.callWith_type1 (thn (ha pos pins s σ H _ I h) fun us s1 ⟨vs, H1, I1, r1, q1⟩ => hc pins s1 σ H1 vs us Q I1 r1 q1) he hpl
end
end L2

namespace HT
open PySem PyProof.Rows

/-- t < u of tuples of ints -/
def lexLt : List Int → List Int → Bool
  | [], [] => false
  | [], _ :: _ => true
  | _ :: _, [] => false
  | x :: xs, y :: ys => if x = y then lexLt xs ys else decide (x < y)
section
open PySem.SeqAt
open PySem.AutoSeq1 (wpAny_loadPart')
open PySem.MeetsSeq PySem.MeetsSeq2 PySem.MeetsSeq3

end

section
variable {prog : Program} {w : World} {A : Around} {E : Value → Shared → Prop} {s : Shared}

/-- t + u, t not empty -/
theorem cat_tup {t b : Addr} {vs ws : List Value} {Q : Value → Shared → Prop} (ht : IsTup s.heap t vs.toArray) (hb : IsTup s.heap b ws.toArray) (hv : vs ≠ [])
    (h1 : ws = [] → Q (.ref t) s) (h2 : ws ≠ [] → Q (.ref s.heap.objs.size) { s with heap := s.heap.push { cls := .type "tuple", data := .seq (vs ++ ws).toArray } })
    (hsz : vs.length + ws.length ≤ sizeLine) : wpAny (model prog w) A (binaryOp .Add (.ref t) (.ref b)) Q E s := by
  obtain ⟨⟨cls, dd, data, sl⟩, ho, hc, n, hd⟩ := id ht
  obtain ⟨⟨cls2, dd2, data2, sl2⟩, ho2, hc2, n2, hd2⟩ := id hb
  simp only at hc hd hc2 hd2
  subst hc hd hc2 hd2
  have e : vs.toArray ++ ws.toArray = (vs ++ ws).toArray := by simp
  by_cases hw : ws = []
  · exact concat_meets ⟨_, ho, rfl⟩ ⟨_, ho2, rfl⟩ noFill_tuple_add seq_tuple_add PySem.F.slot_tuple_add PySem.F.entry_tuple_add (PySem.F.args_tuple_add_2 _ _)
      (tuple_addW1 t b vs.toArray ws.toArray n n2 dd dd2 sl sl2 (by simpa using hv) (by simp [hw])) ⟨ho, ho2, h1 hw⟩
  · refine concat_meets ⟨_, ho, rfl⟩ ⟨_, ho2, rfl⟩ noFill_tuple_add seq_tuple_add PySem.F.slot_tuple_add PySem.F.entry_tuple_add (PySem.F.args_tuple_add_2 _ _)
      (tuple_addW2 t b vs.toArray ws.toArray n n2 dd dd2 sl sl2 (by simpa using hv) (by simpa using hw) (by rw [List.size_toArray, List.size_toArray]; exact hsz)) ⟨ho, ho2, ?_⟩
    rw [e]
    exact h2 hw

/-! ### t[a:b], not the whole -/
/-- a slice's bound as a place among n (d where it is left out) -/
def sIx (n d : Nat) : Option Int → Nat
  | none => d
  | some v => if v < 0 then (v + (n : Int)).toNat else min v.toNat n
theorem sIx_le (n d : Nat) (hd : d ≤ n) (o : Option Int) : sIx n d o ≤ n := by
  cases o with
  | none => exact hd
  | some v =>
    show (if v < 0 then (v + (n : Int)).toNat else min v.toNat n) ≤ n
    by_cases hv : v < 0
    · rw [if_pos hv]; omega
    · rw [if_neg hv]; exact Nat.min_le_right _ _
theorem clip_eq (v : Int) (n d : Nat) : (if v < 0 then max (v + (n : Int)) 0 else min v (n : Int)) = ((sIx n d (some v) : Nat) : Int) := by
  show (if v < 0 then max (v + (n : Int)) 0 else min v (n : Int)) = (((if v < 0 then (v + (n : Int)).toNat else min v.toNat n) : Nat) : Int)
  by_cases hv : v < 0
  · simp only [if_pos hv]; omega
  · simp only [if_neg hv]; omega
theorem adjust_gen (lo hi : Option Int) (n : Nat) : Builtin.Slice.sliceAdjust lo hi 1 (n : Int) = (((sIx n 0 lo : Nat) : Int), ((sIx n n hi : Nat) : Int)) := by
  have h1 : ¬ ((1 : Int) < 0) := by omega
  unfold Builtin.Slice.sliceAdjust
  simp only [h1, if_false]
  refine Prod.ext ?_ ?_
  · cases lo with
    | none => rfl
    | some v => exact clip_eq v n 0
  · cases hi with
    | none => rfl
    | some v => exact clip_eq v n n
theorem places_gen (i j : Nat) : Builtin.Slice.slicePlaces (i : Int) (j : Int) 1 = j - i := by
  unfold Builtin.Slice.slicePlaces
  have h1 : (1 : Int) > 0 := by omega
  simp only [h1, if_true, Int.ediv_one]
  split <;> omega
theorem slicePart_ {v : Value} {o : Option Int} {Q : Option Int → Shared → Prop} (p : IsPart v o) (h : Q o s) : wpAny (model prog w) A (Builtin.Slice.slicePartIndex v) Q E s := by
  cases p with
  | none => exact slicePart_none h
  | int i t => exact slicePart_int h
theorem sliceApplied_gen {sl : Addr} {vl vu : Value} {lo hi : Option Int} {n : Nat} {Q : Int × Int × Nat → Shared → Prop} (hs : s.heap.IsSliceOf sl vl vu .none) (pl : IsPart vl lo) (pu : IsPart vu hi)
    (h : Q (((sIx n 0 lo : Nat) : Int), 1, sIx n n hi - sIx n 0 lo) s) : wpAny (model prog w) A (Builtin.Slice.sliceApplied (.ref sl) (pure (n : Int))) Q E s := by
  obtain ⟨os, hos, hcs, hds⟩ := id hs
  unfold Builtin.Slice.sliceApplied Builtin.Slice.sliceFields
  refine wpAny_bind (wpAny_bind (wpAny_field hos hds (x := vl) rfl (wpAny_bind (wpAny_field hos hds (x := vu) rfl (wpAny_bind (wpAny_field hos hds (x := .none) rfl (wpAny_pure ?_)))))))
  refine wpAny_bind (slicePart_none ?_)
  show wpAny _ _ (if ((1 : Int) == 0) = true then _ else _) _ _ s
  rw [if_neg (by decide)]
  refine wpAny_bind (slicePart_ pl (wpAny_bind (slicePart_ pu (wpAny_bind (wpAny_pure ?_)))))
  show wpAny _ _ (match Builtin.Slice.sliceAdjust lo hi 1 (n : Int) with | (lo, hi) => pure (lo, (1 : Int), Builtin.Slice.slicePlaces lo hi 1)) _ _ s
  rw [adjust_gen lo hi n]
  show wpAny _ _ (pure (((sIx n 0 lo : Nat) : Int), (1 : Int), Builtin.Slice.slicePlaces ((sIx n 0 lo : Nat) : Int) ((sIx n n hi : Nat) : Int) 1)) _ _ s
  rw [places_gen]
  exact wpAny_pure h
theorem pick_gen (xs : Array Value) (i k : Nat) : ((List.range k).filterMap fun (m : Nat) => xs[((i : Int) + (m : Int) * 1).toNat]?).toArray = ((xs.toList.drop i).take k).toArray := by
  have e : (fun (m : Nat) => xs[((i : Int) + (m : Int) * 1).toNat]?) = fun m => xs[i + m]? := by
    funext m
    have : ((i : Int) + (m : Int) * 1).toNat = i + m := by omega
    rw [this]
  rw [e]
  have := pick_run xs i k
  rw [List.filterMap_map] at this
  have e2 : ((fun x => xs[x]?) ∘ fun x => i + x) = fun m => xs[i + m]? := rfl
  rw [e2] at this
  rw [this]

theorem getItem_tuple_cut {t sl : Addr} {items : Array Value} {vl vu : Value} {lo hi : Option Int} {Q : Value → Shared → Prop} (ht : IsTup s.heap t items) (hs : s.heap.IsSliceOf sl vl vu .none) (pl : IsPart vl lo) (pu : IsPart vu hi)
    (hw : ¬ (sIx items.size 0 lo = 0 ∧ sIx items.size items.size hi = items.size))
    (h : Q (.ref s.heap.objs.size) { s with heap := s.heap.push { cls := .type "tuple", data := .seq ((items.toList.drop (sIx items.size 0 lo)).take (sIx items.size items.size hi - sIx items.size 0 lo)).toArray } })
    (hsz : items.size ≤ sizeLine) : wpAny (model prog w) A (getItem (.ref t) (.ref sl)) Q E s := by
  have htake : sizeOk (.seq ((items.toList.drop (sIx items.size 0 lo)).take (sIx items.size items.size hi - sIx items.size 0 lo)).toArray) := by
    show ((items.toList.drop (sIx items.size 0 lo)).take (sIx items.size items.size hi - sIx items.size 0 lo)).toArray.size ≤ sizeLine
    rw [List.size_toArray, List.length_take, List.length_drop, Array.length_toList]
    omega
  have hj : sIx items.size items.size hi ≤ items.size := sIx_le _ _ (Nat.le_refl _) hi
  obtain ⟨os, hos, hcs, hds⟩ := id hs
  have hTs : s.TypeIs (.ref sl) "slice" := ⟨os, hos, hcs⟩
  unfold getItem
  try with_reducible refine wpAny_holding ?_
  first | refine wpAny_bind (wpAny_pure ?_) | skip
  refine wpAny_bind (wpAny_sequenceKey ht.typeIs (by decide) ?_)
  refine wpAny_bind (wpAny_callSpecial?_slot (name := Str.ofString "__getitem__") ht.typeIs PyProof.Rows.slot_tuple_getitem
    (wpAny_call_entry PyProof.Rows.slot_tuple_getitem ht.typeIs entry_tuple_getitem ?_ (args_tuple_getitem _ _)))
  show wpAny _ _ (Builtin.Tuple.tupleItemsOf (.ref t) >>= _) _ _ s
  refine wpAny_bind (tupleItemsOf_ ht ?_)
  refine wpAny_bind (wpAny_typeOf hTs ?_)
  rw [if_pos (by decide)]
  refine wpAny_bind (sliceApplied_gen hs pl pu ?_)
  have hno : ¬ ((((sIx items.size 0 lo : Nat) : Int) == 0 && (1 : Int) == 1 && (sIx items.size items.size hi - sIx items.size 0 lo) == items.size) = true) := by
    intro q
    rw [Bool.and_eq_true, Bool.and_eq_true] at q
    have q1 : ((sIx items.size 0 lo : Nat) : Int) = 0 := eq_of_beq q.1.1
    have q2 : sIx items.size items.size hi - sIx items.size 0 lo = items.size := eq_of_beq q.2
    exact hw ⟨by omega, by omega⟩
  show wpAny _ _ (if (((sIx items.size 0 lo : Nat) : Int) == 0 && (1 : Int) == 1 && (sIx items.size items.size hi - sIx items.size 0 lo) == items.size) = true then _ else _) _ _ s
  rw [if_neg hno, pick_gen]
  first
    | exact wpAny_bind (m := Builtin.Tuple.tupleExact _) (wpAny_newObj_type (wpAny_pure ⟨_, rfl, wpAny_pure h⟩) htake)
    | exact wpAny_bind (m := Builtin.Tuple.tupleExact _) (wpAny_newObj_type (wpAny_bind (wpAny_pure (wpAny_pure ⟨_, rfl, wpAny_pure h⟩))) htake)
    | exact wpAny_bind (wpAny_bind (m := Builtin.Tuple.tupleExact _) (wpAny_newObj_type (wpAny_pure (wpAny_pure ⟨_, rfl, wpAny_pure h⟩)) htake))
    | exact wpAny_bind (wpAny_bind (m := Builtin.Tuple.tupleExact _) (wpAny_newObj_type (wpAny_pure ⟨_, rfl, wpAny_pure h⟩) htake))
end
end HT

namespace L2
open PySem PySem.Spec PyProof.Rows

/-! ### the parts of a slice -/
abbrev TO := St → Hp → (Option Int → Hp → Prop) → Prop
/-- a slice's part (left out, or an int) -/
def PO (X : Cx) (e : Option Expr) (t : TO) : Prop :=
  ∀ (pins : List (Addr × Obj)) (s : Shared) (σ : St) (H : Hp) (Q : Option Int → Hp → Prop), Inv X pins σ H s → t σ H Q →
    wpAny (model X.prog X.w) X.A (evalPart e X.env) (fun u s' => ∃ o H', Inv X pins σ H' s' ∧ IsPart u o ∧ Q o H') X.xe s
def tNoPart : TO := fun _ H Q => Q none H
def tPart (t : TE) : TO := fun σ H Q => t σ H fun x H1 => ∃ i, x = .int i ∧ Q (some i) H1

section
variable {X : Cx} {e : Expr} {te : TE} {lo hi : Option Expr} {tl th : TO} {pos p2 : Pos}

theorem po_some (h : PE X e te) : PO X (some e) (tPart te) := by
  intro pins s σ H Q I hw
  rw [evalPart_some]
  refine thn (h pins s σ H _ I hw) fun u s1 ⟨x, H1, I1, r1, q1⟩ => ?_
  obtain ⟨i, rfl, q⟩ := q1
  obtain ⟨t, rfl⟩ := r1
  exact ⟨some i, H1, I1, .int i t, q⟩

/-- what a slice of a value is, by values: the slice object stands at sl -/
def SlR (X : Cx) (r : V → Option Int → Option Int → Hp → VK → Prop) : Prop :=
  ∀ (pins : List (Addr × Obj)) (s : Shared) (σ : St) (H : Hp) (x : V) (v vl vu : Value) (lo hi : Option Int) (sl : Addr) (Q : VK), Inv X pins σ H s → RelV x v → s.heap.IsSliceOf sl vl vu .none → IsPart vl lo → IsPart vu hi → r x lo hi H Q →
    ∃ T id, typeLookup (.type T) "__getitem__" = pure (some (.builtin id)) ∧ s.TypeIs v T ∧ wpAny (model X.prog X.w) X.A (getItem v (.ref sl)) (EP X pins σ Q) X.xe s
theorem SlR.or {r r' : V → Option Int → Option Int → Hp → VK → Prop} (h : SlR X r) (h' : SlR X r') : SlR X (fun x lo hi H Q => r x lo hi H Q ∨ r' x lo hi H Q) := by
  intro pins s σ H x v vl vu lo hi sl Q I rx hs pl pu q
  rcases q with q | q
  · exact h pins s σ H x v vl vu lo hi sl Q I rx hs pl pu q
  · exact h' pins s σ H x v vl vu lo hi sl Q I rx hs pl pu q
def tSl (r : V → Option Int → Option Int → Hp → VK → Prop) (te : TE) (tl th : TO) : TE := fun σ H Q => te σ H fun x H1 => tl σ H1 fun l H2 => th σ H2 fun u H3 => r x l u H3 Q
/-- a[lo:hi], any a -/
theorem pe_slice {r : V → Option Int → Option Int → Hp → VK → Prop} (hr : SlR X r) (he : PE X e te) (hl : PO X lo tl) (hu : PO X hi th) : PE X (.Subscript e (.Slice lo hi none p2) pos) (tSl r te tl th) := by
  intro pins s σ H Q I h
  refine Subscript_ (thn (he pins s σ H _ I h) fun v s1 ⟨x, H1, I1, r1, q1⟩ => ?_)
  refine wpAny_Slice (thn (hl pins s1 σ H1 _ I1 q1) fun vl s2 ⟨l, H2, I2, pl, q2⟩ => thn (hu pins s2 σ H2 _ I2 q2) fun vu s3 ⟨u, H3, I3, pu, q3⟩ => ?_)
  rw [evalPart_none]
  refine wpAny_pure ?_
  have I4 : Inv X pins σ H3 { s3 with heap := s3.heap.push { cls := .type "slice", data := .fields #[vl, vu, .none] } } := I3.kept (t' := s3.toks) fun b ob q => Heap.get?_push_of_some _ q
  obtain ⟨T, id, hT, ht, hg⟩ := hr pins { s3 with heap := s3.heap.push { cls := .type "slice", data := .fields #[vl, vu, .none] } } σ H3 x v vl vu l u s3.heap.objs.size Q I4 r1 (Heap.IsSliceOf.new ..) pl pu q3
  show wpAny (model X.prog X.w) X.A (subscriptTail e (.Slice lo hi none p2) v (.ref s3.heap.objs.size)) (EP X pins σ Q) X.xe { s3 with heap := s3.heap.push { cls := .type "slice", data := .fields #[vl, vu, .none] } }
  exact tail_any (ops := [.ref s3.heap.objs.size, v]) ht hT hg (by with_unfolding_all rfl)

/-- the items of xs[lo:hi] -/
def cutV (xs : List V) (lo hi : Option Int) : List V := (xs.drop (HT.sIx xs.length 0 lo)).take (HT.sIx xs.length xs.length hi - HT.sIx xs.length 0 lo)
theorem cutV_length (xs : List V) (lo hi : Option Int) : (cutV xs lo hi).length ≤ xs.length := by
  unfold cutV
  rw [List.length_take, List.length_drop]
  omega
/-- t[lo:hi], not the whole of it (the whole would be t itself) -/
def rSlT (K : PySem.W.Frag) : V → Option Int → Option Int → Hp → VK → Prop := fun x lo hi H Q => ∃ a xs, x = .ref a ∧ SqT K H a xs ∧
  ¬ (HT.sIx xs.length 0 lo = 0 ∧ HT.sIx xs.length xs.length hi = xs.length) ∧ ∀ p, H p = none → Q (.ref p) (upd H p (.tup (cutV xs lo hi)))
theorem sl_tup : SlR X (rSlT X.K) := by
  intro pins s σ H x v vl vu lo hi sl Q I rx hs pl pu h
  obtain ⟨a, xs, rfl, hx, hw, q⟩ := h
  cases rx
  obtain ⟨its, r, ht, hz⟩ := I.tuple hx
  have hlen : its.toArray.size = xs.length := by rw [List.size_toArray]; exact r.length.symm
  refine ⟨"tuple", _, PyProof.Rows.slot_tuple_getitem.lookup, ht.typeIs, ?_⟩
  refine HT.getItem_tuple_cut ht hs pl pu (by rw [hlen]; exact hw) ?_ (by rw [hlen]; exact hz)
  rw [hlen]
  refine ⟨.ref s.heap.objs.size, _, I.laid (t' := s.toks) (o := .tup (cutV xs lo hi)) (fun b ob q => Heap.get?_push_of_some _ q) (Nat.le_refl _) ?_, rfl, q _ (I.hok.fresh (Nat.le_refl _))⟩
  exact ⟨Nat.le_trans (cutV_length xs lo hi) hz, _, (r.drop (HT.sIx xs.length 0 lo)).take (HT.sIx xs.length xs.length hi - HT.sIx xs.length 0 lo), IsTup.new _ _⟩

/-! ### t < u, t + u -/
def rLtT (K : PySem.W.Frag) : R2 := fun x y H Q => ∃ a b ns ms, x = .ref a ∧ y = .ref b ∧ SqT K H a (ns.map V.int) ∧ SqT K H b (ms.map V.int) ∧ Q (.bl (HT.lexLt ns ms)) H
/-- t + u, t not empty: u empty gives t itself -/
def rCatT (K : PySem.W.Frag) : R2 := fun x y H Q => ∃ a b xs ys, x = .ref a ∧ y = .ref b ∧ SqT K H a xs ∧ SqT K H b ys ∧ xs ≠ [] ∧ xs.length + ys.length ≤ sizeLine ∧
  (ys = [] → Q (.ref a) H) ∧ (ys ≠ [] → ∀ p, H p = none → Q (.ref p) (upd H p (.tup (xs ++ ys))))
theorem Vals.nil_iff {xs : List V} {us : List Value} (r : Vals xs us) : us = [] ↔ xs = [] := by
  cases r with
  | nil => simp
  | cons _ _ => simp
theorem op_catT : OpR X (binaryOp .Add) (rCatT X.K) := by
  intro pins s σ H x y v u Q I rx ry h
  obtain ⟨a, b, xs, ys, rfl, rfl, ha, hb, hx, hz, q1, q2⟩ := h
  cases rx
  cases ry
  obtain ⟨its, r1, p1, _⟩ := I.tuple ha
  obtain ⟨its2, r2, p2, _⟩ := I.tuple hb
  refine HT.cat_tup p1 p2 (fun z => hx (r1.nil_iff.mp z)) (fun z => ⟨.ref a, H, I, rfl, q1 (r2.nil_iff.mp z)⟩) (fun z => ?_) (by rw [← r1.length, ← r2.length]; exact hz)
  refine ⟨.ref s.heap.objs.size, _, I.laid (t' := s.toks) (o := .tup (xs ++ ys)) (fun b ob q => Heap.get?_push_of_some _ q) (Nat.le_refl _) ?_, rfl, q2 (fun w => z (r2.nil_iff.mpr w)) _ (I.hok.fresh (Nat.le_refl _))⟩
  exact ⟨by rw [List.length_append]; exact hz, _, r1.append r2, IsTup.new _ _⟩
end
end L2

namespace L2
open PySem PySem.Spec PyProof.Rows

/-! ### places -/
/-- the place that an index of any sign means -/
def ixN (n : Nat) (i : Int) : Option Nat := if 0 ≤ i then (if i < n then some i.toNat else none) else if -(n : Int) ≤ i then some (i + n).toNat else none
def atI {α : Type} (xs : List α) (i : Int) : Option α := (ixN xs.length i).bind fun j => xs[j]?
theorem ixN_seq {n : Nat} {i : Int} {j : Nat} (h : ixN n i = some j) : seqIndex? i n = some j ∧ j < n ∧ -(n : Int) ≤ i ∧ i < n := by
  unfold ixN at h
  by_cases h0 : 0 ≤ i
  · rw [if_pos h0] at h
    by_cases h1 : i < n
    · rw [if_pos h1] at h
      have e : i.toNat = j := Option.some.inj h
      exact ⟨by rw [seqIndex_of h0 h1, e], by omega, by omega, h1⟩
    · rw [if_neg h1] at h; cases h
  · rw [if_neg h0] at h
    by_cases h1 : -(n : Int) ≤ i
    · rw [if_pos h1] at h
      have e : (i + n).toNat = j := Option.some.inj h
      exact ⟨by rw [seqIndex_neg (by omega) h1, e], by omega, h1, by omega⟩
    · rw [if_neg h1] at h; cases h
theorem atI_get {α : Type} {xs : List α} {i : Int} {v : α} (h : atI xs i = some v) : ∃ j, seqIndex? i xs.length = some j ∧ xs[j]? = some v ∧ j < xs.length ∧ -(xs.length : Int) ≤ i ∧ i < xs.length := by
  unfold atI at h
  cases e : ixN xs.length i with
  | none => rw [e] at h; cases h
  | some j =>
    rw [e] at h
    obtain ⟨h1, h2, h3, h4⟩ := ixN_seq e
    exact ⟨j, h1, h, h2, h3, h4⟩
theorem atI_nat {α : Type} {xs : List α} {j : Nat} {v : α} (h : xs[j]? = some v) : atI xs (j : Int) = some v := by
  have hj : j < xs.length := (List.getElem?_eq_some_iff.mp h).1
  have e : ixN xs.length (j : Int) = some j := by
    unfold ixN
    rw [if_pos (by omega), if_pos (by omega)]; simp
  unfold atI; rw [e]; exact h
/-! ### what may be subscripted -/
/-- what stands as an index of a plain subscript -/
def PlainIx (b : Expr) : Prop := ∀ o i, subscripted b false o i = operate [o, i] (getItem o i)
/-- a subscript by values -/
def IxR (X : Cx) (r : R2) : Prop :=
  ∀ (value slice : Expr) (pins : List (Addr × Obj)) (s : Shared) (σ : St) (H : Hp) (x y : V) (v u : Value) (Q : VK), Inv X pins σ H s → RelV x v → RelV y u → r x y H Q →
    subscripted slice false v u = operate [v, u] (getItem v u) → wpAny (model X.prog X.w) X.A (subscriptTail value slice v u) (EP X pins σ Q) X.xe s
/-- a call of a builtin's method by values: the receiver, the arguments -/
def MtR (X : Cx) (id : String) (r : V → List V → Hp → VK → Prop) : Prop :=
  ∀ (pins : List (Addr × Obj)) (s : Shared) (σ : St) (H : Hp) (x : V) (xs : List V) (v : Value) (us : List Value) (Q : VK), Inv X pins σ H s → RelV x v → Vals xs us → r x xs H Q →
    wpAny (model X.prog X.w) X.A (call (.builtin id) (v :: us)) (EP X pins σ Q) X.xe s
section
variable {X : Cx} {a b : Expr} {ta tb : TE} {pos : Pos}
theorem IxR.or {r r' : R2} (h : IxR X r) (h' : IxR X r') : IxR X (fun x y H Q => r x y H Q ∨ r' x y H Q) := by
  intro value slice pins s σ H x y v u Q I rx ry q hs
  rcases q with q | q
  · exact h value slice pins s σ H x y v u Q I rx ry q hs
  · exact h' value slice pins s σ H x y v u Q I rx ry q hs
theorem MtR.or {id : String} {r r' : V → List V → Hp → VK → Prop} (h : MtR X id r) (h' : MtR X id r') : MtR X id (fun x xs H Q => r x xs H Q ∨ r' x xs H Q) := by
  intro pins s σ H x xs v us Q I rx rs q
  rcases q with q | q
  · exact h pins s σ H x xs v us Q I rx rs q
  · exact h' pins s σ H x xs v us Q I rx rs q
/-- a[b] -/
theorem pe_ix {r : R2} (hr : IxR X r) (ha : PE X a ta) (hb : PE X b tb) (hs : PlainIx b) : PE X (.Subscript a b pos) (tOp r ta tb) := by
  intro pins s σ H Q I h
  exact Subscript_ (binT ha hb I h fun v u s2 x y H2 I2 rx ry q => hr a b pins s2 σ H2 x y v u Q I2 rx ry q (hs _ _))

def rIxL (K : PySem.W.Frag) : R2 := fun x y H Q => ∃ p xs i v, x = .ref p ∧ y = .int i ∧ SqL K H p xs ∧ atI xs i = some v ∧ Q v H
def rIxT (K : PySem.W.Frag) : R2 := fun x y H Q => ∃ p xs i v, x = .ref p ∧ y = .int i ∧ SqT K H p xs ∧ atI xs i = some v ∧ Q v H
def rIxS : R2 := fun x y H Q => ∃ z i c, x = .str z ∧ y = .int i ∧ z.length ≤ sizeLine ∧ atI z.cps.toList i = some c ∧ Q (.str ⟨#[c]⟩) H
theorem ix_list : IxR X (rIxL X.K) := by
  intro value slice pins s σ H x y v u Q I rx ry h hs
  obtain ⟨p, xs, i, z, rfl, rfl, hq, he, q⟩ := h
  cases rx
  obtain ⟨t, rfl⟩ := ry
  obtain ⟨its, r, pl, hz⟩ := I.list hq
  obtain ⟨j, h1, h2, h3, h4, h5⟩ := atI_get he
  obtain ⟨w, ew, rw'⟩ := r.get h2
  have hl := r.length
  have hn := line63
  have fin : EP X pins σ Q w s := ⟨z, H, I, rw', q⟩
  by_cases h0 : 0 ≤ i
  · have hj : i.toNat = j := by
      rw [seqIndex_of h0 h5] at h1
      exact Option.some.inj h1
    exact item_listR pl.isList h0 (by omega) (by rw [hj]; simpa using ew) fin hs
  · have hj : (i + (its.toArray.size : Int)).toNat = j := by
      rw [seqIndex_neg (by omega) h4] at h1
      rw [List.size_toArray, ← hl]
      exact Option.some.inj h1
    exact subscriptTail_builtinR (x := w) pl.isList.typeIs slot_list_getitem.lookup
      (wpAny_getItem_list_neg (Q := fun r s' => r = w ∧ EP X pins σ Q r s') pl.isList (by omega) (by rw [List.size_toArray] <;> omega) (by omega) (by rw [hj]; simpa using ew) ⟨rfl, fin⟩) hs
theorem ix_tup : IxR X (rIxT X.K) := by
  intro value slice pins s σ H x y v u Q I rx ry h hs
  obtain ⟨p, xs, i, z, rfl, rfl, hq, he, q⟩ := h
  cases rx
  obtain ⟨t, rfl⟩ := ry
  obtain ⟨its, r, pl, hz⟩ := I.tuple hq
  obtain ⟨j, h1, h2, h3, h4, h5⟩ := atI_get he
  obtain ⟨w, ew, rw'⟩ := r.get h2
  have hl := r.length
  have hn := line63
  have fin : EP X pins σ Q w s := ⟨z, H, I, rw', q⟩
  exact subscriptTail_builtinR (x := w) pl.typeIs slot_tuple_getitem.lookup
    (getItem_tuple (j := j) (Q := fun r s' => r = w ∧ EP X pins σ Q r s') pl (by omega) (by omega) (by rw [List.size_toArray, ← hl]; exact h1) (by simpa using ew) ⟨rfl, fin⟩) hs
theorem ix_str : IxR X rIxS := by
  intro value slice pins s σ H x y v u Q I rx ry h hs
  obtain ⟨z, i, c, rfl, rfl, hz, he, q⟩ := h
  obtain ⟨t, rfl⟩ := rx
  obtain ⟨t', rfl⟩ := ry
  obtain ⟨j, h1, h2, h3, h4, h5⟩ := atI_get he
  have hl : z.cps.toList.length = z.length := by simp [Str.length]
  rw [hl] at h1 h4 h5
  have hn := line63
  exact tail_any (typeIs_str s z t) slot_str_getitem.lookup (getItem_str (c := c) (by
    have e1 : decide (i < -(2 ^ 63 : Int)) = false := decide_eq_false (by omega)
    have e2 : decide (i ≥ 2 ^ 63) = false := decide_eq_false (by omega)
    rw [e1, e2, Bool.or_false]) (by rw [h1]; simpa using h2) ⟨.str ⟨#[c]⟩, H, I.tok _, ⟨_, rfl⟩, q⟩) hs
/-- list, tuple or str -/
def rIx (K : PySem.W.Frag) : R2 := fun x y H Q => rIxL K x y H Q ∨ rIxT K x y H Q ∨ rIxS x y H Q
theorem ix_seq : IxR X (rIx X.K) := ix_list.or (ix_tup.or ix_str)

/-! ### xs[i] = v, any sign -/
theorem Inv.lst {pins : List (Addr × Obj)} {σ : St} {H : Hp} {s : Shared} {p : Addr} {xs : List V} (I : Inv X pins σ H s) (h : H p = some (.lst xs)) :
    ∃ (its : List Value) (n : Nat), Vals xs its ∧ s.heap.get? p = some { cls := .type "list", data := .seq its.toArray n } ∧ xs.length ≤ sizeLine := by
  obtain ⟨z, its, n, r, e⟩ := I.hok p _ h
  exact ⟨its, n, r, e, z⟩
/-- the list at p is written by an update of its object -/
theorem Inv.lstUpd {pins : List (Addr × Obj)} {σ : St} {H : Hp} {s : Shared} {p : Addr} {xs ys : List V} {its its' : List Value} {n n' : Nat} {f : Obj → Obj} (I : Inv X pins σ H s) (h : H p = some (.lst xs))
    (ho : s.heap.get? p = some { cls := .type "list", data := .seq its.toArray n }) (hf : f { cls := .type "list", data := .seq its.toArray n } = { cls := .type "list", data := .seq its'.toArray n' }) (r : Vals ys its') (hz : ys.length ≤ sizeLine) (t : Nat) :
    Inv X pins σ (upd H p (.lst ys)) { s with heap := s.heap.update p f, toks := t } := by
  have e : (s.heap.update p f).get? p = some { cls := .type "list", data := .seq its'.toArray n' } := by
    rw [Heap.get?_update_self f ho (by rw [hf] <;> rfl), hf]
  refine I.write (x := p) (e := p) (by rw [h]; trivial) (.inl rfl) (fun b u hb q => (Heap.get?_update_other _ _ (Ne.symm hb)).trans q) ⟨_, e⟩ ?_
  exact ⟨hz, its', n', r, e⟩
def rSetL : V → V → V → Hp → (Hp → Prop) → Prop := fun o i v H Q => ∃ p xs k j, o = .ref p ∧ i = .int k ∧ H p = some (.lst xs) ∧ ixN xs.length k = some j ∧ Q (upd H p (.lst (xs.set j v)))
/-! ### slices -/
theorem slice_bounds (lo hi : Option Int) (n : Nat) : (sliceBounds lo hi none n).1 = ((HT.sIx n 0 lo : Nat) : Int) ∧ (sliceBounds lo hi none n).2.1 = ((HT.sIx n n hi : Nat) : Int) ∧ (sliceBounds lo hi none n).2.2 = 1 := by
  refine ⟨?_, ?_, rfl⟩
  · cases lo with
    | none => simp [sliceBounds, HT.sIx]
    | some i =>
      simp only [sliceBounds, HT.sIx, Option.getD_none, show (1 : Int) > 0 by decide, if_true]
      by_cases h : i < 0
      · simp only [h, if_true] <;> omega
      · simp only [h, if_false] <;> omega
  · cases hi with
    | none => simp [sliceBounds, HT.sIx]
    | some i =>
      simp only [sliceBounds, HT.sIx, Option.getD_none, show (1 : Int) > 0 by decide, if_true]
      by_cases h : i < 0
      · simp only [h, if_true] <;> omega
      · simp only [h, if_false] <;> omega
theorem slicePick_cut (its : List Value) (lo hi : Option Int) : slicePick its.toArray lo hi none = ((its.drop (HT.sIx its.length 0 lo)).take (HT.sIx its.length its.length hi - HT.sIx its.length 0 lo)).toArray := by
  obtain ⟨h1, h2, h3⟩ := slice_bounds lo hi its.toArray.size
  unfold slicePick
  rw [h1, h2, h3]
  simp only [sliceRange_one, pick_run, List.size_toArray] <;> rfl
/-- xs[lo:hi] of a list: a new list -/
def rSlL (K : PySem.W.Frag) : V → Option Int → Option Int → Hp → VK → Prop := fun x lo hi H Q => ∃ a xs, x = .ref a ∧ SqL K H a xs ∧ ∀ p, H p = none → Q (.ref p) (upd H p (.lst (cutV xs lo hi)))
theorem sl_list : SlR X (rSlL X.K) := by
  intro pins s σ H x v vl vu lo hi sl Q I rx hs pl pu h
  obtain ⟨a, xs, rfl, hx, q⟩ := h
  cases rx
  obtain ⟨its, r, ht, hz⟩ := I.list hx
  have hlen := r.length
  refine ⟨"list", _, slot_list_getitem.lookup, ht.isList.typeIs, ?_⟩
  refine wpAny_getItem_list_slice ht.isList hs pl pu .none (by simp) ?_ (by rw [List.size_toArray] <;> omega)
  rw [slicePick_cut, ← hlen]
  refine ⟨.ref s.heap.objs.size, _, I.laid (t' := s.toks) (o := .lst (cutV xs lo hi)) (fun b ob q => Heap.get?_push_of_some _ q) (Nat.le_refl _) ?_, rfl, q _ (I.hok.fresh (Nat.le_refl _))⟩
  exact ⟨Nat.le_trans (cutV_length xs lo hi) hz, _, 0, (r.drop (HT.sIx xs.length 0 lo)).take (HT.sIx xs.length xs.length hi - HT.sIx xs.length 0 lo), Heap.get?_push_size _ rfl⟩

/-! ### in, not in: flat items -/
def flatV : V → Bool
  | .non => true
  | .bl _ => true
  | .int _ => true
  | .str _ => true
  | _ => false
/-- == of flat values -/
def eqV : V → V → Bool
  | .non, .non => true
  | .bl a, .bl b => a == b
  | .bl a, .int b => (if a then 1 else 0) == b
  | .int a, .bl b => a == (if b then 1 else 0)
  | .int a, .int b => a == b
  | .str a, .str b => a == b
  | _, _ => false
/-- the items' answers, read off the values (a value's own answer does not lean on its token) -/
def eqU (x : V) (u : Value) : Bool := match u with
  | .none => eqV .non x
  | .bool b => eqV (.bl b) x
  | .int i _ => eqV (.int i) x
  | .str z _ => eqV (.str z) x
  | _ => false
def inV (x : V) (xs : List V) : Bool := xs.any fun y => eqV y x
/-- x in a list or tuple of flat items -/
def rIn (K : PySem.W.Frag) (neg : Bool) : R2 := fun x y H Q => ∃ p xs, y = .ref p ∧ (SqL K H p xs ∨ SqT K H p xs) ∧ flatV x = true ∧ xs.all flatV = true ∧ Q (.bl (if neg then !inV x xs else inV x xs)) H
/-! ### len, list(x), tuple(x) of any list or tuple that is read -/
theorem call_len_seq : CallR X (.builtin "len") (fun xs H Q => ∃ p ys, xs = [.ref p] ∧ (SqL X.K H p ys ∨ SqT X.K H p ys) ∧ Q (.int ys.length) H) := by
  intro pins s σ H xs us Q I r h
  obtain ⟨p, ys, rfl, hq, q⟩ := h
  obtain ⟨u, rfl, rx⟩ := vals1 r
  cases rx
  have hn := line63
  rcases hq with hq | hq
  · obtain ⟨its, r', pl, hz⟩ := I.list hq
    have hlen := r'.length
    exact Calls.call_len_list pl.isList (by simp only [List.size_toArray] <;> omega) ⟨.int ys.length, H, I.tok _, ⟨s.toks + 1, by rw [List.size_toArray, hlen]⟩, q⟩
  · obtain ⟨its, r', pl, hz⟩ := I.tuple hq
    have hlen := r'.length
    exact len_tuple pl (by simp only [List.size_toArray] <;> omega) ⟨.int ys.length, H, I.tok _, ⟨s.toks + 1, by rw [List.size_toArray, hlen]⟩, q⟩
theorem call_len_str : CallR X (.builtin "len") (fun xs H Q => ∃ z, xs = [.str z] ∧ z.length ≤ sizeLine ∧ Q (.int z.length) H) := by
  intro pins s σ H xs us Q I r h
  obtain ⟨z, rfl, hz, q⟩ := h
  obtain ⟨u, rfl, t, rfl⟩ := vals1 r
  have hn := line63
  exact len_str (by omega) ⟨.int z.length, H, I.tok _, ⟨_, rfl⟩, q⟩
theorem CallR.or {f : Value} {r r' : List V → Hp → VK → Prop} (h : CallR X f r) (h' : CallR X f r') : CallR X f (fun xs H Q => r xs H Q ∨ r' xs H Q) := by
  intro pins s σ H xs us Q I rs q
  rcases q with q | q
  · exact h pins s σ H xs us Q I rs q
  · exact h' pins s σ H xs us Q I rs q
/-! ### the call of a builtin's method: o.m(..) -/
/-- the value is of that builtin type -/
def tyV (K : PySem.W.Frag) (T : String) (x : V) (H : Hp) : Prop := match x with
  | .str _ => T = "str"
  | .int _ => T = "int"
  | .ref p => (T = "list" ∧ ∃ xs, SqL K H p xs) ∨ (T = "tuple" ∧ ∃ o, K.lookup p = some o ∧ o.cls = .type "tuple" ∧ o.dict = none) ∨
      (T = "dict" ∧ ((∃ kvs, H p = some (.dK kvs)) ∨ ∃ kvs, H p = some (.dT kvs))) ∨ (T = "set" ∧ ∃ S n, H p = some (.set S n))
  | _ => False
theorem tyV_is {pins : List (Addr × Obj)} {σ : St} {H : Hp} {s : Shared} {T : String} {x : V} {v : Value} (I : Inv X pins σ H s) (r : RelV x v) (ty : tyV X.K T x H) :
    s.TypeIs v T ∧ ∀ a, v = .ref a → ∃ ob, s.heap.get? a = some ob ∧ ob.dict = none := by
  cases x with
  | str z =>
    obtain ⟨t, rfl⟩ := r
    cases (show T = "str" from ty)
    exact ⟨typeIs_str s z t, fun _ e => nomatch e⟩
  | int i =>
    obtain ⟨t, rfl⟩ := r
    cases (show T = "int" from ty)
    exact ⟨typeIs_int s i t, fun _ e => nomatch e⟩
  | ref p =>
    cases r
    rcases ty with ⟨rfl, xs, hq⟩ | ⟨rfl, o, hk, hc, hd⟩ | ⟨rfl, hk⟩ | ⟨rfl, S, n, hk⟩
    · obtain ⟨its, _, pl, _⟩ := I.list hq
      refine ⟨pl.isList.typeIs, fun a e => ?_⟩
      cases e
      obtain ⟨o, n, e, c, hd, _⟩ := pl
      exact ⟨o, e, hd⟩
    · refine ⟨⟨o, I.kIn p o hk, hc⟩, fun a e => ?_⟩
      cases e
      exact ⟨o, I.kIn _ o hk, hd⟩
    · have z : ∃ o, s.heap.get? p = some o ∧ o.ExactDict := by
        rcases hk with ⟨kvs, hk⟩ | ⟨kvs, hk⟩
        · obtain ⟨_, _, _, _, o, _, _, e, ex, _⟩ := I.hok p _ hk
          exact ⟨o, e, ex⟩
        · obtain ⟨_, _, _, _, o, _, _, e, ex, _⟩ := I.hok p _ hk
          exact ⟨o, e, ex⟩
      obtain ⟨o, e, ex⟩ := z
      refine ⟨⟨o, e, ex.1⟩, fun a e2 => ?_⟩
      cases e2
      exact ⟨o, e, ex.2.1⟩
    · obtain ⟨o, _, _, _, e, ex, _⟩ := I.hok p _ hk
      refine ⟨⟨o, e, ex.1⟩, fun a e2 => ?_⟩
      cases e2
      exact ⟨o, e, ex.2.1⟩
  | _ => exact False.elim ty
def tBM0 (K : PySem.W.Frag) (T : String) (r : V → List V → Hp → VK → Prop) (to : TE) : TE := fun σ H Q => to σ H fun x H1 => tyV K T x H1 ∧ r x [] H1 Q
def tBM (K : PySem.W.Frag) (T : String) (r : V → List V → Hp → VK → Prop) (to : TE) (t : TA) : TE := fun σ H Q => to σ H fun x H1 => tyV K T x H1 ∧ t σ H1 fun xs H2 => r x xs H2 Q
variable {o e : Expr} {es : List Expr} {to : TE} {t : TA} {name : Str} {apos cpos : Pos} {T id : String} {r : V → List V → Hp → VK → Prop}
theorem pe_bm (pa : PlainAttrs T) (slot : Slot T name id) (hty : typeOf (.builtin id) = pure (.type "method_descriptor")) (hm : MtR X id r) (ho : PE X o to) (ha : PA X (e :: es) t)
    (hbase : attributeBase o name X.env (eval o X.env) = eval o X.env := by rfl)
    (hfew : ((backTo cpos (starEach (e :: es) X.env)).all (fun x => !x.1) && (backToKw cpos (keywordEach [] X.env)).all (fun x => x.1.isSome)
      && decide ((e :: es).length + ([] : List Keyword).length + (if ([] : List Keyword).isEmpty then 0 else 1) < 30)) = true := by rfl)
    (hline : (apos.endLine == cpos.line) = true := by rfl) (hs : starEach (e :: es) X.env = (false, eval e X.env) :: starEach es X.env := by rfl) (hplain : (backTo cpos (starEach es X.env)).any (·.1) = false := by rfl) :
    PE X (.Call (.Attribute o name apos) (e :: es) [] cpos) (tBM X.K T r to t) := by
  intro pins s σ H Q I h
  refine wpAny_Call_method_late hbase hfew hline rfl (thn (ho pins s σ H _ I h) fun v s1 ⟨x, H1, I1, r1, ty, q1⟩ => ?_)
  obtain ⟨h1, h2⟩ := tyV_is I1 r1 ty
  refine ⟨T, id, pa, slot, hty, h1, h2, ?_⟩
  have hA := ha cpos pins s1 σ H1 _ I1 q1
  rw [hs] at hA ⊢
  refine Calls.callWith_builtin (by show (false || (backTo cpos (starEach es X.env)).any (·.1)) = false; rw [hplain] <;> rfl) (Calls.evalArgs_plain ?_)
  exact thn hA fun us s2 ⟨vs, H2, I2, r2, q2⟩ => hm pins s2 σ H2 x vs v us Q I2 r1 r2 q2
/- xs.append(e), list.index on a module's tuple .. are MtR facts of 06m -/
end
end L2

namespace L2
open PySem PySem.Spec PyProof.Rows

def MtM (X : Cx) (id : String) (r : V → List V → Hp → VK → Prop) : Prop :=
  ∀ (pins : List (Addr × Obj)) (s : Shared) (σ : St) (H : Hp) (x : V) (xs : List V) (v : Value) (us : List Value) (Q : VK), Inv X pins σ H s → RelV x v → Vals xs us → r x xs H Q →
    wpAny (model X.prog X.w) X.A (call (.builtin id) (v :: us)) (EP X pins σ Q) X.xe s

/-! ### lists of values -/
theorem Vals.one : ∀ {x : V} {us : List Value}, Vals [x] us → ∃ u, us = [u] ∧ RelV x u
  | _, _, .cons r .nil => ⟨_, rfl, r⟩
theorem Vals.two : ∀ {x y : V} {us : List Value}, Vals [x, y] us → ∃ u v, us = [u, v] ∧ RelV x u ∧ RelV y v
  | _, _, _, .cons r (.cons q .nil) => ⟨_, _, rfl, r, q⟩
theorem Vals.zero : ∀ {us : List Value}, Vals [] us → us = []
  | _, .nil => rfl
theorem Vals.dropLast {xs : List V} {us : List Value} (h : Vals xs us) : Vals xs.dropLast us.dropLast := by
  induction h with
  | nil => exact .nil
  | cons r t ih =>
    cases t with
    | nil => exact .nil
    | cons q t' => exact .cons r ih
theorem Vals.eraseIdx : ∀ {xs : List V} {us : List Value} (i : Nat), Vals xs us → Vals (xs.eraseIdx i) (us.eraseIdx i)
  | _, _, _, .nil => .nil
  | _, _, 0, .cons _ t => t
  | _, _, i + 1, .cons r t => .cons r (Vals.eraseIdx i t)
theorem Vals.reverse {xs : List V} {us : List Value} (h : Vals xs us) : Vals xs.reverse us.reverse := by
  induction h with
  | nil => exact .nil
  | cons r t ih => rw [List.reverse_cons, List.reverse_cons]; exact Vals.append ih (.cons r .nil)
theorem Vals.rep {xs : List V} {us : List Value} (h : Vals xs us) : ∀ k : Nat, Vals (List.replicate k xs).flatten (List.replicate k us).flatten
  | 0 => .nil
  | k + 1 => by
    rw [List.replicate_succ, List.replicate_succ, List.flatten_cons, List.flatten_cons]
    exact Vals.append h (Vals.rep h k)
section
variable {X : Cx} {pins : List (Addr × Obj)} {σ : St} {H : Hp} {s : Shared} {l b : Addr} {xs ys zs : List V}

/-! ### the two steps: a tracked list is rewritten, a new list is laid -/
theorem Inv.lset {its its' : List Value} {n : Nat} {f : Array Value → Array Value} {t' : Nat} (I : Inv X pins σ H s) (hH : H l = some (.lst xs))
    (e : s.heap.get? l = some { cls := .type "list", data := .seq its.toArray n }) (hf : f its.toArray = its'.toArray) (hv : Vals ys its') (hz : ys.length ≤ sizeLine) :
    Inv X pins σ (upd H l (.lst ys)) { s with heap := s.heap.update l (Obj.mapSeq f), toks := t' } := by
  have q := PySem.IsL.update e f
  rw [hf] at q
  refine I.write (x := l) (e := l) (by rw [hH]; exact trivial) (.inl rfl) (fun b' u hb hu => (Heap.get?_update_other s.heap (Obj.mapSeq f) (Ne.symm hb)).trans hu) ⟨_, q⟩ ?_
  exact ⟨hz, its', _, hv, q⟩
theorem Inv.lnew {its : List Value} {t' : Nat} (I : Inv X pins σ H s) (hv : Vals ys its) (hz : ys.length ≤ sizeLine) :
    Inv X pins σ (upd H s.heap.objs.size (.lst ys)) { s with heap := s.heap.push { cls := .type "list", data := .seq its.toArray }, toks := t' } :=
  I.laid (fun _ _ q => Heap.get?_push_of_some _ q) (Nat.le_refl _) ⟨hz, its, 0, hv, Heap.get?_push_size _ rfl⟩
theorem Inv.fresh (I : Inv X pins σ H s) : H s.heap.objs.size = none := I.hok.fresh (Nat.le_refl _)
theorem Inv.lstM (I : Inv X pins σ H s) (hH : H l = some (.lst xs)) : xs.length ≤ sizeLine ∧ ∃ (its : List Value) (n : Nat), Vals xs its ∧ xs.length = its.length ∧ s.heap.get? l = some { cls := .type "list", data := .seq its.toArray n } := by
  obtain ⟨z, its, n, r, e⟩ := I.hok l _ hH
  exact ⟨z, its, n, r, r.length, e⟩

end

section
variable {X : Cx}

/-! ### methods -/
def rAppend : V → List V → Hp → VK → Prop := fun x vs H Q => ∃ l xs y, x = .ref l ∧ vs = [y] ∧ H l = some (.lst xs) ∧ xs.length < sizeLine ∧ Q .non (upd H l (.lst (xs ++ [y])))
theorem mt_append : MtM X "list.append" rAppend := by
  intro pins s σ H x vs v us Q I rx rv h
  obtain ⟨l, xs, y, rfl, rfl, hH, hz, q⟩ := h
  cases rx
  obtain ⟨u, rfl, ru⟩ := rv.one
  obtain ⟨z, its, n, r, hl, e⟩ := I.lstM hH
  refine call_meets F.slot_list_append ⟨_, e, rfl⟩ F.entry_list_append (F.args_list_append_2 _ _) (PySem.list_append l its.toArray n u (by rw [List.size_toArray]; omega)) ⟨e, ?_⟩
  refine ⟨.non, _, I.lset (its' := its ++ [u]) hH e (by simp) (r.append (.cons ru .nil)) ?_, rfl, q⟩
  rw [List.length_append, List.length_singleton]
  omega

def rExtend : V → List V → Hp → VK → Prop := fun x vs H Q => ∃ l b xs zs, x = .ref l ∧ vs = [.ref b] ∧ H l = some (.lst xs) ∧ H b = some (.lst zs) ∧ xs.length + zs.length ≤ sizeLine ∧ Q .non (upd H l (.lst (xs ++ zs)))
def rPop : V → List V → Hp → VK → Prop := fun x vs H Q => ∃ l xs y, x = .ref l ∧ vs = [] ∧ H l = some (.lst xs) ∧ xs[xs.length - 1]? = some y ∧ Q y (upd H l (.lst xs.dropLast))
def rPopAt : V → List V → Hp → VK → Prop := fun x vs H Q => ∃ l xs i k y, x = .ref l ∧ vs = [.int i] ∧ H l = some (.lst xs) ∧ -(2 ^ 63) ≤ i ∧ i < 2 ^ 63 ∧ seqIndex? i xs.length = some k ∧ xs[k]? = some y ∧ Q y (upd H l (.lst (xs.eraseIdx k)))
def rReverse : V → List V → Hp → VK → Prop := fun x vs H Q => ∃ l xs, x = .ref l ∧ vs = [] ∧ H l = some (.lst xs) ∧ Q .non (upd H l (.lst xs.reverse))
def rClear : V → List V → Hp → VK → Prop := fun x vs H Q => ∃ l xs, x = .ref l ∧ vs = [] ∧ H l = some (.lst xs) ∧ Q .non (upd H l (.lst []))
/-! ### list + list, list += list, list * int -/
def rCat : R2 := fun x y H Q => ∃ l b xs zs, x = .ref l ∧ y = .ref b ∧ H l = some (.lst xs) ∧ H b = some (.lst zs) ∧ xs.length + zs.length ≤ sizeLine ∧ ∀ p, H p = none → Q (.ref p) (upd H p (.lst (xs ++ zs)))
/-- a list times an int (a negative one is nothing) -/
def rRep : R2 := fun x y H Q => ∃ l k xs, x = .ref l ∧ y = .int k ∧ H l = some (.lst xs) ∧ -(2 ^ 63) ≤ k ∧ k < 2 ^ 63 ∧ xs.length * k.toNat ≤ sizeLine ∧
  ∀ p, H p = none → Q (.ref p) (upd H p (.lst (List.replicate k.toNat xs).flatten))
/-! ### del xs[i] -/
end

/-! ### xs[a:b] = ys -/
section
variable {prog : Program} {w : World} {A : Around} {E : Value → Shared → Prop} {s : Shared}
end

section
variable {X : Cx}
end
end L2

namespace Att
open PySem PySem.W PySem.Calls PyProof.Rows

/-! ### the script -/
theorem ints_of_wellAll {P : Params} {h : Heap} : ∀ (ns : List Int) (vs : List Value), WellAll P h vs (ns.map WData.int) → IntsAre vs ns := by
  intro ns
  induction ns with
  | nil =>
    intro vs w
    rw [List.map_nil] at w
    cases w
    exact .nil
  | cons n ns ih =>
    intro vs w
    rw [List.map_cons] at w
    cases w with
    | cons a b =>
      cases a
      exact .cons _ _ (ih _ b)

theorem script_of {l : OpenLaw} {n : Nat} (hn : l.most = some n) {P : Params} {h : Heap} {args : List WData} {vals : List Value}
    (hpre : l.row.toRowW.claim.pre args = true) (hwl : WellAll P h vals args) :
    ∃ a vs ns, vals = [Value.ref a] ∧ args = [WData.list (ns.map WData.int)] ∧ h.get? a = some { cls := .type "list", data := .seq vs.toArray } ∧ IntsAre vs ns ∧ ns.length ≤ n := by
  have hsh : WShape.hasAll [] args [.list .int] = true := (pre_splitW hpre).1
  have hc : l.pre.holds [] { args := args } = true := (pre_splitW hpre).2
  obtain ⟨d, r, rfl, h1, h2⟩ := hasAllW_cons hsh
  obtain rfl := hasAllW_nil h2
  obtain ⟨xs, rfl, h3⟩ := hasW_list h1
  obtain ⟨ns, rfl⟩ := items_int h3
  have hlen : ns.length ≤ n := by
    unfold OpenLaw.pre at hc
    have h4 : (WTm.not (.lt (.lit (.int (n : Int))) (.len (.arg 0)))).holds [] { args := [.list (ns.map .int)] } = true := by
      have h4 := (holds_andW hc).1
      rw [hn] at h4
      exact h4
    have h5 := condW_of h4 (w_not (w_lt w_lit (w_len_list (w_arg rfl))))
    rw [List.length_map] at h5
    refine Nat.le_of_not_lt fun q => ?_
    have q' : (n : Int) < ((ns.length : Nat) : Int) := by omega
    first
      | (rw [decide_eq_true q'] at h5; exact absurd h5 (by decide))
      | (simp at h5; omega)
  cases hwl with
  | cons w1 w2 =>
    cases w2
    cases w1 with
    | list ho hall => exact ⟨_, _, ns, rfl, rfl, ho, ints_of_wellAll ns _ hall, hlen⟩

theorem post_true (l : OpenLaw) (args : List WData) : l.row.toRowW.claim.post args (.bool true) args = true :=
  postW_of (r := l.row.toRowW) (X := (true == true))
    (show WShape.has [] (.bool true) .bool = true by first | rfl | decide | simp [WShape.has, WShape.arms, WShape.armsAll])
    (show (WTm.eq .res (.lit (.bool true))).value [] { args := args, res := some (.bool true), after := args } = some (.bool (true == true)) from w_eq_bool (w_res rfl) w_lit) rfl

/-! ### the attachment: holds_open's last premise (the goal 'hc' behind k_head) from a wpAny of the law's body -/
/-- the same from a codeAny of the CALL (for a layer whose function contracts speak of calls) -/
theorem attach_call {l : OpenLaw} {n : Nat} {q : Program} {loose : List Str} {XP : (Str → Option Value) → Heap → Prop} {YP : World → Heap → Prop} {d : DefRec}
    (hn : l.most = some n) (hdf : d.params.defaults = [])
    (call : ∀ (w : World) (s₀ s₁ : Shared) (mg mb : Str → Option Value) (fa : Addr) (o : Obj) (pm cd doc : Value) (a : Addr) (vs : List Value) (ns : List Int),
      Ground q loose [] XP w s₀ mg mb s₁.heap → YP w s₁.heap →
      s₁.heap.get? fa = some o → o.data = .func (docDef d.name d.params d.body d.scope pm cd doc) → s₁.heap.CodeRec cd d.name → mg d.name = some (.ref fa) →
      s₁.heap.get? a = some { cls := .type "list", data := .seq vs.toArray } → IntsAre vs ns → ns.length ≤ n → s₁.gens = #[] →
      codeAny (model l.prog w) callerA (.call (.ref fa) ⟨[.ref a], []⟩) (fun r s' => r = .ok (.ret (.bool true)) ∧ OldK s₁.heap s'.heap ∧ s'.os = s₁.os ∧ AllBare s'.gens) s₁) :
    WalkO q loose XP YP l.row.toRowW d [] (fun f vs => PySem.call f vs) := by
  intro w s₀ s₁ mg mb G Y fa o pm cd doc dV kV ho hd hcd hD hmg hg args vals as hpre hlay hrd hwl hlo
  obtain rfl : dV = .none := Dflts.none hD hdf
  obtain rfl : kV = .none := Dflts.noKw hD
  obtain ⟨a, vs, ns, rfl, rfl, hobj, hints, hlen⟩ := script_of hn hpre hwl
  refine enter_call (codeAny_mono (call w s₀ s₁ mg mb fa o pm cd doc a vs ns G Y ho (fd_plain hd) hcd hmg hobj hints hlen hg) fun r s' hq => ?_)
  obtain ⟨rfl, h2, h3, h4⟩ := hq
  exact ⟨.inl ⟨.bool true, .bool true, [], rfl, fun _ => rfl, .bool true, post_true l _, fun _ => ⟨List.Pairwise.nil, fun _ hm => (nomatch hm)⟩⟩, h2, h3, h4⟩

/-! ### rules over ANY heap (no ledger) from facts about the written part K: the library's own take a ledger (News) for what they write -/
section
variable {prog : Program} {w : World} {A : Around} {E : Value → Shared → Prop} {s : Shared} {K : Frag}

/-! the whole heap as the ledger: makes every rule that writes through a ledger a rule over any heap -/
def noObjs (h : Heap) : Heap := { h with objs := #[] }
def ledger (h : Heap) (L d : Addr) : List (Addr × Obj) := (List.range h.objs.size).filterMap fun a => if a = L ∨ a = d then none else (h.get? a).map fun o => (a, o)
end
end Att

namespace L2
open PySem PySem.Spec PyProof.Rows

theorem vals_ints : ∀ {vs : List Value} {ns : List Int}, IntsAre vs ns → Vals (ns.map V.int) vs
  | _, _, .nil => .nil
  | _, _, .cons n t h => .cons ⟨t, rfl⟩ (vals_ints h)

/-- nothing is tracked but the script, known to the object (or it is an object of the module) -/
def Only (H : Hp) : Prop := ∀ b, H b = none ∨ ∃ o xs, H b = some (.frz o (.lst xs))

/-- THE HEAD: the law's promise, at the heap behind the top. F, the promise of the law's def, may use that base is part of the heap (so K.In base, base.Ns mainGlobals mg stand in Mod) -/
theorem law_call {P : Program} {w : World} {K : PySem.W.Frag} {mg mb : Str → Option Value} {CX : CXT} {k : Nat} {fa a : Addr} {fd : FuncData} {x : Str} {sp : Sp} {s₁ : Shared} {vs : List Value} {ns : List Int}
    (KX : K.In s₁.heap) (hns : s₁.heap.Ns mainGlobals mg) (hb : s₁.heap.Ns builtinsNs mb) (hbb : ∀ x : Str, x ≠ "__name__" → mb x = bootBuiltins x) (hlim : s₁.heap.NoLimit) (hg : s₁.gens = #[])
    (ha : s₁.heap.get? a = some { cls := .type "list", data := .seq vs.toArray }) (hi : IntsAre vs ns) (hl : ns.length ≤ sizeLine) (hr : Room k callerA)
    (F : ∀ base : Heap, K.In base → base.Ns mainGlobals mg → FnOk P w K mg base CX k fa fd [x] sp) (hbind : ∀ (s : Shared) (u : Value), BindsTo s fd ⟨[u], []⟩ [(x, u)])
    (hsp : ∀ H : Hp, Only H → SqL K H a (ns.map V.int) → sp [.ref a] H (fun v _ => v = .bl true) fun _ _ _ => False)
    (hCX : ∀ H e s', CX [] H s₁ (fun _ _ _ => False) e s' → False) :
    codeAny (model P w) callerA (.call (.ref fa) ⟨[.ref a], []⟩) (fun r s' => r = .ok (.ret (.bool true)) ∧ OldK s₁.heap s'.heap ∧ s'.os = s₁.os ∧ AllBare s'.gens) s₁ := by
  have rv := vals_ints hi
  have lenV := hi.length
  -- from an abstract heap in which nothing but the script may be tracked
  have core : ∀ H : Hp, Only H → SqL K H a (ns.map V.int) → HOk P w H s₁.heap → (∀ b, H b ≠ none → b = a) → (H a ≠ none → K.lookup a = none) →
      codeAny (model P w) callerA (.call (.ref fa) ⟨[.ref a], []⟩) (fun r s' => r = .ok (.ret (.bool true)) ∧ OldK s₁.heap s'.heap ∧ s'.os = s₁.os ∧ AllBare s'.gens) s₁ := by
    intro H hO hS hok hA hK
    have base_of : ∀ {b : Addr} {o : Obj}, s₁.heap.get? b = some o → H b = none → (hidT s₁.heap H).get? b = some o := fun e n => hidT_get e n
    have noA : ∀ {b : Addr} {o : Obj} {es : Array DictEntry} {ep : Nat}, s₁.heap.get? b = some o → o.data = .dict es ep → H b = none := fun {b o es ep} e d => by
      cases q : H b with
      | none => rfl
      | some u =>
        have e' : b = a := hA b (by rw [q]; simp)
        subst e'
        rw [ha] at e; cases e
        have d' : Data.seq vs.toArray _ = Data.dict es ep := d
        cases d'
    have nsK : ∀ {b : Addr} {m : Str → Option Value}, s₁.heap.Ns b m → (hidT s₁.heap H).Ns b m := fun {b m} ⟨o, es, ep, e, d, r⟩ => ⟨o, es, ep, base_of e (noA e d), d, r⟩
    have hKb : K.In (hidT s₁.heap H) := fun b o e => base_of (KX b o e) (by
      cases q : H b with
      | none => rfl
      | some u =>
        have e' : b = a := hA b (by rw [q]; simp)
        subst e'
        rw [hK (by rw [q]; simp)] at e; cases e)
    have hM : Mod K mg (hidT s₁.heap H) := ⟨hKb, nsK hns, ⟨mb, nsK hb, hbb⟩, let ⟨mc, h1, h2⟩ := hlim; ⟨mc, nsK h1, h2⟩⟩
    have e0 : Env0 P w K mg (hidT s₁.heap H) callerA [] s₁ H := ⟨rfl, hM, fun b o e => of_hidT e, Nat.le_of_eq (hidT_size _ _), trivial, fun b hb => absurd (show b ∈ ([] : List Addr) from hb) (by simp), hok, .of_eq hg⟩
    refine codeAny_mono ((F _ hKb (nsK hns)).run callerA [] s₁ H ⟨[.ref a], []⟩ [.ref a] [.ref a] _ _ hr e0 (hbind s₁ (.ref a)) (.cons rfl .nil) (hsp H hO hS)) fun r s' h => ?_
    cases r with
    | error e => exact (hCX H e s' h).elim
    | ok fl =>
      cases fl with
      | next => exact False.elim h
      | brk => exact False.elim h
      | cont => exact False.elim h
      | ret u =>
        obtain ⟨v, H', os, bare, un, hok', r', q⟩ := h
        have q' : v = .bl true := q
        subst q'
        obtain rfl : u = Value.bool true := r'
        refine ⟨rfl, OldK.of_keep fun b o e => ?_, os, bare⟩
        cases q : H b with
        | none => exact un.keep b o e q (by intro z; exact absurd (show b ∈ ([] : List Addr) from z) (by simp)) (by simp)
        | some u =>
          rcases hO b with z | ⟨ob, xs, z⟩
          · rw [q] at z; cases z
          · have z2 := un.frzs b ob _ z
            obtain ⟨e1, _⟩ := hok b _ z
            obtain ⟨e2, _⟩ := hok' b _ z2
            rw [e] at e1; cases e1
            exact e2
  cases hk : K.lookup a with
  | some o =>
    -- the script is one of the module's own objects
    have e := KX a o hk
    rw [ha] at e
    cases e
    refine core (fun _ => none) (fun _ => .inl rfl) (.inr ⟨_, vs.toArray, _, hk, rfl, rfl, rfl, by rw [List.size_toArray, lenV]; exact hl, by simpa using rv⟩) (fun b u z => by have z' : (none : Option HO) = some u := z; cases z') (fun b z => absurd rfl z) fun z => absurd rfl z
  | none =>
    refine core (fun b => if b = a then some (.frz { cls := .type "list", data := .seq vs.toArray } (.lst (ns.map V.int))) else none) (fun b => ?_) (.inl (.inr ⟨{ cls := .type "list", data := .seq vs.toArray }, if_pos rfl⟩)) (fun b u z => ?_) (fun b z => ?_) fun _ => hk
    · by_cases hb : b = a
      · exact .inr ⟨_, _, if_pos hb⟩
      · exact .inl (if_neg hb)
    · by_cases hb : b = a
      · have z' := (if_pos hb).symm.trans z
        cases z'
        subst hb
        exact ⟨ha, by rw [List.length_map]; exact hl, vs, _, rv, ha⟩
      · have z' := (if_neg hb).symm.trans z
        cases z'
    · by_cases hb : b = a
      · exact hb
      · exact absurd (if_neg hb) z
end L2

namespace L2
open PySem PySem.Spec PyProof.Rows

abbrev KOf {K : PySem.W.Frag} {h : Heap} (_ : K.In h) : PySem.W.Frag := K

/-- the goal that k_head leaves (case hc), from the law's promise. F gives the function object fd (K's own) once, then the promise over every base -/
theorem walk_of {l : PySem.W.OpenLaw} {n k : Nat} {q : Program} {loose : List Str} {XP : (Str → Option Value) → Heap → Prop} {YP : World → Heap → Prop} {d : DefRec} {K : Params → PySem.W.Frag} {CX : World → CXT} {sp : World → Sp} {x : Str}
    (hn : l.most = some n) (hn2 : n ≤ sizeLine) (hdf : d.params.defaults = []) (hr : Room k callerA)
    (hY : ∀ (w : World) (h : Heap), YP w h → (K w.params).In h)
    (F : ∀ (w : World) (mg : Str → Option Value) (fa : Addr) (h : Heap), (K w.params).In h → h.Ns mainGlobals mg → mg d.name = some (.ref fa) →
      ∃ fd : FuncData, (∀ (s : Shared) (u : Value), BindsTo s fd ⟨[u], []⟩ [(x, u)]) ∧
        ∀ base : Heap, (K w.params).In base → base.Ns mainGlobals mg → FnOk l.prog w (K w.params) mg base (CX w) k fa fd [x] (sp w))
    (hsp : ∀ (w : World) (H : Hp) (a : Addr) (ns : List Int), ns.length ≤ n → Only H → SqL (K w.params) H a (ns.map V.int) → sp w [.ref a] H (fun v _ => v = .bl true) fun _ _ _ => False)
    (hCX : ∀ (w : World) (H : Hp) (s : Shared) (e : Value) (s' : Shared), CX w [] H s (fun _ _ _ => False) e s' → False) :
    PySem.W.WalkO q loose XP YP l.row.toRowW d [] (fun f vs => PySem.call f vs) := by
  refine Att.attach_call hn hdf fun w s₀ s₁ mg mb fa o pm cd doc a vs ns G Y ho hd hcd hmg hobj hints hlen hg => ?_
  have KX := hY w _ Y
  obtain ⟨fd, hb, hF⟩ := F w mg fa _ KX G.T.g hmg
  exact law_call KX G.T.g G.T.b G.T.builtins G.T.nolimit hg hobj hints (Nat.le_trans hlen hn2) hr hF hb (fun H hO hS => hsp w H a ns hlen hO hS) fun H e s' => hCX w H s₁ e s'
end L2

/- THE LAST THEOREM (shape; LID, My.* are yours):
   My.Adr: a structure of the addresses that your layer names (classes, functions); My.Txt K t: a structure (Prop) of the equations over K;
   My.txt_mk : {K} {implicit addresses ..} (e1 : nsIn K mainGlobals "law" = some (some (.ref f))) (e2 : K.lookup f = some ⟨oc, od, .func (fnOf "law" "law" params body scope dV kV doc pm an cdv ct), sl⟩) (e3 : codeIn K cdv "law" = true) .. : ∃ t, My.Txt K t

theorem PySem.Challenge.cw_LID_holds : PySem.Challenge.rw_LID.Holds := by
  w_on; o_law; k_head; (case hw => w_witness2)
  k_fill
  refine L2.walk_of (l := PySem.Challenge.rw_LID) (n := 63) (k := 40) (x := "script") (CX := fun w => ..) (sp := fun _ => My.sp_law) rfl (by decide) rfl ⟨rfl, by decide, by decide⟩ (fun w h Y => PySem.W.kIn_of Y) ?F ?S ?C
  case F =>
    intro w mg fa h KX G hmg
    have T : ∃ t, My.Txt (L2.KOf KX) t := by
      dsimp only [L2.KOf]                          -- K must stand as «<heap const> w.params» for k_is
      refine' My.txt_mk ?e1 ?e2 ?e3 ..
      (case e1 => PySem.W.k_is)                    -- in the order: a name -> its address -> its object -> its parts
      (case e2 => PySem.W.k_is)
      ..
    obtain ⟨t, T⟩ := T
    have e0 := hmg.symm.trans (PySem.W.mg_of KX G T.law)
    cases e0                                       -- fa is the law's own address
    exact ⟨_, fun s u => .of_eq rfl, fun base kb nb => My.law_fn T kb nb⟩     -- if «.of_eq rfl» comes too early: refine' ⟨_, ?b, fun base kb nb => My.law_fn T kb nb⟩; exact fun s u => .of_eq rfl
  case S => exact fun w H a ns hl hO hS => ..
  case C => exact ..
(the tactic k_is has no namespace: write k_is) -/

/-! SHORT WORDS over the layer: a def of the text, its body, what a loop and a test want. -/
namespace L2
open PySem PySem.Spec PyProof.Rows

/-! ### the text by places -/
/-- the j-th statement of a class's body -/
def inClass (s : Stmt) (j : Nat) : Stmt := match s with
  | .ClassDef _ _ _ body _ _ _ _ _ _ _ => body.getD j (.Pass ⟨0, 0, 0, 0⟩)
  | _ => .Pass ⟨0, 0, 0, 0⟩
def defArgs (s : Stmt) : Arguments := match s with
  | .FunctionDef _ a _ _ _ _ _ _ _ _ => a
  | _ => { posonlyargs := [], args := [], vararg := none, kwonlyargs := [], kw_defaults := [], kwarg := none, defaults := [] }
def defBody (s : Stmt) : List Stmt := match s with
  | .FunctionDef _ _ b _ _ _ _ _ _ _ => b
  | _ => []
def defScope (s : Stmt) : Scope := match s with
  | .FunctionDef _ _ _ _ _ _ sc _ _ _ => sc
  | _ => { kind := .function, names := [], isGenerator := false, isCoroutine := false }

/-! ### no exception leaves a def -/
abbrev CX0 : CXT := fun _ _ _ _ _ _ => False
abbrev E0 : XK := fun _ _ _ => False
theorem pass0 {X : Cx} : Passes CX0 X E0 := fun _ _ _ _ _ _ _ h => h.elim

/-! ### a def (or method) of the text as it stands behind the top -/
structure Fun (K : PySem.W.Frag) (x qual : Str) (st : Stmt) (f : Addr) (fd : FuncData) : Prop where
  ex : ∃ (oc : Value) (od : Option Addr) (kV doc pm : Value) (an : Option Addr) (cdv ct : Value) (osl : Array (Option Value)),
    fd = PySem.W.fnOf x qual (defArgs st) (defBody st) (defScope st) .none kV doc pm an cdv ct ∧ K.lookup f = some ⟨oc, od, .func fd, osl⟩ ∧ PySem.W.codeIn K cdv qual = true
  kp : PySem.W.keepIn K (.ref f) = true
section
variable {P : Program} {w : World} {K : PySem.W.Frag} {mg : Str → Option Value} {base : Heap}
/-- THE RULE for a def: its body as a term of rules, and the reading of that term -/
theorem Fun.ok {x qual : Str} {st : Stmt} {f : Addr} {fd : FuncData} {N ps : List Str} {k : Nat} {sp : Sp} (F : Fun K x qual st f fd) (S : FnScope N ps (defScope st)) (len : ∀ vs H Q E, sp vs H Q E → vs.length = ps.length)
    (hbody : ∀ (cdv : Value) (A : Around) (outer : List Env) (s : Shared) (H : Hp) (vs : List V) (Q : VK) (E : XK), Room k (A.deeper (envOfC qual (defScope st) s.heap.objs.size f cdv)) → sp vs H Q E →
      ∃ t, PSs (cxOf CX0 P w K mg base N qual (defScope st) f cdv A outer s H E).nox (defBody st) t ∧ t { nx := fun _ H' => Q .non H', rt := Q } (start N vs) H) : FnOk P w K mg base CX0 (k + 1) f fd ps sp := by
  obtain ⟨oc, od, kV, doc, pm, an, cdv, ct, osl, rfl, lk, hcd⟩ := F.ex
  refine fn_of lk hcd S len fun A outer s H vs Q E hr hsp => ?_
  obtain ⟨t, h, q⟩ := hbody cdv A outer s H vs Q E hr hsp
  exact ⟨t, h.nox, q⟩
/-- how its arguments bind (no defaults): h is «fun _ _ _ _ _ _ us hl => match us, hl with | [_, _], _ => rfl», one _ a parameter -/
theorem Fun.binds {x qual : Str} {st : Stmt} {f : Addr} {fd : FuncData} {ps : List Str} (F : Fun K x qual st f fd)
    (h : ∀ (kV doc pm : Value) (an : Option Addr) (cdv ct : Value) (us : List Value), us.length = ps.length → bindArgs (PySem.W.fnOf x qual (defArgs st) (defBody st) (defScope st) .none kV doc pm an cdv ct) ⟨us, []⟩ = pure (ps.zip us)) : Binds K fd ps [] := by
  obtain ⟨oc, od, kV, doc, pm, an, cdv, ct, osl, rfl, lk, hcd⟩ := F.ex
  exact .all (h kV doc pm an cdv ct)
theorem fun_mk {x qual : Str} {st : Stmt} {f : Addr} {oc : Value} {od an : Option Addr} {osl : Array (Option Value)} {kV doc pm cdv ct : Value} (l : K.lookup f = some ⟨oc, od, .func (PySem.W.fnOf x qual (defArgs st) (defBody st) (defScope st) .none kV doc pm an cdv ct), osl⟩)
    (c : PySem.W.codeIn K cdv qual = true) (k : PySem.W.keepIn K (.ref f) = true) : Fun K x qual st f (PySem.W.fnOf x qual (defArgs st) (defBody st) (defScope st) .none kV doc pm an cdv ct) := ⟨⟨oc, od, kV, doc, pm, an, cdv, ct, osl, rfl, l, c⟩, k⟩
end
/-! ### expressions in short: the name that stands in the i-th slot -/
section
variable {X : Cx}
theorem pv (i : Nat) {x : Str} {pos : Pos} (hN : X.N[i]? = some x := by rfl) (hv : Vis X.env.scope x := by first | exact Or.inl rfl | exact Or.inr (Or.inl rfl) | exact Or.inr (Or.inr rfl)) (hd : (x == ("__debug__" : Str)) = false := by decide)
    (hcd : (x == ("__classdict__" : Str)) = false := by decide) : PE X (.Name x pos) (tVar i) := pe_var hN hv hd hcd
end

/-! ### tests -/
/-! ### heaps -/
/-- all that was tracked is as it was -/
def Same (H H' : Hp) : Prop := ∀ b o, H b = some o → H' b = some o
theorem Same.refl (H : Hp) : Same H H := fun _ _ h => h
theorem Same.trans {H H1 H2 : Hp} (a : Same H H1) (b : Same H1 H2) : Same H H2 := fun c o h => b c o (a c o h)
theorem Same.free {H H' : Hp} (e : Same H H') {l : Addr} (h : H' l = Option.none) : H l = Option.none := by
  cases q : H l with
  | none => rfl
  | some o =>
    rw [e l o q] at h
    cases h
theorem Same.seq {K : PySem.W.Frag} {H H' : Hp} {a : Addr} {xs : List V} (e : Same H H') (h : SqL K H a xs) : SqL K H' a xs := by
  rcases h with (h | ⟨o, h⟩) | h
  · exact .inl (.inl (e _ _ h))
  · exact .inl (.inr ⟨o, e _ _ h⟩)
  · exact .inr h

end L2
/-! THE DATA LAYER: what a def does, as a function over plain data (no heap), above the hand layer's judgements. -/
namespace DL
open PySem PySem.Spec PyProof.Rows L2

abbrev D := PyData
abbrev St := L2.St
/-- an own exception: its class by its name, what its fields hold -/
structure XD where
  cls : Str
  flds : List (Str × D)
/-- a result: no claim, a value, an exception -/
abbrev M (α : Type) := Option (Except XD α)
def M.ret {α : Type} (a : α) : M α := some (.ok a)
def M.thn {α β : Type} (r : M α) (f : α → M β) : M β := match r with
  | none => none
  | some (.ok a) => f a
  | some (.error x) => some (.error x)
def M.lift {α : Type} (r : Option α) : M α := match r with
  | none => none
  | some a => some (.ok a)
/-- r is a value with k, or an exception with G -/
def ok {α : Type} (G : XD → Prop) (r : M α) (k : α → Prop) : Prop := match r with
  | none => False
  | some (.ok a) => k a
  | some (.error x) => G x
/-- an exception's wish at every later heap -/
def GS (G : XD → Hp → Prop) (Hr : Hp) (x : XD) : Prop := ∀ H', Same Hr H' → G x H'
theorem ok_mono {α : Type} {G : XD → Prop} {r : M α} {k k' : α → Prop} (h : ok G r k) (f : ∀ a, k a → k' a) : ok G r k' := by
  match r, h with
  | some (.ok a), h => exact f a h
  | some (.error x), h => exact h
theorem ok_thn {α β : Type} {G : XD → Prop} {r : M α} {f : α → M β} {k : β → Prop} (h : ok G (r.thn f) k) : ok G r (fun a => ok G (f a) k) := by
  match r, h with
  | some (.ok a), h => exact h
  | some (.error x), h => exact h
theorem ok_lift {α : Type} {G : XD → Prop} {r : Option α} {k : α → Prop} (h : ok G (M.lift r) k) : ∃ a, r = some a ∧ k a := by
  match r, h with
  | some a, h => exact ⟨a, rfl, h⟩
theorem thn_ret {α β : Type} (a : α) (f : α → M β) : (M.ret a).thn f = f a := rfl
theorem thn_some {α β : Type} (a : α) (f : α → M β) : M.thn (some (.ok a)) f = f a := rfl
theorem lift_some {α : Type} (a : α) : M.lift (some a) = M.ret a := rfl

/-! ### data in the heap: O, the lists that are being built (owned): nothing else leans on them -/
/-- a list of the text's own -/
def KL (K : PySem.W.Frag) (a : Addr) (xs : List V) : Prop :=
  ∃ (o : Obj) (its : Array Value) (n : Nat), K.lookup a = some o ∧ o.cls = .type "list" ∧ o.dict = none ∧ o.data = .seq its n ∧ its.size ≤ sizeLine ∧ Vals xs its.toList
/-- a key as data -/
def keyD : Key → D
  | .inl i => .int i
  | .inr x => .str x
/-- an instance as data: its class, its attributes -/
abbrev insD (nm : Str) (es : List (Str × D)) : D := .dict [(.none, .tuple (.str nm :: es.map fun e => .tuple [.str e.1, e.2]))]
/-- what can be owned: a list, a dict -/
def Mu (H : Hp) (l : Addr) : Prop := (∃ xs, H l = some (.lst xs)) ∨ ∃ kvs, H l = some (.dK kvs)
mutual
inductive Rep (K : PySem.W.Frag) (O : List Addr) (H : Hp) : V → D → Prop
  | non : Rep K O H .non .none
  | bl (b : Bool) : Rep K O H (.bl b) (.bool b)
  | int (i : Int) : Rep K O H (.int i) (.int i)
  | str (x : Str) : Rep K O H (.str x) (.str x)
  | tup {a : Addr} {xs : List V} {ds : List D} (h : SqT K H a xs) (r : Reps K O H xs ds) : Rep K O H (.ref a) (.tuple ds)
  | lst {a : Addr} {xs : List V} {ds : List D} (h : Rd H a (.lst xs)) (n : a ∉ O) (r : Reps K O H xs ds) : Rep K O H (.ref a) (.list ds)
  | lstK {a : Addr} {xs : List V} {ds : List D} (h : KL K a xs) (r : Reps K O H xs ds) : Rep K O H (.ref a) (.list ds)
  | dct {a : Addr} {kvs : List (Key × V)} {es : List (Key × D)} (h : Rd H a (.dK kvs)) (n : a ∉ O) (hk : kvs.map (·.1) = es.map (·.1)) (r : Reps K O H (kvs.map (·.2)) (es.map (·.2))) : Rep K O H (.ref a) (.dict (es.map fun e => (keyD e.1, e.2)))
  /-- an instance of a class of the text -/
  | ins {a C dx : Addr} {nm : Str} {fs : List (Str × V)} {es : List (Str × D)} (hN : PySem.W.nsIn K mainGlobals nm = some (some (.ref C))) (h : H a = some (.ins C dx fs)) (n : a ∉ O) (hk : fs.map (·.1) = es.map (·.1)) (r : Reps K O H (fs.map (·.2)) (es.map (·.2))) : Rep K O H (.ref a) (insD nm es)
inductive Reps (K : PySem.W.Frag) (O : List Addr) (H : Hp) : List V → List D → Prop
  | nil : Reps K O H [] []
  | cons {v : V} {d : D} {vs : List V} {ds : List D} (r : Rep K O H v d) (rs : Reps K O H vs ds) : Reps K O H (v :: vs) (d :: ds)
end

/-- how a heap goes over into another one: tuples stay, and lists that are not owned -/
structure To (O O' : List Addr) (H H' : Hp) : Prop where
  t : ∀ b xs, Rd H b (.tup xs) → Rd H' b (.tup xs)
  l : ∀ b xs, b ∉ O → Rd H b (.lst xs) → b ∉ O' ∧ Rd H' b (.lst xs)
  d : ∀ b xs, b ∉ O → Rd H b (.dK xs) → b ∉ O' ∧ Rd H' b (.dK xs)
  i : ∀ b C dx fs, b ∉ O → H b = some (.ins C dx fs) → b ∉ O' ∧ H' b = some (.ins C dx fs)
section
variable {K : PySem.W.Frag} {O O' : List Addr} {H H' : Hp}
theorem To.sqT (k : To O O' H H') {a : Addr} {xs : List V} (h : SqT K H a xs) : SqT K H' a xs := by
  rcases h with h | h
  · exact .inl (k.t a xs h)
  · exact .inr h
mutual
theorem Rep.to (k : To O O' H H') : ∀ {v : V} {d : D}, Rep K O H v d → Rep K O' H' v d
  | _, _, .non => .non
  | _, _, .bl b => .bl b
  | _, _, .int i => .int i
  | _, _, .str x => .str x
  | _, _, .tup h r => .tup (k.sqT h) (Reps.to k r)
  | _, _, .lst h n r => .lst (k.l _ _ n h).2 (k.l _ _ n h).1 (Reps.to k r)
  | _, _, .lstK h r => .lstK h (Reps.to k r)
  | _, _, .dct h n hk r => .dct (k.d _ _ n h).2 (k.d _ _ n h).1 hk (Reps.to k r)
  | _, _, .ins hN h n hk r => .ins hN (k.i _ _ _ _ n h).2 (k.i _ _ _ _ n h).1 hk (Reps.to k r)
theorem Reps.to (k : To O O' H H') : ∀ {vs : List V} {ds : List D}, Reps K O H vs ds → Reps K O' H' vs ds
  | _, _, .nil => .nil
  | _, _, .cons r rs => .cons (Rep.to k r) (Reps.to k rs)
end
theorem Same.rd (s : Same H H') {b : Addr} {o : HO} (h : Rd H b o) : Rd H' b o := by
  rcases h with h | ⟨u, h⟩
  · exact .inl (s _ _ h)
  · exact .inr ⟨u, s _ _ h⟩
theorem To.same (s : Same H H') : To O O H H' := ⟨fun b xs h => Same.rd s h, fun b xs n h => ⟨n, Same.rd s h⟩, fun b xs n h => ⟨n, Same.rd s h⟩, fun b C dx fs n h => ⟨n, s _ _ h⟩⟩
theorem To.less (s : ∀ b, b ∈ O' → b ∈ O) : To O O' H H := ⟨fun b xs h => h, fun b xs n h => ⟨fun z => n (s b z), h⟩, fun b xs n h => ⟨fun z => n (s b z), h⟩, fun b C dx fs n h => ⟨fun z => n (s b z), h⟩⟩
theorem Rep.same (s : Same H H') {v : V} {d : D} (r : Rep K O H v d) : Rep K O H' v d := r.to (.same s)
theorem Reps.same (s : Same H H') {v : List V} {d : List D} (r : Reps K O H v d) : Reps K O H' v d := r.to (.same s)
theorem Rd.ne_new {b l : Addr} {o : HO} (h : Rd H b o) (hl : H l = none) : b ≠ l := by
  rcases h with h | ⟨u, h⟩
  · exact ne_of_none h hl
  · exact ne_of_none h hl
theorem same_new {l : Addr} {o : HO} (hl : H l = none) : Same H (upd H l o) := fun b u e => by
  rw [upd_ne (ne_of_none e hl)]
  exact e
/-- a new list that is owned from now on -/
theorem To.own {l : Addr} {o : HO} (hl : H l = none) : To O (l :: O) H (upd H l o) :=
  ⟨fun b xs h => Same.rd (same_new hl) h, fun b xs n h => ⟨fun z => by
    rcases List.mem_cons.mp z with z | z
    · exact Rd.ne_new h hl z
    · exact n z, Same.rd (same_new hl) h⟩, fun b xs n h => ⟨fun z => by
    rcases List.mem_cons.mp z with z | z
    · exact Rd.ne_new h hl z
    · exact n z, Same.rd (same_new hl) h⟩, fun b C dx fs n h => ⟨fun z => by
    rcases List.mem_cons.mp z with z | z
    · exact ne_of_none h hl z
    · exact n z, same_new hl _ _ h⟩⟩
/-- an owned list is changed -/
theorem To.set {l : Addr} {xs ys : List V} (hl : H l = some (.lst xs)) (ho : l ∈ O) : To O O H (upd H l (.lst ys)) := by
  have keep : ∀ {b : Addr} {o : HO}, b ≠ l → Rd H b o → Rd (upd H l (.lst ys)) b o := fun {b o} hb h => by
    rcases h with h | ⟨u, h⟩
    · exact .inl (by rw [upd_ne hb]; exact h)
    · exact .inr ⟨u, by rw [upd_ne hb]; exact h⟩
  refine ⟨fun b zs h => keep ?_ h, fun b zs n h => ⟨n, keep (fun z => n (z ▸ ho)) h⟩, fun b zs n h => ⟨n, keep (fun z => n (z ▸ ho)) h⟩, fun b C dx fs n h => ⟨n, by rw [upd_ne (show b ≠ l from fun z => n (z ▸ ho))]; exact h⟩⟩
  rintro rfl
  rcases h with h | ⟨u, h⟩
  · rw [hl] at h; cases h
  · rw [hl] at h; cases h
/-- an owned dict is changed -/
theorem To.setD {l : Addr} {xs : List (Key × V)} {o : HO} (hl : H l = some (.dK xs)) (ho : l ∈ O) : To O O H (upd H l o) := by
  have keep : ∀ {b : Addr} {u : HO}, b ≠ l → Rd H b u → Rd (upd H l o) b u := fun {b u} hb h => by
    rcases h with h | ⟨u, h⟩
    · exact .inl (by rw [upd_ne hb]; exact h)
    · exact .inr ⟨u, by rw [upd_ne hb]; exact h⟩
  refine ⟨fun b zs h => keep ?_ h, fun b zs n h => ⟨n, keep (fun z => n (z ▸ ho)) h⟩, fun b zs n h => ⟨n, keep (fun z => n (z ▸ ho)) h⟩, fun b C dx fs n h => ⟨n, by rw [upd_ne (show b ≠ l from fun z => n (z ▸ ho))]; exact h⟩⟩
  rintro rfl
  rcases h with h | ⟨u, h⟩
  · rw [hl] at h; cases h
  · rw [hl] at h; cases h
/-! inversions -/
theorem Rep.int_inv {v : V} {i : Int} (r : Rep K O H v (.int i)) : v = .int i := by cases r; rfl
theorem Rep.bool_inv {v : V} {i : Bool} (r : Rep K O H v (.bool i)) : v = .bl i := by cases r; rfl
theorem Rep.str_inv {v : V} {i : Str} (r : Rep K O H v (.str i)) : v = .str i := by cases r; rfl
theorem Rep.none_inv {v : V} (r : Rep K O H v .none) : v = .non := by cases r; rfl
theorem Rep.tup_inv {v : V} {ds : List D} (r : Rep K O H v (.tuple ds)) : ∃ a xs, v = .ref a ∧ SqT K H a xs ∧ Reps K O H xs ds := by
  cases r with
  | tup h r => exact ⟨_, _, rfl, h, r⟩
theorem Rep.lst_inv {v : V} {ds : List D} (r : Rep K O H v (.list ds)) : ∃ a xs, v = .ref a ∧ SqL K H a xs ∧ Reps K O H xs ds := by
  cases r with
  | lst h n r => exact ⟨_, _, rfl, .inl h, r⟩
  | lstK h r => exact ⟨_, _, rfl, .inr h, r⟩
/-- no instance -/
def noIns : D → Bool
  | .dict [(.none, _)] => false
  | _ => true
theorem Rep.dct_inv {v : V} {X : List (D × D)} (r : Rep K O H v (.dict X)) (hi : noIns (.dict X) = true) : ∃ (a : Addr) (kvs : List (Key × V)) (es : List (Key × D)), v = .ref a ∧ X = es.map (fun e => (keyD e.1, e.2)) ∧ Rd H a (.dK kvs) ∧ a ∉ O ∧ kvs.map (·.1) = es.map (·.1) ∧ Reps K O H (kvs.map (·.2)) (es.map (·.2)) := by
  generalize hd : PyData.dict X = d at r
  cases r with
  | dct h n hk r =>
    cases hd
    exact ⟨_, _, _, rfl, rfl, h, n, hk, r⟩
  | ins hN h n hk r =>
    rw [hd] at hi
    cases hi
  | _ => cases hd
theorem Rep.ins_inv {v : V} {nm : Str} {es : List (Str × D)} (r : Rep K O H v (insD nm es)) : ∃ (a C dx : Addr) (fs : List (Str × V)), v = .ref a ∧ PySem.W.nsIn K mainGlobals nm = some (some (.ref C)) ∧ H a = some (.ins C dx fs) ∧ a ∉ O ∧ fs.map (·.1) = es.map (·.1) ∧ Reps K O H (fs.map (·.2)) (es.map (·.2)) := by
  generalize hd : insD nm es = d at r
  cases r with
  | dct h n hk r =>
    rename_i a kvs es2
    cases es2 with
    | nil => cases hd
    | cons e es2 =>
      obtain ⟨k, x⟩ := e
      unfold insD at hd
      rw [List.map_cons] at hd
      injection hd with hd
      injection hd with hd _
      have := congrArg Prod.fst hd
      cases k <;> cases this
  | ins hN h n hk r =>
    rename_i a C dx nm2 fs es2
    unfold insD at hd
    injection hd with hd
    injection hd with hd _
    have hd := congrArg Prod.snd hd
    injection hd with hd
    injection hd with h1 h2
    injection h1 with h1
    subst h1
    have : es = es2 := by
      clear hk r h n hN
      induction es generalizing es2 with
      | nil =>
        cases es2 with
        | nil => rfl
        | cons => cases h2
      | cons e es ih =>
        cases es2 with
        | nil => cases h2
        | cons e2 es2 =>
          rw [List.map_cons, List.map_cons] at h2
          injection h2 with q1 q2
          injection q1 with q1
          injection q1 with q3 q4
          injection q3 with q3
          injection q4 with q4 _
          rw [ih q2 (by rw [q2])]
          congr 1
          exact Prod.ext q3 q4
    subst this
    exact ⟨_, _, _, _, rfl, hN, h, n, hk, r⟩
  | _ => cases hd
theorem Reps.length : ∀ {vs : List V} {ds : List D}, Reps K O H vs ds → vs.length = ds.length
  | _, _, .nil => rfl
  | _, _, .cons _ rs => congrArg (· + 1) (Reps.length rs)
theorem Reps.get : ∀ {vs : List V} {ds : List D} {i : Nat} {d : D}, Reps K O H vs ds → ds[i]? = some d → ∃ v, vs[i]? = some v ∧ Rep K O H v d
  | _, _, _, _, .nil, e => by simp at e
  | _, _, 0, _, .cons r _, e => by simp at e; subst e; exact ⟨_, rfl, r⟩
  | _, _, i + 1, d, .cons _ rs, e => by
    obtain ⟨u, h1, h2⟩ := Reps.get (i := i) (d := d) rs (by simpa using e)
    exact ⟨u, by simpa using h1, h2⟩
theorem Reps.getV : ∀ {vs : List V} {ds : List D} {i : Nat} {v : V}, Reps K O H vs ds → vs[i]? = some v → ∃ d, ds[i]? = some d ∧ Rep K O H v d
  | _, _, _, _, .nil, e => by simp at e
  | _, _, 0, _, .cons r _, e => by simp at e; subst e; exact ⟨_, rfl, r⟩
  | _, _, i + 1, v, .cons _ rs, e => by
    obtain ⟨u, h1, h2⟩ := Reps.getV (i := i) (v := v) rs (by simpa using e)
    exact ⟨u, by simpa using h1, h2⟩
theorem Reps.append : ∀ {xs ys : List V} {ds es : List D}, Reps K O H xs ds → Reps K O H ys es → Reps K O H (xs ++ ys) (ds ++ es)
  | _, _, _, _, .nil, s => s
  | _, _, _, _, .cons r t, s => .cons r (Reps.append t s)
theorem Reps.take : ∀ {xs : List V} {ds : List D} (n : Nat), Reps K O H xs ds → Reps K O H (xs.take n) (ds.take n)
  | _, _, 0, _ => .nil
  | _, _, _ + 1, .nil => .nil
  | _, _, n + 1, .cons r t => .cons r (Reps.take n t)
theorem Reps.drop : ∀ {xs : List V} {ds : List D} (n : Nat), Reps K O H xs ds → Reps K O H (xs.drop n) (ds.drop n)
  | _, _, 0, r => r
  | _, _, _ + 1, .nil => .nil
  | _, _, n + 1, .cons _ t => Reps.drop n t
theorem Reps.ints (ns : List Int) : Reps K O H (ns.map V.int) (ns.map PyData.int) := by
  induction ns with
  | nil => exact .nil
  | cons n ns ih => exact .cons (.int n) ih
theorem Reps.atI {vs : List V} {ds : List D} {i : Int} {d : D} (r : Reps K O H vs ds) (h : L2.atI ds i = some d) : ∃ v, L2.atI vs i = some v ∧ Rep K O H v d := by
  unfold L2.atI at h ⊢
  rw [r.length]
  cases e : ixN ds.length i with
  | none => rw [e] at h; cases h
  | some j =>
    rw [e] at h
    exact r.get h
end

/-! ### a def's names: unset, a value, a list that is being built -/
inductive Sl where
  | un
  | vl (d : D)
  | ow (ds : List D)
  /-- a dict of one's own -/
  | od (es : List (Key × D))
  /-- an exception that is held -/
  | ex (a : Addr)
abbrev DS := List Sl
def SlOk (K : PySem.W.Frag) (O : List Addr) (H : Hp) (o : Option (Option V)) : Sl → Prop
  | .un => True
  | .vl d => ∃ v, o = some (some v) ∧ Rep K O H v d
  | .ow ds => ∃ l xs, o = some (some (.ref l)) ∧ l ∈ O ∧ H l = some (.lst xs) ∧ Reps K O H xs ds
  | .od es => ∃ l kvs, o = some (some (.ref l)) ∧ l ∈ O ∧ H l = some (.dK kvs) ∧ kvs.map (·.1) = es.map (·.1) ∧ Reps K O H (kvs.map (·.2)) (es.map (·.2))
  | .ex a => o = some (some (.ref a))
/-- a slot of one's own -/
def Sl.own : Sl → Prop
  | .ow _ => True
  | .od _ => True
  | _ => False
theorem Mu.same {H H' : Hp} {l : Addr} (s : Same H H') (h : Mu H l) : Mu H' l := by
  rcases h with ⟨xs, h⟩ | ⟨xs, h⟩
  · exact .inl ⟨xs, s _ _ h⟩
  · exact .inr ⟨xs, s _ _ h⟩
theorem Mu.upd_ne {H : Hp} {a l : Addr} {o : HO} (n : a ≠ l) (h : Mu H a) : Mu (upd H l o) a := by
  rcases h with ⟨xs, h⟩ | ⟨xs, h⟩
  · exact .inl ⟨xs, by rw [L2.upd_ne n]; exact h⟩
  · exact .inr ⟨xs, by rw [L2.upd_ne n]; exact h⟩
theorem Mu.new {H : Hp} {a l : Addr} {o : HO} (hl : H l = none) (h : Mu H a) : Mu (upd H l o) a := h.same (same_new hl)
theorem Mu.lst {H : Hp} {l : Addr} {xs : List V} (h : H l = some (.lst xs)) : Mu H l := .inl ⟨xs, h⟩
theorem Mu.some {H : Hp} {l : Addr} (h : Mu H l) : ∃ o, H l = some o := by
  rcases h with ⟨xs, h⟩ | ⟨xs, h⟩
  · exact ⟨_, h⟩
  · exact ⟨_, h⟩
structure Ev (K : PySem.W.Frag) (Hr : Hp) (O : List Addr) (H : Hp) (σ : St) (δ : DS) : Prop where
  root : Same Hr H
  oo : ∀ l ∈ O, Mu H l
  len : σ.length = δ.length
  at_ : ∀ (i : Nat) (s : Sl), δ[i]? = some s → SlOk K O H σ[i]? s
  dis : ∀ (i j : Nat) (l : Addr) (ds es : List D), i ≠ j → δ[i]? = some (.ow ds) → δ[j]? = some (.ow es) → σ[i]? = some (some (.ref l)) → σ[j]? ≠ some (some (.ref l))
section
variable {K : PySem.W.Frag} {Hr : Hp} {O : List Addr} {H H' : Hp} {σ : St} {δ : DS}
theorem Ev.same (s : Same H H') (e : Ev K Hr O H σ δ) : Ev K Hr O H' σ δ := by
  refine ⟨e.root.trans s, fun l hl => (e.oo l hl).same s, e.len, fun i sl h => ?_, e.dis⟩
  have q := e.at_ i sl h
  cases sl with
  | un => trivial
  | ex a => exact q
  | vl d =>
    obtain ⟨v, h1, r⟩ := q
    exact ⟨v, h1, r.same s⟩
  | ow ds =>
    obtain ⟨l, xs, h1, h2, h3, r⟩ := q
    exact ⟨l, xs, h1, h2, s _ _ h3, r.same s⟩
  | od es =>
    obtain ⟨l, kvs, h1, h2, h3, hk, r⟩ := q
    exact ⟨l, kvs, h1, h2, s _ _ h3, hk, r.same s⟩
theorem Ev.val {i : Nat} {d : D} (e : Ev K Hr O H σ δ) (h : δ[i]? = some (.vl d)) : ∃ v, σ[i]? = some (some v) ∧ Rep K O H v d := e.at_ i _ h
theorem get_set {α : Type} {l : List α} {i j : Nat} {a : α} : (l.set i a)[j]? = if i = j then (if i < l.length then some a else none) else l[j]? := by
  rw [List.getElem?_set]
theorem Ev.set {i : Nat} {v : V} {d : D} (e : Ev K Hr O H σ δ) (r : Rep K O H v d) : Ev K Hr O H (σ.set i (some v)) (δ.set i (.vl d)) := by
  refine ⟨e.root, e.oo, by rw [List.length_set, List.length_set]; exact e.len, fun j sl h => ?_, fun j k l ds es hjk h1 h2 h3 h4 => ?_⟩
  · rw [get_set] at h ⊢
    by_cases hij : i = j
    · rw [if_pos hij] at h ⊢
      by_cases hl : i < δ.length
      · rw [if_pos hl] at h
        rw [if_pos (by rw [e.len]; exact hl)]
        cases h
        exact ⟨v, rfl, r⟩
      · rw [if_neg hl] at h; cases h
    · rw [if_neg hij] at h ⊢
      exact e.at_ j sl h
  · rw [get_set] at h1 h2 h3 h4
    by_cases hij : i = j
    · rw [if_pos hij] at h1
      split at h1 <;> cases h1
    · by_cases hik : i = k
      · rw [if_pos hik] at h2
        split at h2 <;> cases h2
      · rw [if_neg hij] at h1 h3
        rw [if_neg hik] at h2 h4
        exact e.dis j k l ds es hjk h1 h2 h3 h4
end
end DL
namespace DL
open PySem PySem.Spec PyProof.Rows L2

/-! ### judgements -/
/-- an expression's value -/
def PD (X : Cx) (G : XD → Hp → Prop) (e : Expr) (f : DS → M D) : Prop :=
  ∃ t, PE X e t ∧ ∀ {Hr : Hp} (δ : DS) (O : List Addr) (σ : St) (H : Hp) (Q : VK), Ev X.K Hr O H σ δ → ok (GS G Hr) (f δ) (fun d => ∀ v H', Same H H' → Rep X.K O H' v d → Q v H') → t σ H Q
/-- a test -/
def PDT (X : Cx) (G : XD → Hp → Prop) (e : Expr) (f : DS → M Bool) : Prop :=
  ∃ t, PT X e t ∧ ∀ {Hr : Hp} (δ : DS) (O : List Addr) (σ : St) (H : Hp) (Q : Bool → Hp → Prop), Ev X.K Hr O H σ δ → ok (GS G Hr) (f δ) (fun b => ∀ H', Same H H' → Q b H') → t σ H Q
def PDW (X : Cx) (G : XD → Hp → Prop) (e : Expr) (f : DS → M Bool) : Prop :=
  ∃ t, PW X e t ∧ ∀ {Hr : Hp} (δ : DS) (O : List Addr) (σ : St) (H : Hp) (Q : Bool → Hp → Prop), Ev X.K Hr O H σ δ → ok (GS G Hr) (f δ) (fun b => ∀ H', Same H H' → Q b H') → t σ H Q
/-- arguments -/
def PDA (X : Cx) (G : XD → Hp → Prop) (es : List Expr) (f : DS → M (List D)) : Prop :=
  (∀ δ ds, f δ = some (.ok ds) → ds.length = es.length) ∧ ∃ t, PA X es t ∧ ∀ {Hr : Hp} (δ : DS) (O : List Addr) (σ : St) (H : Hp) (Q : List V → Hp → Prop), Ev X.K Hr O H σ δ → ok (GS G Hr) (f δ) (fun ds => ∀ vs H', Same H H' → Reps X.K O H' vs ds → Q vs H') → t σ H Q

section
variable {X : Cx} {G : XD → Hp → Prop} {a b c e : Expr} {es rest : List Expr} {f g h : DS → M D} {fb gb : DS → M Bool} {fa : DS → M (List D)} {pos : Pos}

/-! ### names, constants -/
def dVar (i : Nat) : DS → M D := fun δ => match δ[i]? with
  | some (.vl d) => M.ret d
  | _ => none
theorem pd_var {i : Nat} (h : PE X e (tVar i)) : PD X G e (dVar i) := by
  refine ⟨_, h, fun δ O σ H Q E k => ?_⟩
  unfold dVar at k
  split at k
  · rename_i d hd
    obtain ⟨v, e1, r⟩ := E.val hd
    exact ⟨v, e1, k v H (Same.refl H) r⟩
  · exact k.elim
def dC (d : D) : DS → M D := fun _ => M.ret d
theorem pd_int {i j pos} : PD X G (.Constant (.int i) j pos) (dC (.int i)) := ⟨_, pe_int, fun _ _ _ H Q _ k => k _ H (Same.refl H) (.int i)⟩
theorem pd_bl {i j pos} : PD X G (.Constant (.bool i) j pos) (dC (.bool i)) := ⟨_, pe_bl, fun _ _ _ H Q _ k => k _ H (Same.refl H) (.bl i)⟩
theorem pd_str {x j pos} : PD X G (.Constant (.str x) j pos) (dC (.str x)) := ⟨_, pe_str, fun _ _ _ H Q _ k => k _ H (Same.refl H) (.str x)⟩

/-! ### two operands -/
/-- an operation on two values -/
def DOp (X : Cx) (sem : Value → Value → Sem Value) (h : D → D → Option D) : Prop :=
  ∃ r : R2, OpR X sem r ∧ ∀ (O : List Addr) (H : Hp) (x y d : D) (v u : V) (Q : VK), (∀ l ∈ O, Mu H l) → Rep X.K O H v x → Rep X.K O H u y → h x y = some d → (∀ v' H', Same H H' → Rep X.K O H' v' d → Q v' H') → r v u H Q
def d2 (h : D → D → Option D) (f g : DS → M D) : DS → M D := fun δ => (f δ).thn fun x => (g δ).thn fun y => M.lift (h x y)
theorem pd_two {r : R2} {h : D → D → Option D} {ta tb : TE}
    (ho : ∀ (O : List Addr) (H : Hp) (x y d : D) (v u : V) (Q : VK), (∀ l ∈ O, Mu H l) → Rep X.K O H v x → Rep X.K O H u y → h x y = some d → (∀ v' H', Same H H' → Rep X.K O H' v' d → Q v' H') → r v u H Q)
    (ha : ∀ {Hr : Hp} (δ : DS) (O : List Addr) (σ : St) (H : Hp) (Q : VK), Ev X.K Hr O H σ δ → ok (GS G Hr) (f δ) (fun d => ∀ v H', Same H H' → Rep X.K O H' v d → Q v H') → ta σ H Q)
    (hb : ∀ {Hr : Hp} (δ : DS) (O : List Addr) (σ : St) (H : Hp) (Q : VK), Ev X.K Hr O H σ δ → ok (GS G Hr) (g δ) (fun d => ∀ v H', Same H H' → Rep X.K O H' v d → Q v H') → tb σ H Q)
    {Hr : Hp} (δ : DS) (O : List Addr) (σ : St) (H : Hp) (Q : VK) (E : Ev X.K Hr O H σ δ) (k : ok (GS G Hr) (d2 h f g δ) (fun d => ∀ v H', Same H H' → Rep X.K O H' v d → Q v H')) : tOp r ta tb σ H Q := by
  refine ha δ O σ H _ E (ok_mono (ok_thn k) fun x kx v H1 s1 rx => ?_)
  refine hb δ O σ H1 _ (E.same s1) (ok_mono (ok_thn kx) fun y ky u H2 s2 ry => ?_)
  obtain ⟨d, hd, kd⟩ := ok_lift ky
  exact ho O H2 x y d v u Q (E.same (s1.trans s2)).oo (rx.same s2) ry hd fun v' H3 s3 r3 => kd v' H3 ((s1.trans s2).trans s3) r3
theorem pd_op {op : Operator} {h : D → D → Option D} (ho : DOp X (binaryOp op) h) (ha : PD X G a f) (hb : PD X G b g) : PD X G (.BinOp a op b pos) (d2 h f g) := by
  obtain ⟨r, hr, ho⟩ := ho
  obtain ⟨ta, pa, ha⟩ := ha
  obtain ⟨tb, pb, hb⟩ := hb
  exact ⟨_, pe_op hr pa pb, pd_two ho ha hb⟩
theorem pd_cmp {op : CmpOp} {h : D → D → Option D} (ho : DOp X (compareOp op) h) (ha : PD X G a f) (hb : PD X G b g) (hm : behindInMarks op b = false) : PD X G (.Compare a [op] [b] pos) (d2 h f g) := by
  obtain ⟨r, hr, ho⟩ := ho
  obtain ⟨ta, pa, ha⟩ := ha
  obtain ⟨tb, pb, hb⟩ := hb
  exact ⟨_, pe_cmpR hr pa pb hm, pd_two ho ha hb⟩
/-- the truth of what is a bool -/
def dB (f : DS → M D) : DS → M Bool := fun δ => (f δ).thn fun d => match d with
  | .bool b => M.ret b
  | _ => none
theorem ok_dB {Hr : Hp} {δ : DS} {k : Bool → Prop} (q : ok (GS G Hr) (dB f δ) k) : ok (GS G Hr) (f δ) (fun d => ∃ b, d = .bool b ∧ k b) := by
  refine ok_mono (ok_thn q) fun d z => ?_
  cases d with
  | bool b => exact ⟨b, rfl, z⟩
  | _ => exact z.elim
theorem pdt_cmp {op : CmpOp} {h : D → D → Option D} (ho : DOp X (compareOp op) h) (ha : PD X G a f) (hb : PD X G b g) (hm : behindInMarks op b = false) : PDT X G (.Compare a [op] [b] pos) (dB (d2 h f g)) := by
  obtain ⟨r, hr, ho⟩ := ho
  obtain ⟨ta, pa, ha⟩ := ha
  obtain ⟨tb, pb, hb⟩ := hb
  refine ⟨_, pt_cmpR hr pa pb hm, fun δ O σ H Q E k => ?_⟩
  refine pd_two ho ha hb δ O σ H _ E (ok_mono (ok_dB k) fun d z v H' s r => ?_)
  obtain ⟨b, rfl, z⟩ := z
  exact ⟨b, r.bool_inv, z H' s⟩
theorem pdt_val (he : PD X G e f) (h1 : ∀ whole, isTrue e X.env whole = (do let v ← whole; standAt e.pos; holding [v] (truthy v)) := by intro _; rfl) : PDT X G e (dB f) := by
  obtain ⟨t, p, he⟩ := he
  refine ⟨_, pt_val p h1, fun δ O σ H Q E k => ?_⟩
  refine he δ O σ H _ E (ok_mono (ok_dB k) fun d z v H' s r => ?_)
  obtain ⟨b, rfl, z⟩ := z
  exact ⟨b, r.bool_inv, z H' s⟩

/-! ### and, or, not, if -/
def dAnd (fb gb : DS → M Bool) : DS → M Bool := fun δ => (fb δ).thn fun c => if c = true then gb δ else M.ret false
def dOr (fb gb : DS → M Bool) : DS → M Bool := fun δ => (fb δ).thn fun c => if c = true then M.ret true else gb δ
def dNot (fb : DS → M Bool) : DS → M Bool := fun δ => (fb δ).thn fun c => M.ret (!c)
theorem pdw_and1 (ha : PDT X G a fb) : PDW X G (.BoolOp .And [a] pos) fb := by
  obtain ⟨t, p, ha⟩ := ha
  exact ⟨_, pw_and1 p, ha⟩
theorem pdw_or1 (ha : PDT X G a fb) : PDW X G (.BoolOp .Or [a] pos) fb := by
  obtain ⟨t, p, ha⟩ := ha
  exact ⟨_, pw_or1 p, ha⟩
theorem pdw_and (ha : PDT X G a fb) (hb : PDW X G (.BoolOp .And (b :: rest) pos) gb) : PDW X G (.BoolOp .And (a :: b :: rest) pos) (dAnd fb gb) := by
  obtain ⟨t, p, ha⟩ := ha
  obtain ⟨u, q, hb⟩ := hb
  refine ⟨_, pw_and p q, fun δ O σ H Q E k => ?_⟩
  refine ha δ O σ H _ E (ok_mono (ok_thn k) fun c z H1 s1 => ?_)
  cases c with
  | true =>
    rw [if_pos rfl] at z ⊢
    exact hb δ O σ H1 Q (E.same s1) (ok_mono z fun b y H2 s2 => y H2 (s1.trans s2))
  | false =>
    rw [if_neg Bool.false_ne_true] at z ⊢
    exact z H1 s1
theorem pdw_or (ha : PDT X G a fb) (hb : PDW X G (.BoolOp .Or (b :: rest) pos) gb) : PDW X G (.BoolOp .Or (a :: b :: rest) pos) (dOr fb gb) := by
  obtain ⟨t, p, ha⟩ := ha
  obtain ⟨u, q, hb⟩ := hb
  refine ⟨_, pw_or p q, fun δ O σ H Q E k => ?_⟩
  refine ha δ O σ H _ E (ok_mono (ok_thn k) fun c z H1 s1 => ?_)
  cases c with
  | true =>
    rw [if_pos rfl] at z ⊢
    exact z H1 s1
  | false =>
    rw [if_neg Bool.false_ne_true] at z ⊢
    exact hb δ O σ H1 Q (E.same s1) (ok_mono z fun b y H2 s2 => y H2 (s1.trans s2))
theorem PDW.t (h : PDW X G e fb) : PDT X G e fb := by
  obtain ⟨t, p, h⟩ := h
  exact ⟨_, p.pt, h⟩
theorem pdt_not (ha : PDT X G a fb) : PDT X G (.UnaryOp .Not a pos) (dNot fb) := by
  obtain ⟨t, p, ha⟩ := ha
  refine ⟨_, pt_not p, fun δ O σ H Q E k => ?_⟩
  exact ha δ O σ H _ E (ok_mono (ok_thn k) fun c z H1 s1 => z H1 s1)
/-- .. as values (of bools) -/
def dAndV (f g : DS → M D) : DS → M D := fun δ => (dB f δ).thn fun c => if c = true then g δ else M.ret (.bool false)
def dOrV (f g : DS → M D) : DS → M D := fun δ => (dB f δ).thn fun c => if c = true then M.ret (.bool true) else g δ
def dNotV (f : DS → M D) : DS → M D := fun δ => (dB f δ).thn fun c => M.ret (.bool (!c))
theorem pd_one {op} (ha : PD X G a f) : PD X G (.BoolOp op [a] pos) f := by
  obtain ⟨t, p, ha⟩ := ha
  exact ⟨_, pe_one p, ha⟩
theorem pd_and (ha : PD X G a f) (hb : PD X G (.BoolOp .And (b :: rest) pos) g) : PD X G (.BoolOp .And (a :: b :: rest) pos) (dAndV f g) := by
  obtain ⟨t, p, ha⟩ := ha
  obtain ⟨u, q, hb⟩ := hb
  refine ⟨_, pe_and p q, fun δ O σ H Q E k => ?_⟩
  refine ha δ O σ H _ E (ok_mono (ok_dB (ok_thn k)) fun d z v H1 s1 r => ?_)
  obtain ⟨c, rfl, z⟩ := z
  refine ⟨c, r.bool_inv, ?_⟩
  cases c with
  | true =>
    rw [if_pos rfl] at z ⊢
    exact hb δ O σ H1 Q (E.same s1) (ok_mono z fun b y v H2 s2 => y v H2 (s1.trans s2))
  | false =>
    rw [if_neg Bool.false_ne_true] at z ⊢
    exact z _ H1 s1 (.bl false)
theorem pd_not (ha : PD X G a f) : PD X G (.UnaryOp .Not a pos) (dNotV f) := by
  obtain ⟨t, p, ha⟩ := ha
  refine ⟨_, pe_not p, fun δ O σ H Q E k => ?_⟩
  refine ha δ O σ H _ E (ok_mono (ok_dB (ok_thn k)) fun d z v H1 s1 r => ?_)
  obtain ⟨c, rfl, z⟩ := z
  exact ⟨c, r.bool_inv, z _ H1 s1 (.bl _)⟩
def dIf (c : DS → M Bool) (f g : DS → M D) : DS → M D := fun δ => (c δ).thn fun b => if b = true then f δ else g δ
theorem pd_if (hc : PDT X G c fb) (ha : PD X G a f) (hb : PD X G b g) : PD X G (.IfExp c a b pos) (dIf fb f g) := by
  obtain ⟨t, p, hc⟩ := hc
  obtain ⟨ta, pa, ha⟩ := ha
  obtain ⟨tb, pb, hb⟩ := hb
  refine ⟨_, pe_ifExp p pa pb, fun δ O σ H Q E k => ?_⟩
  refine hc δ O σ H _ E (ok_mono (ok_thn k) fun d z H1 s1 => ?_)
  cases d with
  | true =>
    rw [if_pos rfl] at z ⊢
    exact ha δ O σ H1 Q (E.same s1) (ok_mono z fun b y v H2 s2 => y v H2 (s1.trans s2))
  | false =>
    rw [if_neg Bool.false_ne_true] at z ⊢
    exact hb δ O σ H1 Q (E.same s1) (ok_mono z fun b y v H2 s2 => y v H2 (s1.trans s2))

/-! ### arguments, displays -/
def dNil : DS → M (List D) := fun _ => M.ret []
def dCons (f : DS → M D) (g : DS → M (List D)) : DS → M (List D) := fun δ => (f δ).thn fun x => (g δ).thn fun xs => M.ret (x :: xs)
theorem pda_nil : PDA X G [] dNil := ⟨fun δ ds h => by cases h; rfl, _, pa_nil, fun _ _ _ H Q _ k => k [] H (Same.refl H) .nil⟩
theorem pda_cons (ha : PD X G e f) (hr : PDA X G es fa) (hs : starEach (e :: es) X.env = (false, eval e X.env) :: starEach es X.env := by rfl) : PDA X G (e :: es) (dCons f fa) := by
  obtain ⟨t, p, ha⟩ := ha
  obtain ⟨hl, u, q, hr⟩ := hr
  refine ⟨fun δ ds h => ?_, _, pa_cons p q hs, fun δ O σ H Q E k => ?_⟩
  · unfold dCons at h
    cases e1 : f δ with
    | none => rw [e1] at h; cases h
    | some r =>
      rw [e1] at h
      cases r with
      | error x => cases h
      | ok x =>
        cases e2 : fa δ with
        | none => rw [thn_some, e2] at h; cases h
        | some r2 =>
          rw [thn_some, e2] at h
          cases r2 with
          | error x => cases h
          | ok xs =>
            cases h
            rw [List.length_cons, List.length_cons, hl δ xs e2]
  · refine ha δ O σ H _ E (ok_mono (ok_thn k) fun d z v H1 s1 r => ?_)
    refine hr δ O σ H1 _ (E.same s1) (ok_mono (ok_thn z) fun ds y vs H2 s2 rs => ?_)
    exact y (v :: vs) H2 (s1.trans s2) (.cons (r.same s2) rs)
def small (n : Nat) : Bool := decide (n ≤ 16000000)
theorem small_le {n : Nat} (h : small n = true) : n ≤ sizeLine := by
  have := of_decide_eq_true h
  rw [sizeLine_eq]
  omega
def dTup (fa : DS → M (List D)) : DS → M D := fun δ => (fa δ).thn fun ds => if small ds.length then M.ret (.tuple ds) else none
def dLst (fa : DS → M (List D)) : DS → M D := fun δ => (fa δ).thn fun ds => if small ds.length then M.ret (.list ds) else none
theorem rep_newT {K : PySem.W.Frag} {O : List Addr} {H : Hp} {p : Addr} {vs : List V} {ds : List D} (hp : H p = none) (r : Reps K O H vs ds) : Rep K O (upd H p (.tup vs)) (.ref p) (.tuple ds) :=
  .tup (SqT.of upd_same) (r.same (same_new hp))
theorem pd_tup {x1} (h : PDA X G es fa) : PD X G (.Tuple es x1 pos) (dTup fa) := by
  obtain ⟨_, t, p, h⟩ := h
  refine ⟨_, pe_tup p, fun δ O σ H Q E k => ?_⟩
  refine h δ O σ H _ E (ok_mono (ok_thn k) fun ds z vs H1 s1 rs => ?_)
  by_cases hz : small ds.length = true
  · rw [if_pos hz] at z
    exact ⟨by rw [rs.length]; exact small_le hz, fun p hp => z _ _ (s1.trans (same_new hp)) (rep_newT hp rs)⟩
  · rw [if_neg hz] at z
    exact z.elim
end
end DL
namespace DL
open PySem PySem.Spec PyProof.Rows L2

section
variable {X : Cx} {G : XD → Hp → Prop} {a b c e : Expr} {es rest : List Expr} {f g h : DS → M D} {fb gb : DS → M Bool} {fa : DS → M (List D)} {pos : Pos}
/-! ### ints -/
def ii (h : Int → Int → Option D) : D → D → Option D
  | .int i, .int j => h i j
  | _, _ => none
theorem ii_some {h : Int → Int → Option D} {x y d : D} (e : ii h x y = some d) : ∃ i j, x = .int i ∧ y = .int j ∧ h i j = some d := by
  unfold ii at e
  split at e
  · exact ⟨_, _, rfl, rfl, e⟩
  · cases e
theorem dop_I0 {sem : Value → Value → Sem Value} {g : Int → Int → V} {gd : Int → Int → D} (h : OpR X sem (rI0 g)) (hg : ∀ O H i j, Rep X.K O H (g i j) (gd i j)) : DOp X sem (ii fun i j => some (gd i j)) := by
  refine ⟨_, h, fun O H x y d v u Q oo rx ry e k => ?_⟩
  obtain ⟨i, j, rfl, rfl, e⟩ := ii_some e
  cases e
  exact ⟨i, j, rx.int_inv, ry.int_inv, k _ H (Same.refl H) (hg O H i j)⟩
theorem dop_IC {sem : Value → Value → Sem Value} {C : Int → Int → Prop} {B : Int → Int → Bool} {g : Int → Int → V} {gd : Int → Int → D} (h : OpR X sem (rI C g)) (hC : ∀ i j, B i j = true → C i j) (hg : ∀ O H i j, Rep X.K O H (g i j) (gd i j)) :
    DOp X sem (ii fun i j => if B i j = true then some (gd i j) else none) := by
  refine ⟨_, h, fun O H x y d v u Q oo rx ry e k => ?_⟩
  obtain ⟨i, j, rfl, rfl, e1⟩ := ii_some e
  by_cases hb : B i j = true
  · rw [if_pos hb] at e1
    cases e1
    exact ⟨i, j, rx.int_inv, ry.int_inv, hC i j hb, k _ H (Same.refl H) (hg O H i j)⟩
  · rw [if_neg hb] at e1; cases e1
abbrev oSub : D → D → Option D := ii fun i j => some (.int (i - j))
def bMul (i j : Int) : Bool := decide ((-18446744073709551616 < i ∧ i < 18446744073709551616) ∨ (-18446744073709551616 < j ∧ j < 18446744073709551616))
abbrev oMul : D → D → Option D := ii fun i j => if bMul i j = true then some (.int (i * j)) else none
def bDiv (j : Int) : Bool := decide (0 < j ∧ j < 1267650600228229401496703205376)
abbrev oDiv : D → D → Option D := ii fun i j => if bDiv j = true then some (.int (i / j)) else none
abbrev oMod : D → D → Option D := ii fun i j => if decide (0 < j) = true then some (.int (i % j)) else none
def bPow (i j : Int) : Bool := decide (0 ≤ j ∧ j ≤ 1000000 ∧ i.natAbs < 18446744073709551616)
abbrev oPow : D → D → Option D := ii fun i j => if bPow i j = true then some (.int (i ^ j.toNat)) else none
theorem dop_sub : DOp X (binaryOp .Sub) oSub := dop_I0 op_sub fun _ _ _ _ => .int _
theorem dop_mul : DOp X (binaryOp .Mult) oMul := dop_IC op_mul (fun i j h => by
  have h := of_decide_eq_true h
  unfold CMul
  have e : (2 : Int) ^ 64 = 18446744073709551616 := by decide
  rw [e]
  exact h) fun _ _ _ _ => .int _
theorem natAbs_log2 {j : Int} (h : 0 < j ∧ j < 1267650600228229401496703205376) : j.natAbs.log2 < 9000 := by
  have h2 : j.natAbs < 2 ^ 100 := by
    have e : (2 : Nat) ^ 100 = 1267650600228229401496703205376 := by decide
    omega
  exact Nat.lt_trans ((Nat.log2_lt (by omega)).mpr h2) (by decide)
theorem op_fdivW : OpR X (binaryOp .FloorDiv) (rI (fun _ j => 0 < j ∧ j < 1267650600228229401496703205376) fun i j => .int (i / j)) := opI fun i j _ _ _ _ _ hc q => by
  rw [← Int.fdiv_eq_ediv_of_nonneg _ (Int.le_of_lt hc.1)] at q
  exact floordiv_int (by omega) q (.inl (PyProof.noPylong_of_log2 (natAbs_log2 hc)))
theorem dop_div : DOp X (binaryOp .FloorDiv) oDiv := dop_IC op_fdivW (fun i j h => of_decide_eq_true h) fun _ _ _ _ => .int _
theorem dop_mod : DOp X (binaryOp .Mod) oMod := dop_IC op_mod (fun i j h => of_decide_eq_true h) fun _ _ _ _ => .int _
theorem dop_pow : DOp X (binaryOp .Pow) oPow := dop_IC op_pow (fun i j h => by
  have h := of_decide_eq_true h
  unfold CPow
  have e : (2 : Nat) ^ 64 = 18446744073709551616 := by decide
  rw [e]
  exact h) fun _ _ _ _ => .int _
abbrev oLt : D → D → Option D := ii fun i j => some (.bool (decide (i < j)))
abbrev oLe : D → D → Option D := ii fun i j => some (.bool (decide (i ≤ j)))
abbrev oGt : D → D → Option D := ii fun i j => some (.bool (decide (j < i)))
abbrev oGe : D → D → Option D := ii fun i j => some (.bool (decide (j ≤ i)))
theorem dop_lt : DOp X (compareOp .Lt) oLt := dop_I0 op_lt fun _ _ _ _ => .bl _
theorem dop_gt : DOp X (compareOp .Gt) oGt := dop_I0 op_gt fun _ _ _ _ => .bl _
theorem dop_ge : DOp X (compareOp .GtE) oGe := dop_I0 op_ge fun _ _ _ _ => .bl _

/-! ### x + y: ints, texts, tuples, lists -/
theorem nin {O : List Addr} {H : Hp} (oo : ∀ l ∈ O, Mu H l) {p : Addr} (hp : H p = none) : p ∉ O := fun z => by
  obtain ⟨o, ho⟩ := (oo p z).some
  rw [hp] at ho; cases ho
theorem rep_newL {K : PySem.W.Frag} {O : List Addr} {H : Hp} {p : Addr} {vs : List V} {ds : List D} (oo : ∀ l ∈ O, Mu H l) (hp : H p = none) (r : Reps K O H vs ds) : Rep K O (upd H p (.lst vs)) (.ref p) (.list ds) :=
  .lst (.inl upd_same) (nin oo hp) (r.same (same_new hp))
/-- () + t -/
theorem op_cat0 : OpR X (binaryOp .Add) (fun x y H Q => ∃ a b ys, x = .ref a ∧ y = .ref b ∧ SqT X.K H a [] ∧ SqT X.K H b ys ∧ Q (.ref b) H) := by
  intro pins s σ H x y v u Q I rx ry h
  obtain ⟨a, b, ys, rfl, rfl, ha, hb, q⟩ := h
  cases rx
  cases ry
  obtain ⟨its, r1, p1, _⟩ := I.tuple ha
  obtain ⟨its2, r2, p2, _⟩ := I.tuple hb
  cases r1
  obtain ⟨⟨cls, dd, data, sl⟩, ho, hc, n, hd⟩ := id p1
  obtain ⟨⟨cls2, dd2, data2, sl2⟩, ho2, hc2, n2, hd2⟩ := id p2
  simp only at hc hd hc2 hd2
  subst hc hd hc2 hd2
  exact concat_meets ⟨_, ho, rfl⟩ ⟨_, ho2, rfl⟩ noFill_tuple_add seq_tuple_add PySem.F.slot_tuple_add PySem.F.entry_tuple_add (PySem.F.args_tuple_add_2 _ _)
    (tuple_addW0 a b _ its2.toArray n n2 dd dd2 sl sl2 rfl) ⟨ho, ho2, ⟨.ref b, H, I, rfl, q⟩⟩
/-- lists, whoever holds them -/
theorem op_catS : OpR X (binaryOp .Add) (fun x y H Q => ∃ l b xs zs, x = .ref l ∧ y = .ref b ∧ SqL X.K H l xs ∧ SqL X.K H b zs ∧ xs.length + zs.length ≤ sizeLine ∧ ∀ p, H p = none → Q (.ref p) (upd H p (.lst (xs ++ zs)))) := by
  intro pins s σ H x y v u Q I rx ry h
  obtain ⟨l, b, xs, zs, rfl, rfl, hH, hB, hz, q⟩ := h
  cases rx
  cases ry
  obtain ⟨its, r, ⟨⟨cls, dd, data, sl⟩, n, e, hc, hdd, hd⟩, z⟩ := I.list hH
  obtain ⟨its2, r2, ⟨⟨cls2, dd2, data2, sl2⟩, n2, e2, hc2, hdd2, hd2⟩, z2⟩ := I.list hB
  have hl := r.length
  have hl2 := r2.length
  simp only at hc hd hc2 hd2 hdd hdd2
  subst hc hd hc2 hd2 hdd hdd2
  have ea : its.toArray ++ its2.toArray = (its ++ its2).toArray := by simp
  refine concat_meets ⟨_, e, rfl⟩ ⟨_, e2, rfl⟩ noFill_list_add seq_list_add PySem.F.slot_list_add PySem.F.entry_list_add (PySem.F.args_list_add_2 _ _) (list_addW l b its.toArray its2.toArray n n2 none none sl sl2 (by rw [List.size_toArray, List.size_toArray]; omega)) ⟨e, e2, ?_⟩
  rw [ea]
  exact ⟨.ref _, _, I.lnew (t' := s.toks) (r.append r2) (by rw [List.length_append]; omega), rfl, q _ I.fresh⟩
def oAdd : D → D → Option D
  | .int i, .int j => some (.int (i + j))
  | .str i, .str j => if small (i.length + j.length) then some (.str (i ++ j)) else none
  | .tuple xs, .tuple ys => if small (xs.length + ys.length) then some (.tuple (xs ++ ys)) else none
  | .list xs, .list ys => if small (xs.length + ys.length) then some (.list (xs ++ ys)) else none
  | _, _ => none
theorem dop_add : DOp X (binaryOp .Add) oAdd := by
  refine ⟨_, op_add.or (op_add_str.or (op_catT.or (op_cat0.or op_catS))), fun O H x y d v u Q oo rx ry e k => ?_⟩
  unfold oAdd at e
  split at e
  · rename_i i j
    cases e
    exact .inl ⟨i, j, rx.int_inv, ry.int_inv, k _ H (Same.refl H) (.int _)⟩
  · rename_i i j
    by_cases hz : small (i.length + j.length) = true
    · rw [if_pos hz] at e
      cases e
      exact .inr (.inl ⟨i, j, rx.str_inv, ry.str_inv, small_le hz, k _ H (Same.refl H) (.str _)⟩)
    · rw [if_neg hz] at e; cases e
  · rename_i xs ys
    by_cases hz : small (xs.length + ys.length) = true
    · rw [if_pos hz] at e
      cases e
      obtain ⟨p, vs, rfl, h1, r1⟩ := rx.tup_inv
      obtain ⟨q, ws, rfl, h2, r2⟩ := ry.tup_inv
      by_cases hx : xs = []
      · subst hx
        cases r1
        exact .inr (.inr (.inr (.inl ⟨p, q, ws, rfl, rfl, h1, h2, k _ H (Same.refl H) (.tup h2 r2)⟩)))
      · refine .inr (.inr (.inl ⟨p, q, vs, ws, rfl, rfl, h1, h2, fun z => ?_, by rw [r1.length, r2.length]; exact small_le hz, fun z => ?_, fun z l hl => ?_⟩))
        · subst z
          cases r1
          exact hx rfl
        · subst z
          have z2 := r2
          cases z2
          refine k _ H (Same.refl H) ?_
          rw [List.append_nil]
          exact .tup h1 r1
        · exact k _ _ (same_new hl) (rep_newT hl (r1.append r2))
    · rw [if_neg hz] at e; cases e
  · rename_i xs ys
    by_cases hz : small (xs.length + ys.length) = true
    · rw [if_pos hz] at e
      cases e
      obtain ⟨p, vs, rfl, h1, r1⟩ := rx.lst_inv
      obtain ⟨q, ws, rfl, h2, r2⟩ := ry.lst_inv
      exact .inr (.inr (.inr (.inr ⟨p, q, vs, ws, rfl, rfl, h1, h2, by rw [r1.length, r2.length]; exact small_le hz, fun l hl => k _ _ (same_new hl) (rep_newL oo hl (r1.append r2))⟩)))
    · rw [if_neg hz] at e; cases e
  · cases e

/-! ### == and != over data -/
mutual
theorem Rep.reads {pins : List (Addr × Obj)} {σ : St} {H : Hp} {s : Shared} {O : List Addr} (I : Inv X pins σ H s) : ∀ {v : V} {d : D} {u : Value}, d.canLay0 = true → Rep X.K O H v d → RelV v u → ∃ as, Reads s.heap u d as
  | _, _, u, _, .non, q => by cases (show u = Value.none from q); exact ⟨_, .none⟩
  | _, _, u, _, .bl b, q => by cases (show u = Value.bool b from q); exact ⟨_, .bool b⟩
  | _, _, u, _, .int i, q => by obtain ⟨t, rfl⟩ := (show ∃ t, u = Value.int i t from q); exact ⟨_, .int i t⟩
  | _, _, u, _, .str x, q => by obtain ⟨t, rfl⟩ := (show ∃ t, u = Value.str x t from q); exact ⟨_, .str x t⟩
  | .ref a, _, u, hc, .tup h r, q => by
    cases (show u = Value.ref a from q)
    obtain ⟨its, rv, ⟨o, h1, h2, n, h3⟩, _⟩ := I.tuple h
    obtain ⟨as, ra⟩ := Reps.reads I (by simpa [PyData.canLay0] using hc) r rv
    exact ⟨_, .tuple h1 h2 h3 ra⟩
  | .ref a, _, u, hc, .lst h n r, q => by
    cases (show u = Value.ref a from q)
    obtain ⟨its, rv, ⟨o, n, h1, h2, _, h3⟩, _⟩ := I.list (.inl h)
    obtain ⟨as, ra⟩ := Reps.reads I (by simpa [PyData.canLay0] using hc) r rv
    exact ⟨_, .list h1 h2 h3 ra⟩
  | .ref a, _, u, hc, .lstK h r, q => by
    cases (show u = Value.ref a from q)
    obtain ⟨its, rv, ⟨o, n, h1, h2, _, h3⟩, _⟩ := I.list (.inr h)
    obtain ⟨as, ra⟩ := Reps.reads I (by simpa [PyData.canLay0] using hc) r rv
    exact ⟨_, .list h1 h2 h3 ra⟩
  | .ref a, _, u, hc, .dct _ _ _ _, q => by simp [PyData.canLay0] at hc
  | .ref a, _, u, hc, .ins _ _ _ _ _, q => by simp [PyData.canLay0, insD] at hc
theorem Reps.reads {pins : List (Addr × Obj)} {σ : St} {H : Hp} {s : Shared} {O : List Addr} (I : Inv X pins σ H s) : ∀ {vs : List V} {ds : List D} {us : List Value}, PyData.canLayAll0 ds = true → Reps X.K O H vs ds → Vals vs us → ∃ as, ReadsAll s.heap us ds as
  | _, _, _, _, .nil, q => by cases q; exact ⟨_, .nil⟩
  | _, _, _, hc, .cons r rs, q => by
    rw [PyData.canLayAll0, Bool.and_eq_true] at hc
    cases q with
    | cons p ps =>
      obtain ⟨as, h1⟩ := Rep.reads I hc.1 r p
      obtain ⟨bs, h2⟩ := Reps.reads I hc.2 rs ps
      exact ⟨_, .cons h1 h2⟩
end
def flat (x y : D) : Bool := x.canLay0 && y.canLay0 && decide (min x.depth y.depth ≤ 60)
def oEq (x y : D) : Option D := if flat x y = true then some (.bool (PyData.eqv x y)) else none
def oNe (x y : D) : Option D := if flat x y = true then some (.bool (!PyData.eqv x y)) else none
def rDat (X : Cx) (p : D → D → Bool) : R2 := fun v u H Q => ∃ O x y, Rep X.K O H v x ∧ Rep X.K O H u y ∧ flat x y = true ∧ Q (.bl (p x y)) H
theorem flat_of {x y : D} (h : flat x y = true) : x.canLay0 = true ∧ y.canLay0 = true ∧ min x.depth y.depth ≤ 60 := by
  unfold flat at h
  rw [Bool.and_eq_true, Bool.and_eq_true] at h
  exact ⟨h.1.1, h.1.2, of_decide_eq_true h.2⟩
theorem op_eqD (hu : X.A.units + 64 < cLine) : OpR X (compareOp .Eq) (rDat X PyData.eqv) := by
  intro pins s σ H v u v' u' Q I rv ru h
  obtain ⟨O, x, y, rx, ry, hf, q⟩ := h
  obtain ⟨h1, h2, h3⟩ := flat_of hf
  obtain ⟨as, r1⟩ := rx.reads I h1 rv
  obtain ⟨bs, r2⟩ := ry.reads I h2 ru
  exact SeqAt.compareEq_reads r1 r2 h1 h2 (by omega) ⟨.bl _, H, I, rfl, q⟩
theorem op_neD (hu : X.A.units + 64 < cLine) : OpR X (compareOp .NotEq) (rDat X fun x y => !PyData.eqv x y) := by
  intro pins s σ H v u v' u' Q I rv ru h
  obtain ⟨O, x, y, rx, ry, hf, q⟩ := h
  obtain ⟨h1, h2, h3⟩ := flat_of hf
  obtain ⟨as, r1⟩ := rx.reads I h1 rv
  obtain ⟨bs, r2⟩ := ry.reads I h2 ru
  exact SeqAt.compareNe_reads r1 r2 h1 h2 (by omega) ⟨.bl _, H, I, rfl, q⟩
theorem dop_eq (hu : X.A.units + 64 < cLine) : DOp X (compareOp .Eq) oEq := by
  refine ⟨_, op_eqD hu, fun O H x y d v u Q oo rx ry e k => ?_⟩
  unfold oEq at e
  by_cases hf : flat x y = true
  · rw [if_pos hf] at e
    cases e
    exact ⟨O, x, y, rx, ry, hf, k _ H (Same.refl H) (.bl _)⟩
  · rw [if_neg hf] at e; cases e
theorem dop_ne (hu : X.A.units + 64 < cLine) : DOp X (compareOp .NotEq) oNe := by
  refine ⟨_, op_neD hu, fun O H x y d v u Q oo rx ry e k => ?_⟩
  unfold oNe at e
  by_cases hf : flat x y = true
  · rw [if_pos hf] at e
    cases e
    exact ⟨O, x, y, rx, ry, hf, k _ H (Same.refl H) (.bl _)⟩
  · rw [if_neg hf] at e; cases e

/-! ### o[i] -/
def oIx : D → D → Option D
  | .tuple ds, .int i => L2.atI ds i
  | .list ds, .int i => L2.atI ds i
  | .str z, .int i => if small z.length then (L2.atI z.cps.toList i).map (fun c => .str ⟨#[c]⟩) else none
  | _, _ => none
theorem pd_ix (ha : PD X G a f) (hb : PD X G b g) (hs : PlainIx b) : PD X G (.Subscript a b pos) (d2 oIx f g) := by
  obtain ⟨ta, pa, ha⟩ := ha
  obtain ⟨tb, pb, hb⟩ := hb
  refine ⟨_, pe_ix ix_seq pa pb hs, pd_two (fun O H x y d v u Q oo rx ry e k => ?_) ha hb⟩
  unfold oIx at e
  split at e
  · rename_i ds i
    obtain ⟨p, vs, rfl, h1, r1⟩ := rx.tup_inv
    obtain ⟨w, hw, rw'⟩ := r1.atI e
    exact .inr (.inl ⟨p, vs, i, w, rfl, ry.int_inv, h1, hw, k w H (Same.refl H) rw'⟩)
  · rename_i ds i
    obtain ⟨p, vs, rfl, h1, r1⟩ := rx.lst_inv
    obtain ⟨w, hw, rw'⟩ := r1.atI e
    exact .inl ⟨p, vs, i, w, rfl, ry.int_inv, h1, hw, k w H (Same.refl H) rw'⟩
  · rename_i z i
    by_cases hz : small z.length = true
    · rw [if_pos hz] at e
      cases e2 : L2.atI z.cps.toList i with
      | none => rw [e2] at e; cases e
      | some c =>
        rw [e2] at e
        cases e
        exact .inr (.inr ⟨z, i, c, rx.str_inv, ry.int_inv, small_le hz, e2, k _ H (Same.refl H) (.str _)⟩)
    · rw [if_neg hz] at e; cases e
  · cases e
end
end DL
namespace DL
open PySem PySem.Spec PyProof.Rows L2

section
variable {X : Cx} {G : XD → Hp → Prop} {a b c e : Expr} {es rest : List Expr} {f g h : DS → M D} {fb gb : DS → M Bool} {fa : DS → M (List D)} {pos : Pos}
/-! ### o[lo:hi] -/
def PDO (X : Cx) (G : XD → Hp → Prop) (e : Option Expr) (f : DS → M (Option Int)) : Prop :=
  ∃ t, PO X e t ∧ ∀ {Hr : Hp} (δ : DS) (O : List Addr) (σ : St) (H : Hp) (Q : Option Int → Hp → Prop), Ev X.K Hr O H σ δ → ok (GS G Hr) (f δ) (fun d => ∀ H', Same H H' → Q d H') → t σ H Q
def dNoPart : DS → M (Option Int) := fun _ => M.ret none
def dPart (f : DS → M D) : DS → M (Option Int) := fun δ => (f δ).thn fun d => match d with
  | .int i => M.ret (some i)
  | _ => none
theorem pdo_some (he : PD X G e f) : PDO X G (some e) (dPart f) := by
  obtain ⟨t, p, he⟩ := he
  refine ⟨_, po_some p, fun δ O σ H Q E k => ?_⟩
  refine he δ O σ H _ E (ok_mono (ok_thn k) fun d z v H1 s1 r => ?_)
  cases d with
  | int i => exact ⟨i, r.int_inv, z H1 s1⟩
  | _ => exact z.elim
def cutD {α : Type} (xs : List α) (lo hi : Option Int) : List α := (xs.drop (HT.sIx xs.length 0 lo)).take (HT.sIx xs.length xs.length hi - HT.sIx xs.length 0 lo)
theorem Reps.cut {K : PySem.W.Frag} {O : List Addr} {H : Hp} {xs : List V} {ds : List D} (r : Reps K O H xs ds) (lo hi : Option Int) : Reps K O H (cutV xs lo hi) (cutD ds lo hi) := by
  unfold cutV cutD
  rw [r.length]
  exact (r.drop _).take _
/-- what slicing makes (of a tuple: not the whole of it) -/
def oCut (lo hi : Option Int) : D → Option D
  | .list ds => some (.list (cutD ds lo hi))
  | .tuple ds => if HT.sIx ds.length 0 lo = 0 ∧ HT.sIx ds.length ds.length hi = ds.length then none else some (.tuple (cutD ds lo hi))
  | _ => none
variable {lo hi : Option Expr} {fl fh : DS → M (Option Int)} {p2 : Pos}
def dCut (f : DS → M D) (fl fh : DS → M (Option Int)) : DS → M D := fun δ => (f δ).thn fun x => (fl δ).thn fun l => (fh δ).thn fun u => M.lift (oCut l u x)
theorem pd_lst (h : PDA X G es fa) : PD X G (.List es pos) (dLst fa) := by
  obtain ⟨_, t, p, h⟩ := h
  refine ⟨_, pe_lst p, fun δ O σ H Q E k => ?_⟩
  refine h δ O σ H _ E (ok_mono (ok_thn k) fun ds z vs H1 s1 rs => ?_)
  by_cases hz : small ds.length = true
  · rw [if_pos hz] at z
    exact ⟨by rw [rs.length]; exact small_le hz, fun p hp => z _ _ (s1.trans (same_new hp)) (rep_newL (E.same s1).oo hp rs)⟩
  · rw [if_neg hz] at z
    exact z.elim

/-! ### calls of built-ins -/
def DCall (X : Cx) (fn : Value) (h : List D → Option D) : Prop :=
  ∃ r, CallR X fn r ∧ ∀ (O : List Addr) (H : Hp) (ds : List D) (d : D) (vs : List V) (Q : VK), (∀ l ∈ O, Mu H l) → Reps X.K O H vs ds → h ds = some d → (∀ v' H', Same H H' → Rep X.K O H' v' d → Q v' H') → r vs H Q
def dCB (h : List D → Option D) (fa : DS → M (List D)) : DS → M D := fun δ => (fa δ).thn fun ds => M.lift (h ds)
theorem pd_callB {x : Str} {p : Pos} {id : String} {h : List D → Option D} (hc : DCall X (.builtin id) h) (hg : Gl X x) (hm : X.mg x = none) (hv : bootBuiltins x = some (.builtin id)) (ha : PDA X G (e :: es) fa) (hn : x ≠ "__name__" := by decide) (hdb : (x == ("__debug__" : Str)) = false := by decide)
    (he : starEach (e :: es) X.env = (false, eval e X.env) :: starEach es X.env := by rfl) (hpl : (backTo pos (starEach es X.env)).any (·.1) = false := by rfl) : PD X G (.Call (.Name x p) (e :: es) [] pos) (dCB h fa) := by
  obtain ⟨r, hr, hc⟩ := hc
  obtain ⟨_, t, pa, ha⟩ := ha
  refine ⟨_, pe_callB hr hg hm hv pa hn hdb he hpl, fun δ O σ H Q E k => ?_⟩
  refine ha δ O σ H _ E (ok_mono (ok_thn k) fun ds z vs H1 s1 rs => ?_)
  obtain ⟨d, hd, z⟩ := ok_lift z
  exact hc O H1 ds d vs Q (E.same s1).oo rs hd fun v' H2 s2 r2 => z v' H2 (s1.trans s2) r2
theorem pd_callTy {x : Str} {p : Pos} {id : String} {h : List D → Option D} (hc : DCall X (.type id) h) (hg : Gl X x) (hm : X.mg x = none) (hv : bootBuiltins x = some (.type id)) (ha : PDA X G (e :: es) fa) (hn : x ≠ "__name__" := by decide) (hdb : (x == ("__debug__" : Str)) = false := by decide)
    (he : starEach (e :: es) X.env = (false, eval e X.env) :: starEach es X.env := by rfl) (hpl : (backTo pos (starEach es X.env)).any (·.1) = false := by rfl) : PD X G (.Call (.Name x p) (e :: es) [] pos) (dCB h fa) := by
  obtain ⟨r, hr, hc⟩ := hc
  obtain ⟨_, t, pa, ha⟩ := ha
  refine ⟨_, pe_callTy hr hg hm hv pa hn hdb he hpl, fun δ O σ H Q E k => ?_⟩
  refine ha δ O σ H _ E (ok_mono (ok_thn k) fun ds z vs H1 s1 rs => ?_)
  obtain ⟨d, hd, z⟩ := ok_lift z
  exact hc O H1 ds d vs Q (E.same s1).oo rs hd fun v' H2 s2 r2 => z v' H2 (s1.trans s2) r2
theorem reps1 {K : PySem.W.Frag} {O : List Addr} {H : Hp} {vs : List V} {d : D} (r : Reps K O H vs [d]) : ∃ v, vs = [v] ∧ Rep K O H v d := by
  cases r with
  | cons r rs => cases rs; exact ⟨_, rfl, r⟩
theorem reps2 {K : PySem.W.Frag} {O : List Addr} {H : Hp} {vs : List V} {d d' : D} (r : Reps K O H vs [d, d']) : ∃ v v', vs = [v, v'] ∧ Rep K O H v d ∧ Rep K O H v' d' := by
  cases r with
  | cons r rs =>
    obtain ⟨v', rfl, r'⟩ := reps1 rs
    exact ⟨_, _, rfl, r, r'⟩
def oLen : List D → Option D
  | [.list ds] => some (.int ds.length)
  | [.tuple ds] => some (.int ds.length)
  | [.str z] => if small z.length then some (.int z.length) else none
  | _ => none
theorem dcall_len : DCall X (.builtin "len") oLen := by
  refine ⟨_, call_len_seq.or call_len_str, fun O H ds d vs Q oo rs e k => ?_⟩
  unfold oLen at e
  split at e
  · rename_i es
    cases e
    obtain ⟨v, rfl, r⟩ := reps1 rs
    obtain ⟨p, xs, rfl, h1, rx⟩ := r.lst_inv
    refine .inl ⟨p, xs, rfl, .inl h1, k _ H (Same.refl H) ?_⟩
    rw [rx.length]
    exact .int _
  · rename_i es
    cases e
    obtain ⟨v, rfl, r⟩ := reps1 rs
    obtain ⟨p, xs, rfl, h1, rx⟩ := r.tup_inv
    refine .inl ⟨p, xs, rfl, .inr h1, k _ H (Same.refl H) ?_⟩
    rw [rx.length]
    exact .int _
  · rename_i z
    by_cases hz : small z.length = true
    · rw [if_pos hz] at e
      cases e
      obtain ⟨v, rfl, r⟩ := reps1 rs
      refine .inr ⟨z, by rw [r.str_inv], small_le hz, k _ H (Same.refl H) (.int _)⟩
    · rw [if_neg hz] at e; cases e
  · cases e
def oMin : List D → Option D
  | [.int i, .int j] => some (.int (min i j))
  | _ => none
def oMax : List D → Option D
  | [.int i, .int j] => some (.int (max i j))
  | _ => none
theorem dcall_min (hc : X.calm = true) : DCall X (.builtin "min") oMin := by
  refine ⟨_, call_min2 hc, fun O H ds d vs Q oo rs e k => ?_⟩
  unfold oMin at e
  split at e
  · rename_i i j
    cases e
    obtain ⟨v, v', rfl, r, r'⟩ := reps2 rs
    refine ⟨i, j, by rw [r.int_inv, r'.int_inv], k _ H (Same.refl H) ?_⟩
    have : (if j < i then j else i) = min i j := by
      rcases Int.lt_or_le j i with h | h
      · rw [if_pos h]; omega
      · rw [if_neg (by omega)]; omega
    rw [this]
    exact .int _
  · cases e
theorem dcall_max (hc : X.calm = true) : DCall X (.builtin "max") oMax := by
  refine ⟨_, call_max2 hc, fun O H ds d vs Q oo rs e k => ?_⟩
  unfold oMax at e
  split at e
  · rename_i i j
    cases e
    obtain ⟨v, v', rfl, r, r'⟩ := reps2 rs
    refine ⟨i, j, by rw [r.int_inv, r'.int_inv], k _ H (Same.refl H) ?_⟩
    have : (if j > i then j else i) = max i j := by
      rcases Int.lt_or_le i j with h | h
      · rw [if_pos h]; omega
      · rw [if_neg (by omega)]; omega
    rw [this]
    exact .int _
  · cases e
/-- list(x): a new one -/
def oListOf : List D → Option D
  | [.list ds] => some (.list ds)
  | [.tuple ds] => some (.list ds)
  | _ => none
/-! ### isinstance(x, T), T a built-in type -/
def tyD : D → String
  | .none => "NoneType"
  | .bool _ => "bool"
  | .int _ => "int"
  | .str _ => "str"
  | .list _ => "list"
  | .tuple _ => "tuple"
  | .dict _ => "dict"
def isD (T : String) (d : D) : Bool := tyD d == T || (T == "int" && tyD d == "bool")
/-- the types that the rule knows -/
def tys : List String := ["int", "bool", "str", "list", "tuple"]
def KitAll (K : PySem.W.Frag) (T : String) : Prop := ∀ d : D, PySem.W.kitOne K (.type (tyD d)) (.type T) = some (isD T d)
theorem kit_int (K : PySem.W.Frag) : KitAll K "int" := fun d => by cases d <;> kernel_rfl
theorem kit_bool (K : PySem.W.Frag) : KitAll K "bool" := fun d => by cases d <;> kernel_rfl
theorem kit_str (K : PySem.W.Frag) : KitAll K "str" := fun d => by cases d <;> kernel_rfl
theorem kit_tuple (K : PySem.W.Frag) : KitAll K "tuple" := fun d => by cases d <;> kernel_rfl
theorem call_isinst {T : String} (hk : KitAll X.K T) : CallR X (.builtin "isinstance") (fun xs H Q => ∃ v O d, xs = [v, .ty T] ∧ Rep X.K O H v d ∧ noIns d = true ∧ Q (.bl (isD T d)) H) := by
  intro pins s σ H xs us Q I r h
  obtain ⟨v, O, d, rfl, rd, hi, q⟩ := h
  obtain ⟨u, w', rfl, r1, r2⟩ := vals2 r
  cases (show w' = Value.type T from r2)
  have fin : ∀ tk, EP X pins σ Q (.bool (isD T d)) { s with toks := tk } := fun tk => ⟨.bl _, H, I.tok _, rfl, q⟩
  have e := hk d
  cases rd with
  | non => cases (show u = Value.none from r1); exact PySem.W.kia_one PySem.W.kitx_none I.kIn True.intro e (fun z => nomatch z) fin
  | bl y => cases (show u = Value.bool y from r1); exact PySem.W.kia_one PySem.W.kitx_bool I.kIn True.intro e (fun z => nomatch z) fin
  | int i => obtain ⟨t, q⟩ := (show ∃ t, u = Value.int i t from r1); cases q; exact PySem.W.kia_one PySem.W.kitx_int I.kIn True.intro e (fun z => nomatch z) fin
  | str y => obtain ⟨t, q⟩ := (show ∃ t, u = Value.str y t from r1); cases q; exact PySem.W.kia_one PySem.W.kitx_str I.kIn True.intro e (fun z => nomatch z) fin
  | @tup a ys ds h rr =>
    cases (show u = Value.ref a from r1)
    obtain ⟨its, rv, ⟨o, h1, h2, _⟩, _⟩ := I.tuple h
    exact PySem.W.kia_one PySem.W.kitx_tuple I.kIn ⟨o, h1, h2⟩ e (fun z => nomatch z) fin
  | @lst a ys ds h n rr =>
    cases (show u = Value.ref a from r1)
    obtain ⟨its, rv, ⟨o, n, h1, h2, _⟩, _⟩ := I.list (.inl h)
    exact PySem.W.kia_one PySem.W.kitx_list I.kIn ⟨o, h1, h2⟩ e (fun z => nomatch z) fin
  | @lstK a ys ds h rr =>
    cases (show u = Value.ref a from r1)
    obtain ⟨its, rv, ⟨o, n, h1, h2, _⟩, _⟩ := I.list (.inr h)
    exact PySem.W.kia_one PySem.W.kitx_list I.kIn ⟨o, h1, h2⟩ e (fun z => nomatch z) fin
  | @dct a kvs es h n hk rr =>
    cases (show u = Value.ref a from r1)
    obtain ⟨_, _, _, _, o, _, _, h1, h2, _⟩ := h.ok I.hok
    exact PySem.W.kia_one PySem.W.kitx_dict I.kIn ⟨o, h1, h2.1⟩ e (fun z => nomatch z) fin
  | ins hN h n hk rr => cases hi
def dIs (T : String) (f : DS → M D) : DS → M D := fun δ => (f δ).thn fun d => if noIns d = true then M.ret (.bool (isD T d)) else none
theorem pd_isinst {T : String} {x y : Str} {p p2 : Pos} (hx : x = "isinstance") (hk : KitAll X.K T) (hg : Gl X x) (hm : X.mg x = none) (hg2 : Gl X y) (hm2 : X.mg y = none) (hb2 : bootBuiltins y = some (.type T)) (he : PD X G e f)
    (hn2 : y ≠ "__name__" := by decide) (hd2 : (y == ("__debug__" : Str)) = false := by decide)
    (hs1 : starEach [e, .Name y p2] X.env = (false, eval e X.env) :: starEach [.Name y p2] X.env := by rfl) (hs2 : starEach [.Name y p2] X.env = (false, eval (.Name y p2) X.env) :: starEach [] X.env := by rfl)
    (hpl : (backTo pos (starEach [.Name y p2] X.env)).any (·.1) = false := by rfl) : PD X G (.Call (.Name x p) [e, .Name y p2] [] pos) (dIs T f) := by
  subst hx
  obtain ⟨t, pe, he⟩ := he
  refine ⟨_, pe_callB (call_isinst hk) hg hm boot_isinstance (pa_cons pe (pa_cons (pe_bltn (v := .ty T) hg2 hm2 hb2 rfl hn2 hd2) pa_nil hs2) hs1) (by decide) (by decide) hs1 hpl, fun δ O σ H Q E k => ?_⟩
  refine he δ O σ H _ E (ok_mono (ok_thn k) fun d z v H1 s1 r => ?_)
  by_cases hi : noIns d = true
  · rw [if_pos hi] at z
    exact ⟨v, O, d, rfl, r, hi, z _ H1 s1 (.bl _)⟩
  · rw [if_neg hi] at z
    exact z.elim
end
end DL
namespace DL
open PySem PySem.Spec PyProof.Rows L2

/-! ### -x -/
def d1 (h : D → Option D) (f : DS → M D) : DS → M D := fun δ => (f δ).thn fun x => M.lift (h x)
def oNeg : D → Option D
  | .int i => some (.int (-i))
  | _ => none
theorem pd_neg {X : Cx} {G : XD → Hp → Prop} {a : Expr} {f : DS → M D} {pos : Pos} (ha : PD X G a f) : PD X G (.UnaryOp .USub a pos) (d1 oNeg f) := by
  obtain ⟨t, p, ha⟩ := ha
  refine ⟨_, pe_un un_neg p, fun δ O σ H Q E k => ?_⟩
  refine ha δ O σ H _ E (ok_mono (ok_thn k) fun d z v H1 s1 r => ?_)
  obtain ⟨y, hy, z⟩ := ok_lift z
  cases d with
  | int i => cases hy; exact ⟨i, r.int_inv, z _ H1 s1 (.int _)⟩
  | _ => cases hy

/-! ### statements -/
inductive Out where
  | nx (δ : DS)
  | rt (d : D)
  | bk (δ : DS)
  | ct (δ : DS)
/-- the state in a def's body: R0, the callers' owned lists; P0, what may be changed of what stood in H0 -/
structure EI (K : PySem.W.Frag) (Hr : Hp) (R0 : List Addr) (P0 : Addr → Prop) (H0 : Hp) (O : List Addr) (H : Hp) (σ : St) (δ : DS) : Prop where
  ev : Ev K Hr O H σ δ
  omr : ∀ l ∈ O, l ∈ R0 ∨ Hr l = none
  keep : ∀ b o, ¬ P0 b → H0 b = some o → H b = some o
  om : ∀ l ∈ O, l ∈ R0 ∨ P0 l ∨ H0 l = none
  nr1 : ∀ (i : Nat) (s : Sl) (l : Addr), δ[i]? = some s → s.own → σ[i]? = some (some (.ref l)) → l ∉ R0
  sub : ∀ l ∈ R0, l ∈ O
theorem EI.nr {K : PySem.W.Frag} {Hr : Hp} {R0 : List Addr} {P0 : Addr → Prop} {H0 : Hp} {O : List Addr} {H : Hp} {σ : St} {δ : DS} (E : EI K Hr R0 P0 H0 O H σ δ) : ∀ (i : Nat) (ds : List D) (l : Addr), δ[i]? = some (.ow ds) → σ[i]? = some (some (.ref l)) → l ∉ R0 := fun i ds l h1 h2 => E.nr1 i _ l h1 trivial h2
def Fin (K : PySem.W.Frag) (Hr : Hp) (R0 : List Addr) (P0 : Addr → Prop) (H0 : Hp) (Dn : Ends) : Out → Prop
  | .nx δ => ∀ O σ H, EI K Hr R0 P0 H0 O H σ δ → Dn.nx σ H
  | .rt d => ∀ v H, (∀ b o, ¬ P0 b → H0 b = some o → H b = some o) → Rep K R0 H v d → Dn.rt v H
  | .bk δ => ∀ O σ H, EI K Hr R0 P0 H0 O H σ δ → Dn.bk σ H
  | .ct δ => ∀ O σ H, EI K Hr R0 P0 H0 O H σ δ → Dn.ct σ H
def PDS (X : Cx) (G : XD → Hp → Prop) (st : Stmt) (g : DS → M Out) : Prop :=
  ∃ t, PS X st t ∧ ∀ {Hr : Hp} (R0 : List Addr) (P0 : Addr → Prop) (H0 : Hp) (δ : DS) (O : List Addr) (σ : St) (H : Hp) (Dn : Ends), EI X.K Hr R0 P0 H0 O H σ δ → ok (GS G Hr) (g δ) (Fin X.K Hr R0 P0 H0 Dn) → t Dn σ H
def PDSs (X : Cx) (G : XD → Hp → Prop) (st : List Stmt) (g : DS → M Out) : Prop :=
  ∃ t, PSs X st t ∧ ∀ {Hr : Hp} (R0 : List Addr) (P0 : Addr → Prop) (H0 : Hp) (δ : DS) (O : List Addr) (σ : St) (H : Hp) (Dn : Ends), EI X.K Hr R0 P0 H0 O H σ δ → ok (GS G Hr) (g δ) (Fin X.K Hr R0 P0 H0 Dn) → t Dn σ H

section
variable {X : Cx} {G : XD → Hp → Prop} {a b c e : Expr} {es rest : List Expr} {f g h : DS → M D} {fb gb : DS → M Bool} {fa : DS → M (List D)} {pos : Pos} {st : Stmt} {sts st1 st2 : List Stmt} {gs gt gu : DS → M Out}
variable {K : PySem.W.Frag} {Hr : Hp} {R0 : List Addr} {P0 : Addr → Prop} {H0 H H' : Hp} {O : List Addr} {σ : St} {δ : DS}
theorem EI.same (E : EI K Hr R0 P0 H0 O H σ δ) (s : Same H H') : EI K Hr R0 P0 H0 O H' σ δ := ⟨E.ev.same s, E.omr, fun b o n h => s _ _ (E.keep b o n h), E.om, E.nr1, E.sub⟩
theorem EI.set {i : Nat} {v : V} {d : D} (E : EI K Hr R0 P0 H0 O H σ δ) (r : Rep K O H v d) : EI K Hr R0 P0 H0 O H (σ.set i (some v)) (δ.set i (.vl d)) := by
  refine ⟨E.ev.set r, E.omr, E.keep, E.om, fun j ds l h1 ho h2 => ?_, E.sub⟩
  rw [get_set] at h1 h2
  by_cases hij : i = j
  · rw [if_pos hij] at h1
    split at h1
    · cases h1; exact ho.elim
    · cases h1
  · rw [if_neg hij] at h1 h2
    exact E.nr1 j ds l h1 ho h2
theorem EI.less (E : EI K Hr R0 P0 H0 O H σ δ) {v : V} {d : D} (r : Rep K O H v d) : Rep K R0 H v d := r.to (.less E.sub)

def gNext : DS → M Out := fun δ => M.ret (.nx δ)
def gSeq (g h : DS → M Out) : DS → M Out := fun δ => (g δ).thn fun o => match o with
  | .nx δ' => h δ'
  | o => M.ret o
theorem pds_nil : PDSs X G [] gNext := ⟨_, pss_nil, fun R0 P0 H0 δ O σ H Dn E k => k O σ H E⟩
theorem pds_one (h1 : PDS X G st gs) : PDSs X G [st] gs := by
  obtain ⟨t, p, h1⟩ := h1
  exact ⟨_, pss_one p, h1⟩
theorem pds_cons (h1 : PDS X G st gs) (h2 : PDSs X G sts gt) : PDSs X G (st :: sts) (gSeq gs gt) := by
  obtain ⟨t, p, h1⟩ := h1
  obtain ⟨u, q, h2⟩ := h2
  refine ⟨_, pss_cons p q, fun R0 P0 H0 δ O σ H Dn E k => ?_⟩
  refine h1 R0 P0 H0 δ O σ H _ E (ok_mono (ok_thn k) fun o z => ?_)
  cases o with
  | nx δ' => exact fun O' σ' H' E' => h2 R0 P0 H0 δ' O' σ' H' Dn E' z
  | rt d => exact z
  | bk δ' => exact z
  | ct δ' => exact z
def gBreak : DS → M Out := fun δ => M.ret (.bk δ)
def gCont : DS → M Out := fun δ => M.ret (.ct δ)
def gRet (f : DS → M D) : DS → M Out := fun δ => (f δ).thn fun d => M.ret (.rt d)
theorem pd_ret (he : PD X G e f) : PDS X G (.Return (some e) pos) (gRet f) := by
  obtain ⟨t, p, he⟩ := he
  refine ⟨_, ps_ret p, fun R0 P0 H0 δ O σ H Dn E k => ?_⟩
  exact he δ O σ H _ E.ev (ok_mono (ok_thn k) fun d z v H1 s1 r => z v H1 (fun b o n q => s1 _ _ (E.keep b o n q)) ((E.same s1).less r))
def gRetN : DS → M Out := fun δ => M.ret (.rt .none)
def gDrop (f : DS → M D) : DS → M Out := fun δ => (f δ).thn fun _ => M.ret (.nx δ)
theorem pd_expr (he : PD X G e f) (hs : swapsWith e none pos.line X.env = pure false := by rfl) : PDS X G (.Expr e pos) (gDrop f) := by
  obtain ⟨t, p, he⟩ := he
  refine ⟨_, ps_expr p hs, fun R0 P0 H0 δ O σ H Dn E k => ?_⟩
  exact he δ O σ H _ E.ev (ok_mono (ok_thn k) fun d z v H1 s1 r => z O σ H1 (E.same s1))
def gIf (c : DS → M Bool) (g h : DS → M Out) : DS → M Out := fun δ => (c δ).thn fun b => if b = true then g δ else h δ
theorem pd_ifS (hc : PDT X G c fb) (h1 : PDSs X G st1 gs) (h2 : PDSs X G st2 gt) : PDS X G (.If c st1 st2 pos) (gIf fb gs gt) := by
  obtain ⟨t, p, hc⟩ := hc
  obtain ⟨u, q, h1⟩ := h1
  obtain ⟨w, r, h2⟩ := h2
  refine ⟨_, ps_if p q r, fun R0 P0 H0 δ O σ H Dn E k => ?_⟩
  refine hc δ O σ H _ E.ev (ok_mono (ok_thn k) fun d z H1 s1 => ?_)
  cases d with
  | true =>
    rw [if_pos rfl] at z ⊢
    exact h1 R0 P0 H0 δ O σ H1 Dn (E.same s1) z
  | false =>
    rw [if_neg Bool.false_ne_true] at z ⊢
    exact h2 R0 P0 H0 δ O σ H1 Dn (E.same s1) z
/-- code that is not come to -/
def gNever : DS → M Out := fun _ => none
theorem pd_never : PDS X G st gNever := ⟨_, ps_never, fun R0 P0 H0 δ O σ H Dn E k => k.elim⟩

/-! ### targets -/
def PDG (X : Cx) (target : Expr) (g : D → DS → Option DS) : Prop :=
  ∃ t, PG X target t ∧ ∀ {Hr : Hp} (R0 : List Addr) (P0 : Addr → Prop) (H0 : Hp) (δ δ' : DS) (d : D) (v : V) (O : List Addr) (σ : St) (H : Hp) (Q : St → Hp → Prop), EI X.K Hr R0 P0 H0 O H σ δ → Rep X.K O H v d → g d δ = some δ' →
    (∀ σ' H', EI X.K Hr R0 P0 H0 O H' σ' δ' → Same H H' → Q σ' H') → t v σ H Q
def PDGs (X : Cx) (ts : List Expr) (g : List D → DS → Option DS) : Prop :=
  ∃ t, PGs X ts t ∧ ∀ {Hr : Hp} (R0 : List Addr) (P0 : Addr → Prop) (H0 : Hp) (δ δ' : DS) (ds : List D) (vs : List V) (O : List Addr) (σ : St) (H : Hp) (Q : St → Hp → Prop), EI X.K Hr R0 P0 H0 O H σ δ → Reps X.K O H vs ds → g ds δ = some δ' →
    (∀ σ' H', EI X.K Hr R0 P0 H0 O H' σ' δ' → Same H H' → Q σ' H') → t vs σ H Q
def tgN (i : Nat) : D → DS → Option DS := fun d δ => some (δ.set i (.vl d))
theorem pdg_name {i : Nat} (h : PG X e (gName i)) : PDG X e (tgN i) := by
  refine ⟨_, h, fun R0 P0 H0 δ δ' d v O σ H Q E r e k => ?_⟩
  cases e
  exact k _ H (E.set r) (Same.refl H)
def tgNil : List D → DS → Option DS := fun ds δ => match ds with
  | [] => some δ
  | _ => none
def tgCons (t : D → DS → Option DS) (u : List D → DS → Option DS) : List D → DS → Option DS := fun ds δ => match ds with
  | d :: r => (t d δ).bind (u r)
  | [] => none
theorem pdgs_nil : PDGs X [] tgNil := by
  refine ⟨_, pgs_nil, fun R0 P0 H0 δ δ' ds vs O σ H Q E r e k => ?_⟩
  cases ds with
  | nil => cases r; cases e; exact ⟨rfl, k σ H E (Same.refl H)⟩
  | cons d ds => cases e
theorem pdgs_cons {t : D → DS → Option DS} {u : List D → DS → Option DS} (h1 : PDG X e t) (h2 : PDGs X es u)
    (hs : (assignEach (e :: es) X.env).map (·.2) = assign e X.env :: (assignEach es X.env).map (·.2) := by rfl) : PDGs X (e :: es) (tgCons t u) := by
  obtain ⟨t1, p1, h1⟩ := h1
  obtain ⟨t2, p2, h2⟩ := h2
  refine ⟨_, pgs_cons p1 p2 hs, fun R0 P0 H0 δ δ' ds vs O σ H Q E r e k => ?_⟩
  cases ds with
  | nil => cases e
  | cons d ds =>
    cases r with
    | @cons v _ vs _ r rs =>
      have e : (t d δ).bind (u ds) = some δ' := e
      cases e1 : t d δ with
      | none => rw [e1] at e; cases e
      | some δ1 =>
        rw [e1] at e
        refine ⟨v, vs, rfl, h1 R0 P0 H0 δ δ1 d v O σ H _ E r e1 fun σ1 H1 E1 s1 => ?_⟩
        exact h2 R0 P0 H0 δ1 δ' ds vs O σ1 H1 Q E1 (rs.same s1) e fun σ2 H2 E2 s2 => k σ2 H2 E2 (s1.trans s2)
def tgTup (n : Nat) (u : List D → DS → Option DS) : D → DS → Option DS := fun d δ => match d with
  | .tuple ds => if ds.length = n then u ds δ else none
  | _ => none
theorem pdg_tup {k : Nat} {u : List D → DS → Option DS} {n : Nat} (hc : X.calm = true) (h : PDGs X es u)
    (hn : (assignEach es X.env).length = n := by rfl) (hst : (assignEach es X.env).findIdx? (·.1) = none := by rfl) : PDG X (.Tuple es k pos) (tgTup n u) := by
  obtain ⟨t, p, h⟩ := h
  refine ⟨_, pg_tup hc p hn hst, fun R0 P0 H0 δ δ' d v O σ H Q E r e k => ?_⟩
  cases d with
  | tuple ds =>
    have e : (if ds.length = n then u ds δ else none) = some δ' := e
    by_cases hl : ds.length = n
    · rw [if_pos hl] at e
      obtain ⟨a, xs, rfl, h1, rs⟩ := r.tup_inv
      exact ⟨a, xs, rfl, h1, by rw [rs.length]; exact hl, h R0 P0 H0 δ δ' ds xs O σ H Q E rs e k⟩
    · rw [if_neg hl] at e; cases e
  | _ => cases e
/-- target = value -/
def gAsg (f : DS → M D) (g : D → DS → Option DS) : DS → M Out := fun δ => (f δ).thn fun d => (M.lift (g d δ)).thn fun δ' => M.ret (.nx δ')
theorem pd_asg {tg : Expr} {g : D → DS → Option DS} (he : PD X G e f) (hg : PDG X tg g) (hs : swapsWithSole [tg] e pos.line X.env = pure false := by rfl) (hw : swappedStores [tg] e X.env = pure none := by rfl)
    (h1 : (assignEach [tg] X.env).map (·.2) = [assign tg X.env] := by rfl) : PDS X G (.Assign [tg] e pos) (gAsg f g) := by
  obtain ⟨t, p, he⟩ := he
  obtain ⟨u, q, hg⟩ := hg
  refine ⟨_, ps_asg p q hs hw h1, fun R0 P0 H0 δ O σ H Dn E k => ?_⟩
  refine he δ O σ H _ E.ev (ok_mono (ok_thn k) fun d z v H1 s1 r => ?_)
  obtain ⟨δ', hd, z⟩ := ok_lift (ok_thn z)
  exact hg R0 P0 H0 δ δ' d v O σ H1 _ (E.same s1) r hd fun σ' H' E' _ => z O σ' H' E'
/-- name = value -/
theorem pd_set {i : Nat} {x : Str} {pos' : Pos} (hN : X.N.Nodup) (hi : X.N[i]? = some x) (hx : Loc X.env.scope x) (he : PD X G e f) (hs : swapsWith e (some (.Name x pos')) pos.line X.env = pure false := by rfl) (hf : X.fn x = true ∨ X.env.scope.names.lookup x = some .local := by first | exact .inl rfl | exact .inr rfl | assumption) :
    PDS X G (.Assign [.Name x pos'] e pos) (gAsg f (tgN i)) := by
  obtain ⟨t, p, he⟩ := he
  refine ⟨_, ps_set hN hi hx p hs hf, fun R0 P0 H0 δ O σ H Dn E k => ?_⟩
  refine he δ O σ H _ E.ev (ok_mono (ok_thn k) fun d z v H1 s1 r => ?_)
  obtain ⟨δ', hd, z⟩ := ok_lift (ok_thn z)
  cases hd
  exact z O _ H1 ((E.same s1).set r)

/-! ### for -/
def forD (body : D → DS → M Out) : List D → DS → M Out
  | [], δ => M.ret (.nx δ)
  | x :: xs, δ => (body x δ).thn fun o => match o with
    | .nx δ' => forD body xs δ'
    | .ct δ' => forD body xs δ'
    | .bk δ' => M.ret (.nx δ')
    | .rt d => M.ret (.rt d)
def bodyD (t : D → DS → Option DS) (g : DS → M Out) : D → DS → M Out := fun d δ => (M.lift (t d δ)).thn g
/-- the list or tuple that a loop walks -/
def seqD : D → Option (List D)
  | .list ds => some ds
  | .tuple ds => some ds
  | _ => none
def gFor (f : DS → M D) (t : D → DS → Option DS) (g : DS → M Out) : DS → M Out := fun δ => (f δ).thn fun d => (M.lift (seqD d)).thn fun ds => forD (bodyD t g) ds δ
def iSeq (K : PySem.W.Frag) (tl : TE) : TI := fun σ H R => tl σ H fun x H1 => ∃ a, x = .ref a ∧ (((∃ xs, SqL K H1 a xs) ∧ R (Itl K a) H1) ∨ ((∃ xs, SqT K H1 a xs) ∧ R (Itt K a) H1))
theorem pi_seq {tg l : Expr} {tl : TE} (hl : PE X l tl) : PI X tg l (iSeq X.K tl) := by
  intro pins s σ H R I h
  refine thn (hl pins s σ H _ I h) fun v s1 ⟨x, H1, I1, r1, q1⟩ => ?_
  obtain ⟨a, e, q⟩ := q1
  subst e
  cases r1
  rcases q with ⟨⟨xs, hq⟩, q⟩ | ⟨⟨xs, hq⟩, q⟩
  · obtain ⟨its, rv, p, hz⟩ := I1.list hq
    refine wpAny_pyIter_list p.isList ?_
    refine ⟨s1.heap.objs.size, [s1.heap.objs.size], _, _, H1, rfl, I1.kept (t' := s1.toks) fun b o e => Heap.get?_push_of_some _ e, turn_list a _, ⟨_, Heap.get?_push_size _ rfl, rfl, rfl⟩, fun b hb => ?_, q⟩
    have e : b = s1.heap.objs.size := by simpa using hb
    subst e
    exact I1.fpOk (Nat.le_refl _) (I1.hok.fresh (Nat.le_refl _))
  · obtain ⟨its, rv, p, hz⟩ := I1.tuple hq
    refine wpAny_pyIter_tuple (show s1.heap.IsTuple a its.toArray from p) ?_
    refine ⟨s1.heap.objs.size, [s1.heap.objs.size], _, _, H1, rfl, I1.kept (t' := s1.toks) fun b o e => Heap.get?_push_of_some _ e, turn_tuple a _, ⟨_, Heap.get?_push_size _ rfl, rfl, rfl⟩, fun b hb => ?_, q⟩
    have e : b = s1.heap.objs.size := by simpa using hb
    subst e
    exact I1.fpOk (Nat.le_refl _) (I1.hok.fresh (Nat.le_refl _))

/-- what a loop may change -/
def Ch (O R0 : List Addr) (l : Addr) : Prop := l ∈ O ∧ l ∉ R0
theorem EI.noCh (E : EI K Hr R0 P0 H0 O H σ δ) {b : Addr} {o : HO} (n : ¬ P0 b) (h : H0 b = some o) : ¬ Ch O R0 b := fun ⟨z1, z2⟩ => by
  rcases E.om b z1 with q | q | q
  · exact z2 q
  · exact n q
  · rw [h] at q; cases q
theorem EI.inner (E : EI K Hr R0 P0 H0 O H σ δ) : EI K Hr R0 (Ch O R0) H O H σ δ :=
  ⟨E.ev, E.omr, fun b o _ h => h, fun l hl => (Classical.em (l ∈ R0)).elim .inl fun n => .inr (.inl ⟨hl, n⟩), E.nr1, E.sub⟩
theorem EI.outer {O1 : List Addr} {H1 : Hp} {σ1 : St} {δ1 : DS} (E : EI K Hr R0 P0 H0 O H σ δ) (E1 : EI K Hr R0 (Ch O R0) H O1 H1 σ1 δ1) : EI K Hr R0 P0 H0 O1 H1 σ1 δ1 := by
  refine ⟨E1.ev, E1.omr, fun b o n h => E1.keep b o (E.noCh n h) (E.keep b o n h), fun l hl => ?_, E1.nr1, E1.sub⟩
  rcases E1.om l hl with q | q | q
  · exact .inl q
  · exact E.om l q.1
  · refine .inr ?_
    by_cases hp : P0 l
    · exact .inl hp
    · cases e : H0 l with
      | none => exact .inr rfl
      | some o =>
        rw [E.keep l o hp e] at q
        cases q
theorem Fin.outer {Dn : Ends} (E : EI K Hr R0 P0 H0 O H σ δ) {o : Out} (h : Fin K Hr R0 P0 H0 Dn o) : Fin K Hr R0 (Ch O R0) H Dn o := by
  cases o with
  | nx δ1 => exact fun O1 σ1 H1 E1 => h O1 σ1 H1 (E.outer E1)
  | bk δ1 => exact fun O1 σ1 H1 E1 => h O1 σ1 H1 (E.outer E1)
  | ct δ1 => exact fun O1 σ1 H1 E1 => h O1 σ1 H1 (E.outer E1)
  | rt d => exact fun v H1 kp r => h v H1 (fun b o n q => kp b o (E.noCh n q) (E.keep b o n q)) r
/-- what the loop walks stays as it is -/
theorem EI.to {O1 : List Addr} {H1 : Hp} {σ1 : St} {δ1 : DS} (E : EI K Hr R0 P0 H0 O H σ δ) (E1 : EI K Hr R0 (Ch O R0) H O1 H1 σ1 δ1) : To O O1 H H1 := by
  have nt : ∀ {b : Addr} {o : HO}, (∀ xs, o ≠ .lst xs) → (∀ xs, o ≠ .dK xs) → H b = some o → ¬ Ch O R0 b := fun {b o} ho ho2 h z => by
    rcases E.ev.oo b z.1 with ⟨ys, hl⟩ | ⟨ys, hl⟩
    · rw [h] at hl
      exact ho _ (Option.some.inj hl)
    · rw [h] at hl
      exact ho2 _ (Option.some.inj hl)
  have kp : ∀ {b : Addr} {o : HO}, b ∉ O → Rd H b o → b ∉ O1 ∧ Rd H1 b o := fun {b o} n h => by
    refine ⟨fun z => ?_, ?_⟩
    · rcases E1.om b z with q | q | q
      · exact n (E.sub b q)
      · exact n q.1
      · rcases h with h | ⟨u, h⟩
        · rw [h] at q; cases q
        · rw [h] at q; cases q
    · rcases h with h | ⟨u, h⟩
      · exact .inl (E1.keep _ _ (fun z => n z.1) h)
      · exact .inr ⟨u, E1.keep _ _ (fun z => n z.1) h⟩
  refine ⟨fun b xs h => ?_, fun b xs n h => kp n h, fun b xs n h => kp n h, fun b C dx fs n h => ⟨(kp n (.inl h)).1, E1.keep _ _ (fun z => n z.1) h⟩⟩
  · rcases h with h | ⟨u, h⟩
    · exact .inl (E1.keep _ _ (nt (fun _ z => by cases z) (fun _ z => by cases z) h) h)
    · exact .inr ⟨u, E1.keep _ _ (nt (fun _ z => by cases z) (fun _ z => by cases z) h) h⟩
theorem drop_get {ds : List D} {i : Nat} {d : D} (h : ds[i]? = some d) : ds.drop i = d :: ds.drop (i + 1) := by
  obtain ⟨hl, e⟩ := List.getElem?_eq_some_iff.mp h
  rw [List.drop_eq_getElem_cons hl, e]
/-- for over range(n), range(a, b) -/
def rngD (lo : Int) (n : Nat) : List D := (List.range n).map fun (i : Nat) => PyData.int (lo + (i : Int))
def b62 (j : Int) : Bool := decide (-4611686018427387904 ≤ j ∧ j < 4611686018427387904)
def rng1 : List D → Option (List D)
  | [.int j] => if b62 j = true then some (rngD 0 j.toNat) else none
  | _ => none
def rng2 : List D → Option (List D)
  | [.int i, .int j] => if (b62 i && b62 j) = true then some (rngD i (j - i).toNat) else none
  | _ => none
def gForR (rng : List D → Option (List D)) (fa : DS → M (List D)) (t : D → DS → Option DS) (g : DS → M Out) : DS → M Out := fun δ => (fa δ).thn fun ds => (M.lift (rng ds)).thn fun xs => forD (bodyD t g) xs δ
theorem b62_of {j : Int} (h : b62 j = true) : -(2 ^ 62) ≤ j ∧ j < 2 ^ 62 := by
  have e62 : (2 : Int) ^ 62 = 4611686018427387904 := by decide
  rw [e62]
  exact of_decide_eq_true h
end

/-! ### defs -/
/-- a def does what F says -/
def spD (K : PySem.W.Frag) (n : Nat) (F : List D → M D) : Sp := fun vs H Q _ => ∃ O ds, vs.length = n ∧ (∀ l ∈ O, Mu H l) ∧ Reps K O H vs ds ∧ ok (fun _ => False) (F ds) (fun d => ∀ v H', Same H H' → Rep K O H' v d → Q v H')
structure Def (P : Program) (w : World) (K : PySem.W.Frag) (mg : Str → Option Value) (base : Heap) (k : Nat) (x : Str) (n : Nat) (F : List D → M D) : Prop where
  ex : ∃ (f : Addr) (fd : FuncData) (ps : List Str), FnOk P w K mg base CX0 k f fd ps (spD K n F) ∧ mg x = some (.ref f) ∧ PySem.W.keepIn K (.ref f) = true ∧ Binds K fd ps []
def dCall (F : List D → M D) (fa : DS → M (List D)) : DS → M D := fun δ => (fa δ).thn F
section
variable {X : Cx} {G : XD → Hp → Prop} {a b c e : Expr} {es rest : List Expr} {f g h : DS → M D} {fb gb : DS → M Bool} {fa : DS → M (List D)} {pos : Pos}
theorem ok_false {α : Type} {G : XD → Prop} {r : M α} {k : α → Prop} (h : ok (fun _ => False) r k) : ok G r k := by
  match r, h with
  | some (.ok a), h => exact h
/-- no exception comes out of the call -/
def noX {α : Type} (r : M α) : M α := match r with
  | some (.error _) => none
  | r => r
theorem ok_noX {α : Type} {G : XD → Prop} {r : M α} {k : α → Prop} (h : ok G (noX r) k) : ok (fun _ => False) r k := by
  match r, h with
  | some (.ok a), h => exact h
theorem pd_call {k n : Nat} {x : Str} {p : Pos} {F : List D → M D} (h : Def X.prog X.w X.K X.mg X.base k x n F) (hr : Room k X.A) (hg : Gl X x) (hn : (e :: es).length = n) (ha : PDA X G (e :: es) fa)
    (hdb : (x == ("__debug__" : Str)) = false := by decide) (he : starEach (e :: es) X.env = (false, eval e X.env) :: starEach es X.env := by rfl) (hpl : (backTo pos (starEach es X.env)).any (·.1) = false := by rfl) :
    PD X G (.Call (.Name x p) (e :: es) [] pos) (dCall (fun ds => noX (F ds)) fa) := by
  obtain ⟨f, fd, ps, F1, hm, hk, hb⟩ := h.ex
  obtain ⟨hl, t, pa, ha⟩ := ha
  refine ⟨_, pe_call F1 hr hg hm hk hb .nil pass0 pa hdb he hpl, fun δ O σ H Q E k => ?_⟩
  have k1 := ok_thn k
  refine ha δ O σ H _ E ?_
  cases e1 : fa δ with
  | none => rw [e1] at k1; exact k1.elim
  | some r =>
    rw [e1] at k1
    cases r with
    | error x => exact k1
    | ok ds =>
      refine fun vs H1 s1 rs => ?_
      refine ⟨O, ds, ?_, (E.same s1).oo, ?_, ok_mono (ok_noX k1) fun d z v H2 s2 r => z v H2 (s1.trans s2) r⟩
      · rw [List.append_nil, rs.length, hl δ ds e1]
        exact hn
      · rw [List.append_nil]
        exact rs
end
/-- a def's run: its names at the entry, its end -/
def startD (n : Nat) (ds : List D) : DS := ds.map Sl.vl ++ List.replicate (n - ds.length) Sl.un
def endD (o : Out) : M D := match o with
  | .rt d => M.ret d
  | .nx _ => M.ret .none
  | _ => none
def run (n : Nat) (g : DS → M Out) (ds : List D) : M D := (g (startD n ds)).thn endD
section
variable {P : Program} {w : World} {K : PySem.W.Frag} {mg : Str → Option Value} {base : Heap}
theorem start_no {n i : Nat} {ds : List D} {s : Sl} (h1 : (startD n ds)[i]? = some s) (ho : s.own) : False := by
  unfold startD at h1
  by_cases hi : i < ds.length
  · rw [List.getElem?_append_left (by simpa using hi), List.getElem?_map] at h1
    cases e : ds[i]? with
    | none => rw [e] at h1; cases h1
    | some d => rw [e] at h1; cases h1; exact ho
  · rw [List.getElem?_append_right (by simpa using hi), List.getElem?_replicate] at h1
    split at h1
    · cases h1; exact ho
    · cases h1
theorem ev_start {O : List Addr} {H : Hp} {vs : List V} {ds : List D} (N : List Str) (oo : ∀ l ∈ O, Mu H l) (r : Reps K O H vs ds) : Ev K H O H (L2.start N vs) (startD N.length ds) := by
  have get : ∀ (i : Nat) (s : Sl), (startD N.length ds)[i]? = some s → (∃ d, ds[i]? = some d ∧ s = .vl d) ∨ s = .un := fun i s h => by
    unfold startD at h
    by_cases hi : i < ds.length
    · rw [List.getElem?_append_left (by simpa using hi), List.getElem?_map] at h
      cases e : ds[i]? with
      | none => rw [e] at h; cases h
      | some d => rw [e] at h; cases h; exact .inl ⟨d, rfl, rfl⟩
    · rw [List.getElem?_append_right (by simpa using hi), List.getElem?_replicate] at h
      split at h
      · cases h; exact .inr rfl
      · cases h
  refine ⟨Same.refl H, oo, ?_, fun i s h => ?_, fun i j l es fs hij h1 h2 h3 => ?_⟩
  · unfold L2.start startD
    simp [r.length]
  · rcases get i s h with ⟨d, hd, rfl⟩ | rfl
    · obtain ⟨v, hv, rd⟩ := r.get hd
      refine ⟨v, ?_, rd⟩
      unfold L2.start
      have hi : i < vs.length := (List.getElem?_eq_some_iff.mp hv).1
      rw [List.getElem?_append_left (by simpa using hi), List.getElem?_map, hv]
      rfl
    · trivial
  · rcases get i _ h1 with ⟨d, _, z⟩ | z <;> cases z
theorem fn_ofD {x qual : Str} {st : Stmt} {f : Addr} {fd : FuncData} {N ps : List Str} {k : Nat} {g : DS → M Out} (F0 : Fun K x qual st f fd) (S : FnScope N ps (defScope st))
    (hbody : ∀ (cdv : Value) (A : Around) (outer : List Env) (s : Shared) (H : Hp) (E : XK), Room k (A.deeper (envOfC qual (defScope st) s.heap.objs.size f cdv)) →
      PDSs (cxOf CX0 P w K mg base N qual (defScope st) f cdv A outer s H E).nox (fun _ _ => False) (defBody st) g) : FnOk P w K mg base CX0 (k + 1) f fd ps (spD K ps.length (run N.length g)) := by
  refine F0.ok S (fun vs H Q E h => ?_) (fun cdv A outer s H vs Q E hr h => ?_)
  · obtain ⟨O, ds, hl, _⟩ := h
    exact hl
  · obtain ⟨O, ds, hl, oo, r, q⟩ := h
    obtain ⟨t, p, hB⟩ := hbody cdv A outer s H E hr
    refine ⟨t, p, hB O (fun _ => False) H (startD N.length ds) O (L2.start N vs) H _ ⟨ev_start N oo r, fun l hl => .inl hl, fun b o _ h => h, fun l hl => .inl hl, fun i es l h1 ho h2 => ?_, fun l hl => hl⟩ (ok_mono (ok_false (ok_thn q)) fun o z => ?_)⟩
    · exact (start_no h1 ho).elim
    · cases o with
      | rt d => exact fun v H' kp r => z v H' (fun b o h => kp b o (fun w => w) h) r
      | nx δ => exact fun O' σ' H' E' => z .non H' (fun b o h => E'.keep b o (fun w => w) h) .non
      | bk δ => exact z.elim
      | ct δ => exact z.elim
theorem def_of {x qual : Str} {st : Stmt} {f : Addr} {fd : FuncData} {N ps : List Str} {k : Nat} {g : DS → M Out} (F0 : Fun K x qual st f fd) (S : FnScope N ps (defScope st)) (hm : mg x = some (.ref f)) (hb : Binds K fd ps [])
    (hbody : ∀ (cdv : Value) (A : Around) (outer : List Env) (s : Shared) (H : Hp) (E : XK), Room k (A.deeper (envOfC qual (defScope st) s.heap.objs.size f cdv)) →
      PDSs (cxOf CX0 P w K mg base N qual (defScope st) f cdv A outer s H E).nox (fun _ _ => False) (defBody st) g) : Def P w K mg base (k + 1) x ps.length (run N.length g) :=
  ⟨f, fd, ps, fn_ofD F0 S hbody, hm, F0.kp, hb⟩
/-- the law's promise from its run -/
def spLaw (K : PySem.W.Frag) : Sp := fun vs H Q _ => ∃ (a : Addr) (ns : List Int), vs = [.ref a] ∧ SqL K H a (ns.map V.int) ∧ ns.length ≤ 63 ∧ ∀ H', Q (.bl true) H'
theorem law_sp {F : List D → M D} (hF : ∀ ns : List Int, ns.length ≤ 63 → F [.list (ns.map PyData.int)] = M.ret (.bool true)) (vs : List V) (H : Hp) (Q : VK) (E : XK) (h : spLaw K vs H Q E) : spD K 1 F vs H Q E := by
  obtain ⟨a, ns, rfl, hS, hl, k⟩ := h
  refine ⟨[], [.list (ns.map PyData.int)], rfl, (fun l z => nomatch z), .cons ?_ .nil, ?_⟩
  · rcases hS with hS | hS
    · exact .lst hS (fun z => nomatch z) (Reps.ints ns)
    · exact .lstK hS (Reps.ints ns)
  · rw [hF ns hl]
    intro v H' s r
    rw [r.bool_inv]
    exact k H'
theorem walk {l : PySem.W.OpenLaw} {q : Program} {loose : List Str} {XP : (Str → Option Value) → Heap → Prop} {YP : World → Heap → Prop} {d : DefRec} {K : Params → PySem.W.Frag} {k : Nat} {F : List D → M D} {x : Str} (hn : l.most = some 63) (hdf : d.params.defaults = [])
    (hF : ∀ ns : List Int, ns.length ≤ 63 → F [.list (ns.map PyData.int)] = M.ret (.bool true)) (hr : Room k callerA)
    (hY : ∀ (w : World) (h : Heap), YP w h → (K w.params).In h)
    (T : ∀ (w : World) (mg : Str → Option Value) (fa : Addr) (h : Heap), (K w.params).In h → h.Ns mainGlobals mg → mg d.name = some (.ref fa) →
      ∃ fd : FuncData, (∀ (s : Shared) (u : Value), BindsTo s fd ⟨[u], []⟩ [(x, u)]) ∧ ∀ base : Heap, (K w.params).In base → base.Ns mainGlobals mg → FnOk l.prog w (K w.params) mg base CX0 k fa fd [x] (spD (K w.params) 1 F)) :
    PySem.W.WalkO q loose XP YP l.row.toRowW d [] (fun f vs => PySem.call f vs) :=
  L2.walk_of (n := 63) (k := k) (x := x) (CX := fun _ => CX0) (sp := fun w => spD (K w.params) 1 F) hn (by decide) hdf hr hY T (fun w H a ns hl _ hS => law_sp hF _ _ _ _ ⟨a, ns, rfl, hS, hl, fun _ => rfl⟩) fun _ _ _ _ _ z => z
end
end DL
/-! EVALUATION of runs: one lemma a form, applied from the outside -/
namespace DL
open PySem PySem.Spec L2
section
variable {δ δ' : DS} {f g : DS → M D} {fb gb : DS → M Bool} {fa : DS → M (List D)} {gs gt g1 g2 : DS → M Out} {d x y : D} {b b1 b2 : Bool} {ds xs : List D} {i j : Int} {r : M Out} {o : Out}
theorem ev_var {n : Nat} (h : δ[n]? = some (.vl d)) : dVar n δ = M.ret d := by unfold dVar; rw [h]
theorem ev_c : dC d δ = M.ret d := rfl
theorem ev_2 {h : D → D → Option D} (h1 : f δ = M.ret x) (h2 : g δ = M.ret y) (h3 : h x y = some d) : d2 h f g δ = M.ret d := by
  unfold d2; rw [h1, thn_ret, h2, thn_ret, h3]; rfl
theorem ev_1 {h : D → Option D} (h1 : f δ = M.ret x) (h3 : h x = some d) : d1 h f δ = M.ret d := by
  unfold d1; rw [h1, thn_ret, h3]; rfl
theorem o_add : oAdd (.int i) (.int j) = some (.int (i + j)) := rfl
theorem o_sub : oSub (.int i) (.int j) = some (.int (i - j)) := rfl
theorem o_mul (h : bMul i j = true) : oMul (.int i) (.int j) = some (.int (i * j)) := if_pos h
theorem o_div (h : bDiv j = true) : oDiv (.int i) (.int j) = some (.int (i / j)) := if_pos h
theorem o_mod (h : 0 < j) : oMod (.int i) (.int j) = some (.int (i % j)) := if_pos (decide_eq_true h)
theorem o_lt : oLt (.int i) (.int j) = some (.bool (decide (i < j))) := rfl
theorem o_le : oLe (.int i) (.int j) = some (.bool (decide (i ≤ j))) := rfl
theorem o_gt : oGt (.int i) (.int j) = some (.bool (decide (j < i))) := rfl
theorem o_ge : oGe (.int i) (.int j) = some (.bool (decide (j ≤ i))) := rfl
theorem o_pow18 : oPow (.int 10) (.int 18) = some (.int 1000000000000000000) := rfl
theorem o_pow15 : oPow (.int 10) (.int 15) = some (.int 1000000000000000) := rfl
theorem o_pow9 : oPow (.int 10) (.int 9) = some (.int 1000000000) := rfl
theorem o_pow6 : oPow (.int 10) (.int 6) = some (.int 1000000) := rfl
theorem o_max : oMax [.int i, .int j] = some (.int (max i j)) := rfl
theorem o_min : oMin [.int i, .int j] = some (.int (min i j)) := rfl
theorem o_lenL : oLen [.list ds] = some (.int ds.length) := rfl
theorem o_lenT : oLen [.tuple ds] = some (.int ds.length) := rfl
theorem o_eq : oEq (.int i) (.int j) = some (.bool (decide (i = j))) := by
  show some (PyData.bool (i == j)) = _
  rw [Bool.beq_eq_decide_eq]
theorem o_ne : oNe (.int i) (.int j) = some (.bool (!decide (i = j))) := by
  show some (PyData.bool (!(i == j))) = _
  rw [Bool.beq_eq_decide_eq]
theorem bMul_l (h1 : -18446744073709551616 < i) (h2 : i < 18446744073709551616) : bMul i j = true := decide_eq_true (.inl ⟨h1, h2⟩)
theorem bMul_r (h1 : -18446744073709551616 < j) (h2 : j < 18446744073709551616) : bMul i j = true := decide_eq_true (.inr ⟨h1, h2⟩)
theorem bDiv_of (h1 : 0 < j) (h2 : j < 1267650600228229401496703205376) : bDiv j = true := decide_eq_true ⟨h1, h2⟩
theorem ev_b (h : f δ = M.ret (.bool b)) : dB f δ = M.ret b := by unfold dB; rw [h]; rfl
theorem ev_not (h : fb δ = M.ret b) : dNot fb δ = M.ret (!b) := by unfold dNot; rw [h]; rfl
theorem ev_and (h1 : fb δ = M.ret b1) (h2 : gb δ = M.ret b2) : dAnd fb gb δ = M.ret (b1 && b2) := by
  unfold dAnd; rw [h1, thn_ret, h2]; cases b1 <;> rfl
theorem ev_or (h1 : fb δ = M.ret b1) (h2 : gb δ = M.ret b2) : dOr fb gb δ = M.ret (b1 || b2) := by
  unfold dOr; rw [h1, thn_ret, h2]; cases b1 <;> rfl
theorem ev_or_f (h1 : fb δ = M.ret false) (h2 : gb δ = M.ret b) : dOr fb gb δ = M.ret b := by unfold dOr; rw [h1, thn_ret, if_neg Bool.false_ne_true]; exact h2
theorem ev_and_f (h1 : fb δ = M.ret false) : dAnd fb gb δ = M.ret false := by unfold dAnd; rw [h1]; rfl
theorem ev_and_t (h1 : fb δ = M.ret true) (h2 : gb δ = M.ret b) : dAnd fb gb δ = M.ret b := by unfold dAnd; rw [h1, thn_ret, if_pos rfl]; exact h2
theorem ev_notV (h : f δ = M.ret (.bool b)) : dNotV f δ = M.ret (.bool (!b)) := by unfold dNotV; rw [ev_b h]; rfl
theorem ev_andV (h1 : f δ = M.ret (.bool b1)) (h2 : g δ = M.ret (.bool b2)) : dAndV f g δ = M.ret (.bool (b1 && b2)) := by
  unfold dAndV; rw [ev_b h1, thn_ret, h2]; cases b1 <;> rfl
theorem ev_orV (h1 : f δ = M.ret (.bool b1)) (h2 : g δ = M.ret (.bool b2)) : dOrV f g δ = M.ret (.bool (b1 || b2)) := by
  unfold dOrV; rw [ev_b h1, thn_ret, h2]; cases b1 <;> rfl
theorem ev_andV_f (h1 : f δ = M.ret (.bool false)) : dAndV f g δ = M.ret (.bool false) := by unfold dAndV; rw [ev_b h1]; rfl
theorem ev_andV_t (h1 : f δ = M.ret (.bool true)) (h2 : g δ = M.ret d) : dAndV f g δ = M.ret d := by unfold dAndV; rw [ev_b h1, thn_ret, if_pos rfl]; exact h2
theorem ev_is {T : String} (h : f δ = M.ret d) (hi : noIns d = true := by rfl) : dIs T f δ = M.ret (.bool (isD T d)) := by unfold dIs; rw [h, thn_ret, if_pos hi]
theorem ev_nil : dNil δ = M.ret [] := rfl
theorem ev_cons (h1 : f δ = M.ret x) (h2 : fa δ = M.ret xs) : dCons f fa δ = M.ret (x :: xs) := by unfold dCons; rw [h1, thn_ret, h2]; rfl
theorem ev_tup (h : fa δ = M.ret ds) (hz : small ds.length = true) : dTup fa δ = M.ret (.tuple ds) := by unfold dTup; rw [h, thn_ret, if_pos hz]
theorem ev_lst (h : fa δ = M.ret ds) (hz : small ds.length = true) : dLst fa δ = M.ret (.list ds) := by unfold dLst; rw [h, thn_ret, if_pos hz]
theorem ev_cb {h : List D → Option D} (h1 : fa δ = M.ret ds) (h2 : h ds = some d) : dCB h fa δ = M.ret d := by unfold dCB; rw [h1, thn_ret, h2]; rfl
theorem ev_call {F : List D → M D} (h1 : fa δ = M.ret ds) (h2 : F ds = M.ret d) : dCall (fun ds => noX (F ds)) fa δ = M.ret d := by
  unfold dCall; rw [h1, thn_ret, h2]; rfl
theorem ev_cut {fl fh : DS → M (Option Int)} {lo hi : Option Int} (h1 : f δ = M.ret x) (h2 : fl δ = M.ret lo) (h3 : fh δ = M.ret hi) (h4 : oCut lo hi x = some d) : dCut f fl fh δ = M.ret d := by
  unfold dCut; rw [h1, thn_ret, h2, thn_ret, h3, thn_ret, h4]; rfl
theorem ev_part (h : f δ = M.ret (.int i)) : dPart f δ = M.ret (some i) := by unfold dPart; rw [h]; rfl
theorem ev_nopart : dNoPart δ = M.ret none := rfl
theorem ev_if (h1 : fb δ = M.ret b) {r : M D} (h2 : (if b = true then f δ else g δ) = r) : dIf fb f g δ = r := by unfold dIf; rw [h1]; exact h2
/-! statements -/
theorem ev_seq (h1 : gs δ = M.ret (.nx δ')) (h2 : gt δ' = r) : gSeq gs gt δ = r := by unfold gSeq; rw [h1]; exact h2
theorem ev_seqR (h1 : gs δ = M.ret (.rt d)) : gSeq gs gt δ = M.ret (.rt d) := by unfold gSeq; rw [h1]; rfl
theorem ev_seqIf (h1 : fb δ = M.ret b) (h2 : (if b = true then gSeq g1 gt δ else gSeq g2 gt δ) = r) : gSeq (gIf fb g1 g2) gt δ = r := by
  unfold gSeq gIf; rw [h1, thn_ret]; unfold gSeq at h2; cases b <;> exact h2
theorem ev_ifS (h1 : fb δ = M.ret b) (h2 : (if b = true then g1 δ else g2 δ) = r) : gIf fb g1 g2 δ = r := by unfold gIf; rw [h1]; exact h2
theorem ev_next : gNext δ = M.ret (.nx δ) := rfl
theorem ev_seqN (h : gt δ = r) : gSeq gNext gt δ = r := h
theorem ev_asg {n : Nat} (h : f δ = M.ret d) : gAsg f (tgN n) δ = M.ret (.nx (δ.set n (.vl d))) := by unfold gAsg; rw [h]; rfl
theorem ev_asgT {t : D → DS → Option DS} (h : f δ = M.ret d) (h2 : t d δ = some δ') : gAsg f t δ = M.ret (.nx δ') := by unfold gAsg; rw [h, thn_ret, h2]; rfl
theorem ev_ret (h : f δ = M.ret d) : gRet f δ = M.ret (.rt d) := by unfold gRet; rw [h]; rfl
theorem ev_run {n : Nat} (h : gs (startD n ds) = M.ret (.rt d)) : run n gs ds = M.ret d := by unfold run; rw [h]; rfl
theorem ite_t {α : Type} {p : Prop} [Decidable p] {A B r : α} (h : p) (k : A = r) : (if decide p = true then A else B) = r := by rw [if_pos (decide_eq_true h)]; exact k
theorem ite_f {α : Type} {p : Prop} [Decidable p] {A B r : α} (h : ¬ p) (k : B = r) : (if decide p = true then A else B) = r := by rw [if_neg (by rw [decide_eq_false h]; exact Bool.false_ne_true)]; exact k
theorem ite_T {α : Type} {A B r : α} {b : Bool} (h : b = true) (k : A = r) : (if b = true then A else B) = r := by rw [if_pos h]; exact k
theorem ite_F {α : Type} {A B r : α} {b : Bool} (h : b = false) (k : B = r) : (if b = true then A else B) = r := by rw [h, if_neg Bool.false_ne_true]; exact k
theorem ev_body {t : D → DS → Option DS} (h1 : t d δ = some δ') (h2 : gs δ' = r) : bodyD t gs d δ = r := by unfold bodyD; rw [h1]; exact h2
/-- an item of a list at a place within -/
theorem ix_in {ds : List D} {i : Int} (h0 : 0 ≤ i) (h1 : i < ds.length) : ∃ d, d ∈ ds ∧ oIx (.list ds) (.int i) = some d := by
  have hl : i.toNat < ds.length := by omega
  refine ⟨ds[i.toNat], List.getElem_mem hl, ?_⟩
  show L2.atI ds i = _
  unfold L2.atI L2.ixN
  rw [if_pos h0, if_pos h1]
  show ds[i.toNat]? = _
  rw [List.getElem?_eq_getElem hl]
end
end DL
/-! A COMPREHENSION of one clause without tests, whose element names no local of the def -/
namespace L2
open PySem PySem.Spec PyProof.Rows
def compEnv (scope : Scope) (C : Addr) (env : Env) : Env := { scope := scope, locals := C, globals := env.globals, cells := [], qual := env.qual, func := none, code := env.code, frame := env.frame, builtins := env.builtins }
/-- the context of a comprehension's block -/
def compCx (X : Cx) (scope : Scope) (x : Str) (C : Addr) (s3 : Shared) (H3 : Hp) (fp : List Addr) : Cx where
  prog := X.prog
  w := X.w
  K := X.K
  mg := X.mg
  base := X.base
  A := X.A
  N := [x]
  s₀ := s3
  H₀ := H3
  env := compEnv scope C X.env
  outer := X.stack
  stack := X.stack
  ex := fp
  fn := fun _ => false
  calm := X.calm
  pn := []
  xe := fun _ _ => False
def tComp (wi : TI) (te : TE) : TE := fun σ H Q => wi σ H fun J H1 => ∀ l, H1 l = none → ∃ W : Nat → Nat → List V → Hp → Prop, (∃ m, W 0 m [] (upd H1 l (.lst []))) ∧
  ∀ i m xs H2, W i m xs H2 → H2 l = some (.lst xs) ∧ ((J.stop i H2 ∧ Q (.ref l) H2) ∨ (J.go i H2 ∧ xs.length < sizeLine ∧ ∀ x H3, J.yld i H2 x H3 → te [some x] H3 fun v H4 => H4 l = some (.lst xs) ∧ ∃ m', m' < m ∧ W (i + 1) m' (xs ++ [v]) (upd H4 l (.lst (xs ++ [v])))))
section
variable {X : Cx}
end
end L2

namespace DL
open PySem PySem.Spec PyProof.Rows L2
/-- the reading that a run asks for -/
def tD (K : PySem.W.Frag) (G : XD → Hp → Prop) (f : DS → M D) : TE := fun σ H Q => ∃ Hr δ O, Ev K Hr O H σ δ ∧ ok (GS G Hr) (f δ) (fun d => ∀ v H', Same H H' → Rep K O H' v d → Q v H')
theorem PD.can {X : Cx} {G : XD → Hp → Prop} {e : Expr} {f : DS → M D} (h : PD X G e f) : PE X e (tD X.K G f) := by
  obtain ⟨t, p, h⟩ := h
  intro pins s σ H Q I hw
  obtain ⟨Hr, δ, O, E, k⟩ := hw
  exact p pins s σ H Q I (h δ O σ H Q E k)
def mapD (f : D → M D) : List D → M (List D)
  | [] => M.ret []
  | x :: xs => (f x).thn fun y => (mapD f xs).thn fun ys => M.ret (y :: ys)
def dComp (fi f : DS → M D) : DS → M D := fun δ => (fi δ).thn fun d => (M.lift (seqD d)).thn fun ds => if small ds.length then (mapD (fun x => noX (f [.vl x])) ds).thn fun ys => M.ret (.list ys) else none
section
variable {K : PySem.W.Frag} {G : XD → Prop} {f : DS → M D}
/-- all but the list at l stays -/
def Kp (l : Addr) (H H' : Hp) : Prop := ∀ b o, b ≠ l → H b = some o → H' b = some o
theorem Kp.to {O : List Addr} {H H' : Hp} {l : Addr} (k : Kp l H H') (hl : H l = none) : To O (l :: O) H H' := by
  have rd : ∀ {b : Addr} {o : HO}, Rd H b o → Rd H' b o := fun {b o} h => by
    have hb := Rd.ne_new h hl
    rcases h with h | ⟨u, h⟩
    · exact .inl (k _ _ hb h)
    · exact .inr ⟨u, k _ _ hb h⟩
  have no : ∀ {b : Addr} {o : HO}, b ∉ O → Rd H b o → b ∉ l :: O := fun {b o} n h z => by
    rcases List.mem_cons.mp z with z | z
    · exact Rd.ne_new h hl z
    · exact n z
  exact ⟨fun b xs h => rd h, fun b xs n h => ⟨no n h, rd h⟩, fun b xs n h => ⟨no n h, rd h⟩, fun b C dx fs n h => ⟨no n (.inl h), k _ _ (ne_of_none h hl) h⟩⟩
theorem Kp.same {H H' : Hp} {l : Addr} (k : Kp l H H') (hl : H l = none) : Same H H' := fun b o e => k b o (ne_of_none e hl) e
end
section
variable {X : Cx} {G : XD → Hp → Prop} {fi f : DS → M D}
/-! ### all, any of a list of bools -/
def bools : List D → Option (List Bool)
  | [] => some []
  | .bool b :: r => (bools r).map (b :: ·)
  | _ => none
theorem bools_get : ∀ {ds : List D} {bs : List Bool}, bools ds = some bs → ds = bs.map PyData.bool
  | [], bs, h => by cases h; rfl
  | .bool b :: r, bs, h => by
    have h : (bools r).map (b :: ·) = some bs := h
    cases e : bools r with
    | none => rw [e] at h; cases h
    | some cs => rw [e] at h; cases h; rw [bools_get e]; rfl
theorem reps_bools {K : PySem.W.Frag} {O : List Addr} {H : Hp} : ∀ {bs : List Bool} {vs : List V}, Reps K O H vs (bs.map PyData.bool) → vs = bs.map V.bl
  | [], _, .nil => rfl
  | b :: bs, _, .cons r rs => by rw [r.bool_inv, reps_bools rs]; rfl
theorem call_allL (hc : X.calm = true) : CallR X (.builtin "all") (fun xs H Q => ∃ (p : Addr) (bs : List Bool), xs = [.ref p] ∧ SqL X.K H p (bs.map V.bl) ∧ Q (.bl (bs.all id)) H) := by
  intro pins s σ H xs us Q I r h
  obtain ⟨l, bs, rfl, hq, q⟩ := h
  obtain ⟨u, rfl, rx⟩ := vals1 r
  cases rx
  obtain ⟨its, rv, pl, hz⟩ := I.list hq
  have hl := pl.isList
  have hlt : l < s.heap.objs.size := by obtain ⟨_, e, _⟩ := hl; exact Heap.lt_size e
  have hlen : its.length = bs.length := by rw [← rv.length, List.length_map]
  refine call_all_walk (wpAny_pyIter_list hl ?_)
  refine ⟨s.heap.objs.size, [s.heap.objs.size, l], [s.heap.objs.size], its.toArray.size, _, _, fun i => (bs[i]?).getD true, rfl, Walks.list (A := X.A.in1) (I.ok.hd hc) _ l (Nat.ne_of_lt hlt) its.toArray,
    ⟨⟨_, Heap.get?_push_size _ rfl, rfl, rfl⟩, hl.push _⟩, fun i v s' Q' E' hP hQ => ?_, fun h' tk hk => ?_⟩
  · have hv : its[i]? = some v := by simpa using hP
    have hi : i < bs.length := by rw [← hlen]; exact (List.getElem?_eq_some_iff.mp hv).1
    obtain ⟨w', e1, e2⟩ := rv.get (i := i) (x := V.bl bs[i]) (by rw [List.getElem?_map, List.getElem?_eq_getElem hi]; rfl)
    rw [hv] at e1
    cases e1
    cases (show v = Value.bool bs[i] from e2)
    dsimp only at hQ
    rw [List.getElem?_eq_getElem hi] at hQ
    exact wpAny_truthy_bool hQ
  · have e : ((List.range its.toArray.size).all fun i => (bs[i]?).getD true) = bs.all id := by
      rw [List.size_toArray, hlen]; exact LSm.range_all bs
    rw [e]
    exact ⟨.bl _, H, I.kept fun b o e => LSm.kept_iter hk b o e, rfl, q⟩
def oAll : List D → Option D
  | [.list ds] => (bools ds).map fun bs => .bool (bs.all id)
  | _ => none
theorem dcall_all (hc : X.calm = true) : DCall X (.builtin "all") oAll := by
  refine ⟨_, call_allL hc, fun O H ds d vs Q oo rs e k => ?_⟩
  unfold oAll at e
  split at e
  · rename_i es
    cases e1 : bools es with
    | none => rw [e1] at e; cases e
    | some bs =>
      rw [e1] at e
      cases e
      obtain ⟨v, rfl, r⟩ := reps1 rs
      obtain ⟨p, xs, rfl, h1, rx⟩ := r.lst_inv
      rw [bools_get e1] at rx
      rw [reps_bools rx] at h1
      exact ⟨p, bs, rfl, h1, k _ H (Same.refl H) (.bl _)⟩
  · cases e
end
section
variable {δ : DS} {fi f : DS → M D} {x y : D} {ds ys : List D}
end
end DL
/-! A COMPREHENSION whose element names locals of the def: fr, their places and names; cl, their cells -/
namespace L2
open PySem PySem.Spec PyProof.Rows
def compCxF (X : Cx) (scope : Scope) (cl : List (Str × Addr)) (fr : List (Nat × Str)) (x : Str) (C : Addr) (s3 : Shared) (H3 : Hp) (fp : List Addr) : Cx where
  prog := X.prog
  w := X.w
  K := X.K
  mg := X.mg
  base := X.base
  A := X.A
  N := x :: fr.map (·.2)
  s₀ := s3
  H₀ := H3
  env := compEnvC scope cl C X.env
  outer := X.stack
  stack := X.stack
  ex := fp
  fn := fun _ => false
  calm := X.calm
  pn := []
  xe := fun _ _ => False
def tCompF (fr : List (Nat × Str)) (wi : TI) (te : TE) : TE := fun σ H Q => wi σ H fun J H1 => ∀ l, H1 l = none → ∃ W : Nat → Nat → List V → Hp → Prop, (∃ m, W 0 m [] (upd H1 l (.lst []))) ∧
  ∀ i m xs H2, W i m xs H2 → H2 l = some (.lst xs) ∧ ((J.stop i H2 ∧ Q (.ref l) H2) ∨ (J.go i H2 ∧ xs.length < sizeLine ∧ ∀ x H3, J.yld i H2 x H3 → te (some x :: fr.map fun p => (σ[p.1]?).join) H3 fun v H4 => H4 l = some (.lst xs) ∧ ∃ m', m' < m ∧ W (i + 1) m' (xs ++ [v]) (upd H4 l (.lst (xs ++ [v])))))
section
variable {X : Cx}
end
end L2

namespace DL
open PySem PySem.Spec PyProof.Rows L2
def slotAt (δ : DS) (j : Nat) : Sl := match δ[j]? with
  | some (.vl d) => .vl d
  | _ => .un
def dCompF (js : List Nat) (fi f : DS → M D) : DS → M D := fun δ => (fi δ).thn fun d => (M.lift (seqD d)).thn fun ds => if small ds.length then (mapD (fun x => noX (f (.vl x :: js.map (slotAt δ)))) ds).thn fun ys => M.ret (.list ys) else none
section
variable {K : PySem.W.Frag} {G : XD → Prop} {f : DS → M D}
end
section
variable {X : Cx} {G : XD → Hp → Prop} {fi f : DS → M D}
end
section
variable {δ : DS} {fi f : DS → M D} {x : D} {ds ys : List D} {js : List Nat}
end
end DL
/-! LISTS that a def builds: x = [], x.append(e), return x; and x read from now on as a value -/
namespace DL
open PySem PySem.Spec PyProof.Rows L2
section
variable {X : Cx} {G : XD → Hp → Prop} {a b c e : Expr} {f : DS → M D} {pos pos' : Pos} {sts : List Stmt} {gs : DS → M Out}
variable {K : PySem.W.Frag} {Hr : Hp} {R0 : List Addr} {P0 : Addr → Prop} {H0 H H' : Hp} {O : List Addr} {σ : St} {δ : DS}
/-- the slots behind a change of the heap that leaves what they lean on -/
theorem SlOk.to {O' : List Addr} {o : Option (Option V)} {s : Sl} (t : To O O' H H') (hd : ∀ l kvs, l ∈ O → H l = some (.dK kvs) → l ∈ O' ∧ H' l = some (.dK kvs)) (hs : ∀ l xs, l ∈ O → H l = some (.lst xs) → o = some (some (.ref l)) → (∃ ds, s = .ow ds) → l ∈ O' ∧ H' l = some (.lst xs)) (h : SlOk K O H o s) : SlOk K O' H' o s := by
  cases s with
  | un => trivial
  | ex a => exact h
  | vl d =>
    obtain ⟨v, h1, r⟩ := h
    exact ⟨v, h1, r.to t⟩
  | ow ds =>
    obtain ⟨l, xs, h1, h2, h3, r⟩ := h
    obtain ⟨q1, q2⟩ := hs l xs h2 h3 h1 ⟨ds, rfl⟩
    exact ⟨l, xs, h1, q1, q2, r.to t⟩
  | od es =>
    obtain ⟨l, kvs, h1, h2, h3, hk, r⟩ := h
    obtain ⟨q1, q2⟩ := hd l kvs h2 h3
    exact ⟨l, kvs, h1, q1, q2, hk, r.to t⟩
theorem hd_new {l : Addr} {o : HO} (hl : H l = none) : ∀ a kvs, a ∈ O → H a = some (.dK kvs) → a ∈ l :: O ∧ upd H l o a = some (.dK kvs) := fun a kvs h1 h2 => ⟨List.mem_cons_of_mem _ h1, by rw [upd_ne (ne_of_none h2 hl)]; exact h2⟩
theorem hd_set {l : Addr} {xs : List V} {o : HO} (hl : H l = some (.lst xs)) : ∀ a kvs, a ∈ O → H a = some (.dK kvs) → a ∈ O ∧ upd H l o a = some (.dK kvs) := fun a kvs h1 h2 => ⟨h1, by rw [upd_ne (ne_of h2 hl (by intro z; cases z))]; exact h2⟩
theorem EI.new {i : Nat} {l : Addr} (E : EI K Hr R0 P0 H0 O H σ δ) (hl : H l = none) : EI K Hr R0 P0 H0 (l :: O) (upd H l (.lst [])) (σ.set i (some (.ref l))) (δ.set i (.ow [])) := by
  have nO : l ∉ O := nin E.ev.oo hl
  have tO : To O (l :: O) H (upd H l (.lst [])) := To.own hl
  refine ⟨⟨fun b o h => by have q := E.ev.root b o h; rw [upd_ne (ne_of_none q hl)]; exact q, fun a ha => ?_, by rw [List.length_set, List.length_set]; exact E.ev.len, fun j s h => ?_, fun j k a ds es hjk h1 h2 h3 h4 => ?_⟩, fun a ha => ?_, fun b o n h => ?_, fun a ha => ?_, fun j ds a h1 ho h2 => ?_, fun a ha => List.mem_cons_of_mem _ (E.sub a ha)⟩
  · rcases List.mem_cons.mp ha with rfl | ha
    · exact .lst upd_same
    · exact (E.ev.oo a ha).new hl
  · rw [get_set] at h ⊢
    by_cases hij : i = j
    · rw [if_pos hij] at h ⊢
      by_cases hz : i < δ.length
      · rw [if_pos hz] at h
        rw [if_pos (by rw [E.ev.len]; exact hz)]
        cases h
        exact ⟨l, [], rfl, List.mem_cons_self, upd_same, .nil⟩
      · rw [if_neg hz] at h; cases h
    · rw [if_neg hij] at h ⊢
      exact (E.ev.at_ j s h).to tO (hd_new hl) fun a xs h1 h2 _ _ => ⟨List.mem_cons_of_mem _ h1, by rw [upd_ne (ne_of_none h2 hl)]; exact h2⟩
  · rw [get_set] at h1 h2 h3 h4
    by_cases hij : i = j
    · rw [if_pos hij] at h1 h3
      have ha : a = l := by
        split at h3
        · cases h3; rfl
        · cases h3
      have hik : ¬ i = k := fun z => hjk (hij.symm.trans z)
      rw [if_neg hik] at h2 h4
      obtain ⟨l', xs, q1, q2, q3, _⟩ := E.ev.at_ k _ h2
      rw [h4] at q1
      cases q1
      rw [ha] at q2
      exact nO q2
    · rw [if_neg hij] at h1 h3
      by_cases hik : i = k
      · rw [if_pos hik] at h4
        have ha : a = l := by
          split at h4
          · cases h4; rfl
          · cases h4
        obtain ⟨l', xs, q1, q2, q3, _⟩ := E.ev.at_ j _ h1
        rw [h3] at q1
        cases q1
        rw [ha] at q2
        exact nO q2
      · rw [if_neg hik] at h2 h4
        exact E.ev.dis j k a ds es hjk h1 h2 h3 h4
  · rcases List.mem_cons.mp ha with rfl | ha
    · refine .inr ?_
      cases q : Hr a with
      | none => rfl
      | some o =>
        rw [E.ev.root a o q] at hl
        cases hl
    · exact E.omr a ha
  · have q := E.keep b o n h
    rw [upd_ne (ne_of_none q hl)]
    exact q
  · rcases List.mem_cons.mp ha with rfl | ha
    · by_cases hp : P0 a
      · exact .inr (.inl hp)
      · refine .inr (.inr ?_)
        cases q : H0 a with
        | none => rfl
        | some o =>
          rw [E.keep a o hp q] at hl
          cases hl
    · exact E.om a ha
  · rw [get_set] at h1 h2
    by_cases hij : i = j
    · rw [if_pos hij] at h2
      have ha : a = l := by
        split at h2
        · cases h2; rfl
        · cases h2
      rw [ha]
      exact fun z => nO (E.sub l z)
    · rw [if_neg hij] at h1 h2
      exact E.nr1 j ds a h1 ho h2
def gNew (i : Nat) : DS → M Out := fun δ => M.ret (.nx (δ.set i (.ow [])))
theorem EI.app {i : Nat} {l : Addr} {xs : List V} {ds : List D} {v : V} {d : D} (E : EI K Hr R0 P0 H0 O H σ δ) (hd : δ[i]? = some (.ow ds)) (hσ : σ[i]? = some (some (.ref l))) (hl : H l = some (.lst xs)) (rx : Reps K O H xs ds) (r : Rep K O H v d) :
    EI K Hr R0 P0 H0 O (upd H l (.lst (xs ++ [v]))) σ (δ.set i (.ow (ds ++ [d]))) := by
  obtain ⟨l', xs', q1, lO, q3, _⟩ := E.ev.at_ i _ hd
  rw [hσ] at q1
  cases q1
  have tO : To O O H (upd H l (.lst (xs ++ [v]))) := To.set hl lO
  refine ⟨⟨fun b o h => ?_, fun a ha => ?_, by rw [List.length_set]; exact E.ev.len, fun j s h => ?_, fun j k a es es' hjk h1 h2 h3 => ?_⟩, E.omr, fun b o n h => ?_, E.om, fun j es a h1 ho h2 => ?_, E.sub⟩
  · have q := E.ev.root b o h
    have hne : b ≠ l := fun z => by
      subst z
      rcases E.omr b lO with w | w
      · exact E.nr i ds b hd hσ w
      · rw [h] at w; cases w
    rw [upd_ne hne]
    exact q
  · by_cases hb : a = l
    · rw [hb]; exact .lst upd_same
    · exact (E.ev.oo a ha).upd_ne hb
  · rw [get_set] at h
    by_cases hij : i = j
    · rw [if_pos hij] at h
      split at h
      · cases h
        rw [← hij, hσ]
        exact ⟨l, _, rfl, lO, upd_same, (rx.to tO).append (.cons (r.to tO) .nil)⟩
      · cases h
    · rw [if_neg hij] at h
      refine (E.ev.at_ j s h).to tO (hd_set hl) fun a ys h1 h2 h3 h4 => ⟨h1, ?_⟩
      obtain ⟨es, rfl⟩ := h4
      have hne : a ≠ l := fun z => by
        subst z
        exact E.ev.dis i j a ds es hij hd h hσ h3
      rw [upd_ne hne]
      exact h2
  · have old : ∀ (j : Nat) (es : List D), (δ.set i (.ow (ds ++ [d])))[j]? = some (.ow es) → ∃ es', δ[j]? = some (.ow es') := fun j es h => by
      rw [get_set] at h
      by_cases hij : i = j
      · rw [← hij]; exact ⟨ds, hd⟩
      · rw [if_neg hij] at h; exact ⟨es, h⟩
    obtain ⟨e1, h1⟩ := old j es h1
    obtain ⟨e2, h2⟩ := old k es' h2
    exact E.ev.dis j k a e1 e2 hjk h1 h2 h3
  · have q := E.keep b o n h
    have hne : b ≠ l := fun z => by
      subst z
      rcases E.om b lO with w | w | w
      · exact E.nr i ds b hd hσ w
      · exact n w
      · rw [h] at w; cases w
    rw [upd_ne hne]
    exact q
  · rw [get_set] at h1
    by_cases hij : i = j
    · exact E.nr i ds a hd (by rw [hij]; exact h2)
    · rw [if_neg hij] at h1
      exact E.nr1 j es a h1 ho h2
def gApp (i : Nat) (f : DS → M D) : DS → M Out := fun δ => match δ[i]? with
  | some (.ow ds) => (f δ).thn fun d => if small (ds.length + 1) then M.ret (.nx (δ.set i (.ow (ds ++ [d])))) else none
  | _ => none
theorem small_lt {n : Nat} (h : small (n + 1) = true) : n < sizeLine := by
  have := small_le h
  omega
def gRetO (i : Nat) : DS → M Out := fun δ => match δ[i]? with
  | some (.ow ds) => M.ret (.rt (.list ds))
  | _ => none
/-- from now on a value -/
def frz (i : Nat) (δ : DS) : DS := match δ[i]? with
  | some (.ow ds) => δ.set i (.vl (.list ds))
  | _ => δ
theorem EI.frz {i : Nat} (E : EI K Hr R0 P0 H0 O H σ δ) : ∃ O', EI K Hr R0 P0 H0 O' H σ (DL.frz i δ) := by
  unfold DL.frz
  split
  · rename_i ds hd
    obtain ⟨l, xs, q1, q2, q3, q4⟩ := E.ev.at_ i _ hd
    have nr := E.nr i ds l hd q1
    refine ⟨O.filter (fun a => decide (a ≠ l)), ⟨E.ev.root, fun a ha => E.ev.oo a (List.mem_filter.mp ha).1, by rw [List.length_set]; exact E.ev.len, fun j s h => ?_, fun j k a es es' hjk h1 h2 h3 => ?_⟩, fun a ha => E.omr a (List.mem_filter.mp ha).1, E.keep, fun a ha => E.om a (List.mem_filter.mp ha).1, fun j es a h1 ho h2 => ?_, fun a ha => ?_⟩
    · have tl : To O (O.filter (fun a => decide (a ≠ l))) H H := To.less fun b hb => (List.mem_filter.mp hb).1
      rw [get_set] at h
      by_cases hij : i = j
      · rw [if_pos hij] at h
        split at h
        · cases h
          rw [← hij, q1]
          exact ⟨.ref l, rfl, .lst (.inl q3) (fun z => absurd rfl (of_decide_eq_true (List.mem_filter.mp z).2)) (q4.to tl)⟩
        · cases h
      · rw [if_neg hij] at h
        refine (E.ev.at_ j s h).to tl (fun a kvs h1 h2 => ⟨List.mem_filter.mpr ⟨h1, decide_eq_true (ne_of h2 q3 (by intro z; cases z))⟩, h2⟩) fun a ys h1 h2 h3 h4 => ⟨List.mem_filter.mpr ⟨h1, decide_eq_true fun z => ?_⟩, h2⟩
        obtain ⟨es, rfl⟩ := h4
        subst z
        exact E.ev.dis i j a ds es hij hd h q1 h3
    · have old : ∀ (j : Nat) (es : List D), (δ.set i (.vl (.list ds)))[j]? = some (.ow es) → δ[j]? = some (.ow es) := fun j es h => by
        rw [get_set] at h
        by_cases hij : i = j
        · rw [if_pos hij] at h
          split at h <;> cases h
        · rw [if_neg hij] at h; exact h
      exact E.ev.dis j k a es es' hjk (old j es h1) (old k es' h2) h3
    · rw [get_set] at h1
      by_cases hij : i = j
      · rw [if_pos hij] at h1
        split at h1
        · cases h1; exact ho.elim
        · cases h1
      · rw [if_neg hij] at h1
        exact E.nr1 j es a h1 ho h2
    · exact List.mem_filter.mpr ⟨E.sub a ha, decide_eq_true fun z => nr (z ▸ ha)⟩
  · exact ⟨O, E⟩
def gFrz (i : Nat) (g : DS → M Out) : DS → M Out := fun δ => g (frz i δ)
end
/-! ### t < u of tuples of ints -/
def intsOf : List D → Option (List Int)
  | [] => some []
  | .int i :: r => (intsOf r).map (i :: ·)
  | _ => none
/-- x < y: ints, tuples of ints -/
def oLtD : D → D → Option D
  | .int i, .int j => some (.bool (decide (i < j)))
  | .tuple xs, .tuple ys => (intsOf xs).bind fun ns => (intsOf ys).map fun ms => .bool (HT.lexLt ns ms)
  | _, _ => none
theorem o_ltD {i j : Int} : oLtD (.int i) (.int j) = some (.bool (decide (i < j))) := rfl
/-! ### the premises of a comprehension that names locals -/
theorem hhas_of {names : List (Str × NameKind)} {cl : List (Str × Addr)} (h : names.all (fun y => !(y.2 == .cell || y.2 == .free) || (cl.lookup y.1).isSome) = true) : ∀ y ∈ names, (y.2 = .cell ∨ y.2 = .free) → ∃ c, cl.lookup y.1 = some c := fun y hy hk => by
  have q := List.all_eq_true.mp h y hy
  have k : (y.2 == NameKind.cell || y.2 == NameKind.free) = true := by
    rcases hk with e | e <;> rw [e] <;> rfl
  rw [k] at q
  exact Option.isSome_iff_exists.mp (by simpa using q)
section
variable {X : Cx} {scope : Scope} {cl : List (Str × Addr)}
theorem fr_nil : ∀ p ∈ ([] : List (Nat × Str)), X.N[p.1]? = some p.2 ∧ X.env.kindOf p.2 = some .cell ∧ (compEnvC scope cl 0 X.env).kindOf p.2 = some .cell ∧ ∃ c, cl.lookup p.2 = some c := fun p hp => nomatch hp
end
/-! ### evaluation: built lists, loops by what they have taken -/
section
variable {δ δ' : DS} {f : DS → M D} {d : D} {ds : List D} {r : M Out} {g : DS → M Out}
theorem ix_nat {ds : List D} {i : Int} {d : D} (h0 : 0 ≤ i) (h : ds[i.toNat]? = some d) : oIx (.list ds) (.int i) = some d := by
  have e := L2.atI_nat h
  rw [Int.toNat_of_nonneg h0] at e
  exact e
theorem small_of {n : Nat} (h : n ≤ 16000000) : small n = true := decide_eq_true h
end
end DL
/-! EXCEPTIONS: an own class without __init__, raised in a def, passed on by its callers -/
namespace L2
open PySem PySem.Spec PyProof.Rows
/-- the class as it stands -/
theorem exc_obj {K : PySem.W.Frag} {h : Heap} {C : Addr} {bmB : List Value} {newId : String} (X : K.In h) (q : PySem.W.excIn K C bmB newId = true) :
    ∃ bm N nm qn bs hdct sn sub ab col dd k0 k1 k2 k3 k5 mN, h.get? C = some (excClassObj nm qn C N bs bm hdct sn sub ab col dd k0 k1 k2 k3 k5 newId) ∧ h.Ns N mN ∧ mN ("__init__" : Str) = none ∧ OwnTail h bmB bm := by
  unfold PySem.W.excIn at q
  split at q
  · rename_i dd cd sl ho
    split at q
    · rename_i C' bm k0 k1 k2 k3 n k5 hm hs
      simp only [Bool.and_eq_true, beq_iff_eq, Bool.not_eq_true'] at q
      obtain ⟨⟨⟨⟨⟨rfl, rfl⟩, hdel⟩, ht⟩, hn⟩, hi⟩ := q
      obtain ⟨nm, bs, mro, ns, qn, hd, sn, sub, ab, col, del⟩ := cd
      dsimp only at hm hdel hn hi
      subst hm hdel
      have hsl : sl = #[k0, k1, k2, k3, some (.builtin n), k5] := by
        cases sl
        simp only at hs
        rw [hs]
      subst hsl
      exact ⟨bm, ns, nm, qn, bs, hd, sn, sub, ab, col, dd, k0, k1, k2, k3, k5, _, X _ _ ho, .of_isNs (PySem.W.isNs_of_in X hn), PySem.W.nsMap_none_of_in X hn hi, PySem.W.tail_of_in X ht⟩
    · cases q
  · cases q
theorem obj_get {P : Program} {w : World} {H : Hp} {h : Heap} {a : Addr} {o : HO} (x : ObjOk P w H h a o) : ∃ ob, h.get? a = some ob := by
  cases o with
  | lst xs => obtain ⟨_, _, _, _, e⟩ := x; exact ⟨_, e⟩
  | tup xs => obtain ⟨_, _, _, ob, e, _⟩ := x; exact ⟨_, e⟩
  | dK kvs => obtain ⟨_, _, _, _, o, _, _, e, _⟩ := x; exact ⟨_, e⟩
  | dT kvs => obtain ⟨_, _, _, _, o, _, _, e, _⟩ := x; exact ⟨_, e⟩
  | set S n => obtain ⟨o, _, _, _, e, _⟩ := x; exact ⟨_, e⟩
  | ins C dx fs => obtain ⟨_, _, _, e, _⟩ := x; exact ⟨_, e⟩
  | own y => obtain ⟨_, e⟩ := x; exact ⟨_, e⟩
  | xd fs => obtain ⟨_, ⟨_, _, _, e, _⟩, _⟩ := x; exact ⟨_, e⟩
  | rng lo hi => obtain ⟨_, _, _, e⟩ := x; exact ⟨_, e⟩
  | frz ob u => obtain ⟨e, _⟩ := x; exact ⟨_, e⟩
  | tbl ps => exact ⟨_, (show h.get? a = some _ from x)⟩
  | met f y => exact ⟨_, (show h.get? a = some _ from x)⟩
  | ext φ => obtain ⟨_, ⟨_, e⟩, _⟩ := x; exact ⟨_, e⟩
/-- how an exception lies behind a call: B, all that stood when it was raised, but the frames -/
structure Fly (P : Program) (w : World) (outer : List Env) (H : Hp) (s : Shared) (E : XK) (ea C t : Addr) (H' : Hp) (B : Heap) (s' : Shared) : Prop where
  fl : Heap.FlyingW B outer ea (.ref C) (.ref t) s'.heap
  os : s'.os = s.os
  bare : AllBare s'.gens
  un : Un (frs outer) [] H H' s.heap s'.heap
  hok : HOk P w H' s'.heap
  old : ∀ b o, s.heap.get? b = some o → b ∉ frs outer → ∃ ob, B.get? b = some ob
  trk : ∀ b o, H' b = some o → ∃ ob, B.get? b = some ob
  wish : E (.ref C) none H'
def CXE (P : Program) (w : World) : CXT := fun outer H s E e s' => ∃ (ea C t : Addr) (H' : Hp) (B : Heap), e = .ref ea ∧ Fly P w outer H s E ea C t H' B s'
section
variable {P : Program} {w : World} {K : PySem.W.Frag} {mg : Str → Option Value} {base : Heap} {N : List Str} {qual : Str} {scope : Scope} {f : Addr} {cdv : Value} {A : Around} {outer : List Env} {s0 : Shared} {H0 : Hp} {E : XK}
/-- the frame is left: what its callers see -/
theorem fly_out {pins : List (Addr × Obj)} {σ : St} {H : Hp} {s : Shared} {B h' : Heap} {xe : Value → Shared → Prop} (I : Inv ((cxOf (CXE P w) P w K mg base N qual scope f cdv A outer s0 H0 E).wish xe) pins σ H s)
    (hB0 : ∀ b o, s0.heap.get? b = some o → b ∉ frs (envOfC qual scope s0.heap.objs.size f cdv :: outer) → ∃ ob, B.get? b = some ob) (hBH : ∀ b o, H b = some o → ∃ ob, B.get? b = some ob)
    (k1 : B.StaysIn s.heap) (k2 : B.StaysIn h') (up : s.heap.UpToSlots h') : Un (frs outer) [] H0 H s0.heap h' ∧ HOk P w H h' := by
  have ub : Un (frs outer) [] H0 H s0.heap s.heap := I.base
  have nl : ∀ {b : Addr} {o : Obj}, s0.heap.get? b = some o → b ∉ frs outer → b ∉ frs (envOfC qual scope s0.heap.objs.size f cdv :: outer) := fun {b o} e n z => by
    have z : b ∈ s0.heap.objs.size :: frs outer := z
    rcases List.mem_cons.mp z with z | z
    · exact Nat.lt_irrefl _ (z ▸ Heap.lt_size e)
    · exact n z
  have mv : ∀ {b : Addr} {u : Obj}, (∃ ob, B.get? b = some ob) → s.heap.get? b = some u → h'.get? b = some u := fun {b u} hb e => by
    obtain ⟨ob, q⟩ := hb
    have := k1 b ob q
    rw [e] at this
    cases this
    exact k2 b _ q
  have fr : ∀ {b : Addr}, b ∈ frs outer → ∀ {o : Obj}, s.heap.get? b = some o → ∃ sl, h'.get? b = some { o with slots := sl } := fun {b} hb {o} e => by
    obtain ⟨_, o', ho', hd⟩ := I.funs.mem hb
    rw [e] at ho'
    cases ho'
    exact up b _ e hd
  refine ⟨⟨fun b o e n h1 h2 => mv (hB0 b o e (nl e h1)) (ub.keep b o e n h1 h2), fun b o e n h1 h2 => ?_, ub.free, fun b o e h2 => ?_, ub.tups, ub.frzs, ub.tbls⟩, fun a o e => (I.hok a o e).stay (fun b u hb q => mv ?_ q) (fun _ q => q) fun _ _ q => q⟩
  · obtain ⟨sl, e1⟩ := ub.slot b o e n h1 h2
    obtain ⟨sl', e2⟩ := fr h1 e1
    exact ⟨sl', e2⟩
  · obtain ⟨o', e1⟩ := ub.there b o e h2
    by_cases h1 : b ∈ frs outer
    · obtain ⟨sl', e2⟩ := fr h1 e1
      exact ⟨_, e2⟩
    · exact ⟨o', mv (hB0 b o e (nl e h1)) e1⟩
  · rcases hb with rfl | hb
    · exact hBH _ _ e
    · exact hBH _ _ hb
/-- a raise in a def's body -/
def Raises (X : Cx) (C : Addr) (Eh : Hp → Prop) : Prop := ∀ (pins : List (Addr × Obj)) (σ : St) (H : Hp) (s : Shared) (h' : Heap) (e : Addr) (vs : List Value), Inv X pins σ H s → Heap.MadeExcOf s.heap h' e (.ref C) vs → Eh H → X.xe (.ref e) { s with heap := h' }
theorem raises_def {C : Addr} : Raises (cxOf (CXE P w) P w K mg base N qual scope f cdv A outer s0 H0 E) C (fun H => E (.ref C) none H) := by
  intro pins σ H s h' e vs I hx hE
  have hst : (cxOf (CXE P w) P w K mg base N qual scope f cdv A outer s0 H0 E).A.frames = some (envOfC qual scope s0.heap.objs.size f cdv :: outer) := I.ok.frames
  have hin : ∀ env ∈ (envOfC qual scope s0.heap.objs.size f cdv :: outer), ∀ a, env.frame = some a → a ∈ frs (envOfC qual scope s0.heap.objs.size f cdv :: outer) := fun env he a ha => List.mem_filterMap.mpr ⟨env, he, ha⟩
  refine wpAny_leaves_madeW (base := PySem.W.hideAll s.heap (frs (envOfC qual scope s0.heap.objs.size f cdv :: outer))) hst rfl (fun b o q => PySem.W.of_hideAll _ q) (PySem.W.funFrames_hide I.stack hin) hx fun h2 t fl tup ht up => ?_
  have inB : ∀ b o, s.heap.get? b = some o → b ∉ frs (envOfC qual scope s0.heap.objs.size f cdv :: outer) → ∃ ob, (PySem.W.hideAll s.heap (frs (envOfC qual scope s0.heap.objs.size f cdv :: outer))).get? b = some ob := fun b o e n => ⟨o, PySem.W.hideAll_get _ e n⟩
  have old : ∀ b o, s0.heap.get? b = some o → b ∉ frs (envOfC qual scope s0.heap.objs.size f cdv :: outer) → ∃ ob, (PySem.W.hideAll s.heap (frs (envOfC qual scope s0.heap.objs.size f cdv :: outer))).get? b = some ob := fun b o e n => by
    obtain ⟨o', e'⟩ := I.base.there b o e (fun z => nomatch z)
    exact inB b o' e' n
  have trk : ∀ b o, H b = some o → ∃ ob, (PySem.W.hideAll s.heap (frs (envOfC qual scope s0.heap.objs.size f cdv :: outer))).get? b = some ob := fun b o e => by
    have hn : b ∉ frs (envOfC qual scope s0.heap.objs.size f cdv :: outer) := fun z => by
      have := I.stkFree b z
      rw [e] at this; cases this
    obtain ⟨ob, hob⟩ := obj_get (I.hok b o e)
    exact inB b ob hob hn
  obtain ⟨un, hok⟩ := fly_out (E := E) (xe := (cxOf (CXE P w) P w K mg base N qual scope f cdv A outer s0 H0 E).xe) (h' := h2) I old trk (fun b o q => PySem.W.of_hideAll _ q) fl.1 (((Heap.UpToSlots.of_keeps hx.keeps)).trans up)
  refine ⟨e, C, t, H, _, rfl, fl, I.os, I.bare, un, hok, fun b o e n => old b o e fun z => ?_, trk, hE⟩
  have z : b ∈ s0.heap.objs.size :: frs outer := z
  rcases List.mem_cons.mp z with z | z
  · exact Nat.lt_irrefl _ (z ▸ Heap.lt_size e)
  · exact n z
/-- an exception of a callee goes through a def's body -/
theorem passes_def : Passes (CXE P w) (cxOf (CXE P w) P w K mg base N qual scope f cdv A outer s0 H0 E) E := by
  intro pins σ H s e s' I h
  obtain ⟨ea, C, t, H', B, rfl, F⟩ := h
  have hst : (cxOf (CXE P w) P w K mg base N qual scope f cdv A outer s0 H0 E).A.frames = some (envOfC qual scope s0.heap.objs.size f cdv :: outer) := I.ok.frames
  have I' : Inv (cxOf (CXE P w) P w K mg base N qual scope f cdv A outer s0 H0 E) pins σ H' s' := I.call' (ch := []) F.os F.un F.hok F.bare (fun b z => nomatch z)
  have fl : Heap.FlyingW B (envOfC qual scope s0.heap.objs.size f cdv :: outer) ea (.ref C) (.ref t) s'.heap := F.fl
  have old : ∀ b o, s0.heap.get? b = some o → b ∉ frs (envOfC qual scope s0.heap.objs.size f cdv :: outer) → ∃ ob, B.get? b = some ob := fun b o e n => by
    obtain ⟨o', e'⟩ := I.base.there b o e (fun z => nomatch z)
    exact F.old b o' e' n
  refine wpAny_leaves_onW hst rfl fl fun h2 fl2 up => ?_
  obtain ⟨un, hok⟩ := fly_out (E := E) (xe := (cxOf (CXE P w) P w K mg base N qual scope f cdv A outer s0 H0 E).xe) (h' := h2) I' old F.trk fl.1 fl2.1 up
  refine ⟨ea, C, t, H', B, rfl, fl2, I'.os, I'.bare, un, hok, fun b o e n => old b o e fun z => ?_, F.trk, F.wish⟩
  have z : b ∈ s0.heap.objs.size :: frs outer := z
  rcases List.mem_cons.mp z with z | z
  · exact Nat.lt_irrefl _ (z ▸ Heap.lt_size e)
  · exact n z
/-- where no exception is wished, none comes -/
theorem passes_never {X : Cx} : Passes (CXE P w) X E0 := fun _ _ _ _ _ _ _ h => by
  obtain ⟨_, _, _, _, _, _, F⟩ := h
  exact F.wish.elim
/-- a promise that names no exception is one that might -/
theorem FnOk.cx0 {k : Nat} {fd : FuncData} {ps : List Str} {sp : Sp} (F : FnOk P w K mg base CX0 k f fd ps sp) : FnOk P w K mg base (CXE P w) k f fd ps sp :=
  ⟨F.len, fun A outer s H args us vs Q E hr he hb hv hs => codeAny_mono (F.run A outer s H args us vs Q E hr he hb hv hs) fun r s' q => by
    cases r with
    | error e => exact (show False from q).elim
    | ok fl =>
      cases fl with
      | ret u => exact q
      | next => exact (show False from q).elim
      | brk => exact (show False from q).elim
      | cont => exact (show False from q).elim⟩
end
section
variable {X : Cx}
theorem ps_raise {x : Str} {C : Addr} {Eh : Hp → Prop} {B newId initId : String} {bm : List Value} {np cpos pos : Pos} {e : Expr} {es : List Expr} {t : TA} (hR : Raises X C Eh) (hK : PySem.W.excIn X.K C bm newId = true) (FB : ExcBaseFacts B newId initId bm)
    (hc : X.calm = true) (hg : Gl X x) (hm : X.mg x = some (.ref C)) (ha : PA X (e :: es) t) (hd : (x == ("__debug__" : Str)) = false := by decide)
    (he : starEach (e :: es) X.env = (false, eval e X.env) :: starEach es X.env := by rfl) (hpl : (backTo cpos (starEach es X.env)).any (·.1) = false := by rfl) :
    PS X (.Raise (some (.Call (.Name x np) (e :: es) [] cpos)) none pos) (fun _ σ H => t σ H fun vs H1 => vs.length ≤ sizeLine ∧ Eh H1) := by
  intro pins s σ H D I h
  obtain ⟨tl, N, nm, q, bs, hdct, sn, sub, ab, col, dd, k0, k1, k2, k3, k5, mN, hC, hN, hni, T⟩ := exc_obj I.ok.mod.kin hK
  refine wpAny_Raise_call_subT (C := C) (nm := nm) (q := q) (N := N) (bs := bs) (bm := tl) (hdct := hdct) (sn := sn) (sub := sub) (ab := ab) (col := col) (dd := dd) (k0 := k0) (k1 := k1) (k2 := k2) (k3 := k3) (k5 := k5)
    FB (mN := mN) (T.hasType FB.hasBase) (I.ok.hd hc) (by rw [he]; show (false || (backTo cpos (starEach es X.env)).any (·.1)) = false; rw [hpl]; rfl) hni (ld_glob I hg hm ⟨rfl, ?_⟩ hd)
  have hA := ha cpos pins s σ H _ I h
  rw [he] at hA ⊢
  refine Calls.evalArgs_plain (thn hA fun us s2 ⟨vs, H2, I2, r2, hz, hE⟩ => ⟨rfl, by rw [← r2.length]; exact hz, I2.bk _ _ hC, hN.keeps I2.bk, T.keeps I2.bk, fun h' e hx => hR pins σ H2 s2 h' e us I2 hx hE⟩)
end
end L2
/-! DEFS that raise, over data -/
namespace DL
open PySem PySem.Spec PyProof.Rows L2
/-- the wish about an exception of that name -/
def GX (mg : Str → Option Value) (E : XK) (x : XD) (H : Hp) : Prop := ∀ C, mg x.cls = some (.ref C) → E (.ref C) none H
/-- a def does what F says, exceptions too -/
def spX (K : PySem.W.Frag) (mg : Str → Option Value) (n : Nat) (F : List D → M D) : Sp := fun vs H Q E => ∃ O ds, vs.length = n ∧ (∀ l ∈ O, Mu H l) ∧ Reps K O H vs ds ∧ ok (GS (GX mg E) H) (F ds) (fun d => ∀ v H', Same H H' → Rep K O H' v d → Q v H')
structure DefX (P : Program) (w : World) (K : PySem.W.Frag) (mg : Str → Option Value) (base : Heap) (k : Nat) (x : Str) (n : Nat) (F : List D → M D) : Prop where
  ex : ∃ (f : Addr) (fd : FuncData) (ps : List Str), FnOk P w K mg base (CXE P w) k f fd ps (spX K mg n F) ∧ mg x = some (.ref f) ∧ PySem.W.keepIn K (.ref f) = true ∧ Binds K fd ps []
section
variable {X : Cx} {G : XD → Hp → Prop} {e : Expr} {es : List Expr} {fa : DS → M (List D)} {pos : Pos}
theorem ok_weak {α : Type} {G G' : XD → Prop} {r : M α} {k : α → Prop} (h : ok G r k) (f : ∀ x, G x → G' x) : ok G' r k := by
  match r, h with
  | some (.ok a), h => exact h
  | some (.error x), h => exact f x h
/-- a call whose exceptions go on to E -/
theorem pd_callX {k n : Nat} {x : Str} {p : Pos} {F : List D → M D} {E : XK} (h : DefX X.prog X.w X.K X.mg X.base k x n F) (hr : Room k X.A) (hx : Passes (CXE X.prog X.w) X E) (hG : ∀ x H, G x H → GX X.mg E x H) (hg : Gl X x) (hn : (e :: es).length = n) (ha : PDA X G (e :: es) fa)
    (hdb : (x == ("__debug__" : Str)) = false := by decide) (he : starEach (e :: es) X.env = (false, eval e X.env) :: starEach es X.env := by rfl) (hpl : (backTo pos (starEach es X.env)).any (·.1) = false := by rfl) :
    PD X G (.Call (.Name x p) (e :: es) [] pos) (dCall F fa) := by
  obtain ⟨f, fd, ps, F1, hm, hk, hb⟩ := h.ex
  obtain ⟨hl, t, pa, ha⟩ := ha
  refine ⟨_, pe_call F1 hr hg hm hk hb .nil hx pa hdb he hpl, @fun Hr δ O σ H Q E0 k => ?_⟩
  have k1 := ok_thn k
  refine ha δ O σ H _ E0 ?_
  cases e1 : fa δ with
  | none => rw [e1] at k1; exact k1.elim
  | some r =>
    rw [e1] at k1
    cases r with
    | error x => exact k1
    | ok ds =>
      refine fun vs H1 s1 rs => ?_
      refine ⟨O, ds, ?_, (E0.same s1).oo, ?_, ok_weak (ok_mono k1 fun d z v H2 s2 r => z v H2 (s1.trans s2) r) fun y q H2 s2 => hG y H2 (q H2 ((E0.same s1).root.trans s2))⟩
      · rw [List.append_nil, rs.length, hl δ ds e1]
        exact hn
      · rw [List.append_nil]
        exact rs
/-- raise C(..) -/
def gRaise (x : Str) (fa : DS → M (List D)) : DS → M Out := fun δ => (fa δ).thn fun ds => if small ds.length then some (.error ⟨x, []⟩) else none
theorem pd_raise {x : Str} {C : Addr} {B newId initId : String} {bm : List Value} {np cpos : Pos} {E : XK} (hR : Raises X C (fun H => E (.ref C) none H)) (hG : ∀ x H, G x H → GX X.mg E x H) (hK : PySem.W.excIn X.K C bm newId = true) (FB : ExcBaseFacts B newId initId bm)
    (hc : X.calm = true) (hg : Gl X x) (hm : X.mg x = some (.ref C)) (ha : PDA X G (e :: es) fa) (hd : (x == ("__debug__" : Str)) = false := by decide)
    (he : starEach (e :: es) X.env = (false, eval e X.env) :: starEach es X.env := by rfl) (hpl : (backTo cpos (starEach es X.env)).any (·.1) = false := by rfl) :
    PDS X G (.Raise (some (.Call (.Name x np) (e :: es) [] cpos)) none pos) (gRaise x fa) := by
  obtain ⟨_, t, pa, ha⟩ := ha
  refine ⟨_, ps_raise hR hK FB hc hg hm pa hd he hpl, @fun Hr R0 P0 H0 δ O σ H Dn E1 k => ?_⟩
  refine ha δ O σ H _ E1.ev (ok_mono (ok_thn k) fun ds z vs H1 s1 rs => ?_)
  by_cases hz : small ds.length = true
  · rw [if_pos hz] at z
    exact ⟨by rw [rs.length]; exact small_le hz, hG _ _ (z H1 (E1.ev.root.trans s1)) C hm⟩
  · rw [if_neg hz] at z
    exact z.elim
end
section
variable {P : Program} {w : World} {K : PySem.W.Frag} {mg : Str → Option Value} {base : Heap}
/-- a def whose exceptions leave it -/
theorem defX_of {x qual : Str} {st : Stmt} {f : Addr} {fd : FuncData} {N ps : List Str} {k : Nat} {g : DS → M Out} (F0 : Fun K x qual st f fd) (S : FnScope N ps (defScope st)) (hm : mg x = some (.ref f)) (hb : Binds K fd ps [])
    (hbody : ∀ (cdv : Value) (A : Around) (outer : List Env) (s : Shared) (H : Hp) (E : XK), Room k (A.deeper (envOfC qual (defScope st) s.heap.objs.size f cdv)) →
      PDSs (cxOf (CXE P w) P w K mg base N qual (defScope st) f cdv A outer s H E) (GX mg E) (defBody st) g) : DefX P w K mg base (k + 1) x ps.length (run N.length g) := by
  refine ⟨f, fd, ps, ?_, hm, F0.kp, hb⟩
  obtain ⟨oc, od, kV, doc, pm, an, cdv, ct, osl, rfl, lk, hcd⟩ := F0.ex
  refine fn_of lk hcd S (fun vs H Q E h => ?_) fun A outer s H vs Q E hr h => ?_
  · obtain ⟨O, ds, hl, _⟩ := h
    exact hl
  · obtain ⟨O, ds, hl, oo, r, q⟩ := h
    obtain ⟨t, p, hB⟩ := hbody cdv A outer s H E hr
    refine ⟨t, p, hB O (fun _ => False) H (startD N.length ds) O (L2.start N vs) H _ ⟨ev_start N oo r, fun l hl => .inl hl, fun b o _ h => h, fun l hl => .inl hl, fun i es l h1 ho h2 => ?_, fun l hl => hl⟩ (ok_mono (ok_thn q) fun o z => ?_)⟩
    · exact (start_no h1 ho).elim
    · cases o with
      | rt d => exact fun v H' kp r => z v H' (fun b o h => kp b o (fun w => w) h) r
      | nx δ => exact fun O' σ' H' E' => z .non H' (fun b o h => E'.keep b o (fun w => w) h) .non
      | bk δ => exact z.elim
      | ct δ => exact z.elim
/-- a def that raises nothing -/
theorem Def.x {k n : Nat} {x : Str} {F : List D → M D} (h : Def P w K mg base k x n F) : DefX P w K mg base k x n (fun ds => noX (F ds)) := by
  obtain ⟨f, fd, ps, F1, hm, hk, hb⟩ := h.ex
  exact ⟨f, fd, ps, F1.cx0.imp fun vs H Q E ⟨O, ds, hl, oo, r, q⟩ => ⟨O, ds, hl, oo, r, ok_noX q⟩, hm, hk, hb⟩
end
end DL
/-! TRY with one clause «except C as n», C the very class that is raised -/
namespace L2
open PySem PySem.Spec PyProof.Rows
section
variable {X : Cx}
/-- from the state ahead of a call to a heap behind a station: the def's state again -/
theorem fly_on {pins : List (Addr × Obj)} {σ : St} {H H' : Hp} {s s' : Shared} {E : XK} {ea C t : Addr} {B h5 : Heap} (I : Inv X pins σ H s) (F : Fly X.prog X.w X.stack H s E ea C t H' B s') (k5 : B.StaysIn h5) (up : s'.heap.UpToSlots h5) : Inv X pins σ H' { s' with heap := h5 } := by
  have k1 : B.StaysIn s'.heap := F.fl.1
  have mv : ∀ {b : Addr} {u : Obj}, (∃ ob, B.get? b = some ob) → s'.heap.get? b = some u → h5.get? b = some u := fun {b u} hb e => by
    obtain ⟨ob, q⟩ := hb
    have := k1 b ob q
    rw [e] at this
    cases this
    exact k5 b _ q
  have fr : ∀ {b : Addr}, b ∈ frs X.stack → ∀ {o : Obj}, s.heap.get? b = some o → ∃ sl, h5.get? b = some { o with slots := sl } := fun {b} hb {o} e => by
    obtain ⟨_, o', ho', hd⟩ := I.stack.mem hb
    rw [e] at ho'
    cases ho'
    obtain ⟨sl, e1⟩ := F.un.slot b o e (I.stkFree b hb) hb (fun z => nomatch z)
    obtain ⟨sl', e2⟩ := up b _ e1 hd
    exact ⟨sl', e2⟩
  refine I.call' (ch := []) F.os ⟨fun b o e n h1 h2 => mv (F.old b o e h1) (F.un.keep b o e n h1 h2), fun b o e n h1 h2 => fr h1 e, F.un.free, fun b o e h2 => ?_, F.un.tups, F.un.frzs, F.un.tbls⟩ (fun a o e => (F.hok a o e).stay (fun b u hb q => mv ?_ q) (fun _ q => q) fun _ _ q => q) F.bare (fun b z => nomatch z)
  · by_cases h1 : b ∈ frs X.stack
    · obtain ⟨sl, q⟩ := fr h1 e
      exact ⟨_, q⟩
    · obtain ⟨ob, q⟩ := F.old b o e h1
      exact ⟨ob, k5 b ob q⟩
  · rcases hb with rfl | hb
    · exact F.trk _ _ e
    · exact F.trk _ _ hb
/-- the def's own names, changed -/
theorem Inv.names {pins : List (Addr × Obj)} {σ σ' : St} {H : Hp} {s : Shared} {h' : Heap} (I : Inv X pins σ H s) (hs : Heap.SameBut X.env.locals s.heap h') (hl : σ'.length = σ.length)
    (hn : ∃ m, h'.Ns X.env.locals m ∧ ∀ (i : Nat) (x : Str) (v : V), X.N[i]? = some x → σ'[i]? = some (some v) → Vis X.env.scope x → ∃ u, RelV v u ∧ Look X.env h' m x u) : Inv X pins σ' H { s with heap := h' } := by
  have old : ∀ {b : Addr} {o : Obj}, X.s₀.heap.get? b = some o → b ≠ X.env.locals := fun e => Nat.ne_of_lt (Nat.lt_of_lt_of_le (Heap.lt_size e) I.ok.above)
  refine ⟨I.ok, I.os, I.bare, ⟨fun b o e n hb hx => (hs.2 b (old e)).trans (I.base.keep b o e n hb hx), fun b o e n hb hx => ?_, I.base.free, fun b o e hx => ?_, I.base.tups, I.base.frzs, I.base.tbls⟩, hn, fun y c e => ?_, I.free, I.freeC, fun p hp => ?_, fun a o e => ?_, hl.trans I.len⟩
  · obtain ⟨sl, q⟩ := I.base.slot b o e n hb hx
    exact ⟨sl, (hs.2 b (old e)).trans q⟩
  · obtain ⟨o', q⟩ := I.base.there b o e hx
    exact ⟨o', (hs.2 b (old e)).trans q⟩
  · obtain ⟨v, z⟩ := I.cell y c e
    exact ⟨v, z.sameBut hs (I.cne y c e)⟩
  · obtain ⟨e, n, ne, nf, d⟩ := I.pin p hp
    exact ⟨(hs.2 p.1 ne).trans e, n, ne, nf, d⟩
  · refine (I.hok a o e).stay (fun b u hb q => (hs.2 b ?_).trans q) (fun _ q => q) fun _ _ q => q
    rcases hb with rfl | hb
    · exact ne_of_none e I.free
    · exact ne_of_none hb I.free
/-- the body's context: the state's pins are borne by every state in it -/
abbrev Cx.tri (X : Cx) (pn : List (Addr × Obj)) (xe : Value → Shared → Prop) : Cx := { X with pn := pn, xe := xe }
theorem Inv.tri {pins : List (Addr × Obj)} {σ : St} {H : Hp} {s : Shared} (I : Inv X pins σ H s) (xe : Value → Shared → Prop) : Inv (X.tri (X.pn ++ pins) xe) [] σ H s :=
  ⟨⟨I.ok.mod, I.ok.kind, I.ok.glob, I.ok.blt, I.ok.above, I.ok.inj, I.ok.has, I.ok.cab, I.ok.hd, I.ok.frames, I.ok.stk, I.ok.exf, I.ok.bs, I.ok.bsz, I.ok.noex, I.ok.exfs, I.ok.funs, I.ok.frf⟩,
    I.os, I.bare, I.base, I.loc, I.cell, I.free, I.freeC, fun p hp => I.pin p (by simpa using hp), I.hok, I.len⟩
theorem Inv.untri {pins pins' : List (Addr × Obj)} {σ : St} {H : Hp} {s : Shared} {xe : Value → Shared → Prop} (I : Inv (X.tri (X.pn ++ pins) xe) pins' σ H s) : Inv X pins σ H s :=
  ⟨⟨I.ok.mod, I.ok.kind, I.ok.glob, I.ok.blt, I.ok.above, I.ok.inj, I.ok.has, I.ok.cab, I.ok.hd, I.ok.frames, I.ok.stk, I.ok.exf, I.ok.bs, I.ok.bsz, I.ok.noex, I.ok.exfs, I.ok.funs, I.ok.frf⟩,
    I.os, I.bare, I.base, I.loc, I.cell, I.free, I.freeC, fun p hp => I.pin p (List.mem_append_left _ hp), I.hok, I.len⟩
/-- the suite's context: the exception is held -/
abbrev Cx.held (X : Cx) (pn : List (Addr × Obj)) (e : Addr) : Cx := { X with A := X.A.mark (some (.ref e)), calm := false, pn := pn, xe := fun _ _ => False }
theorem Inv.held {pins : List (Addr × Obj)} {σ : St} {H : Hp} {s : Shared} {e : Addr} {oe : Obj} (I : Inv X pins σ H s) (he : s.heap.get? e = some oe ∧ H e = none ∧ e ≠ X.env.locals ∧ e ∉ X.fs ∧ ∀ v, oe.data ≠ .cell v) : Inv (X.held (X.pn ++ pins ++ [(e, oe)]) e) [] σ H s :=
  ⟨⟨I.ok.mod, I.ok.kind, I.ok.glob, I.ok.blt, I.ok.above, I.ok.inj, I.ok.has, I.ok.cab, (fun z => nomatch z), I.ok.frames, I.ok.stk, I.ok.exf, I.ok.bs, I.ok.bsz, I.ok.noex, I.ok.exfs, I.ok.funs, I.ok.frf⟩,
    I.os, I.bare, I.base, I.loc, I.cell, I.free, I.freeC, fun p hp => by
      have hp : p ∈ (X.pn ++ pins ++ [(e, oe)]) ++ [] := hp
      rw [List.append_nil] at hp
      rcases List.mem_append.mp hp with hp | hp
      · exact I.pin p hp
      · rw [List.mem_singleton.mp hp]; exact he, I.hok, I.len⟩
theorem Inv.unheld {pins pins' : List (Addr × Obj)} {σ : St} {H : Hp} {s : Shared} {e : Addr} {oe : Obj} (hd : X.calm = true → X.A.handled = none) (I : Inv (X.held (X.pn ++ pins ++ [(e, oe)]) e) pins' σ H s) : Inv X pins σ H s :=
  ⟨⟨I.ok.mod, I.ok.kind, I.ok.glob, I.ok.blt, I.ok.above, I.ok.inj, I.ok.has, I.ok.cab, hd, I.ok.frames, I.ok.stk, I.ok.exf, I.ok.bs, I.ok.bsz, I.ok.noex, I.ok.exfs, I.ok.funs, I.ok.frf⟩,
    I.os, I.bare, I.base, I.loc, I.cell, I.free, I.freeC, fun p hp => I.pin p (List.mem_append_left _ (List.mem_append_left _ hp)), I.hok, I.len⟩
end
end L2
/-! TRY: the rule -/
namespace L2
open PySem PySem.Spec PyProof.Rows
section
variable {X : Cx}
/-- the widest reading of statements -/
def tCan (X : Cx) (sts : List Stmt) : TS := fun D σ H => ∃ t, PSs X sts t ∧ t D σ H
theorem pss_can {sts : List Stmt} : PSs X sts (tCan X sts) := fun pins s σ H D I ⟨_, p, h⟩ => p pins s σ H D I h
/-- behind the suite its name is gone -/
def Ends.gone (D : Ends) (i : Nat) : Ends := ⟨fun σ H => D.nx (σ.set i none) H, D.rt, fun σ H => D.bk (σ.set i none) H, fun σ H => D.ct (σ.set i none) H⟩
/-- try: .. except C as n: .. ; the suite knows no name but n -/
def tTry (X : Cx) (C : Addr) (i : Nat) (body suite : List Stmt) : TS := fun D σ H => ∃ Ex : XK,
  (∀ pn xe, Passes (CXE X.prog X.w) (X.tri pn xe) Ex → tCan (X.tri pn xe) body D σ H) ∧
  ∀ c d H', Ex c d H' → c = .ref C ∧ ∀ pn ea oe, (ea, oe) ∈ pn → oe.cls = .ref C → tCan (X.held pn ea) suite (D.gone i) ((List.replicate X.N.length none).set i (some (.ref ea))) H'
end
end L2
/-! TRY over data -/
namespace DL
open PySem PySem.Spec PyProof.Rows L2
section
variable {K : PySem.W.Frag} {Hr : Hp} {R0 : List Addr} {P0 : Addr → Prop} {H0 H H' : Hp} {O O' : List Addr} {σ : St} {δ : DS}
/-- the lists that are being built, forgotten -/
def Sl.noOw : Sl → Sl
  | .ow _ => .un
  | .od _ => .un
  | s => s
def noOw (δ : DS) : DS := δ.map Sl.noOw
def Out.gone (i : Nat) : Out → Out
  | .nx δ => .nx (δ.set i .un)
  | .rt d => .rt d
  | .bk δ => .bk (δ.set i .un)
  | .ct δ => .ct (δ.set i .un)
/-- from here on all that stands stays -/
theorem EI.fresh (E : EI K Hr R0 P0 H0 O H σ δ) : EI K H O (fun _ => False) H O H σ (noOw δ) := by
  have no : ∀ {i : Nat} {s : Sl}, (noOw δ)[i]? = some s → s.own → False := fun {i s} h ho => by
    unfold noOw at h
    rw [List.getElem?_map] at h
    cases e : δ[i]? with
    | none => rw [e] at h; cases h
    | some s => rw [e] at h; cases s <;> (cases h; exact ho)
  refine ⟨⟨fun _ _ h => h, E.ev.oo, by unfold noOw; rw [List.length_map]; exact E.ev.len, fun i s h => ?_, fun i j l ds es _ h1 => (no h1 trivial).elim⟩, fun l hl => .inl hl, fun b o _ h => h, fun l hl => .inl hl, fun i ds l h1 ho => (no h1 ho).elim, fun l hl => hl⟩
  unfold noOw at h
  rw [List.getElem?_map] at h
  cases e : δ[i]? with
  | none => rw [e] at h; cases h
  | some s' =>
    rw [e] at h
    have q := E.ev.at_ i s' e
    cases s' <;> cases h
    · trivial
    · exact q
    · trivial
    · trivial
    · exact q
theorem EI.back {σ' : St} {δ' : DS} (E : EI K Hr R0 P0 H0 O H σ δ) (F : EI K H O (fun _ => False) H O' H' σ' δ') : EI K Hr R0 P0 H0 O' H' σ' δ' := by
  refine ⟨⟨E.ev.root.trans F.ev.root, F.ev.oo, F.ev.len, F.ev.at_, F.ev.dis⟩, fun l hl => ?_, fun b o n h => F.keep b o (fun z => z) (E.keep b o n h), fun l hl => ?_, fun i ds l h1 ho h2 h3 => F.nr1 i ds l h1 ho h2 (E.sub l h3), fun l hl => F.sub l (E.sub l hl)⟩
  · rcases F.omr l hl with z | z
    · exact E.omr l z
    · refine .inr ?_
      cases e : Hr l with
      | none => rfl
      | some o => rw [E.ev.root l o e] at z; cases z
  · rcases F.omr l hl with z | z
    · exact E.om l z
    · by_cases hp : P0 l
      · exact .inr (.inl hp)
      · refine .inr (.inr ?_)
        cases e : H0 l with
        | none => rfl
        | some o => rw [E.keep l o hp e] at z; cases z
theorem Fin.fresh {Dn : Ends} {o : Out} (E : EI K Hr R0 P0 H0 O H σ δ) (h : Fin K Hr R0 P0 H0 Dn o) : Fin K H O (fun _ => False) H Dn o := by
  cases o with
  | nx δ' => exact fun O' σ' H' F => h O' σ' H' (E.back F)
  | rt d => exact fun v H' kp r => h v H' (fun b o n q => kp b o (fun z => z) (E.keep b o n q)) (r.to (.less E.sub))
  | bk δ' => exact fun O' σ' H' F => h O' σ' H' (E.back F)
  | ct δ' => exact fun O' σ' H' F => h O' σ' H' (E.back F)
theorem EI.unset {i : Nat} (E : EI K Hr R0 P0 H0 O H σ δ) : EI K Hr R0 P0 H0 O H (σ.set i none) (δ.set i .un) := by
  have ne : ∀ {j : Nat} {ds : List D}, (δ.set i .un)[j]? = some (.ow ds) → i ≠ j ∧ δ[j]? = some (.ow ds) := fun {j ds} h => by
    rw [get_set] at h
    by_cases hij : i = j
    · rw [if_pos hij] at h
      split at h <;> cases h
    · rw [if_neg hij] at h
      exact ⟨hij, h⟩
  refine ⟨⟨E.ev.root, E.ev.oo, by rw [List.length_set, List.length_set]; exact E.ev.len, fun j s h => ?_, fun j k l ds es hjk h1 h2 h3 h4 => ?_⟩, E.omr, E.keep, E.om, fun j ds l h1 ho h2 => ?_, E.sub⟩
  · rw [get_set] at h ⊢
    by_cases hij : i = j
    · rw [if_pos hij] at h
      split at h
      · cases h; trivial
      · cases h
    · rw [if_neg hij] at h ⊢
      exact E.ev.at_ j s h
  · obtain ⟨n1, h1⟩ := ne h1
    obtain ⟨n2, h2⟩ := ne h2
    rw [get_set, if_neg n1] at h3
    rw [get_set, if_neg n2] at h4
    exact E.ev.dis j k l ds es hjk h1 h2 h3 h4
  · rw [get_set] at h1 h2
    by_cases hij : i = j
    · rw [if_pos hij] at h1
      split at h1
      · cases h1; exact ho.elim
      · cases h1
    · rw [if_neg hij] at h1 h2
      exact E.nr1 j ds l h1 ho h2
theorem Fin.gone {Dn : Ends} {i : Nat} {o : Out} (h : Fin K Hr R0 P0 H0 Dn (o.gone i)) : Fin K Hr R0 P0 H0 (Dn.gone i) o := by
  cases o with
  | nx δ' => exact fun O' σ' H' F => h O' _ H' F.unset
  | rt d => exact h
  | bk δ' => exact fun O' σ' H' F => h O' _ H' F.unset
  | ct δ' => exact fun O' σ' H' F => h O' _ H' F.unset
/-- the names in the suite -/
def exS (N i : Nat) (a : Addr) : DS := (List.replicate N Sl.un).set i (.ex a)
open Classical in
/-- what the suite does, whichever object the exception is -/
noncomputable def trySuite (N i : Nat) (gs : Addr → DS → M Out) : M Out :=
  if h : ∃ r, ∀ a, (noX (gs a (exS N i a))).thn (fun o => M.ret (o.gone i)) = r then choose h else none
open Classical in
noncomputable def gTry (x : Str) (N i : Nat) (gb : DS → M Out) (gs : Addr → DS → M Out) : DS → M Out := fun δ => match gb (noOw δ) with
  | none => none
  | some (.ok o) => some (.ok o)
  | some (.error y) => if y.cls = x then trySuite N i gs else none
end
section
variable {X : Cx} {G : XD → Hp → Prop}
end
end DL
/-! ISINSTANCE of a held exception -/
namespace L2
open PySem PySem.Spec PySem.W PySem.Calls PyProof.Rows
open PySem.Builtin.ObjectAttr PySem.Builtin PySem.Builtin.Getset_descriptor
/-- an object of the own exception class D -/
def ExcAt (x D : Addr) (h : Heap) : Prop := ∃ o, h.get? x = some o ∧ o.cls = .ref D
/-- what the class must show for isinstance to end in False -/
def excKit (K : Frag) (D : Addr) : Bool :=
  (clsIn K D).isSome && (findIn K (.ref D) "__getattribute__" == some (some (.builtin "BaseException.__getattribute__"))) && (findIn K (.ref D) "__getattr__" == some none) &&
  (findIn K (.ref D) "__class__" == some (some (.builtin "object.__class__"))) && (specialIn K (.builtin "object.__class__") "__get__" == some (some (.builtin "getset_descriptor.__get__"))) &&
  (takesIn K (.builtin "object.__class__") == some true) && (mroIn K D (.type "object") == some true) && (mroIn K D (.type "BaseException") == some true)
section
variable {prog : Program} {w : World} {A : Around} {E : Value → Shared → Prop} {K : Frag} {x D : Addr} {h : Heap} {g : Array GenState} {d : Drawn} {t : Nat} {os : OsState}
end
end L2
/-! isinstance(e, ..) over data, e a held exception -/
namespace DL
open PySem PySem.Spec PyProof.Rows L2
section
variable {X : Cx} {G : XD → Hp → Prop} {pos : Pos}
/-- a class as a value -/
def clsV : V → Option Value
  | .ref a => some (.ref a)
  | .ty n => some (.type n)
  | _ => none
/-- classes that are named, as arguments -/
def tV (vs : List V) : TA := fun _ H Q => Q vs H
def dIsX (a : Addr) (i : Nat) (b : Bool) : DS → M D := fun δ => match δ[i]? with
  | some (.ex a') => if a' = a then M.ret (.bool b) else none
  | _ => none
end
end DL
/-! x is True, x is not False, x is None -/
namespace DL
open PySem PySem.Spec PyProof.Rows L2
section
variable {X : Cx}
/-- what is one object alone -/
def one? : D → Bool
  | .bool _ => true
  | .none => true
  | _ => false
def sameOne : D → D → Bool
  | .bool a, .bool b => a == b
  | .none, .none => true
  | _, _ => false
def oIs (x y : D) : Option D := if one? y then some (.bool (sameOne x y)) else none
def oIsNot (x y : D) : Option D := if one? y then some (.bool (!sameOne x y)) else none
end
end DL
/-! str(n) -/
namespace DL
open PySem PySem.Spec PyProof.Rows L2
section
variable {X : Cx}
/-- str(n) -/
def oStr : List D → Option D
  | [.int i] => if i.natAbs.log2 < 1920 then some (.str (Str.ofString (toString i))) else none
  | _ => none
theorem dcall_str : DCall X (.type "str") oStr := by
  refine ⟨_, call_str_int, fun O H ds d vs Q oo rs e k => ?_⟩
  unfold oStr at e
  split at e
  · rename_i i
    by_cases hz : i.natAbs.log2 < 1920
    · rw [if_pos hz] at e
      cases e
      obtain ⟨v, rfl, r⟩ := reps1 rs
      exact ⟨i, by rw [r.int_inv], hz, k _ H (Same.refl H) (.str _)⟩
    · rw [if_neg hz] at e; cases e
  · cases e
end
end DL
/-! evaluation: exceptions -/
namespace DL
open PySem PySem.Spec PyProof.Rows L2
section
variable {δ : DS} {y : XD} {x : Str} {N i : Nat} {gb : DS → M Out} {gs : Addr → DS → M Out} {o : Out}
theorem ev_raise {fa : DS → M (List D)} {ds : List D} (h : fa δ = M.ret ds) (hz : small ds.length = true) : gRaise x fa δ = some (.error ⟨x, []⟩) := by
  unfold gRaise
  rw [h]
  show (if small ds.length = true then _ else _) = _
  rw [if_pos hz]
theorem ev_callX {F : List D → M D} {fa : DS → M (List D)} {ds : List D} {d : D} (h1 : fa δ = M.ret ds) (h2 : F ds = M.ret d) : dCall F fa δ = M.ret d := by unfold dCall; rw [h1]; exact h2
theorem er_callX {F : List D → M D} {fa : DS → M (List D)} {ds : List D} (h1 : fa δ = M.ret ds) (h2 : F ds = some (.error y)) : dCall F fa δ = some (.error y) := by unfold dCall; rw [h1]; exact h2
theorem er_run {g : DS → M Out} {ds : List D} (h : g (startD N ds) = some (.error y)) : run N g ds = some (.error y) := by unfold run; rw [h]; rfl
theorem er_drop {f : DS → M D} (h : f δ = some (.error y)) : gDrop f δ = some (.error y) := by unfold gDrop; rw [h]; rfl
theorem er_seq {g h : DS → M Out} (e : g δ = some (.error y)) : gSeq g h δ = some (.error y) := by unfold gSeq; rw [e]; rfl
theorem er_if_t {c : DS → M Bool} {g h : DS → M Out} (e : c δ = M.ret true) (e2 : g δ = some (.error y)) : gIf c g h δ = some (.error y) := by unfold gIf; rw [e]; exact e2
end
end DL
/-! while; a, b = x, y; int(x) of an int or a bool -/
namespace DL
open PySem PySem.Spec PyProof.Rows L2
section
variable {X : Cx} {G : XD → Hp → Prop} {a b c e : Expr} {es : List Expr} {f : DS → M D} {fb : DS → M Bool} {fa : DS → M (List D)} {pos : Pos} {sts : List Stmt} {gs : DS → M Out}
def whileD (c : DS → M Bool) (g : DS → M Out) : Nat → DS → M Out
  | 0, _ => none
  | n + 1, δ => (c δ).thn fun b => if b = true then (g δ).thn fun o => match o with
      | .nx δ' => whileD c g n δ'
      | .ct δ' => whileD c g n δ'
      | .bk δ' => M.ret (.nx δ')
      | .rt d => M.ret (.rt d)
    else M.ret (.nx δ)
noncomputable def gWhile (c : DS → M Bool) (g : DS → M Out) : DS → M Out := fun δ =>
  open Classical in if h : ∃ n r, whileD c g n δ = some r then whileD c g (Classical.choose h) δ else none
/-! a, b = x, y -/
def gPar (i j : Nat) (fa : DS → M (List D)) : DS → M Out := fun δ => (fa δ).thn fun ds => match ds with
  | [x, y] => M.ret (.nx ((δ.set i (.vl x)).set j (.vl y)))
  | _ => none
end
/-! int(x) -/
section
variable {X : Cx}
def oInt : List D → Option D
  | [.int i] => some (.int i)
  | [.bool b] => some (.int (if b then 1 else 0))
  | _ => none
end
/-! evaluation -/
section
variable {δ δ' : DS} {f : DS → M D} {fb : DS → M Bool} {fa : DS → M (List D)} {gs gt g1 g2 : DS → M Out} {d x y : D} {b : Bool} {ds : List D} {r : M Out} {o : Out}
theorem ev_par {i j : Nat} (h : fa δ = M.ret [x, y]) : gPar i j fa δ = M.ret (.nx ((δ.set i (.vl x)).set j (.vl y))) := by unfold gPar; rw [h]; rfl
theorem o_intI {i : Int} : oInt [.int i] = some (.int i) := rfl
theorem o_intB {b : Bool} : oInt [.bool b] = some (.int (if b then 1 else 0)) := rfl
/-- if c: return ..: not taken -/
theorem ev_pass (h1 : fb δ = M.ret b) (hb : b = false) (h2 : gt δ = r) : gSeq (gIf fb g1 gNext) gt δ = r := by
  subst hb
  unfold gSeq gIf; rw [h1, thn_ret, if_neg Bool.false_ne_true]; exact h2
theorem ev_pass1 (h1 : fb δ = M.ret b) (hb : b = false) : gIf fb g1 gNext δ = M.ret (.nx δ) := by
  subst hb
  unfold gIf; rw [h1, thn_ret, if_neg Bool.false_ne_true]; rfl
theorem o_pow4 : oPow (.int 10) (.int 4) = some (.int 10000) := rfl
theorem o_pow7 : oPow (.int 10) (.int 7) = some (.int 10000000) := rfl
theorem o_pow8 : oPow (.int 10) (.int 8) = some (.int 100000000) := rfl
theorem o_pow10 : oPow (.int 10) (.int 10) = some (.int 10000000000) := rfl
theorem o_pow12 : oPow (.int 10) (.int 12) = some (.int 1000000000000) := rfl
theorem o_pow19 : oPow (.int 10) (.int 19) = some (.int 10000000000000000000) := rfl
theorem o_pow20 : oPow (.int 10) (.int 20) = some (.int 100000000000000000000) := rfl
theorem o_pow24 : oPow (.int 10) (.int 24) = some (.int 1000000000000000000000000) := rfl
theorem o_addL {xs ys : List D} (h : small (xs.length + ys.length) = true) : oAdd (.list xs) (.list ys) = some (.list (xs ++ ys)) := by
  show (if small (xs.length + ys.length) = true then _ else _) = _
  rw [if_pos h]
end
end DL
/-! WALKS over zip(a, b), enumerate(a), a text -/
namespace L2
open PySem PySem.Spec PyProof.Rows
section
variable {X : Cx}
/-- the records of an iterator have turned, and a new object is laid -/
theorem Inv.turnNew {pins : List (Addr × Obj)} {σ : St} {H : Hp} {s : Shared} {h' : Heap} {t' : Nat} {ch : List Addr} {a : Addr} {o : HO} (I : Inv X pins σ H s) (hf : ∀ b ∈ ch, FpOk X pins H b)
    (k : ∀ b u, b ∉ ch → s.heap.get? b = some u → h'.get? b = some u) (hp : s.heap.objs.size ≤ a) (new : ObjOk X.prog X.w (upd H a o) h' a o) : Inv X pins σ (upd H a o) { s with heap := h', toks := t' } := by
  have hn := I.hok.fresh hp
  have nc : ∀ {b : Addr} {u : HO}, H b = some u → b ∉ ch := fun e z => by rw [(hf _ z).1] at e; cases e
  refine I.call (g' := s.gens) (d' := s.drawn) (ch := ch) ⟨fun b u q _ _ hc => k b u hc q, fun b u q _ _ hc => ⟨u.slots, k b u hc q⟩, fun b u q n _ => ?_, fun b u q hc => ⟨u, k b u hc q⟩, fun b xs q => ?_, fun b u xs q => ?_, fun b ps q => ⟨#[], ?_⟩⟩ (fun b u e => ?_) I.bare fun b hb => ?_
  · rw [upd_ne (Nat.ne_of_lt (Nat.lt_of_lt_of_le (Heap.lt_size q) hp))]; exact n
  · rw [upd_ne (ne_of_none q hn)]; exact q
  · rw [upd_ne (ne_of_none q hn)]; exact q
  · rw [upd_ne (ne_of_none q hn), q]; simp
  · by_cases hb : b = a
    · subst hb; rw [upd_same] at e; cases e; exact new
    · rw [upd_ne hb] at e
      refine (I.hok b u e).stay (fun c v hc q => k c v ?_ q) (fun c q => by rw [upd_ne (ne_of_none q hn)]; exact q) fun c xs q => by rw [upd_ne (ne_of_none q hn)]; exact q
      rcases hc with rfl | hc
      · exact nc e
      · exact nc hc
  · obtain ⟨_, f1, _, f3, f4, f5⟩ := hf b hb
    exact ⟨f3, f1, f4, f5⟩
/-- .. and nothing new -/
theorem Inv.turnAll {pins : List (Addr × Obj)} {σ : St} {H : Hp} {s : Shared} {h' : Heap} {t' : Nat} {ch : List Addr} (I : Inv X pins σ H s) (hf : ∀ b ∈ ch, FpOk X pins H b)
    (k : ∀ b u, b ∉ ch → s.heap.get? b = some u → h'.get? b = some u) : Inv X pins σ H { s with heap := h', toks := t' } := by
  have nc : ∀ {b : Addr} {u : HO}, H b = some u → b ∉ ch := fun e z => by rw [(hf _ z).1] at e; cases e
  refine I.call (g' := s.gens) (d' := s.drawn) (ch := ch) ⟨fun b u q _ _ hc => k b u hc q, fun b u q _ _ hc => ⟨u.slots, k b u hc q⟩, fun b u q n _ => n, fun b u q hc => ⟨u, k b u hc q⟩, fun b xs q => q, fun b u xs q => q, fun b ps q => ⟨#[], by rw [q]; simp⟩⟩ (fun b u e => ?_) I.bare fun b hb => ?_
  · refine (I.hok b u e).stay (fun c v hc q => k c v ?_ q) (fun c q => q) fun c xs q => q
    rcases hc with rfl | hc
    · exact nc e
    · exact nc hc
  · obtain ⟨_, f1, _, f3, f4, f5⟩ := hf b hb
    exact ⟨f3, f1, f4, f5⟩
end
/-- two lists beside one another -/
def Itz (K : PySem.W.Frag) (a b : Addr) : It :=
  ⟨fun i H => ∃ xs ys x y, SqL K H a xs ∧ SqL K H b ys ∧ xs[i]? = some x ∧ ys[i]? = some y,
   fun i H v H' => ∃ T, v = .ref T ∧ H T = none ∧ ∀ xs ys x y, SqL K H a xs → SqL K H b ys → xs[i]? = some x → ys[i]? = some y → H' = upd H T (.tup [x, y]),
   fun i H => ∃ xs ys, SqL K H a xs ∧ SqL K H b ys ∧ (xs.length ≤ i ∨ ys.length ≤ i)⟩
/-- a list, numbered -/
def Ite (K : PySem.W.Frag) (a : Addr) : It :=
  ⟨fun i H => ∃ xs x, SqL K H a xs ∧ xs[i]? = some x,
   fun i H v H' => ∃ T, v = .ref T ∧ H T = none ∧ ∀ xs x, SqL K H a xs → xs[i]? = some x → H' = upd H T (.tup [.int i, x]),
   fun i H => ∃ xs, SqL K H a xs ∧ xs.length ≤ i⟩
/-- a text's signs -/
def Its (x : Str) : It := ⟨fun i _ => i < x.length, fun i H v H' => H' = H ∧ ∃ c, x.cps[i]? = some c ∧ v = .str ⟨#[c]⟩, fun i _ => x.length ≤ i⟩
theorem cls_ne {h : Heap} {a b : Addr} {o u : Obj} (e : h.get? a = some o) (e' : h.get? b = some u) (d : o.cls ≠ u.cls) : a ≠ b := fun z => by
  subst z
  rw [e] at e'
  cases e'
  exact d rfl
theorem ty_ne {a b : String} (h : a ≠ b) : Value.type a ≠ Value.type b := fun z => h (Value.type.inj z)
theorem turn_enum {P : Program} {w : World} {K : PySem.W.Frag} {elts : List Expr} {x1 : Nat} {tpos : Pos} (a e it : Addr) (n1 : e ≠ it) :
    Turn P w K (.Tuple elts x1 tpos) (Ite K a) [e, it] e (fun i h => (∃ old, IsEnum h e it ((i : Nat) : Int) old) ∧ h.IsListIter it a i) where
  mem := by simp
  obj := fun i h st c hc => by
    obtain ⟨⟨old, he⟩, ⟨o1, e1, c1, d1⟩⟩ := st
    simp only [List.mem_cons, List.not_mem_nil, or_false] at hc
    rcases hc with rfl | rfl
    · exact ⟨_, he, fun v z => by simp at z⟩
    · exact ⟨_, e1, fun v z => by rw [d1] at z; cases z⟩
  keep := fun i h h' st k => by
    obtain ⟨⟨old, he⟩, h1⟩ := st
    exact ⟨⟨old, k e (by simp) _ he⟩, h1.at fun o e => k it (by simp) o e⟩
  item := by
    intro X hP hw hK hc i pins s σ H E I hf st hg
    subst hP hw hK
    obtain ⟨⟨old, he⟩, h1⟩ := st
    obtain ⟨xs, x, hq, hx⟩ := hg
    obtain ⟨its, rv, p, _⟩ := I.list hq
    obtain ⟨ux, hux, rx⟩ := rv.get hx
    obtain ⟨o1, e1, c1, d1⟩ := id h1
    have fr : H s.heap.objs.size = none := I.hok.fresh (Nat.le_refl _)
    have ne : ∀ {c : Addr} {o : Obj}, s.heap.get? c = some o → s.heap.objs.size ≠ c := fun e => Nat.ne_of_gt (Heap.lt_size e)
    obtain ⟨oa, ea, ca, da⟩ := id p.isList
    have ne1 : a ≠ e := cls_ne ea he (by rw [ca]; exact ty_ne (by decide))
    have ne2 : a ≠ it := cls_ne ea e1 (by rw [ca, c1]; exact ty_ne (by decide))
    refine wpAny_pyNext_enum_item he h1 p.isList (x := ux) (by simpa using hux) n1 fun h' e' h1' T' sz k => ?_
    refine ⟨_, rfl, wpAny_letOwnedTupleGo_enum e' fun h2 he2 sb => ?_⟩
    have k2 : ∀ c o, c ∉ [e, it] → s.heap.get? c = some o → h2.get? c = some o := fun c o hc q => by
      simp only [List.mem_cons, List.not_mem_nil, or_false, not_or] at hc
      exact sb.extBut _ _ hc.1 (k c o hc.1 hc.2 q)
    have T2 : h2.get? s.heap.objs.size = some { cls := .type "tuple", data := .seq #[.int i s.toks, ux] } := sb.extBut _ _ (ne he) T'
    have I1 : Inv X pins σ (upd H s.heap.objs.size (.tup [.int i, x])) { s with heap := h2, toks := s.toks + 1 } := by
      refine I.turnNew hf k2 (Nat.le_refl _) ⟨by show 2 ≤ _; rw [sizeLine_eq]; omega, [.int i s.toks, ux], .cons ⟨_, rfl⟩ (.cons rx .nil), ?_⟩
      exact ⟨_, T2, rfl, 0, rfl⟩
    refine ⟨.ref s.heap.objs.size, _, I1, rfl, ⟨_, rfl, fr, fun xs' x' q1 q3 => ?_⟩, ⟨⟨ux, he2⟩, h1'.extBut sb.extBut n1.symm⟩, fun c hc => ?_⟩
    · rw [I.list_inj q1 hq] at q3
      rw [hx] at q3
      cases q3
      rfl
    · have hn : c ≠ s.heap.objs.size := by
        simp only [List.mem_cons, List.not_mem_nil, or_false] at hc
        rcases hc with rfl | rfl
        · exact (ne he).symm
        · exact (ne e1).symm
      rw [upd_ne hn]
      exact (hf c hc).1
  done := by
    intro X hP hw hK hc i pins s σ H E I hf st hg
    subst hP hw hK
    obtain ⟨⟨old, he⟩, h1⟩ := st
    obtain ⟨xs, hq, hx⟩ := hg
    obtain ⟨its, rv, p, _⟩ := I.list hq
    have hl := rv.length
    refine wpAny_pyNext_enum_end (I.ok.hd hc) he h1 p.isList (by simp; omega) fun h' k => ⟨rfl, ?_⟩
    refine I.turnAll (t' := s.toks) hf fun c o hc e => ?_
    simp only [List.mem_cons, List.not_mem_nil, or_false, not_or] at hc
    exact k c o hc.2 e
  self := fun _ _ _ _ _ st h => by
    obtain ⟨⟨old, he⟩, _⟩ := st
    exact wpAny_pyIter_enum he h
/-! ### the expressions -/
section
variable {X : Cx} {elts : List Expr} {x1 : Nat} {tpos : Pos}
def iZip (K : PySem.W.Frag) (ta : TA) : TI := fun σ H R => ta σ H fun vs H1 => ∃ a b, vs = [.ref a, .ref b] ∧ (∃ xs, SqL K H1 a xs) ∧ (∃ ys, SqL K H1 b ys) ∧ R (Itz K a b) H1
def iEnum (K : PySem.W.Frag) (ta : TA) : TI := fun σ H R => ta σ H fun vs H1 => ∃ a, vs = [.ref a] ∧ (∃ xs, SqL K H1 a xs) ∧ R (Ite K a) H1
def iStr (tl : TE) : TI := fun σ H R => tl σ H fun x H1 => ∃ z, x = .str z ∧ R (Its z) H1
theorem pi_enum {a : Expr} {ta : TA} {p pos : Pos} (hg : Gl X "enumerate") (hm : X.mg "enumerate" = none) (ha : PA X [a] ta) (hs : starEach [a] X.env = [(false, eval a X.env)] := by rfl) :
    PI X (.Tuple elts x1 tpos) (.Call (.Name "enumerate" p) [a] [] pos) (iEnum X.K ta) := by
  intro pins s σ H R I h
  refine Call_ (ld_blt I hg hm boot_enumerate (PyProof.Rows.callWith_type1 (thn (ha pos pins s σ H _ I h) fun us s1 ⟨vs, H1, I1, r1, q1⟩ => ?_) hs rfl))
  obtain ⟨l1, e, ⟨xs, hx⟩, q⟩ := q1
  subst e
  cases r1 with
  | cons r rr =>
    cases rr
    cases r
    obtain ⟨its, rv, pl, _⟩ := I1.list hx
    refine call_enumerate_list pl.isList fun h' he h1 sz k => wpAny_pyIter_enum he ?_
    refine ⟨s1.heap.objs.size + 1, [s1.heap.objs.size + 1, s1.heap.objs.size], _, _, H1, rfl, I1.kept (t' := s1.toks) k,
      turn_enum l1 (s1.heap.objs.size + 1) s1.heap.objs.size (by show (_ : Nat) ≠ _; omega), ⟨⟨_, he⟩, h1⟩, fun c hc => ?_, q⟩
    have hc' : s1.heap.objs.size ≤ c := by
      simp only [List.mem_cons, List.not_mem_nil, or_false] at hc
      rcases hc with rfl | rfl <;> first | exact Nat.le_add_right _ _ | exact Nat.le_refl _
    exact I1.fpOk hc' (I1.hok.fresh hc')
theorem turn_str_ascii {P : Program} {w : World} {K : PySem.W.Frag} {tg : Expr} (it : Addr) (x : Str) (t : Tok) : Turn P w K tg (Its x) [it] it (fun i h => h.IsStrIter it "str_ascii_iterator" x t i) where
  mem := by simp
  obj := fun i h st b hb => by
    have e : b = it := by simpa using hb
    subst e
    obtain ⟨o, e, c, d⟩ := st
    exact ⟨o, e, fun v z => by rw [d] at z; cases z⟩
  keep := fun i h h' st k => let ⟨o, ho, r⟩ := st; ⟨o, k it (by simp) o ho, r⟩
  item := by
    intro X hP hw hK hc i pins s σ H E I hf st hg
    subst hP hw hK
    obtain ⟨f0, f1, f2, f3, f4, f5⟩ := hf it (by simp)
    have hg : i < x.cps.size := hg
    refine wpAny_pyNext_ascii_item st (c := x.cps[i]) (by simp [hg]) fun h' st' sb => ?_
    have I1 : Inv X pins σ H { s with heap := h', toks := s.toks + 1 } := I.turned (fun b o hb e => (sb.2 b hb).trans e) f0 f1 f3 f4 f5
    obtain ⟨o, e, c1, d1⟩ := id st'
    exact ⟨_, rfl, go_of (s := { s with heap := h', toks := s.toks + 1 }) e c1 d1 (by decide) ⟨.str ⟨#[x.cps[i]]⟩, H, I1, ⟨_, rfl⟩, ⟨rfl, x.cps[i], by simp [hg], rfl⟩, st', fun b hb => (hf b hb).1⟩⟩
  done := by
    intro X hP hw hK hc i pins s σ H E I hf st hg
    subst hP hw hK
    obtain ⟨f0, f1, f2, f3, f4, f5⟩ := hf it (by simp)
    have hg : x.cps.size ≤ i := hg
    exact wpAny_pyNext_ascii_end (I.ok.hd hc) st (by simp; omega) fun h' eb => ⟨rfl, I.turned (t' := s.toks) (fun b o hb e => eb b o hb e) f0 f1 f3 f4 f5⟩
  self := fun _ _ _ _ _ st h => wpAny_pyIter_striter_ascii st h
theorem turn_str_wide {P : Program} {w : World} {K : PySem.W.Frag} {tg : Expr} (it : Addr) (x : Str) (t : Tok) : Turn P w K tg (Its x) [it] it (fun i h => h.IsStrIter it "str_iterator" x t i) where
  mem := by simp
  obj := fun i h st b hb => by
    have e : b = it := by simpa using hb
    subst e
    obtain ⟨o, e, c, d⟩ := st
    exact ⟨o, e, fun v z => by rw [d] at z; cases z⟩
  keep := fun i h h' st k => let ⟨o, ho, r⟩ := st; ⟨o, k it (by simp) o ho, r⟩
  item := by
    intro X hP hw hK hc i pins s σ H E I hf st hg
    subst hP hw hK
    obtain ⟨f0, f1, f2, f3, f4, f5⟩ := hf it (by simp)
    have hg : i < x.cps.size := hg
    refine wpAny_pyNext_wide_item st (c := x.cps[i]) (by simp [hg]) fun h' st' sb => ?_
    have I1 : Inv X pins σ H { s with heap := h', toks := s.toks + 1 } := I.turned (fun b o hb e => (sb.2 b hb).trans e) f0 f1 f3 f4 f5
    obtain ⟨o, e, c1, d1⟩ := id st'
    exact ⟨_, rfl, go_of (s := { s with heap := h', toks := s.toks + 1 }) e c1 d1 (by decide) ⟨.str ⟨#[x.cps[i]]⟩, H, I1, ⟨_, rfl⟩, ⟨rfl, x.cps[i], by simp [hg], rfl⟩, st', fun b hb => (hf b hb).1⟩⟩
  done := by
    intro X hP hw hK hc i pins s σ H E I hf st hg
    subst hP hw hK
    obtain ⟨f0, f1, f2, f3, f4, f5⟩ := hf it (by simp)
    have hg : x.cps.size ≤ i := hg
    exact wpAny_pyNext_wide_end (I.ok.hd hc) st (by simp; omega) fun h' eb => ⟨rfl, I.turned (t' := s.toks) (fun b o hb e => eb b o hb e) f0 f1 f3 f4 f5⟩
  self := fun _ _ _ _ _ st h => wpAny_pyIter_striter_wide st h
theorem pi_str {l : Expr} {tl : TE} {tg : Expr} (hl : PE X l tl) : PI X tg l (iStr tl) := by
  intro pins s σ H R I h
  refine thn (hl pins s σ H _ I h) fun v s1 ⟨x, H1, I1, r1, q1⟩ => ?_
  obtain ⟨z, e, q⟩ := q1
  subst e
  obtain ⟨t, rfl⟩ := r1
  have fp : ∀ b ∈ [s1.heap.objs.size], FpOk X pins H1 b := fun b hb => by
    have e : b = s1.heap.objs.size := by simpa using hb
    subst e
    exact I1.fpOk (Nat.le_refl _) (I1.hok.fresh (Nat.le_refl _))
  cases ha : z.cps.all (· < 128)
  · exact wpAny_pyIter_wide ha ⟨s1.heap.objs.size, [s1.heap.objs.size], _, _, H1, rfl, I1.kept (t' := s1.toks) fun b o e => Heap.get?_push_of_some _ e, turn_str_wide _ z t, ⟨_, Heap.get?_push_size _ rfl, rfl, rfl⟩, fp, q⟩
  · exact wpAny_pyIter_ascii ha ⟨s1.heap.objs.size, [s1.heap.objs.size], _, _, H1, rfl, I1.kept (t' := s1.toks) fun b o e => Heap.get?_push_of_some _ e, turn_str_ascii _ z t, ⟨_, Heap.get?_push_size _ rfl, rfl, rfl⟩, fp, q⟩
end
end L2
/-! COMPREHENSIONS in general: any target, free names, at most one test -/
namespace L2
open PySem PySem.Spec PyProof.Rows
def compCxG (X : Cx) (scope : Scope) (cl : List (Str × Addr)) (fr : List (Nat × Str)) (tn : List Str) (C : Addr) (s3 : Shared) (H3 : Hp) (fp : List Addr) : Cx where
  prog := X.prog
  w := X.w
  K := X.K
  mg := X.mg
  base := X.base
  A := X.A
  N := tn ++ fr.map (·.2)
  s₀ := s3
  H₀ := H3
  env := compEnvC scope cl C X.env
  outer := X.stack
  stack := X.stack
  ex := fp
  fn := fun _ => false
  calm := X.calm
  pn := []
  xe := fun _ _ => False
/-- the state of a comprehension's block -/
def compSt (n : Nat) (fr : List (Nat × Str)) (σ : St) : St := List.replicate n none ++ fr.map fun p => (σ[p.1]?).join
def tCompG (n : Nat) (fr : List (Nat × Str)) (wi : TI) (g : TG) (tc : TT) (te : TE) : TE := fun σ H Q => wi σ H fun J H1 => ∀ l, H1 l = none → ∃ W : Nat → Nat → St → List V → Hp → Prop, (∃ m, W 0 m (compSt n fr σ) [] (upd H1 l (.lst []))) ∧
  ∀ i m τ xs H2, W i m τ xs H2 → H2 l = some (.lst xs) ∧ ((J.stop i H2 ∧ Q (.ref l) H2) ∨ (J.go i H2 ∧ xs.length < sizeLine ∧ ∀ x H3, J.yld i H2 x H3 → g x τ H3 fun τ' H4 => tc τ' H4 fun b H5 => if b = true then te τ' H5 fun v H6 => H6 l = some (.lst xs) ∧ ∃ m', m' < m ∧ W (i + 1) m' τ' (xs ++ [v]) (upd H6 l (.lst (xs ++ [v]))) else ∃ m', m' < m ∧ W (i + 1) m' τ' xs H5))
section
variable {X : Cx}
theorem compG_ok {cl : List (Str × Addr)} {fr : List (Nat × Str)} {scope : Scope} {tn : List Str} {C : Addr} {s3 : Shared} {H3 : Hp} {fp : List Addr} {pins : List (Addr × Obj)} {σ : St} (I : Inv X pins σ H3 s3) (hkind : scope.kind = .function) (hsub : ∀ y c, cl.lookup y = some c → X.env.cells.lookup y = some c) (hhas : ∀ y ∈ (relabel scope X.env).names, (y.2 = .cell ∨ y.2 = .free) → ∃ c, cl.lookup y.1 = some c)
    (hC : s3.heap.objs.size ≤ C) (hf : ∀ b ∈ fp, FpOk X pins H3 b ∧ ∃ o, s3.heap.get? b = some o) (hfs : ∀ b ∈ fp, b ∉ frs X.stack) (hbase : ∀ b ∈ fp, X.base.get? b = none) : (compCxG X scope cl fr tn C s3 H3 fp).Ok where
  mod := I.ok.mod
  kind := hkind
  glob := I.ok.glob
  blt := I.ok.blt
  above := hC
  inj := fun y z c h1 h2 => I.ok.inj y z c (hsub y c h1) (hsub z c h2)
  has := fun y h => by
    rcases h with h | h
    · exact hhas _ (PySem.mem_of_lookup h) (.inl rfl)
    · exact hhas _ (PySem.mem_of_lookup h) (.inr rfl)
  cab := fun y c h => by cases h
  hd := I.ok.hd
  frames := I.ok.frames
  stk := .inl rfl
  exf := fun b hb => ⟨by
    obtain ⟨o, ho⟩ := (hf b hb).2
    exact Nat.ne_of_lt (Nat.lt_of_lt_of_le (Heap.lt_size ho) hC), fun y c h => (hf b hb).1.2.2.2.2.1 y c (hsub y c h)⟩
  bs := I.bs
  bsz := Nat.le_trans I.ok.bsz I.sz
  noex := fun b o e hb => by
    have e1 : X.base.get? b = some o := e
    rw [hbase b hb] at e1; cases e1
  exfs := hfs
  funs := I.stack
  frf := I.stkFree
/-- a comprehension's block is through: the def's state -/
theorem compG_out {cl : List (Str × Addr)} {fr : List (Nat × Str)} {scope : Scope} {tn : List Str} {C : Addr} {s3 s5 : Shared} {H3 H5 : Hp} {fp : List Addr} {pins pins5 : List (Addr × Obj)} {σ σ5 : St} {h' : Heap} (I : Inv X pins σ H3 s3) (hf : ∀ b ∈ fp, FpOk X pins H3 b) (hC : s3.heap.objs.size ≤ C)
    (I5 : Inv (compCxG X scope cl fr tn C s3 H3 fp) pins5 σ5 H5 s5) (hs : Heap.SameBut C s5.heap h') : Inv X pins σ H5 { s5 with heap := h' } := by
  have nC : ∀ {b : Addr} {o : Obj}, s3.heap.get? b = some o → b ≠ C := fun e => Nat.ne_of_lt (Nat.lt_of_lt_of_le (Heap.lt_size e) hC)
  have u : Un (frs X.stack) fp H3 H5 s3.heap s5.heap := I5.base
  refine I.call' (ch := fp) I5.os ⟨fun b o e n h1 h2 => ?_, fun b o e n h1 h2 => ?_, u.free, fun b o e h2 => ?_, u.tups, u.frzs, u.tbls⟩ ?_ I5.bare fun b hb => ?_
  · exact (hs.2 b (nC e)).trans (u.keep b o e n h1 h2)
  · obtain ⟨sl, e1⟩ := u.slot b o e n h1 h2
    exact ⟨sl, (hs.2 b (nC e)).trans e1⟩
  · obtain ⟨o', e1⟩ := u.there b o e h2
    exact ⟨o', (hs.2 b (nC e)).trans e1⟩
  · intro a o e
    have hn : H5 C = none := I5.free
    refine (I5.hok a o e).stay (fun b u hb q => (hs.2 b ?_).trans q) (fun _ q => q) fun _ _ q => q
    rcases hb with rfl | hb
    · exact ne_of_none e hn
    · exact ne_of_none hb hn
  · obtain ⟨_, f1, _, f3, f4, f5⟩ := hf b hb
    exact ⟨f3, f1, f4, f5⟩
/-- the tests: none, or one -/
def PTs (X : Cx) (ifs : List Expr) (t : TT) : Prop :=
  ∀ (pins : List (Addr × Obj)) (s : Shared) (σ : St) (H : Hp) (Q : Bool → Hp → Prop), Inv X pins σ H s → t σ H Q →
    wpAny (model X.prog X.w) X.A (forIn ifs true fun c r => if r = true then do let ok ← isTrue c X.env (eval c X.env); pure (ForInStep.yield ok) else pure (ForInStep.yield r)) (TP X pins σ Q) X.xe s
def tYes : TT := fun _ H Q => Q true H
theorem pts_nil : PTs X [] tYes := fun pins s σ H Q I h => wpAny_tests_nil ⟨H, I, h⟩
theorem pe_compG {cl : List (Str × Addr)} {fr : List (Nat × Str)} {tn : List Str} {elt iter tg : Expr} {ifs : List Expr} {scope : Scope} {pos : Pos} {wi : TI} {g : TG} {tc : TT} {te : TE} (hc : X.calm = true)
    (hkind : scope.kind = .function) (hcell : ∀ y ∈ scope.names, y.2 ≠ .cell) (hclos : closureFor scope X.env = pure cl) (hsub : ∀ y c, cl.lookup y = some c → X.env.cells.lookup y = some c)
    (hhas : ∀ y ∈ (relabel scope X.env).names, (y.2 = .cell ∨ y.2 = .free) → ∃ c, cl.lookup y.1 = some c) (hfr : ∀ p ∈ fr, X.N[p.1]? = some p.2 ∧ X.env.kindOf p.2 = some .cell ∧ (compEnvC scope cl 0 X.env).kindOf p.2 = some .cell ∧ ∃ c, cl.lookup p.2 = some c) (hnames : ∀ y ∈ scope.names, y.2 = .local → scope.names.lookup y.1 = some .local)
    (hi : PI X tg iter wi) (hg : ∀ C s3 H3 fp, PG (compCxG X scope cl fr tn C s3 H3 fp) tg g) (hcs : ∀ C s3 H3 fp, PTs (compCxG X scope cl fr tn C s3 H3 fp) ifs tc) (he : ∀ C s3 H3 fp, PE (compCxG X scope cl fr tn C s3 H3 fp) elt te) (hs : ∀ x, foldedSetIterable iter X.env x = pure x := by intro _; rfl) :
    PE X (.ListComp elt [⟨tg, iter, ifs, 0⟩] scope pos) (tCompG tn.length fr wi g tc te) := by
  intro pins s σ H Q I h
  rw [eval_ListComp]
  refine wpAny_comprehension_free (use := none) rfl hs hclos hkind hnames (thn (hi pins s σ H _ I h) fun v s1 h1 => thn h1 fun itv s2 h2 => ?_)
  obtain ⟨it, fp, tk, J, H2, e, I2, T, st2, f2, R⟩ := h2
  subst e
  have fl : H2 s2.heap.objs.size = none := I2.hok.fresh (Nat.le_refl _)
  obtain ⟨W, ⟨m0, w0⟩, turn⟩ := R s2.heap.objs.size fl
  refine wpAny_newObj_type (wpAny_newFunctionEnv hcell (by intro y hy; simp at hy) (fun h4 hns hsb => ?_) hkind)
  -- the list is laid and tracked
  have I3 : Inv X pins σ (upd H2 s2.heap.objs.size (.lst [])) { s2 with heap := s2.heap.push { cls := .type "list", data := .seq ([] : List Value).toArray } } :=
    I2.laid (t' := s2.toks) (fun b o e => Heap.get?_push_of_some _ e) (Nat.le_refl _) ⟨Nat.zero_le _, [], 0, .nil, Heap.get?_push_size _ rfl⟩
  have ob : ∀ b ∈ fp, ∃ o, s2.heap.get? b = some o := fun b hb => let ⟨o, ho, _⟩ := T.obj 0 _ st2 b hb; ⟨o, ho⟩
  have f3 : ∀ b ∈ fp, FpOk X pins (upd H2 s2.heap.objs.size (.lst [])) b := fun b hb => by
    obtain ⟨g0, g1, g2, g3, g4, g5⟩ := f2 b hb
    obtain ⟨o, ho⟩ := ob b hb
    exact ⟨by rw [upd_ne (Nat.ne_of_lt (Heap.lt_size ho))]; exact g0, g1, g2, g3, g4, g5⟩
  generalize hs3 : ({ s2 with heap := s2.heap.push { cls := .type "list", data := .seq ([] : List Value).toArray } } : Shared) = s3 at I3
  have heap3 : s2.heap.push { cls := .type "list", data := .seq ([] : List Value).toArray } = s3.heap := by rw [← hs3]
  have old3 : ∀ b o, s2.heap.get? b = some o → s3.heap.get? b = some o := fun b o e => by rw [← heap3]; exact Heap.get?_push_of_some _ e
  have ok3 : (compCxG X scope cl fr tn s3.heap.objs.size s3 (upd H2 s2.heap.objs.size (.lst [])) fp).Ok := by
    refine compG_ok I3 hkind hsub hhas (Nat.le_refl _) (fun b hb => ⟨f3 b hb, let ⟨o, ho⟩ := ob b hb; ⟨o, old3 b o ho⟩⟩) (fun b hb z => ?_) fun b hb => ?_
    · obtain ⟨_, g1, g2, _⟩ := f2 b hb
      rcases List.mem_cons.mp (I2.stkSub b z) with q | q
      · exact g1 q
      · exact g2 q
    · obtain ⟨_, _, _, g3, _⟩ := f2 b hb
      rcases g3 with q | q
      · cases e : X.base.get? b with
        | none => rfl
        | some o => exact absurd q (I.ok.noex b o e)
      · exact Heap.get?_none_of_le (Nat.le_trans I.ok.bsz q)
  have hns3 : h4.Ns s3.heap.objs.size (fun y => ([] : List (Str × Value)).reverse.lookup y) := by rw [← heap3]; exact hns
  have keep4 : ∀ b o, s3.heap.get? b = some o → h4.get? b = some o := fun b o e => by
    have e1 : (s2.heap.push { cls := .type "list", data := .seq ([] : List Value).toArray }).get? b = some o := by rw [heap3]; exact e
    exact (hsb.2 b (Nat.ne_of_lt (Heap.lt_size e1))).trans (Heap.get?_push_of_some _ e1)
  have I4 : Inv (compCxG X scope cl fr tn s3.heap.objs.size s3 (upd H2 s2.heap.objs.size (.lst [])) fp) [] (compSt tn.length fr σ) (upd H2 s2.heap.objs.size (.lst [])) { s3 with heap := h4 } := by
    refine ⟨ok3, rfl, I3.bare, Un.kept keep4, ⟨_, hns3, fun i y v e1 e2 e3 => ?_⟩, (fun y c h => let ⟨v, oc, ho, hd⟩ := I3.cell y c (hsub y c h); ⟨v, oc, keep4 _ _ ho, hd⟩), I3.hok.fresh (Nat.le_refl _), (fun y c h => I3.freeC y c (hsub y c h)), (fun p hp => nomatch hp), I3.hok.kept keep4, by simp [compCxG, compSt]⟩
    have e1 : (tn ++ fr.map (·.2))[i]? = some y := e1
    have e2 : (List.replicate tn.length none ++ fr.map fun p => (σ[p.1]?).join)[i]? = some (some v) := e2
    by_cases hlt : i < tn.length
    · rw [List.getElem?_append_left (by simpa using hlt), List.getElem?_replicate] at e2
      split at e2 <;> cases e2
    · rw [List.getElem?_append_right (by omega)] at e1
      rw [List.getElem?_append_right (by simpa using hlt), List.length_replicate] at e2
      rw [List.getElem?_map] at e1 e2
      cases q : fr[i - tn.length]? with
      | none => rw [q] at e1; cases e1
      | some p =>
        rw [q] at e1 e2
        have e1 : p.2 = y := Option.some.inj e1
        have e2 : (σ[p.1]?).join = some v := Option.some.inj e2
        subst e1
        obtain ⟨g1, g2, g3, c, g4⟩ := hfr p (List.mem_of_getElem? q)
        have e4 : σ[p.1]? = some (some v) := by
          cases z : σ[p.1]? with
          | none => rw [z] at e2; cases e2
          | some w' => rw [z] at e2; exact congrArg some e2
        obtain ⟨m, hn, hl⟩ := I3.loc
        obtain ⟨u, ru, lk⟩ := hl p.1 p.2 v g1 e4 (.inr (.inl g2))
        refine ⟨u, ru, .inr ⟨.inl g3, c, g4, ?_⟩⟩
        rcases lk with ⟨k1, _⟩ | ⟨_, c', k2, k3⟩
        · rw [g2] at k1; cases k1
        · rw [hsub _ _ g4] at k2
          cases k2
          obtain ⟨oc, ho, hd⟩ := k3
          exact ⟨oc, keep4 _ _ ho, hd⟩
  have st4 : tk 0 h4 := T.keep 0 _ _ st2 fun b hb o e => keep4 b o (old3 b o e)
  have loop : codeAny (model X.prog X.w) X.A (.compLoop (.ListComp elt [⟨tg, iter, ifs, 0⟩] scope pos) 0 (.ref it) (.ref s2.heap.objs.size) (compEnvC scope cl s3.heap.objs.size X.env))
      (compPost (model X.prog X.w) X.A X.xe none (EP X pins σ Q) (.ref s2.heap.objs.size) s3.heap.objs.size) { s3 with heap := h4 } := by
    refine codeAny_loop rfl (fun n s' => ∃ i σ' xs H', Inv (compCxG X scope cl fr tn s3.heap.objs.size s3 (upd H2 s2.heap.objs.size (.lst [])) fp) [] σ' H' s' ∧ tk i s'.heap ∧ (∀ b ∈ fp, H' b = none) ∧ W i n σ' xs H') (fun n s' hI => ?_) m0
      ⟨0, _, [], _, I4, st4, fun b hb => (f3 b hb).1, w0⟩
    show wpAny _ _ ((compTurn (.ListComp elt [⟨tg, iter, ifs, 0⟩] scope pos) 0 (.ref it) (.ref s2.heap.objs.size) (compEnvC scope cl s3.heap.objs.size X.env)).onRaise (fun x => do noteFrame x _; theTreesLotGoes x)) _ _ s'
    refine wpAny_noted ?_
    rw [compTurn_list]
    obtain ⟨i, σ5, xs, H5, I5, st5, fr5, w5⟩ := hI
    have stat : ∀ {H' : Hp}, (∀ b ∈ fp, H' b = none) → ∀ b ∈ fp, FpOk (compCxG X scope cl fr tn s3.heap.objs.size s3 (upd H2 s2.heap.objs.size (.lst [])) fp) [] H' b := fun hn b hb =>
      ⟨hn b hb, (ok3.exf b hb).1, ok3.exfs b hb, .inl hb, (ok3.exf b hb).2, fun p hp => nomatch hp⟩
    obtain ⟨hl, alt⟩ := turn i n σ5 xs H5 w5
    rcases alt with ⟨stop, qn⟩ | ⟨go, hz, step⟩
    · refine wpAny_bind (wpAny_standAt (wpAny_bind (thn (T.done (compCxG X scope cl fr tn s3.heap.objs.size s3 (upd H2 s2.heap.objs.size (.lst [])) fp) rfl rfl rfl hc i [] s' σ5 H5 _ I5 (stat fr5) st5 stop) fun r s6 ⟨hr, I6⟩ => ?_)))
      subst hr
      refine wpAny_pure ?_
      obtain ⟨m, hn6, _⟩ := I6.loc
      exact ⟨m, hn6, fun h' hs' => ⟨.ref s2.heap.objs.size, H5, compG_out I3 f3 (Nat.le_refl _) I6 hs', rfl, qn⟩⟩
    · refine wpAny_bind (wpAny_standAt (wpAny_bind (thn (T.item (compCxG X scope cl fr tn s3.heap.objs.size s3 (upd H2 s2.heap.objs.size (.lst [])) fp) rfl rfl rfl hc i [] s' σ5 H5 _ I5 (stat fr5) st5 go) fun r s6 ⟨u, hr, h6⟩ => ?_)))
      subst hr
      refine wpAny_bind (thn h6 fun _ s7 ⟨y, H7, I7, r7, y7, st7, fr7⟩ => ?_)
      have I7' := I7.pinned (stat fr7) (T.obj _ _ st7)
      have hP := hg s3.heap.objs.size s3 (upd H2 s2.heap.objs.size (.lst [])) fp _ s7 σ5 H7 y u _ I7' r7 (step y H7 y7)
      refine wpAny_bind (wpAny_mono hP (fun _ s8 ⟨σ8, H8, I8, q8⟩ => ?_) (fun _ _ z => False.elim z))
      refine wpAny_bind (wpAny_mono (hcs s3.heap.objs.size s3 (upd H2 s2.heap.objs.size (.lst [])) fp _ s8 σ8 H8 _ I8 q8) (fun b s9 ⟨H9, I9, q9⟩ => ?_) (fun _ _ z => False.elim z))
      have again : ∀ {σ7 : St} {H7 : Hp} {s7' : Shared} {xs' : List V}, Inv (compCxG X scope cl fr tn s3.heap.objs.size s3 (upd H2 s2.heap.objs.size (.lst [])) fp) ([] ++ pinsAt fp s7.heap) σ7 H7 s7' → (∃ m', m' < n ∧ W (i + 1) m' σ7 xs' H7) →
          ∃ m, m < n ∧ ∃ i σ' xs H', Inv (compCxG X scope cl fr tn s3.heap.objs.size s3 (upd H2 s2.heap.objs.size (.lst [])) fp) [] σ' H' s7' ∧ tk i s7'.heap ∧ (∀ b ∈ fp, H' b = none) ∧ W i m σ' xs H' := fun {σ7 H7 s7' xs'} I7 n7 => by
        obtain ⟨m', hm, w7⟩ := n7
        refine ⟨m', hm, i + 1, σ7, xs', H7, I7.unpinned, T.keep _ _ _ st7 fun b hb o e => (I7.pin (b, o) (List.mem_append_right _ (List.mem_append_right _ (mem_pinsAt hb e)))).1, fun b hb => ?_, w7⟩
        obtain ⟨o, e, d⟩ := T.obj _ _ st7 b hb
        exact (I7.pin (b, o) (List.mem_append_right _ (List.mem_append_right _ (mem_pinsAt hb e)))).2.1
      cases b with
      | false =>
        rw [if_neg Bool.false_ne_true] at q9
        exact wpAny_pure ⟨rfl, again I9 q9⟩
      | true =>
        rw [if_pos rfl] at q9
        refine wpAny_bind (wpAny_bind (wpAny_mono (he _ _ _ _ _ s9 σ8 H9 _ I9 q9) (fun uv s10 ⟨v, H10, I10, r10, hl10, w10⟩ => ?_) fun _ _ z => z.elim))
        refine wpAny_bind (wpAny_mono (mt_append (X := compCxG X scope cl fr tn s3.heap.objs.size s3 (upd H2 s2.heap.objs.size (.lst [])) fp) _ s10 _ H10 (.ref s2.heap.objs.size) [v] (.ref s2.heap.objs.size) [uv] (fun _ H' => H' = upd H10 s2.heap.objs.size (.lst (xs ++ [v]))) I10 rfl (.cons r10 .nil) ⟨_, xs, v, rfl, rfl, hl10, hz, rfl⟩) (fun _ s11 ⟨v11, H11, I11, r11, q11⟩ => ?_) (fun _ _ z => False.elim z))
        subst q11
        exact wpAny_pure (wpAny_pure ⟨rfl, again I11 w10⟩)
  subst hs3
  exact codeAny_compStart_list loop (T.self _ 0 _ _ _ st4 loop)
end
end L2
/-! WHAT IS WALKED, over data: lists, tuples, ranges, zip, enumerate, texts; for and comprehensions over any of them -/
namespace DL
open PySem PySem.Spec PyProof.Rows L2
/-- J tells the data ds one by one, whatever happens to lists that are owned -/
structure Yl (K : PySem.W.Frag) (J : It) (O : List Addr) (H1 : Hp) (ds : List D) : Prop where
  step : ∀ (O2 : List Addr) (H2 : Hp), To O O2 H1 H2 → ∀ (i : Nat) (d : D), ds[i]? = some d → J.go i H2 ∧ ∀ x H3, J.yld i H2 x H3 → Same H2 H3 ∧ Rep K O2 H3 x d
  stop : ∀ (O2 : List Addr) (H2 : Hp), To O O2 H1 H2 → J.stop ds.length H2
def PDI (X : Cx) (G : XD → Hp → Prop) (tg iter : Expr) (fi : DS → M (List D)) : Prop :=
  ∃ wi, PI X tg iter wi ∧ ∀ {Hr : Hp} (δ : DS) (O : List Addr) (σ : St) (H : Hp) (R : It → Hp → Prop), Ev X.K Hr O H σ δ → ok (GS G Hr) (fi δ) (fun ds => ∀ J H1, Same H H1 → Yl X.K J O H1 ds → R J H1) → wi σ H R
section
variable {K : PySem.W.Frag} {O : List Addr} {H1 : Hp}
theorem yl_list {a : Addr} {xs : List V} {ds : List D} (hk : ∀ (O2 : List Addr) (H2 : Hp), To O O2 H1 H2 → SqL K H2 a xs) (rs : Reps K O H1 xs ds) : Yl K (Itl K a) O H1 ds := by
  refine ⟨fun O2 H2 t i d hd => ?_, fun O2 H2 t => ⟨xs, hk O2 H2 t, by rw [rs.length]; exact Nat.le_refl _⟩⟩
  obtain ⟨v, hv, r⟩ := rs.get hd
  refine ⟨⟨xs, v, hk O2 H2 t, hv⟩, fun x H3 y => ?_⟩
  obtain ⟨rfl, y⟩ := y
  have := y xs (hk O2 H3 t)
  rw [hv] at this
  cases this
  exact ⟨Same.refl _, r.to t⟩
theorem yl_tup {a : Addr} {xs : List V} {ds : List D} (hq : SqT K H1 a xs) (rs : Reps K O H1 xs ds) : Yl K (Itt K a) O H1 ds := by
  refine ⟨fun O2 H2 t i d hd => ?_, fun O2 H2 t => ⟨xs, t.sqT hq, by rw [rs.length]; exact Nat.le_refl _⟩⟩
  obtain ⟨v, hv, r⟩ := rs.get hd
  refine ⟨⟨xs, v, t.sqT hq, hv⟩, fun x H3 y => ?_⟩
  obtain ⟨rfl, y⟩ := y
  have := y xs (t.sqT hq)
  rw [hv] at this
  cases this
  exact ⟨Same.refl _, r.to t⟩
theorem yl_range {lo : Int} {n : Nat} : Yl K (Itr lo n) O H1 (rngD lo n) := by
  have hl : (rngD lo n).length = n := by unfold rngD; rw [List.length_map, List.length_range]
  refine ⟨fun O2 H2 t i d hd => ?_, fun O2 H2 t => by rw [hl]; exact Nat.le_refl _⟩
  have hi : i < n := by
    have := (List.getElem?_eq_some_iff.mp hd).1
    omega
  refine ⟨hi, fun x H3 y => ?_⟩
  obtain ⟨rfl, rfl⟩ := y
  unfold rngD at hd
  rw [List.getElem?_map, List.getElem?_range hi] at hd
  cases hd
  exact ⟨Same.refl _, .int _⟩
/-- a list, as the Rep tells it -/
theorem Rep.lstTo {v : V} {ds : List D} (r : Rep K O H1 v (.list ds)) : ∃ a xs, v = .ref a ∧ SqL K H1 a xs ∧ (∀ (O2 : List Addr) (H2 : Hp), To O O2 H1 H2 → SqL K H2 a xs) ∧ Reps K O H1 xs ds := by
  cases r with
  | lst h n rs => exact ⟨_, _, rfl, .inl h, fun O2 H2 t => .inl (t.l _ _ n h).2, rs⟩
  | lstK h rs => exact ⟨_, _, rfl, .inr h, fun _ _ _ => .inr h, rs⟩
def zipD (xs ys : List D) : List D := List.zipWith (fun x y => .tuple [x, y]) xs ys
def enumD (n : Nat) : List D → List D
  | [] => []
  | x :: xs => .tuple [.int (n : Int), x] :: enumD (n + 1) xs
theorem enumD_len (n : Nat) (xs : List D) : (enumD n xs).length = xs.length := by
  induction xs generalizing n with
  | nil => rfl
  | cons x xs ih => show (enumD (n + 1) xs).length + 1 = _; rw [ih]; rfl
theorem enumD_get {xs : List D} {n i : Nat} {d : D} (h : (enumD n xs)[i]? = some d) : ∃ x, xs[i]? = some x ∧ d = .tuple [.int ((n + i : Nat) : Int), x] := by
  induction xs generalizing n i with
  | nil => cases h
  | cons x xs ih =>
    cases i with
    | zero => cases h; exact ⟨x, rfl, rfl⟩
    | succ i =>
      obtain ⟨y, hy, e⟩ := ih (n := n + 1) (i := i) h
      have : n + 1 + i = n + (i + 1) := by omega
      rw [this] at e
      exact ⟨y, hy, e⟩
/-- a text's signs -/
def signsD (z : Str) : List D := z.cps.toList.map fun c => .str ⟨#[c]⟩
theorem yl_str {z : Str} : Yl K (Its z) O H1 (signsD z) := by
  have hl : (signsD z).length = z.length := by unfold signsD; rw [List.length_map, Array.length_toList]; rfl
  refine ⟨fun O2 H2 t i d hd => ?_, fun O2 H2 t => by rw [hl]; exact Nat.le_refl _⟩
  have hi : i < z.length := by
    have := (List.getElem?_eq_some_iff.mp hd).1
    omega
  refine ⟨hi, fun x H3 y => ?_⟩
  obtain ⟨rfl, c, hc, rfl⟩ := y
  unfold signsD at hd
  rw [List.getElem?_map, Array.getElem?_toList, hc] at hd
  cases hd
  exact ⟨Same.refl _, .str _⟩
end
section
variable {X : Cx} {G : XD → Hp → Prop} {tg iter a b : Expr} {f : DS → M D} {fa : DS → M (List D)} {pos p : Pos} {elts : List Expr} {x1 : Nat} {tpos : Pos}
/-! ### what may be walked -/
def dSeq (f : DS → M D) : DS → M (List D) := fun δ => (f δ).thn fun d => M.lift (seqD d)
theorem pdi_seq (h : PD X G iter f) : PDI X G tg iter (dSeq f) := by
  obtain ⟨t, q, h⟩ := h
  refine ⟨_, pi_seq q, fun δ O σ H R E k => ?_⟩
  refine h δ O σ H _ E (ok_mono (ok_thn k) fun d z v H1 s1 r => ?_)
  obtain ⟨ds, hd, z⟩ := ok_lift z
  cases d with
  | list es =>
    cases hd
    obtain ⟨a, xs, rfl, hq, hk, rs⟩ := r.lstTo
    exact ⟨a, rfl, .inl ⟨⟨xs, hq⟩, z _ H1 s1 (yl_list hk rs)⟩⟩
  | tuple es =>
    cases hd
    obtain ⟨a, xs, rfl, hq, rs⟩ := r.tup_inv
    exact ⟨a, rfl, .inr ⟨⟨xs, hq⟩, z _ H1 s1 (yl_tup hq rs)⟩⟩
  | _ => cases hd
def dRng (rng : List D → Option (List D)) (fa : DS → M (List D)) : DS → M (List D) := fun δ => (fa δ).thn fun ds => M.lift (rng ds)
theorem pdi_rng2 (hgl : Gl X "range") (hm : X.mg "range" = none) (ha : PDA X G [a, b] fa) (hs1 : starEach [a, b] X.env = [(false, eval a X.env), (false, eval b X.env)] := by rfl) (hs2 : starEach [b] X.env = [(false, eval b X.env)] := by rfl) :
    PDI X G tg (.Call (.Name "range" p) [a, b] [] pos) (dRng rng2 fa) := by
  obtain ⟨_, ta, pa, ha⟩ := ha
  refine ⟨_, pi_range2 hgl hm pa hs1 hs2, fun δ O σ H R E k => ?_⟩
  refine ha δ O σ H _ E (ok_mono (ok_thn k) fun ds z vs H1 s1 rs => ?_)
  obtain ⟨xs, hd, z⟩ := ok_lift z
  unfold rng2 at hd
  split at hd
  · rename_i i j
    by_cases hz : (b62 i && b62 j) = true
    · rw [if_pos hz] at hd
      cases hd
      obtain ⟨v, v', rfl, r, r'⟩ := reps2 rs
      obtain ⟨hz1, hz2⟩ := Bool.and_eq_true_iff.mp hz
      obtain ⟨z1, z2⟩ := b62_of hz1
      obtain ⟨z3, z4⟩ := b62_of hz2
      exact ⟨i, j, by rw [r.int_inv, r'.int_inv], ⟨z1, z2, z3, z4⟩, z _ H1 s1 yl_range⟩
    · rw [if_neg hz] at hd; cases hd
  · cases hd
def dZip (fa : DS → M (List D)) : DS → M (List D) := fun δ => (fa δ).thn fun ds => match ds with
  | [.list xs, .list ys] => M.ret (zipD xs ys)
  | _ => none
def dEnum (fa : DS → M (List D)) : DS → M (List D) := fun δ => (fa δ).thn fun ds => match ds with
  | [.list xs] => M.ret (enumD 0 xs)
  | _ => none
def dSigns (f : DS → M D) : DS → M (List D) := fun δ => (f δ).thn fun d => match d with
  | .str z => M.ret (signsD z)
  | _ => none
theorem pdi_str (h : PD X G iter f) : PDI X G tg iter (dSigns f) := by
  obtain ⟨t, q, h⟩ := h
  refine ⟨_, pi_str q, fun δ O σ H R E k => ?_⟩
  refine h δ O σ H _ E (ok_mono (ok_thn k) fun d z v H1 s1 r => ?_)
  match d, z, r with
  | .str w, z, r => exact ⟨w, r.str_inv, z _ H1 s1 yl_str⟩
/-! ### for -/
def gForI (fi : DS → M (List D)) (t : D → DS → Option DS) (g : DS → M Out) : DS → M Out := fun δ => (fi δ).thn fun ds => forD (bodyD t g) ds δ
theorem pd_forI {body : List Stmt} {t : D → DS → Option DS} {fi : DS → M (List D)} {gs : DS → M Out} (hp : PassesOwn (model X.prog X.w) X.A X.env X.xe) (hc : X.calm = true) (hi : PDI X G tg iter fi) (hg : PDG X tg t) (hb : PDSs X G body gs)
    (hs : ∀ x, foldedSetIterable iter X.env x = pure x := by intro _; rfl) : PDS X G (.For tg iter body [] pos) (gForI fi t gs) := by
  obtain ⟨wi, pi, hi⟩ := hi
  obtain ⟨tgt, pt, hg⟩ := hg
  obtain ⟨tb, pb, hb⟩ := hb
  refine ⟨_, ps_for hp hc pi pt pb hs, @fun Hr R0 P0 H0 δ O σ H Dn E k => ?_⟩
  refine hi δ O σ H _ E.ev (ok_mono (ok_thn k) fun ds z J H1 s1 Y => ?_)
  have E1 := E.same s1
  have z1 : ok (GS G Hr) (forD (bodyD t gs) ds δ) (Fin X.K Hr R0 (Ch O R0) H1 Dn) := ok_mono z fun o q => Fin.outer E1 q
  refine ⟨fun i m σ2 H2 => m = ds.length - i ∧ i ≤ ds.length ∧ ∃ δ2 O2, EI X.K Hr R0 (Ch O R0) H1 O2 H2 σ2 δ2 ∧ ok (GS G Hr) (forD (bodyD t gs) (ds.drop i) δ2) (Fin X.K Hr R0 (Ch O R0) H1 Dn), ⟨_, rfl, Nat.zero_le _, δ, O, E1.inner, z1⟩, ?_⟩
  rintro i m σ2 H2 ⟨rfl, hi, δ2, O2, E2, k2⟩
  have T := E1.to E2
  by_cases hlt : i < ds.length
  · right
    have hd : ds[i]? = some ds[i] := List.getElem?_eq_getElem hlt
    obtain ⟨go, yl⟩ := Y.step O2 H2 T i _ hd
    refine ⟨go, fun σ' H' => ∃ δ2 O2, EI X.K Hr R0 (Ch O R0) H1 O2 H' σ' δ2 ∧ ok (GS G Hr) (forD (bodyD t gs) (ds.drop (i + 1)) δ2) (Fin X.K Hr R0 (Ch O R0) H1 Dn), fun σ' H' h => ⟨_, by omega, rfl, hlt, h⟩, fun x H3 y => ?_⟩
    obtain ⟨s3, rx⟩ := yl x H3 y
    rw [drop_get hd] at k2
    have k3 := ok_thn (show ok (GS G Hr) ((bodyD t gs ds[i] δ2).thn _) _ from k2)
    obtain ⟨δ3, h3, k4⟩ := ok_lift (ok_thn (show ok (GS G Hr) ((M.lift (t ds[i] δ2)).thn gs) _ from k3))
    refine hg R0 (Ch O R0) H1 δ2 δ3 ds[i] x O2 σ2 H3 _ (E2.same s3) rx h3 fun σ4 H4 E4 _ => ?_
    refine hb R0 (Ch O R0) H1 δ3 O2 σ4 H4 _ E4 (ok_mono k4 fun o z => ?_)
    cases o with
    | nx δ5 => exact fun O5 σ5 H5 E5 => ⟨δ5, O5, E5, z⟩
    | ct δ5 => exact fun O5 σ5 H5 E5 => ⟨δ5, O5, E5, z⟩
    | bk δ5 => exact fun O5 σ5 H5 E5 => z O5 σ5 H5 E5
    | rt d => exact z
  · left
    have e : i = ds.length := by omega
    subst e
    rw [List.drop_length] at k2
    exact ⟨Y.stop O2 H2 T, k2 O2 σ2 H2 E2⟩
/-! ### comprehensions -/
def compD (t : D → DS → Option DS) (c : DS → M Bool) (f : DS → M D) : List D → DS → M (List D)
  | [], _ => M.ret []
  | d :: ds, δ => (M.lift (t d δ)).thn fun δ' => (c δ').thn fun b => if b = true then (f δ').thn fun y => (compD t c f ds δ').thn fun ys => M.ret (y :: ys) else compD t c f ds δ'
def dYes : DS → M Bool := fun _ => M.ret true
def nX {α : Type} (f : DS → M α) : DS → M α := fun δ => noX (f δ)
def dCompG (n : Nat) (js : List Nat) (t : D → DS → Option DS) (fi : DS → M (List D)) (c : DS → M Bool) (f : DS → M D) : DS → M D := fun δ => (fi δ).thn fun ds => if small ds.length then (compD t (nX c) (nX f) ds (List.replicate n .un ++ js.map (slotAt δ))).thn fun ys => M.ret (.list ys) else none
def PDTs (X : Cx) (ifs : List Expr) (f : DS → M Bool) : Prop :=
  ∃ t, PTs X ifs t ∧ ∀ {Hr : Hp} (δ : DS) (O : List Addr) (σ : St) (H : Hp) (Q : Bool → Hp → Prop), Ev X.K Hr O H σ δ → ok (fun _ => False) (f δ) (fun b => ∀ H', Same H H' → Q b H') → t σ H Q
theorem pdts_nil : PDTs X [] dYes := ⟨_, pts_nil, fun δ O σ H Q E k => k H (Same.refl H)⟩
theorem ok_GS0 {α : Type} {Hr : Hp} {r : M α} {k : α → Prop} (h : ok (fun _ => False) r k) : ok (GS (fun _ _ => False) Hr) r k := ok_false h
end
end DL
/-! COMPREHENSIONS over data -/
namespace DL
open PySem PySem.Spec PyProof.Rows L2
/-- the readings that runs ask for -/
def gD (K : PySem.W.Frag) (t : D → DS → Option DS) : TG := fun v σ H Q => ∃ Hr R0 P0 H0 δ δ' d O, EI K Hr R0 P0 H0 O H σ δ ∧ Rep K O H v d ∧ t d δ = some δ' ∧ ∀ σ' H', EI K Hr R0 P0 H0 O H' σ' δ' → Same H H' → Q σ' H'
theorem PDG.can {X : Cx} {e : Expr} {t : D → DS → Option DS} (h : PDG X e t) : PG X e (gD X.K t) := by
  obtain ⟨g, p, h⟩ := h
  intro pins s σ H v u Q I r hw
  obtain ⟨Hr, R0, P0, H0, δ, δ', d, O, E, rd, ht, k⟩ := hw
  exact p pins s σ H v u Q I r (h R0 P0 H0 δ δ' d v O σ H Q E rd ht k)
def cD (K : PySem.W.Frag) (f : DS → M Bool) : TT := fun σ H Q => ∃ Hr δ O, Ev K Hr O H σ δ ∧ ok (fun _ => False) (f δ) (fun b => ∀ H', Same H H' → Q b H')
theorem PDTs.can {X : Cx} {ifs : List Expr} {f : DS → M Bool} (h : PDTs X ifs f) : PTs X ifs (cD X.K f) := by
  obtain ⟨t, p, h⟩ := h
  intro pins s σ H Q I hw
  obtain ⟨Hr, δ, O, E, k⟩ := hw
  exact p pins s σ H Q I (h δ O σ H Q E k)
section
variable {K : PySem.W.Frag} {O : List Addr} {H1 H H' : Hp} {l : Addr} {τ : St} {δ : DS}
/-- a comprehension's state -/
abbrev EC (K : PySem.W.Frag) (O : List Addr) (H1 : Hp) (l : Addr) (H : Hp) (τ : St) (δ : DS) : Prop := EI K (fun _ => none) (l :: O) (fun b => b = l) H1 (l :: O) H τ δ
theorem EC.put {xs ys : List V} (E : EC K O H1 l H τ δ) (hl : H l = some (.lst xs)) : EC K O H1 l (upd H l (.lst ys)) τ δ := by
  have ts : To (l :: O) (l :: O) H (upd H l (.lst ys)) := To.set hl List.mem_cons_self
  refine ⟨⟨(fun _ _ z => nomatch z), fun a ha => ?_, E.ev.len, fun i s hs => ?_, E.ev.dis⟩, E.omr, fun b o n h => ?_, E.om, E.nr1, E.sub⟩
  · by_cases e : a = l
    · subst e; exact .lst upd_same
    · exact (E.ev.oo a ha).upd_ne e
  · have q := E.ev.at_ i s hs
    cases s with
    | un => trivial
    | ex a => exact q
    | vl d =>
      obtain ⟨v, h1, r⟩ := q
      exact ⟨v, h1, r.to ts⟩
    | ow ds =>
      obtain ⟨a, us, h1, h2, h3, r⟩ := q
      exact absurd h2 (E.nr i ds a hs h1)
    | od es =>
      obtain ⟨a, us, h1, h2, h3, r⟩ := q
      exact absurd h2 (E.nr1 i _ a hs trivial h1)
  · rw [upd_ne n]
    exact E.keep b o n h
theorem slot_of {Hr : Hp} {σ : St} {δ : DS} {fr : List (Nat × Str)} (E : Ev K Hr O H σ δ) (n : Nat) (hl : H l = none) : EC K O H l (upd H l (.lst [])) (compSt n fr σ) (List.replicate n .un ++ (fr.map (·.1)).map (slotAt δ)) := by
  have get : ∀ (i : Nat) (s : Sl), (List.replicate n Sl.un ++ (fr.map (·.1)).map (slotAt δ))[i]? = some s → s = .un ∨ ∃ d v, s = .vl d ∧ (compSt n fr σ)[i]? = some (some v) ∧ Rep K O H v d := fun i s h => by
    by_cases hi : i < n
    · rw [List.getElem?_append_left (by simpa using hi), List.getElem?_replicate] at h
      split at h <;> cases h <;> exact .inl rfl
    · rw [List.getElem?_append_right (by simpa using hi), List.length_replicate, List.getElem?_map, List.getElem?_map] at h
      cases q : fr[i - n]? with
      | none => rw [q] at h; cases h
      | some p =>
        rw [q] at h
        have h : slotAt δ p.1 = s := Option.some.inj h
        unfold slotAt at h
        split at h
        · rename_i d hd
          subst h
          obtain ⟨v, hv, r⟩ := E.val hd
          refine .inr ⟨d, v, rfl, ?_, r⟩
          unfold compSt
          rw [List.getElem?_append_right (by simpa using hi), List.length_replicate, List.getElem?_map, q]
          show some (σ[p.1]?).join = _
          rw [hv]
          rfl
        · exact .inl h.symm
  have to : To O (l :: O) H (upd H l (.lst [])) := To.own hl
  refine ⟨⟨(fun _ _ z => nomatch z), fun a ha => ?_, by simp [compSt], fun i s hs => ?_, fun i j a ds es hij h1 => ?_⟩, fun a ha => .inl ha, fun b o nb h => by rw [upd_ne nb]; exact h, fun a ha => .inl ha, fun i ds a h1 ho => ?_, fun a ha => ha⟩
  · rcases List.mem_cons.mp ha with rfl | ha
    · exact .lst upd_same
    · exact (E.oo a ha).new hl
  · rcases get i s hs with rfl | ⟨d, v, rfl, hv, r⟩
    · trivial
    · exact ⟨v, hv, r.to to⟩
  · rcases get i _ h1 with z | ⟨_, _, z, _⟩ <;> cases z
  · rcases get i _ h1 with z | ⟨_, _, z, _⟩ <;> (cases z; exact ho.elim)
end
section
variable {X : Cx} {G : XD → Hp → Prop} {fi : DS → M (List D)} {c : DS → M Bool} {f : DS → M D} {t : D → DS → Option DS}
theorem ok_nX {α : Type} {g : XD → Prop} {f : DS → M α} {δ : DS} {k : α → Prop} (h : ok g (nX f δ) k) : ok (fun _ => False) (f δ) k := ok_noX h
theorem pd_compG {cl : List (Str × Addr)} {fr : List (Nat × Str)} {tn : List Str} {elt iter tg : Expr} {ifs : List Expr} {scope : Scope} {pos : Pos} (hc : X.calm = true)
    (hkind : scope.kind = .function) (hcell : ∀ y ∈ scope.names, y.2 ≠ .cell) (hclos : closureFor scope X.env = pure cl) (hsub : ∀ y c, cl.lookup y = some c → X.env.cells.lookup y = some c)
    (hhas : ∀ y ∈ (relabel scope X.env).names, (y.2 = .cell ∨ y.2 = .free) → ∃ c, cl.lookup y.1 = some c) (hfr : ∀ p ∈ fr, X.N[p.1]? = some p.2 ∧ X.env.kindOf p.2 = some .cell ∧ (compEnvC scope cl 0 X.env).kindOf p.2 = some .cell ∧ ∃ c, cl.lookup p.2 = some c) (hnames : ∀ y ∈ scope.names, y.2 = .local → scope.names.lookup y.1 = some .local)
    (hi : PDI X G tg iter fi) (hg : ∀ C s3 H3 fp, PDG (compCxG X scope cl fr tn C s3 H3 fp) tg t) (hcs : ∀ C s3 H3 fp, PDTs (compCxG X scope cl fr tn C s3 H3 fp) ifs c) (he : ∀ C s3 H3 fp, PD (compCxG X scope cl fr tn C s3 H3 fp) (fun _ _ => False) elt f) (hs : ∀ x, foldedSetIterable iter X.env x = pure x := by intro _; rfl) :
    PD X G (.ListComp elt [⟨tg, iter, ifs, 0⟩] scope pos) (dCompG tn.length (fr.map (·.1)) t fi c f) := by
  obtain ⟨wi, pi, hi⟩ := hi
  refine ⟨_, pe_compG (g := gD X.K t) (tc := cD X.K c) (te := tD X.K (fun _ _ => False) f) hc hkind hcell hclos hsub hhas hfr hnames pi (fun C s3 H3 fp => (hg C s3 H3 fp).can) (fun C s3 H3 fp => (hcs C s3 H3 fp).can) (fun C s3 H3 fp => (he C s3 H3 fp).can) hs, @fun Hr δ O σ H Q E k => ?_⟩
  refine hi δ O σ H _ E (ok_mono (ok_thn k) fun ds z J H1 s1 Y => ?_)
  by_cases hsz : small ds.length = true
  case neg =>
    rw [if_neg hsz] at z
    exact z.elim
  rw [if_pos hsz] at z
  intro l hl
  have E1 := E.same s1
  have kk := ok_mono (ok_thn z) fun ys (q : ∀ v H', Same H H' → Rep X.K O H' v (.list ys) → Q v H') H2 (kp : Kp l H1 H2) r2 => q (.ref l) H2 (s1.trans (kp.same hl)) r2
  refine ⟨fun i m τ xs H2 => m = ds.length - i ∧ i ≤ ds.length ∧ xs.length ≤ i ∧ H2 l = some (.lst xs) ∧ ∃ δc ys, EC X.K O H1 l H2 τ δc ∧ Reps X.K (l :: O) H2 xs ys ∧
    ok (GS G Hr) (compD t (nX c) (nX f) (ds.drop i) δc) (fun rest => ∀ H3, Kp l H1 H3 → Rep X.K O H3 (.ref l) (.list (ys ++ rest)) → Q (.ref l) H3),
    ⟨_, rfl, Nat.zero_le _, Nat.le_refl _, upd_same, _, [], slot_of E1 tn.length hl, .nil, kk⟩, ?_⟩
  rintro i m τ xs H2 ⟨rfl, hi, hx, h2, δc, ys, Ec, ry, kc⟩
  have kp : Kp l H1 H2 := fun b o hb e => Ec.keep b o hb e
  refine ⟨h2, ?_⟩
  have T : To O (l :: O) H1 H2 := kp.to hl
  by_cases hlt : i < ds.length
  · right
    have hd : ds[i]? = some ds[i] := List.getElem?_eq_getElem hlt
    obtain ⟨go, yl⟩ := Y.step (l :: O) H2 T i _ hd
    refine ⟨go, Nat.lt_of_le_of_lt hx (Nat.lt_of_lt_of_le hlt (small_le hsz)), fun x H3 y => ?_⟩
    obtain ⟨s3, rx⟩ := yl x H3 y
    rw [drop_get hd] at kc
    obtain ⟨δ', ht, kc⟩ := ok_lift (ok_thn (show ok (GS G Hr) ((M.lift (t ds[i] δc)).thn _) _ from kc))
    refine ⟨_, _, _, _, δc, δ', ds[i], l :: O, Ec.same s3, rx, ht, fun τ' H4 E4 s4 => ?_⟩
    refine ⟨_, δ', l :: O, E4.ev, ok_mono (ok_nX (ok_thn kc)) fun b zb H5 s5 => ?_⟩
    have E5 := E4.same s5
    have s25 := (s3.trans s4).trans s5
    dsimp only
    cases b with
    | false =>
      rw [if_neg Bool.false_ne_true] at zb ⊢
      exact ⟨_, by omega, rfl, hlt, by omega, s25 _ _ h2, δ', ys, E5, ry.same s25, zb⟩
    | true =>
      rw [if_pos rfl] at zb ⊢
      refine ⟨_, δ', l :: O, E5.ev, ok_GS0 (ok_mono (ok_nX (ok_thn zb)) fun y kz v H6 s6 rv => ?_)⟩
      have h6 : H6 l = some (.lst xs) := s6 _ _ (s25 _ _ h2)
      have ts : To (l :: O) (l :: O) H6 (upd H6 l (.lst (xs ++ [v]))) := To.set h6 List.mem_cons_self
      refine ⟨h6, ds.length - (i + 1), by omega, rfl, hlt, by rw [List.length_append]; show xs.length + 1 ≤ i + 1; omega, upd_same, δ', ys ++ [y], EC.put (E5.same s6) h6, (((ry.same s25).same s6).to ts).append (.cons (rv.to ts) .nil), ?_⟩
      exact ok_mono (ok_thn kz) fun rest q H7 kp7 r7 => q H7 kp7 (by rw [List.append_assoc] at r7; exact r7)
  · left
    have e : i = ds.length := by omega
    subst e
    rw [List.drop_length] at kc
    refine ⟨Y.stop (l :: O) H2 T, kc H2 kp ?_⟩
    rw [List.append_nil]
    exact .lst (.inl h2) (nin E1.oo hl) (ry.to (.less fun b hb => List.mem_cons_of_mem _ hb))
end
/-! evaluation -/
section
variable {δ δ' : DS} {fi : DS → M (List D)} {c : DS → M Bool} {f : DS → M D} {t : D → DS → Option DS} {fa : DS → M (List D)} {g : DS → M D} {x y d : D} {ds ys xs : List D} {n : Nat} {js : List Nat} {gs gt : DS → M Out} {r : M Out} {z : Str}
theorem ev_compG (h1 : fi δ = M.ret ds) (hz : small ds.length = true) (h3 : compD t (nX c) (nX f) ds (List.replicate n .un ++ js.map (slotAt δ)) = M.ret ys) : dCompG n js t fi c f δ = M.ret (.list ys) := by
  unfold dCompG; rw [h1, thn_ret, if_pos hz, h3]; rfl
theorem ev_compC (h1 : t d δ = some δ') (h2 : f δ' = M.ret y) (h3 : compD t (nX dYes) (nX f) ds δ' = M.ret ys) : compD t (nX dYes) (nX f) (d :: ds) δ = M.ret (y :: ys) := by
  show (M.lift (t d δ)).thn _ = _
  rw [h1, lift_some, thn_ret]
  show (M.ret true).thn _ = _
  rw [thn_ret, if_pos rfl]
  show (noX (f δ')).thn _ = _
  rw [h2]
  show (compD _ _ _ _ _).thn _ = _
  rw [h3]
  rfl
/-- one value for each item, whatever the targets were before: Q tells which states come -/
theorem ev_compM {h : D → D} (Q : DS → Prop) : ∀ (ds : List D) (δ : DS), Q δ → (∀ d ∈ ds, ∀ δ, Q δ → ∃ δ', t d δ = some δ' ∧ f δ' = M.ret (h d) ∧ Q δ') → compD t (nX dYes) (nX f) ds δ = M.ret (ds.map h)
  | [], _, _, _ => rfl
  | d :: ds, δ, q, hs => by
    obtain ⟨δ', h1, h2, q'⟩ := hs d List.mem_cons_self δ q
    exact ev_compC h1 h2 (ev_compM Q ds δ' q' fun e he => hs e (List.mem_cons_of_mem _ he))
theorem ev_rngS {rng : List D → Option (List D)} (h1 : fa δ = M.ret xs) (h2 : rng xs = some ds) : dRng rng fa δ = M.ret ds := by unfold dRng; rw [h1, thn_ret, h2]; rfl
theorem ev_forG (h1 : fi δ = M.ret ds) {r : M Out} (h3 : forD (bodyD t gs) ds δ = r) : gForI fi t gs δ = r := by unfold gForI; rw [h1, thn_ret]; exact h3
end
end DL
/-! a list, a tuple or a text -/
namespace DL
open PySem PySem.Spec PyProof.Rows L2
section
variable {X : Cx} {G : XD → Hp → Prop} {tg iter : Expr} {f : DS → M D}
theorem PI.or {w1 w2 : TI} (h1 : PI X tg iter w1) (h2 : PI X tg iter w2) : PI X tg iter (fun σ H R => w1 σ H R ∨ w2 σ H R) := by
  intro pins s σ H R I h
  rcases h with h | h
  · exact h1 pins s σ H R I h
  · exact h2 pins s σ H R I h
def anyD : D → Option (List D)
  | .list ds => some ds
  | .tuple ds => some ds
  | .str z => some (signsD z)
  | _ => none
def dAny (f : DS → M D) : DS → M (List D) := fun δ => (f δ).thn fun d => M.lift (anyD d)
theorem pdi_any (h : PD X G iter f) : PDI X G tg iter (dAny f) := by
  obtain ⟨w1, p1, h1⟩ := pdi_seq (tg := tg) h
  obtain ⟨w2, p2, h2⟩ := pdi_str (tg := tg) h
  refine ⟨_, PI.or p1 p2, fun δ O σ H R E k => ?_⟩
  have d1 : ∀ d, f δ = some (.ok d) → (∀ z, d ≠ .str z) → dSeq f δ = dAny f δ := fun d e n => by
    unfold dSeq dAny
    rw [e]
    show M.lift (seqD d) = M.lift (anyD d)
    cases d with
    | str z => exact absurd rfl (n z)
    | _ => rfl
  match e : f δ with
  | none => unfold dAny at k; rw [e] at k; exact k.elim
  | some (.error x) =>
    refine .inl (h1 δ O σ H R E ?_)
    have e1 : dAny f δ = dSeq f δ := by unfold dAny dSeq; rw [e]; rfl
    rw [← e1]
    exact k
  | some (.ok d) =>
    match d, e with
    | .str z, e =>
      refine .inr (h2 δ O σ H R E ?_)
      have e1 : dAny f δ = dSigns f δ := by unfold dAny dSigns; rw [e]; rfl
      rw [← e1]
      exact k
    | .none, e => exact .inl (h1 δ O σ H R E (by rw [d1 _ e (fun z q => nomatch q)]; exact k))
    | .bool b, e => exact .inl (h1 δ O σ H R E (by rw [d1 _ e (fun z q => nomatch q)]; exact k))
    | .int b, e => exact .inl (h1 δ O σ H R E (by rw [d1 _ e (fun z q => nomatch q)]; exact k))
    | .list b, e => exact .inl (h1 δ O σ H R E (by rw [d1 _ e (fun z q => nomatch q)]; exact k))
    | .tuple b, e => exact .inl (h1 δ O σ H R E (by rw [d1 _ e (fun z q => nomatch q)]; exact k))
    | .dict b, e => exact .inl (h1 δ O σ H R E (by rw [d1 _ e (fun z q => nomatch q)]; exact k))
theorem ev_any {δ : DS} {x : D} {ds : List D} (h1 : f δ = M.ret x) (h2 : anyD x = some ds) : dAny f δ = M.ret ds := by unfold dAny; rw [h1, thn_ret, h2]; rfl
end
end DL
/-! NEW LISTS that a def holds; an owned list lent to an expression that tells no list -/
namespace DL
open PySem PySem.Spec PyProof.Rows L2
section
variable {X : Cx} {G : XD → Hp → Prop} {a b c e : Expr} {es : List Expr} {f : DS → M D} {fa : DS → M (List D)} {pos pos' : Pos} {sts : List Stmt} {gs : DS → M Out}
variable {K : PySem.W.Frag} {Hr : Hp} {R0 : List Addr} {P0 : Addr → Prop} {H0 H H' : Hp} {O : List Addr} {σ : St} {δ : DS}
theorem EI.newL {i : Nat} {l : Addr} {xs : List V} {ds : List D} (E : EI K Hr R0 P0 H0 O H σ δ) (hl : H l = none) (rx : Reps K O H xs ds) : EI K Hr R0 P0 H0 (l :: O) (upd H l (.lst xs)) (σ.set i (some (.ref l))) (δ.set i (.ow ds)) := by
  have nO : l ∉ O := nin E.ev.oo hl
  have tO : To O (l :: O) H (upd H l (.lst xs)) := To.own hl
  refine ⟨⟨fun b o h => by have q := E.ev.root b o h; rw [upd_ne (ne_of_none q hl)]; exact q, fun a ha => ?_, by rw [List.length_set, List.length_set]; exact E.ev.len, fun j s h => ?_, fun j k a ds es hjk h1 h2 h3 h4 => ?_⟩, fun a ha => ?_, fun b o n h => ?_, fun a ha => ?_, fun j ds a h1 ho h2 => ?_, fun a ha => List.mem_cons_of_mem _ (E.sub a ha)⟩
  · rcases List.mem_cons.mp ha with rfl | ha
    · exact .lst upd_same
    · exact (E.ev.oo a ha).new hl
  · rw [get_set] at h ⊢
    by_cases hij : i = j
    · rw [if_pos hij] at h ⊢
      by_cases hz : i < δ.length
      · rw [if_pos hz] at h
        rw [if_pos (by rw [E.ev.len]; exact hz)]
        cases h
        exact ⟨l, xs, rfl, List.mem_cons_self, upd_same, rx.to tO⟩
      · rw [if_neg hz] at h; cases h
    · rw [if_neg hij] at h ⊢
      exact (E.ev.at_ j s h).to tO (hd_new hl) fun a xs h1 h2 _ _ => ⟨List.mem_cons_of_mem _ h1, by rw [upd_ne (ne_of_none h2 hl)]; exact h2⟩
  · rw [get_set] at h1 h2 h3 h4
    by_cases hij : i = j
    · rw [if_pos hij] at h1 h3
      have ha : a = l := by
        split at h3
        · cases h3; rfl
        · cases h3
      have hik : ¬ i = k := fun z => hjk (hij.symm.trans z)
      rw [if_neg hik] at h2 h4
      obtain ⟨l', xs, q1, q2, q3, _⟩ := E.ev.at_ k _ h2
      rw [h4] at q1
      cases q1
      rw [ha] at q2
      exact nO q2
    · rw [if_neg hij] at h1 h3
      by_cases hik : i = k
      · rw [if_pos hik] at h4
        have ha : a = l := by
          split at h4
          · cases h4; rfl
          · cases h4
        obtain ⟨l', xs, q1, q2, q3, _⟩ := E.ev.at_ j _ h1
        rw [h3] at q1
        cases q1
        rw [ha] at q2
        exact nO q2
      · rw [if_neg hik] at h2 h4
        exact E.ev.dis j k a ds es hjk h1 h2 h3 h4
  · rcases List.mem_cons.mp ha with rfl | ha
    · refine .inr ?_
      cases q : Hr a with
      | none => rfl
      | some o =>
        rw [E.ev.root a o q] at hl
        cases hl
    · exact E.omr a ha
  · have q := E.keep b o n h
    rw [upd_ne (ne_of_none q hl)]
    exact q
  · rcases List.mem_cons.mp ha with rfl | ha
    · by_cases hp : P0 a
      · exact .inr (.inl hp)
      · refine .inr (.inr ?_)
        cases q : H0 a with
        | none => rfl
        | some o =>
          rw [E.keep a o hp q] at hl
          cases hl
    · exact E.om a ha
  · rw [get_set] at h1 h2
    by_cases hij : i = j
    · rw [if_pos hij] at h2
      have ha : a = l := by
        split at h2
        · cases h2; rfl
        · cases h2
      rw [ha]
      exact fun z => nO (E.sub l z)
    · rw [if_neg hij] at h1 h2
      exact E.nr1 j ds a h1 ho h2
/-- an expression that makes a new list -/
def PDN (X : Cx) (G : XD → Hp → Prop) (e : Expr) (f : DS → M (List D)) : Prop :=
  ∃ t, PE X e t ∧ ∀ {Hr : Hp} (δ : DS) (O : List Addr) (σ : St) (H : Hp) (Q : VK), Ev X.K Hr O H σ δ → ok (GS G Hr) (f δ) (fun ds => ∀ l xs H1, Same H H1 → H1 l = none → Reps X.K O H1 xs ds → Q (.ref l) (upd H1 l (.lst xs))) → t σ H Q
def nLst (fa : DS → M (List D)) : DS → M (List D) := fun δ => (fa δ).thn fun ds => if small ds.length then M.ret ds else none
theorem pdn_lst (h : PDA X G es fa) : PDN X G (.List es pos) (nLst fa) := by
  obtain ⟨_, t, p, h⟩ := h
  refine ⟨_, pe_lst p, fun δ O σ H Q E k => ?_⟩
  refine h δ O σ H _ E (ok_mono (ok_thn k) fun ds z vs H1 s1 rs => ?_)
  by_cases hz : small ds.length = true
  · rw [if_pos hz] at z
    exact ⟨by rw [rs.length]; exact small_le hz, fun p hp => z p vs H1 s1 hp rs⟩
  · rw [if_neg hz] at z
    exact z.elim
/-- list(x) -/
def nList (fa : DS → M (List D)) : DS → M (List D) := fun δ => (fa δ).thn fun ds => match ds with
  | [.list xs] => M.ret xs
  | [.tuple xs] => M.ret xs
  | _ => none
def gNewL (i : Nat) (f : DS → M (List D)) : DS → M Out := fun δ => (f δ).thn fun ds => M.ret (.nx (δ.set i (.ow ds)))
/-! ### lent -/
mutual
/-- data without a list -/
def flatD : D → Bool
  | .tuple ds => flatDs ds
  | .list _ => false
  | .dict _ => false
  | _ => true
def flatDs : List D → Bool
  | [] => true
  | d :: ds => flatD d && flatDs ds
end
mutual
theorem Rep.flat {O' : List Addr} : ∀ {v : V} {d : D}, flatD d = true → Rep K O H v d → Rep K O' H v d
  | _, _, _, .non => .non
  | _, _, _, .bl b => .bl b
  | _, _, _, .int i => .int i
  | _, _, _, .str x => .str x
  | _, _, h, .tup q r => .tup q (Reps.flat (by simpa only [flatD] using h) r)
  | _, _, h, .lst _ _ _ => by simp [flatD] at h
  | _, _, h, .lstK _ _ => by simp [flatD] at h
  | _, _, h, .dct _ _ _ _ => by simp [flatD] at h
  | _, _, h, .ins _ _ _ _ _ => by simp [flatD, insD] at h
theorem Reps.flat {O' : List Addr} : ∀ {vs : List V} {ds : List D}, flatDs ds = true → Reps K O H vs ds → Reps K O' H vs ds
  | _, _, _, .nil => .nil
  | _, _, h, .cons r rs => by
    simp only [flatDs, Bool.and_eq_true] at h
    exact .cons (Rep.flat h.1 r) (Reps.flat h.2 rs)
end
theorem Ev.frz {i : Nat} (E : Ev K Hr O H σ δ) : ∃ O', Ev K Hr O' H σ (DL.frz i δ) := by
  cases q : δ[i]? with
  | none => exact ⟨O, by unfold DL.frz; rw [q]; exact E⟩
  | some s =>
    cases s with
    | un => exact ⟨O, by unfold DL.frz; rw [q]; exact E⟩
    | vl d => exact ⟨O, by unfold DL.frz; rw [q]; exact E⟩
    | ex a => exact ⟨O, by unfold DL.frz; rw [q]; exact E⟩
    | od es => exact ⟨O, by unfold DL.frz; rw [q]; exact E⟩
    | ow ds =>
      have e : DL.frz i δ = δ.set i (.vl (.list ds)) := by unfold DL.frz; rw [q]
      rw [e]
      obtain ⟨l, xs, h1, h2, h3, r⟩ := E.at_ i _ q
      have hi : i < δ.length := (List.getElem?_eq_some_iff.mp q).1
      have tl : To O (O.filter (· ≠ l)) H H := .less fun b hb => (List.mem_filter.mp hb).1
      refine ⟨O.filter (· ≠ l), E.root, fun a ha => E.oo a (List.mem_filter.mp ha).1, by rw [List.length_set]; exact E.len, fun j s h => ?_, fun j k a es es' hjk k1 k2 k3 k4 => ?_⟩
      · rw [get_set] at h
        by_cases hij : i = j
        · rw [if_pos hij, if_pos hi] at h
          cases h
          rw [← hij]
          exact ⟨.ref l, h1, .lst (.inl h3) (fun z => by have := (List.mem_filter.mp z).2; simp at this) (r.to tl)⟩
        · rw [if_neg hij] at h
          refine (E.at_ j s h).to tl (fun a kvs g1 g2 => ⟨List.mem_filter.mpr ⟨g1, by simpa using ne_of g2 h3 (by intro z; cases z)⟩, g2⟩) fun a ys g1 g2 g3 g4 => ⟨?_, g2⟩
          obtain ⟨es, rfl⟩ := g4
          refine List.mem_filter.mpr ⟨g1, ?_⟩
          have hne : a ≠ l := fun z => by
            subst z
            exact E.dis i j a ds es hij q h h1 g3
          simpa using hne
      · rw [get_set] at k1 k2
        by_cases hij : i = j
        · rw [if_pos hij] at k1
          split at k1 <;> cases k1
        · by_cases hik : i = k
          · rw [if_pos hik] at k2
            split at k2 <;> cases k2
          · rw [if_neg hij] at k1
            rw [if_neg hik] at k2
            exact E.dis j k a es es' hjk k1 k2 k3 k4
def dLend (i : Nat) (f : DS → M D) : DS → M D := fun δ => (f (frz i δ)).thn fun d => if flatD d then M.ret d else none
def dLendT (i : Nat) (f : DS → M Bool) : DS → M Bool := fun δ => f (frz i δ)
end
section
variable {δ : DS} {f : DS → M D} {fb : DS → M Bool} {fn : DS → M (List D)} {d : D} {b : Bool} {ds : List D} {fa : DS → M (List D)} {i : Nat}
theorem ev_nLst (h : fa δ = M.ret ds) (hz : small ds.length = true) : nLst fa δ = M.ret ds := by unfold nLst; rw [h, thn_ret, if_pos hz]
end
end DL
/-! TEXTS: methods, in, chains of comparisons, f-texts, int(text), slices -/
namespace L2
open PySem PySem.Spec PyProof.Rows
section
variable {X : Cx}
theorem mt_zfill : MtR X "str.zfill" (fun x xs H Q => ∃ z i, x = .str z ∧ xs = [.int i] ∧ PadOk i = true ∧ Q (.str (Txt.zfill z i)) H) := by
  intro pins s σ H x xs v us Q I rx rs h
  obtain ⟨z, i, rfl, rfl, hp, q⟩ := h
  obtain ⟨t, rfl⟩ := rx
  obtain ⟨u, rfl, t2, rfl⟩ := vals1 rs
  exact SC.zfill hp fun t' k => ⟨.str _, H, I.tok k, ⟨t', rfl⟩, q⟩
theorem mt_partition : MtR X "str.partition" (fun x xs H Q => ∃ z y, x = .str z ∧ xs = [.str y] ∧ (y.length == 0) = false ∧ z.length ≤ sizeLine ∧
    ∀ p, H p = none → Q (.ref p) (upd H p (.tup [.str (Txt.partition z y).1, .str (Txt.partition z y).2.1, .str (Txt.partition z y).2.2]))) := by
  intro pins s σ H x xs v us Q I rx rs h
  obtain ⟨z, y, rfl, rfl, hy, hz, q⟩ := h
  obtain ⟨t, rfl⟩ := rx
  obtain ⟨u, rfl, t2, rfl⟩ := vals1 rs
  refine call_meets PySem.F.slot_str_partition (typeIs_str _ _ _) PySem.F.entry_str_partition (PySem.F.args_str_partition_2 _ _) (meets_str_partition z y t t2 hy hz) ?_
  have fin : ∀ (a b c : Str) (ta tb tc : Tok) (k : Nat), (Txt.partition z y) = (a, b, c) → EP X pins σ Q (.ref s.heap.objs.size) { s with heap := s.heap.push { cls := .type "tuple", data := .seq [.str a ta, .str b tb, .str c tc].toArray }, toks := k } := fun a b c ta tb tc k e => by
    rw [e] at q
    refine ⟨.ref s.heap.objs.size, _, I.laid (o := .tup [.str a, .str b, .str c]) (t' := k) (fun b o e => Heap.get?_push_of_some _ e) (Nat.le_refl _) ⟨by show 3 ≤ _; rw [sizeLine_eq]; omega, _, .cons ⟨ta, rfl⟩ (.cons ⟨tb, rfl⟩ (.cons ⟨tc, rfl⟩ .nil)), ⟨_, Heap.get?_push_size _ rfl, rfl, 0, rfl⟩⟩, rfl, q _ I.fresh⟩
  have e0 : Txt.partition z y = Txt.partition z y := rfl
  conv at e0 => rhs; unfold Txt.partition
  revert e0
  cases Builtin.Str.occurrences z y 0 z.length 1 with
  | nil => intro e0; exact fin _ _ _ _ _ _ _ e0
  | cons i r => intro e0; exact fin _ _ _ _ _ _ _ e0
theorem call_int_text : CallR X (.type "int") (fun xs H Q => ∃ z n, xs = [.str z] ∧ PySem.intText? z = some n ∧ z.length ≤ 640 ∧ Q (.int n) H) := by
  intro pins s σ H xs us Q I r h
  obtain ⟨z, n, rfl, hn, hl, q⟩ := h
  obtain ⟨u, rfl, t, rfl⟩ := vals1 r
  exact PySem.W.KIN.call_text hn hl ⟨.int n, H, I.tok _, ⟨_, rfl⟩, q⟩
end
end L2
/-! TEXTS over data -/
namespace L2
open PySem PySem.Spec PyProof.Rows
section
variable {X : Cx}
theorem op_le_str : OpR X (compareOp .LtE) (fun x y H Q => ∃ i j, x = .str i ∧ y = .str j ∧ Q (.bl (!decide (j.cps.toList < i.cps.toList))) H) := by
  intro pins s σ H x y v u Q I rx ry h
  obtain ⟨i, j, rfl, rfl, q⟩ := h
  obtain ⟨t, rfl⟩ := rx
  obtain ⟨t', rfl⟩ := ry
  exact PySem.P.le_str (fin_bl I q rfl)
theorem sl_str : SlR X (fun x lo hi H Q => ∃ z, x = .str z ∧ z.length ≤ sizeLine ∧ Q (.str (Txt.slice z lo hi)) H) := by
  intro pins s σ H x v vl vu lo hi sl Q I rx hs pl pu h
  obtain ⟨z, rfl, hz, q⟩ := h
  obtain ⟨t, rfl⟩ := rx
  refine ⟨"str", _, PySem.F.slot_str_getitem.lookup, typeIs_str _ _ _, ?_⟩
  obtain ⟨l, rfl, rfl⟩ : ∃ l : Option (Int × Tok), vl = partValue l ∧ lo = l.map (·.1) := by
    cases pl with
    | none => exact ⟨none, rfl, rfl⟩
    | int i t => exact ⟨some (i, t), rfl, rfl⟩
  obtain ⟨u, rfl, rfl⟩ : ∃ u : Option (Int × Tok), vu = partValue u ∧ hi = u.map (·.1) := by
    cases pu with
    | none => exact ⟨none, rfl, rfl⟩
    | int i t => exact ⟨some (i, t), rfl, rfl⟩
  refine wpAny_getItem_str_slice (l := l) (u := u) (st := none) ?_ rfl (post_val_or_str ⟨Nat.le_trans (Txt.slice_le z _ _) hz, fun t' k => ⟨.str _, H, I.tok k, ⟨t', rfl⟩, q⟩⟩)
  obtain ⟨o, h1, h2, h3⟩ := hs
  exact ⟨o, h1, h2, h3⟩
def tFV (te : TE) : TE := fun σ H Q => te σ H fun x H1 => (∃ z, x = .str z ∧ z.length ≤ sizeLine ∧ Q (.str z) H1) ∨ ∃ i : Int, x = .int i ∧ i.natAbs.log2 < 1920 ∧ Q (.str (Str.ofString (toString i))) H1
theorem pe_fv {e : Expr} {te : TE} {pos : Pos} (he : PE X e te) : PE X (.FormattedValue e (-1) none pos) (tFV te) := by
  intro pins s σ H Q I h
  refine FormattedValue_plain (thn (he pins s σ H _ I h) fun v s1 ⟨x, H1, I1, r1, q1⟩ => ?_)
  rcases q1 with ⟨z, rfl, hz, q⟩ | ⟨i, rfl, hi, q⟩
  · obtain ⟨t, rfl⟩ := r1
    exact PyProof.Rows.formatField_str (fun t' tk => ⟨.str z, H1, I1.tok tk, ⟨t', rfl⟩, q⟩) hz
  · obtain ⟨t, rfl⟩ := r1
    exact wpAny_formatField_int hi ⟨.str _, H1, I1.tok _, ⟨_, rfl⟩, q⟩
/-- the parts of an f-text, behind out -/
def tJoin : List TE → Str → TE
  | [], out => fun σ H Q => out.length ≤ sizeLine ∧ Q (.str out) H
  | t :: ts, out => fun σ H Q => t σ H fun x H1 => ∃ y, x = .str y ∧ (out ++ y).length ≤ sizeLine ∧ tJoin ts (out ++ y) σ H1 Q
inductive PJ (X : Cx) : List Expr → List TE → Prop
  | nil : PJ X [] []
  | cons {e : Expr} {es : List Expr} {t : TE} {ts : List TE} (h : PE X e t) (hs : PJ X es ts) (he : evalEach (e :: es) X.env = eval e X.env :: evalEach es X.env) : PJ X (e :: es) (t :: ts)
theorem join_ok {es : List Expr} {ts : List TE} (h : PJ X es ts) : ∀ (out : Str) (pins : List (Addr × Obj)) (s : Shared) (σ : St) (H : Hp) (Q : VK), Inv X pins σ H s → tJoin ts out σ H Q → wpAny (model X.prog X.w) X.A (joinParts out (evalEach es X.env)) (EP X pins σ Q) X.xe s := by
  induction h with
  | nil =>
    intro out pins s σ H Q I q
    exact joinParts_nil ⟨.str out, H, I.tok _, ⟨_, rfl⟩, q.2⟩ q.1
  | cons h hs he ih =>
    intro out pins s σ H Q I q
    rw [he]
    refine joinParts_cons (thn (h pins s σ H _ I q) fun v s1 ⟨x, H1, I1, r1, y, e, hz, q1⟩ => ?_)
    subst e
    obtain ⟨t, rfl⟩ := r1
    exact ⟨hz, ih (out ++ y) pins s1 σ H1 Q I1 q1⟩
theorem pe_joined {e1 e2 : Expr} {es : List Expr} {ts : List TE} {pos : Pos} (h : PJ X (e1 :: e2 :: es) ts) : PE X (.JoinedStr (e1 :: e2 :: es) pos) (tJoin ts Str.empty) := by
  intro pins s σ H Q I q
  refine JoinedStr_many ?_
  have := join_ok h Str.empty pins s σ H Q I q
  cases h with
  | cons h hs he =>
    cases hs with
    | cons h' hs' he' =>
      rw [he, he'] at this
      exact this
end
end L2
namespace DL
open PySem PySem.Spec PyProof.Rows L2
section
variable {X : Cx} {G : XD → Hp → Prop} {a b c e o : Expr} {es : List Expr} {f g k : DS → M D} {fa : DS → M (List D)} {pos apos cpos : Pos}
/-! ### methods of texts -/
def DMt (X : Cx) (id : String) (h : Str → List D → Option D) : Prop :=
  ∃ r, MtR X id r ∧ ∀ (O : List Addr) (H : Hp) (z : Str) (xs : List D) (d : D) (vs : List V) (Q : VK), (∀ l ∈ O, Mu H l) → Reps X.K O H vs xs → h z xs = some d → (∀ v' H', Same H H' → Rep X.K O H' v' d → Q v' H') → r (.str z) vs H Q
def dMeth (h : Str → List D → Option D) (f : DS → M D) (fa : DS → M (List D)) : DS → M D := fun δ => (f δ).thn fun d => match d with
  | .str z => (fa δ).thn fun xs => M.lift (h z xs)
  | _ => none
theorem pd_meth {id : String} {name : Str} {h : Str → List D → Option D} (slot : Slot "str" name id) (hty : typeOf (.builtin id) = pure (.type "method_descriptor")) (hm : DMt X id h) (ho : PD X G o f) (ha : PDA X G (e :: es) fa)
    (hbase : attributeBase o name X.env (eval o X.env) = eval o X.env := by rfl)
    (hfew : ((backTo cpos (starEach (e :: es) X.env)).all (fun x => !x.1) && (backToKw cpos (keywordEach [] X.env)).all (fun x => x.1.isSome)
      && decide ((e :: es).length + ([] : List Keyword).length + (if ([] : List Keyword).isEmpty then 0 else 1) < 30)) = true := by rfl)
    (hline : (apos.endLine == cpos.line) = true := by rfl) (hs : starEach (e :: es) X.env = (false, eval e X.env) :: starEach es X.env := by rfl) (hplain : (backTo cpos (starEach es X.env)).any (·.1) = false := by rfl) :
    PD X G (.Call (.Attribute o name apos) (e :: es) [] cpos) (dMeth h f fa) := by
  obtain ⟨r, hr, hm⟩ := hm
  obtain ⟨t, p, ho⟩ := ho
  obtain ⟨_, u, q, ha⟩ := ha
  refine ⟨_, pe_bm PySem.F.plainAttrs_str slot hty hr p q hbase hfew hline hs hplain, fun δ O σ H Q E k => ?_⟩
  refine ho δ O σ H _ E (ok_mono (ok_thn k) fun d z v H1 s1 rd => ?_)
  match d, z, rd with
  | .str w, z, rd =>
    rw [rd.str_inv]
    refine ⟨rfl, ha δ O σ H1 _ (E.same s1) (ok_mono (ok_thn z) fun xs zz vs H2 s2 rs => ?_)⟩
    obtain ⟨y, hy, zz⟩ := ok_lift zz
    exact hm O H2 w xs y vs Q (E.same (s1.trans s2)).oo rs hy fun v' H3 s3 r3 => zz v' H3 ((s1.trans s2).trans s3) r3
def sZfill (z : Str) : List D → Option D
  | [.int i] => if PadOk i then some (.str (Txt.zfill z i)) else none
  | _ => none
theorem dmt_zfill : DMt X "str.zfill" sZfill := by
  refine ⟨_, mt_zfill, fun O H z xs d vs Q oo rs e k => ?_⟩
  unfold sZfill at e
  split at e
  · rename_i i
    by_cases hp : PadOk i = true
    · rw [if_pos hp] at e
      cases e
      obtain ⟨v, rfl, r⟩ := reps1 rs
      exact ⟨z, i, rfl, by rw [r.int_inv], hp, k _ H (Same.refl H) (.str _)⟩
    · rw [if_neg hp] at e; cases e
  · cases e
def sFind (z : Str) : List D → Option D
  | [.str y] => some (.int (Txt.find z y))
  | _ => none
def sPartition (z : Str) : List D → Option D
  | [.str y] => if ((y.length == 0) == false && small z.length) = true then some (.tuple [.str (Txt.partition z y).1, .str (Txt.partition z y).2.1, .str (Txt.partition z y).2.2]) else none
  | _ => none
theorem dmt_partition : DMt X "str.partition" sPartition := by
  refine ⟨_, mt_partition, fun O H z xs d vs Q oo rs e k => ?_⟩
  unfold sPartition at e
  split at e
  · rename_i y
    by_cases hp : ((y.length == 0) == false && small z.length) = true
    · rw [if_pos hp] at e
      cases e
      obtain ⟨h1, h2⟩ := Bool.and_eq_true_iff.mp hp
      obtain ⟨v, rfl, r⟩ := reps1 rs
      exact ⟨z, y, rfl, by rw [r.str_inv], by simpa using h1, small_le h2, fun p hp => k _ _ (same_new hp) (rep_newT hp (.cons (.str _) (.cons (.str _) (.cons (.str _) .nil))))⟩
    · rw [if_neg hp] at e; cases e
  · cases e
def strsOf : List D → Option (List Str)
  | [] => some []
  | .str z :: r => (strsOf r).map (z :: ·)
  | _ => none
def sJoin (z : Str) : List D → Option D
  | [.list ds] => match strsOf ds with
    | some ts => if JoinOk z ts then some (.str (Txt.join z ts)) else none
    | none => none
  | _ => none
def splitOk (z y : Str) : Bool := (y.length == 0) == false && small z.length && small (Txt.split z y).length && small (Builtin.Str.partsBetween z (Builtin.Str.occurrences z y 0 z.length (z.length + 1)) y.length).length
def sSplit (z : Str) : List D → Option D
  | [.str y] => if splitOk z y then some (.list ((Txt.split z y).map PyData.str)) else none
  | _ => none
/-! ### int(x), x a text too -/
def oIntS : List D → Option D
  | [.str z] => match PySem.intText? z with
    | some n => if z.length ≤ 640 then some (.int n) else none
    | none => none
  | ds => oInt ds
theorem dcall_intS : DCall X (.type "int") oIntS := by
  refine ⟨_, call_int_text.or call_int1, fun O H ds d vs Q oo rs e k => ?_⟩
  unfold oIntS at e
  split at e
  · rename_i z
    split at e
    · rename_i n hn
      by_cases hl : z.length ≤ 640
      · rw [if_pos hl] at e
        cases e
        obtain ⟨v, rfl, r⟩ := reps1 rs
        exact .inl ⟨z, n, by rw [r.str_inv], hn, hl, k _ H (Same.refl H) (.int _)⟩
      · rw [if_neg hl] at e; cases e
    · cases e
  · unfold oInt at e
    split at e
    · cases e
      obtain ⟨v, rfl, r⟩ := reps1 rs
      exact .inr (.inl ⟨_, by rw [r.int_inv], k _ H (Same.refl H) (.int _)⟩)
    · cases e
      obtain ⟨v, rfl, r⟩ := reps1 rs
      exact .inr (.inr ⟨_, by rw [r.bool_inv], k _ H (Same.refl H) (.int _)⟩)
    · cases e
/-! ### comparisons -/
def oLeD : D → D → Option D
  | .int i, .int j => some (.bool (decide (i ≤ j)))
  | .str i, .str j => some (.bool (!decide (j.cps.toList < i.cps.toList)))
  | _, _ => none
theorem dop_leD : DOp X (compareOp .LtE) oLeD := by
  refine ⟨_, op_le.or op_le_str, fun O H x y d v u Q oo rx ry e k => ?_⟩
  unfold oLeD at e
  split at e
  · cases e
    exact .inl ⟨_, _, rx.int_inv, ry.int_inv, k _ H (Same.refl H) (.bl _)⟩
  · cases e
    exact .inr ⟨_, _, rx.str_inv, ry.str_inv, k _ H (Same.refl H) (.bl _)⟩
  · cases e
def oInS : D → D → Option D
  | .str i, .str j => some (.bool (!(Builtin.Str.occurrences j i 0 j.length 1).isEmpty))
  | _, _ => none
theorem dop_inS : DOp X (compareOp .In) oInS := by
  refine ⟨_, op_in_str, fun O H x y d v u Q oo rx ry e k => ?_⟩
  unfold oInS at e
  split at e
  · cases e
    exact ⟨_, _, rx.str_inv, ry.str_inv, k _ H (Same.refl H) (.bl _)⟩
  · cases e
/-- a op b op' c -/
def dChain (h h' : D → D → Option D) (f g k : DS → M D) : DS → M D := fun δ => (f δ).thn fun x => (g δ).thn fun y => (M.lift (h x y)).thn fun z => match z with
  | .bool true => (k δ).thn fun w => M.lift (h' y w)
  | .bool false => M.ret (.bool false)
  | _ => none
theorem chain_run {h h' : D → D → Option D} {r r' : R2} {ta tb tc : TE}
    (ho : ∀ (O : List Addr) (H : Hp) (x y d : D) (v u : V) (Q : VK), (∀ l ∈ O, Mu H l) → Rep X.K O H v x → Rep X.K O H u y → h x y = some d → (∀ v' H', Same H H' → Rep X.K O H' v' d → Q v' H') → r v u H Q)
    (ho' : ∀ (O : List Addr) (H : Hp) (x y d : D) (v u : V) (Q : VK), (∀ l ∈ O, Mu H l) → Rep X.K O H v x → Rep X.K O H u y → h' x y = some d → (∀ v' H', Same H H' → Rep X.K O H' v' d → Q v' H') → r' v u H Q)
    (ha : ∀ {Hr : Hp} (δ : DS) (O : List Addr) (σ : St) (H : Hp) (Q : VK), Ev X.K Hr O H σ δ → ok (GS G Hr) (f δ) (fun d => ∀ v H', Same H H' → Rep X.K O H' v d → Q v H') → ta σ H Q)
    (hb : ∀ {Hr : Hp} (δ : DS) (O : List Addr) (σ : St) (H : Hp) (Q : VK), Ev X.K Hr O H σ δ → ok (GS G Hr) (g δ) (fun d => ∀ v H', Same H H' → Rep X.K O H' v d → Q v H') → tb σ H Q)
    (hc : ∀ {Hr : Hp} (δ : DS) (O : List Addr) (σ : St) (H : Hp) (Q : VK), Ev X.K Hr O H σ δ → ok (GS G Hr) (k δ) (fun d => ∀ v H', Same H H' → Rep X.K O H' v d → Q v H') → tc σ H Q)
    {Hr : Hp} (δ : DS) (O : List Addr) (σ : St) (H : Hp) (Q : VK) (E : Ev X.K Hr O H σ δ) (q : ok (GS G Hr) (dChain h h' f g k δ) (fun d => ∀ v H', Same H H' → Rep X.K O H' v d → Q v H')) : tChain r r' ta tb tc σ H Q := by
  refine ha δ O σ H _ E (ok_mono (ok_thn q) fun x kx v H1 s1 rx => ?_)
  refine hb δ O σ H1 _ (E.same s1) (ok_mono (ok_thn kx) fun y ky u H2 s2 ry => ?_)
  obtain ⟨d, hd, kd⟩ := ok_lift (ok_thn ky)
  have s12 := s1.trans s2
  refine ho O H2 x y d v u _ (E.same s12).oo (rx.same s2) ry hd fun v' H3 s3 r3 => ?_
  match d, kd, r3 with
  | .bool true, kd, r3 =>
    refine ⟨true, r3.bool_inv, ?_⟩
    rw [if_pos rfl]
    refine hc δ O σ H3 _ (E.same (s12.trans s3)) (ok_mono (ok_thn kd) fun w kw v2 H4 s4 rw' => ?_)
    obtain ⟨d2, hd2, kd2⟩ := ok_lift kw
    exact ho' O H4 y w d2 u v2 Q (E.same ((s12.trans s3).trans s4)).oo ((ry.same s3).same s4) rw' hd2 fun v3 H5 s5 r5 => kd2 v3 H5 (((s12.trans s3).trans s4).trans s5) r5
  | .bool false, kd, r3 =>
    refine ⟨false, r3.bool_inv, ?_⟩
    rw [if_neg Bool.false_ne_true]
    exact kd _ H3 (s12.trans s3) (.bl false)
theorem pd_chain {op op' : CmpOp} {h h' : D → D → Option D} (ho : DOp X (compareOp op) h) (ho' : DOp X (compareOp op') h') (ha : PD X G a f) (hb : PD X G b g) (hc : PD X G c k) (hm : lastMarks [op, op'] [b, c] = false := by with_unfolding_all rfl) :
    PD X G (.Compare a [op, op'] [b, c] pos) (dChain h h' f g k) := by
  obtain ⟨r, hr, ho⟩ := ho
  obtain ⟨r', hr', ho'⟩ := ho'
  obtain ⟨ta, pa, ha⟩ := ha
  obtain ⟨tb, pb, hb⟩ := hb
  obtain ⟨tc, pc, hc⟩ := hc
  exact ⟨_, pe_chain hr hr' pa pb pc hm, chain_run ho ho' ha hb hc⟩
/-! ### o[lo:hi], texts too -/
variable {lo hi : Option Expr} {fl fh : DS → M (Option Int)} {p2 : Pos}
def oCutS (lo hi : Option Int) : D → Option D
  | .str z => if small z.length then some (.str (Txt.slice z lo hi)) else none
  | d => oCut lo hi d
def dCutS (f : DS → M D) (fl fh : DS → M (Option Int)) : DS → M D := fun δ => (f δ).thn fun x => (fl δ).thn fun l => (fh δ).thn fun u => M.lift (oCutS l u x)
theorem pd_cutS (he : PD X G e f) (hl : PDO X G lo fl) (hh : PDO X G hi fh) : PD X G (.Subscript e (.Slice lo hi none p2) pos) (dCutS f fl fh) := by
  obtain ⟨t, p, he⟩ := he
  obtain ⟨tl, pl, hl⟩ := hl
  obtain ⟨th, ph, hh⟩ := hh
  refine ⟨_, pe_slice (sl_str.or (sl_list.or sl_tup)) p pl ph, fun δ O σ H Q E k => ?_⟩
  refine he δ O σ H _ E (ok_mono (ok_thn k) fun d z v H1 s1 r => ?_)
  refine hl δ O σ H1 _ (E.same s1) (ok_mono (ok_thn z) fun l z H2 s2 => ?_)
  refine hh δ O σ H2 _ (E.same (s1.trans s2)) (ok_mono (ok_thn z) fun u z H3 s3 => ?_)
  obtain ⟨y, hy, z⟩ := ok_lift z
  have r3 := (r.same s2).same s3
  have s03 := (s1.trans s2).trans s3
  have E3 := E.same s03
  cases d with
  | str w =>
    have hy : (if small w.length = true then some (PyData.str (Txt.slice w l u)) else none) = some y := hy
    by_cases hw : small w.length = true
    · rw [if_pos hw] at hy
      cases hy
      exact .inl ⟨w, r3.str_inv, small_le hw, z _ _ s03 (.str _)⟩
    · rw [if_neg hw] at hy; cases hy
  | list ds =>
    cases hy
    obtain ⟨a, xs, rfl, h1, rs⟩ := r3.lst_inv
    exact .inr (.inl ⟨a, xs, rfl, h1, fun p hp => z _ _ (s03.trans (same_new hp)) (rep_newL E3.oo hp (rs.cut l u))⟩)
  | tuple ds =>
    have hy : (if HT.sIx ds.length 0 l = 0 ∧ HT.sIx ds.length ds.length u = ds.length then none else some (PyData.tuple (cutD ds l u))) = some y := hy
    by_cases hw : HT.sIx ds.length 0 l = 0 ∧ HT.sIx ds.length ds.length u = ds.length
    · rw [if_pos hw] at hy; cases hy
    · rw [if_neg hw] at hy
      cases hy
      obtain ⟨a, xs, rfl, h1, rs⟩ := r3.tup_inv
      exact .inr (.inr ⟨a, xs, rfl, h1, by rw [rs.length]; exact hw, fun p hp => z _ _ (s03.trans (same_new hp)) (rep_newT hp (rs.cut l u))⟩)
  | _ => cases hy
/-! ### f-texts -/
def txtOf : D → Option Str
  | .str z => if small z.length then some z else none
  | .int i => if i.natAbs.log2 < 1920 then some (Str.ofString (toString i)) else none
  | _ => none
def dFV (f : DS → M D) : DS → M D := fun δ => (f δ).thn fun d => match txtOf d with
  | some z => M.ret (.str z)
  | none => none
theorem pd_fv (h : PD X G e f) : PD X G (.FormattedValue e (-1) none pos) (dFV f) := by
  obtain ⟨t, p, h⟩ := h
  refine ⟨_, pe_fv p, fun δ O σ H Q E k => ?_⟩
  refine h δ O σ H _ E (ok_mono (ok_thn k) fun d z v H1 s1 r => ?_)
  cases ht : txtOf d with
  | none => rw [ht] at z; exact z.elim
  | some w =>
    rw [ht] at z
    unfold txtOf at ht
    split at ht
    · rename_i y
      by_cases hw : small y.length = true
      · rw [if_pos hw] at ht
        cases ht
        exact .inl ⟨_, r.str_inv, small_le hw, z _ H1 s1 (.str _)⟩
      · rw [if_neg hw] at ht; cases ht
    · rename_i i
      by_cases hw : i.natAbs.log2 < 1920
      · rw [if_pos hw] at ht
        cases ht
        exact .inr ⟨i, r.int_inv, hw, z _ H1 s1 (.str _)⟩
      · rw [if_neg hw] at ht; cases ht
    · cases ht
def joinD : List (DS → M D) → Str → DS → M D
  | [], out => fun _ => if small out.length then M.ret (.str out) else none
  | f :: fs, out => fun δ => (f δ).thn fun d => match d with
    | .str y => if small (out ++ y).length then joinD fs (out ++ y) δ else none
    | _ => none
inductive PDJ (X : Cx) (G : XD → Hp → Prop) : List Expr → List (DS → M D) → Prop
  | nil : PDJ X G [] []
  | cons {e : Expr} {es : List Expr} {f : DS → M D} {fs : List (DS → M D)} (h : PD X G e f) (hs : PDJ X G es fs) (he : evalEach (e :: es) X.env = eval e X.env :: evalEach es X.env := by rfl) : PDJ X G (e :: es) (f :: fs)
theorem pdj_run {es : List Expr} {fs : List (DS → M D)} (h : PDJ X G es fs) : ∃ ts, PJ X es ts ∧ ∀ (out : Str) {Hr : Hp} (δ : DS) (O : List Addr) (σ : St) (H : Hp) (Q : VK), Ev X.K Hr O H σ δ → ok (GS G Hr) (joinD fs out δ) (fun d => ∀ v H', Same H H' → Rep X.K O H' v d → Q v H') → tJoin ts out σ H Q := by
  induction h with
  | nil =>
    refine ⟨[], .nil, fun out Hr δ O σ H Q E k => ?_⟩
    unfold joinD at k
    by_cases hw : small out.length = true
    · rw [if_pos hw] at k
      exact ⟨small_le hw, k _ H (Same.refl H) (.str _)⟩
    · rw [if_neg hw] at k; exact k.elim
  | cons h hs he ih =>
    obtain ⟨ts, p, ih⟩ := ih
    obtain ⟨t, q, h⟩ := h
    refine ⟨t :: ts, .cons q p he, fun out Hr δ O σ H Q E k => ?_⟩
    refine h δ O σ H _ E (ok_mono (ok_thn k) fun d z v H1 s1 r => ?_)
    match d, z, r with
    | .str y, z, r =>
      by_cases hw : small (out ++ y).length = true
      · have z : ok _ (if small (out ++ y).length = true then _ else none) _ := z
        rw [if_pos hw] at z
        refine ⟨y, r.str_inv, small_le hw, ih (out ++ y) δ O σ H1 Q (E.same s1) (ok_mono z fun d q v H2 s2 => q v H2 (s1.trans s2))⟩
      · have z : ok _ (if small (out ++ y).length = true then _ else none) _ := z
        rw [if_neg hw] at z
        exact z.elim
theorem pd_joined {e1 e2 : Expr} {es : List Expr} {fs : List (DS → M D)} (h : PDJ X G (e1 :: e2 :: es) fs) : PD X G (.JoinedStr (e1 :: e2 :: es) pos) (joinD fs Str.empty) := by
  obtain ⟨ts, p, h⟩ := pdj_run h
  exact ⟨_, pe_joined p, h Str.empty⟩
/-! ### a name of the file's top -/
theorem pd_globS {x z : Str} {t : Tok} (hg : Gl X x) (hm : X.mg x = some (.str z t)) (hd : (x == ("__debug__" : Str)) = false := by decide) : PD X G (.Name x pos) (dC (.str z)) :=
  ⟨_, pe_glob (v := .str z) hg hm ⟨t, rfl⟩ hd, fun _ _ _ H Q _ k => k _ H (Same.refl H) (.str z)⟩
end
end DL
/-! name = [a comprehension] -/
namespace L2
open PySem PySem.Spec PyProof.Rows
section
variable {X : Cx}
theorem ps_compG {y : Str} {py spos : Pos} {iy : Nat} {cl : List (Str × Addr)} {fr : List (Nat × Str)} {tn : List Str} {elt iter tg : Expr} {ifs : List Expr} {scope : Scope} {pos : Pos} {wi : TI} {g : TG} {tc : TT} {te : TE} (hc : X.calm = true)
    (hkind : scope.kind = .function) (hcell : ∀ y ∈ scope.names, y.2 ≠ .cell) (hclos : closureFor scope X.env = pure cl) (hsub : ∀ y c, cl.lookup y = some c → X.env.cells.lookup y = some c)
    (hhas : ∀ y ∈ (relabel scope X.env).names, (y.2 = .cell ∨ y.2 = .free) → ∃ c, cl.lookup y.1 = some c) (hfr : ∀ p ∈ fr, X.N[p.1]? = some p.2 ∧ X.env.kindOf p.2 = some .cell ∧ (compEnvC scope cl 0 X.env).kindOf p.2 = some .cell ∧ ∃ c, cl.lookup p.2 = some c) (hnames : ∀ y ∈ scope.names, y.2 = .local → scope.names.lookup y.1 = some .local)
    (hi : PI X tg iter wi) (hg : ∀ C s3 H3 fp, PG (compCxG X scope cl fr tn C s3 H3 fp) tg g) (hcs : ∀ C s3 H3 fp, PTs (compCxG X scope cl fr tn C s3 H3 fp) ifs tc) (he : ∀ C s3 H3 fp, PE (compCxG X scope cl fr tn C s3 H3 fp) elt te) (hs : ∀ x, foldedSetIterable iter X.env x = pure x := by intro _; rfl)  (hsw : swapsWith (.ListComp elt [⟨tg, iter, ifs, 0⟩] scope pos) (some (.Name y py)) spos.line X.env = pure true := by rfl)
    (hN : X.N.Nodup) (hiy : X.N[iy]? = some y) (hly : Loc X.env.scope y) (hfy : X.fn y = true ∨ X.env.scope.names.lookup y = some .local := by first | exact .inl rfl | exact .inr rfl | assumption) :
    PS X (.Assign [.Name y py] (.ListComp elt [⟨tg, iter, ifs, 0⟩] scope pos) spos) (fun Dn σ H => tCompG tn.length fr wi g tc te σ H fun v H1 => Dn.nx (σ.set iy (some v)) H1) := by
  intro pins s σ H Dn I h
  rw [exec_Assign_Name_used _ _ _ _ hsw]
  refine wpAny_bind (wpAny_standAt (wpAny_bind ?_))
  show wpAny _ X.A (do let _ ← comprehension (.ListComp elt [⟨tg, iter, ifs, 0⟩] scope pos) scope X.env _ (newList []) false (eval iter X.env) (some (assign (.Name y py) X.env))) _ _ s
  refine wpAny_bind (wpAny_mono (wpAny_comprehension_free (use := some (assign (.Name y py) X.env)) (Q := fun _ s' => SP X pins Dn .next s') rfl hs hclos hkind hnames (thn (hi pins s σ H _ I h) fun v s1 h1 => thn h1 fun itv s2 h2 => ?_)) (fun _ s' hq => wpAny_pure (wpAny_pure hq)) fun _ _ e => e)
  obtain ⟨it, fp, tk, J, H2, e, I2, T, st2, f2, R⟩ := h2
  subst e
  have fl : H2 s2.heap.objs.size = none := I2.hok.fresh (Nat.le_refl _)
  obtain ⟨W, ⟨m0, w0⟩, turn⟩ := R s2.heap.objs.size fl
  refine wpAny_newObj_type (wpAny_newFunctionEnv hcell (by intro y hy; simp at hy) (fun h4 hns hsb => ?_) hkind)
  -- the list is laid and tracked
  have I3 : Inv X pins σ (upd H2 s2.heap.objs.size (.lst [])) { s2 with heap := s2.heap.push { cls := .type "list", data := .seq ([] : List Value).toArray } } :=
    I2.laid (t' := s2.toks) (fun b o e => Heap.get?_push_of_some _ e) (Nat.le_refl _) ⟨Nat.zero_le _, [], 0, .nil, Heap.get?_push_size _ rfl⟩
  have ob : ∀ b ∈ fp, ∃ o, s2.heap.get? b = some o := fun b hb => let ⟨o, ho, _⟩ := T.obj 0 _ st2 b hb; ⟨o, ho⟩
  have f3 : ∀ b ∈ fp, FpOk X pins (upd H2 s2.heap.objs.size (.lst [])) b := fun b hb => by
    obtain ⟨g0, g1, g2, g3, g4, g5⟩ := f2 b hb
    obtain ⟨o, ho⟩ := ob b hb
    exact ⟨by rw [upd_ne (Nat.ne_of_lt (Heap.lt_size ho))]; exact g0, g1, g2, g3, g4, g5⟩
  generalize hs3 : ({ s2 with heap := s2.heap.push { cls := .type "list", data := .seq ([] : List Value).toArray } } : Shared) = s3 at I3
  have heap3 : s2.heap.push { cls := .type "list", data := .seq ([] : List Value).toArray } = s3.heap := by rw [← hs3]
  have old3 : ∀ b o, s2.heap.get? b = some o → s3.heap.get? b = some o := fun b o e => by rw [← heap3]; exact Heap.get?_push_of_some _ e
  have ok3 : (compCxG X scope cl fr tn s3.heap.objs.size s3 (upd H2 s2.heap.objs.size (.lst [])) fp).Ok := by
    refine compG_ok I3 hkind hsub hhas (Nat.le_refl _) (fun b hb => ⟨f3 b hb, let ⟨o, ho⟩ := ob b hb; ⟨o, old3 b o ho⟩⟩) (fun b hb z => ?_) fun b hb => ?_
    · obtain ⟨_, g1, g2, _⟩ := f2 b hb
      rcases List.mem_cons.mp (I2.stkSub b z) with q | q
      · exact g1 q
      · exact g2 q
    · obtain ⟨_, _, _, g3, _⟩ := f2 b hb
      rcases g3 with q | q
      · cases e : X.base.get? b with
        | none => rfl
        | some o => exact absurd q (I.ok.noex b o e)
      · exact Heap.get?_none_of_le (Nat.le_trans I.ok.bsz q)
  have hns3 : h4.Ns s3.heap.objs.size (fun y => ([] : List (Str × Value)).reverse.lookup y) := by rw [← heap3]; exact hns
  have keep4 : ∀ b o, s3.heap.get? b = some o → h4.get? b = some o := fun b o e => by
    have e1 : (s2.heap.push { cls := .type "list", data := .seq ([] : List Value).toArray }).get? b = some o := by rw [heap3]; exact e
    exact (hsb.2 b (Nat.ne_of_lt (Heap.lt_size e1))).trans (Heap.get?_push_of_some _ e1)
  have I4 : Inv (compCxG X scope cl fr tn s3.heap.objs.size s3 (upd H2 s2.heap.objs.size (.lst [])) fp) [] (compSt tn.length fr σ) (upd H2 s2.heap.objs.size (.lst [])) { s3 with heap := h4 } := by
    refine ⟨ok3, rfl, I3.bare, Un.kept keep4, ⟨_, hns3, fun i y v e1 e2 e3 => ?_⟩, (fun y c h => let ⟨v, oc, ho, hd⟩ := I3.cell y c (hsub y c h); ⟨v, oc, keep4 _ _ ho, hd⟩), I3.hok.fresh (Nat.le_refl _), (fun y c h => I3.freeC y c (hsub y c h)), (fun p hp => nomatch hp), I3.hok.kept keep4, by simp [compCxG, compSt]⟩
    have e1 : (tn ++ fr.map (·.2))[i]? = some y := e1
    have e2 : (List.replicate tn.length none ++ fr.map fun p => (σ[p.1]?).join)[i]? = some (some v) := e2
    by_cases hlt : i < tn.length
    · rw [List.getElem?_append_left (by simpa using hlt), List.getElem?_replicate] at e2
      split at e2 <;> cases e2
    · rw [List.getElem?_append_right (by omega)] at e1
      rw [List.getElem?_append_right (by simpa using hlt), List.length_replicate] at e2
      rw [List.getElem?_map] at e1 e2
      cases q : fr[i - tn.length]? with
      | none => rw [q] at e1; cases e1
      | some p =>
        rw [q] at e1 e2
        have e1 : p.2 = y := Option.some.inj e1
        have e2 : (σ[p.1]?).join = some v := Option.some.inj e2
        subst e1
        obtain ⟨g1, g2, g3, c, g4⟩ := hfr p (List.mem_of_getElem? q)
        have e4 : σ[p.1]? = some (some v) := by
          cases z : σ[p.1]? with
          | none => rw [z] at e2; cases e2
          | some w' => rw [z] at e2; exact congrArg some e2
        obtain ⟨m, hn, hl⟩ := I3.loc
        obtain ⟨u, ru, lk⟩ := hl p.1 p.2 v g1 e4 (.inr (.inl g2))
        refine ⟨u, ru, .inr ⟨.inl g3, c, g4, ?_⟩⟩
        rcases lk with ⟨k1, _⟩ | ⟨_, c', k2, k3⟩
        · rw [g2] at k1; cases k1
        · rw [hsub _ _ g4] at k2
          cases k2
          obtain ⟨oc, ho, hd⟩ := k3
          exact ⟨oc, keep4 _ _ ho, hd⟩
  have st4 : tk 0 h4 := T.keep 0 _ _ st2 fun b hb o e => keep4 b o (old3 b o e)
  have loop : codeAny (model X.prog X.w) X.A (.compLoop (.ListComp elt [⟨tg, iter, ifs, 0⟩] scope pos) 0 (.ref it) (.ref s2.heap.objs.size) (compEnvC scope cl s3.heap.objs.size X.env))
      (compPost (model X.prog X.w) X.A X.xe (some (assign (.Name y py) X.env)) (fun _ s' => SP X pins Dn .next s') (.ref s2.heap.objs.size) s3.heap.objs.size) { s3 with heap := h4 } := by
    refine codeAny_loop rfl (fun n s' => ∃ i σ' xs H', Inv (compCxG X scope cl fr tn s3.heap.objs.size s3 (upd H2 s2.heap.objs.size (.lst [])) fp) [] σ' H' s' ∧ tk i s'.heap ∧ (∀ b ∈ fp, H' b = none) ∧ W i n σ' xs H') (fun n s' hI => ?_) m0
      ⟨0, _, [], _, I4, st4, fun b hb => (f3 b hb).1, w0⟩
    show wpAny _ _ ((compTurn (.ListComp elt [⟨tg, iter, ifs, 0⟩] scope pos) 0 (.ref it) (.ref s2.heap.objs.size) (compEnvC scope cl s3.heap.objs.size X.env)).onRaise (fun x => do noteFrame x _; theTreesLotGoes x)) _ _ s'
    refine wpAny_noted ?_
    rw [compTurn_list]
    obtain ⟨i, σ5, xs, H5, I5, st5, fr5, w5⟩ := hI
    have stat : ∀ {H' : Hp}, (∀ b ∈ fp, H' b = none) → ∀ b ∈ fp, FpOk (compCxG X scope cl fr tn s3.heap.objs.size s3 (upd H2 s2.heap.objs.size (.lst [])) fp) [] H' b := fun hn b hb =>
      ⟨hn b hb, (ok3.exf b hb).1, ok3.exfs b hb, .inl hb, (ok3.exf b hb).2, fun p hp => nomatch hp⟩
    obtain ⟨hl, alt⟩ := turn i n σ5 xs H5 w5
    rcases alt with ⟨stop, qn⟩ | ⟨go, hz, step⟩
    · refine wpAny_bind (wpAny_standAt (wpAny_bind (thn (T.done (compCxG X scope cl fr tn s3.heap.objs.size s3 (upd H2 s2.heap.objs.size (.lst [])) fp) rfl rfl rfl hc i [] s' σ5 H5 _ I5 (stat fr5) st5 stop) fun r s6 ⟨hr, I6⟩ => ?_)))
      subst hr
      refine wpAny_pure ?_
      obtain ⟨m, hn6, _⟩ := I6.loc
      have I6' : Inv X pins σ H5 s6 := compG_out I3 f3 (Nat.le_refl _) I6 (h' := s6.heap) ⟨rfl, fun _ _ => rfl⟩
      have ab : ∀ {b : Addr} {o : Obj}, s3.heap.get? b = some o → b ≠ s3.heap.objs.size := fun e => Nat.ne_of_lt (Heap.lt_size e)
      have nL : X.env.locals ≠ s3.heap.objs.size := by
        obtain ⟨_, ⟨o, _, _, ho, _⟩, _⟩ := I3.loc
        exact ab ho
      have nC : ∀ z c, X.env.cells.lookup z = some c → c ≠ s3.heap.objs.size := fun z c e => by
        obtain ⟨w', oc, ho, _⟩ := I3.cell z c e
        exact ab ho
      show wpAny _ X.A (assign (.Name y py) X.env (.ref s2.heap.objs.size)) _ _ s6
      refine wpAny_assign_Name (store_ok2 (v := .ref s2.heap.objs.size) I6' hN hiy hly rfl (fun s7 I7 hs7 => ?_) hfy)
      obtain ⟨a, sb, ha⟩ := hs7
      have hna : s3.heap.objs.size ≠ a := by
        rcases ha with rfl | ha
        · exact nL.symm
        · exact (nC _ _ ha).symm
      refine ⟨m, hn6.sameBut sb hna, fun h' hs' => ⟨σ.set iy (some (.ref s2.heap.objs.size)), H5, ?_, qn⟩⟩
      have hfr : H5 s3.heap.objs.size = none := I6.free
      exact I7.turned (t' := s7.toks) (fun b o hb e => (hs'.2 b hb).trans e) hfr nL.symm (.inr (Nat.le_trans I3.ok.above (Nat.le_of_lt I3.lt))) nC fun p hp => ab (I3.pin p hp).1
    · refine wpAny_bind (wpAny_standAt (wpAny_bind (thn (T.item (compCxG X scope cl fr tn s3.heap.objs.size s3 (upd H2 s2.heap.objs.size (.lst [])) fp) rfl rfl rfl hc i [] s' σ5 H5 _ I5 (stat fr5) st5 go) fun r s6 ⟨u, hr, h6⟩ => ?_)))
      subst hr
      refine wpAny_bind (thn h6 fun _ s7 ⟨y, H7, I7, r7, y7, st7, fr7⟩ => ?_)
      have I7' := I7.pinned (stat fr7) (T.obj _ _ st7)
      have hP := hg s3.heap.objs.size s3 (upd H2 s2.heap.objs.size (.lst [])) fp _ s7 σ5 H7 y u _ I7' r7 (step y H7 y7)
      refine wpAny_bind (wpAny_mono hP (fun _ s8 ⟨σ8, H8, I8, q8⟩ => ?_) (fun _ _ z => False.elim z))
      refine wpAny_bind (wpAny_mono (hcs s3.heap.objs.size s3 (upd H2 s2.heap.objs.size (.lst [])) fp _ s8 σ8 H8 _ I8 q8) (fun b s9 ⟨H9, I9, q9⟩ => ?_) (fun _ _ z => False.elim z))
      have again : ∀ {σ7 : St} {H7 : Hp} {s7' : Shared} {xs' : List V}, Inv (compCxG X scope cl fr tn s3.heap.objs.size s3 (upd H2 s2.heap.objs.size (.lst [])) fp) ([] ++ pinsAt fp s7.heap) σ7 H7 s7' → (∃ m', m' < n ∧ W (i + 1) m' σ7 xs' H7) →
          ∃ m, m < n ∧ ∃ i σ' xs H', Inv (compCxG X scope cl fr tn s3.heap.objs.size s3 (upd H2 s2.heap.objs.size (.lst [])) fp) [] σ' H' s7' ∧ tk i s7'.heap ∧ (∀ b ∈ fp, H' b = none) ∧ W i m σ' xs H' := fun {σ7 H7 s7' xs'} I7 n7 => by
        obtain ⟨m', hm, w7⟩ := n7
        refine ⟨m', hm, i + 1, σ7, xs', H7, I7.unpinned, T.keep _ _ _ st7 fun b hb o e => (I7.pin (b, o) (List.mem_append_right _ (List.mem_append_right _ (mem_pinsAt hb e)))).1, fun b hb => ?_, w7⟩
        obtain ⟨o, e, d⟩ := T.obj _ _ st7 b hb
        exact (I7.pin (b, o) (List.mem_append_right _ (List.mem_append_right _ (mem_pinsAt hb e)))).2.1
      cases b with
      | false =>
        rw [if_neg Bool.false_ne_true] at q9
        exact wpAny_pure ⟨rfl, again I9 q9⟩
      | true =>
        rw [if_pos rfl] at q9
        refine wpAny_bind (wpAny_bind (wpAny_mono (he _ _ _ _ _ s9 σ8 H9 _ I9 q9) (fun uv s10 ⟨v, H10, I10, r10, hl10, w10⟩ => ?_) fun _ _ z => z.elim))
        refine wpAny_bind (wpAny_mono (mt_append (X := compCxG X scope cl fr tn s3.heap.objs.size s3 (upd H2 s2.heap.objs.size (.lst [])) fp) _ s10 _ H10 (.ref s2.heap.objs.size) [v] (.ref s2.heap.objs.size) [uv] (fun _ H' => H' = upd H10 s2.heap.objs.size (.lst (xs ++ [v]))) I10 rfl (.cons r10 .nil) ⟨_, xs, v, rfl, rfl, hl10, hz, rfl⟩) (fun _ s11 ⟨v11, H11, I11, r11, q11⟩ => ?_) (fun _ _ z => False.elim z))
        subst q11
        exact wpAny_pure (wpAny_pure ⟨rfl, again I11 w10⟩)
  subst hs3
  exact codeAny_compStart_list loop (T.self _ 0 _ _ _ st4 loop)
end
end L2
namespace DL
open PySem PySem.Spec PyProof.Rows L2
section
variable {X : Cx} {G : XD → Hp → Prop} {fi : DS → M (List D)} {c : DS → M Bool} {f : DS → M D} {t : D → DS → Option DS}
end
end DL
/-! min of many whole numbers: handed in one by one, or as a list -/
namespace L2
open PySem PySem.Spec PyProof.Rows
section
variable {prog : Program} {w : World} {A : Around} {E : Value → Shared → Prop} {s : Shared}
/-- the least of some numbers -/
def minL : List Int → Int
  | [] => 0
  | a :: r => r.foldl min a
end
section
variable {X : Cx}
end
end L2
namespace DL
open PySem PySem.Spec PyProof.Rows L2
section
variable {X : Cx}
def oMinM : List D → Option D
  | [.int a, .int b, .int c, .int d] => some (.int (minL [a, b, c, d]))
  | [.list ds] => match intsOf ds with
    | some [] => none
    | some is => some (.int (minL is))
    | none => none
  | _ => none
end
end DL
/-! a text so many times -/
namespace L2
open PySem PySem.Spec PyProof.Rows
section
variable {X : Cx}
end
end L2
namespace DL
open PySem PySem.Spec PyProof.Rows L2
section
variable {X : Cx}
def oMulS : D → D → Option D
  | .str z, .int n => if 0 ≤ n ∧ n ≤ 1000 ∧ z.length ≤ 1000 then some (.str (Txt.mul z n)) else none
  | _, _ => none
end
end DL
/-! sorted(list of whole numbers) -/
namespace L2
open PySem PySem.Spec PyProof.Rows
section
variable {X : Cx}
end
end L2
namespace DL
open PySem PySem.Spec PyProof.Rows L2
section
variable {X : Cx}
def oSorted : List D → Option D
  | [.list ds] => match intsOf ds with
    | some is => if is.length < 64 then some (.list ((PySem.W.sortI is).map PyData.int)) else none
    | none => none
  | _ => none
end
end DL
/-! defs that tell a new list of things without lists: own lists may be lent to them -/
namespace DL
open PySem PySem.Spec PyProof.Rows L2
/-- d is a list of flat things, and k holds of every new one -/
def NewOf (K : PySem.W.Frag) (H : Hp) (k : V → Hp → Prop) (d : D) : Prop := ∃ ds, d = .list ds ∧ flatDs ds = true ∧ ∀ l xs H', Same H H' → H l = none → H' l = some (.lst xs) → Reps K [] H' xs ds → k (.ref l) H'
/-- an expression that makes a new list of flat things -/
def PDF (X : Cx) (G : XD → Hp → Prop) (e : Expr) (f : DS → M D) : Prop :=
  ∃ t, PE X e t ∧ ∀ {Hr : Hp} (δ : DS) (O : List Addr) (σ : St) (H : Hp) (Q : VK), Ev X.K Hr O H σ δ → ok (GS G Hr) (f δ) (NewOf X.K H Q) → t σ H Q
def FinF (K : PySem.W.Frag) (Hr : Hp) (R0 : List Addr) (H0 : Hp) (Dn : Ends) : Out → Prop
  | .rt d => NewOf K H0 Dn.rt d
  | _ => False
def PDSsF (X : Cx) (G : XD → Hp → Prop) (st : List Stmt) (g : DS → M Out) : Prop :=
  ∃ t, PSs X st t ∧ ∀ {Hr : Hp} (R0 : List Addr) (H0 : Hp) (δ : DS) (O : List Addr) (σ : St) (H : Hp) (Dn : Ends), EI X.K Hr R0 (fun _ => False) H0 O H σ δ → ok (GS G Hr) (g δ) (FinF X.K Hr R0 H0 Dn) → t Dn σ H
section
variable {X : Cx} {G : XD → Hp → Prop} {e : Expr} {es : List Expr} {f : DS → M D} {fa : DS → M (List D)} {gt : DS → M Out} {sts : List Stmt} {pos : Pos}
end
def spDF (K : PySem.W.Frag) (n : Nat) (F : List D → M D) : Sp := fun vs H Q _ => ∃ O ds, vs.length = n ∧ (∀ l ∈ O, Mu H l) ∧ Reps K O H vs ds ∧ ok (fun _ => False) (F ds) (NewOf K H Q)
structure DefF (P : Program) (w : World) (K : PySem.W.Frag) (mg : Str → Option Value) (base : Heap) (k : Nat) (x : Str) (n : Nat) (F : List D → M D) : Prop where
  ex : ∃ (f : Addr) (fd : FuncData) (ps : List Str), FnOk P w K mg base CX0 k f fd ps (spDF K n F) ∧ mg x = some (.ref f) ∧ PySem.W.keepIn K (.ref f) = true ∧ Binds K fd ps []
section
variable {X : Cx} {G : XD → Hp → Prop} {e : Expr} {es : List Expr} {f : DS → M D} {fa : DS → M (List D)} {pos : Pos}
/-- own lists lent to what makes a new list -/
def dLendF (i : Nat) (f : DS → M D) : DS → M D := fun δ => (f (frz i δ)).thn fun d => match d with
  | .list ds => if flatDs ds = true then M.ret (.list ds) else none
  | _ => none
end
section
variable {P : Program} {w : World} {K : PySem.W.Frag} {mg : Str → Option Value} {base : Heap}
end
end DL
/-! sum and max of a list of whole numbers; in, not in over lists; defs that tell a new list which they built, and what a caller makes of such a list -/
namespace L2
open PySem PySem.Spec PyProof.Rows
section
variable {X : Cx}
/-- the sum and all sums on the way lie within 64 bits -/
def fitsL : Int → List Int → Bool
  | _, [] => true
  | a, i :: r => decide (-2 ^ 63 ≤ i ∧ i < 2 ^ 63) && decide (-2 ^ 63 ≤ a + i ∧ a + i < 2 ^ 63) && fitsL (a + i) r
/-- the greatest of some numbers -/
def maxL : List Int → Int
  | [] => 0
  | a :: r => r.foldl max a
end
end L2
namespace DL
open PySem PySem.Spec PyProof.Rows L2
section
variable {X : Cx}
def oSum : List D → Option D
  | [.list ds] => match intsOf ds with
    | some is => if fitsL 0 is = true then some (.int is.sum) else none
    | none => none
  | _ => none
def oMaxM : List D → Option D
  | [.list ds] => match intsOf ds with
    | some [] => none
    | some is => some (.int (maxL is))
    | none => none
  | _ => none
/-! ### in over lists and tuples of plain things -/
def plainV : D → Option V
  | .none => some .non
  | .bool b => some (.bl b)
  | .int i => some (.int i)
  | .str x => some (.str x)
  | _ => none
def plainVs : List D → Option (List V)
  | [] => some []
  | d :: ds => match plainV d, plainVs ds with
    | some v, some vs => some (v :: vs)
    | _, _ => none
def oInL (neg : Bool) : D → D → Option D
  | x, .list ds => match plainV x, plainVs ds with
    | some v, some vs => some (.bool (if neg then !inV v vs else inV v vs))
    | _, _ => none
  | x, .tuple ds => match plainV x, plainVs ds with
    | some v, some vs => some (.bool (if neg then !inV v vs else inV v vs))
    | _, _ => none
  | _, _ => none
def oNotInS : D → D → Option D
  | .str i, .str j => some (.bool (!(!(Builtin.Str.occurrences j i 0 j.length 1).isEmpty)))
  | _, _ => none
end
/-! ### defs that tell a new list -/
section
variable {X : Cx} {G : XD → Hp → Prop} {e : Expr} {es : List Expr} {f : DS → M D} {fa : DS → M (List D)} {gs gt : DS → M Out} {st : Stmt} {sts : List Stmt} {pos : Pos}
def gRetF (i : Nat) : DS → M Out := fun δ => match δ[i]? with
  | some (.ow ds) => if flatDs ds = true then M.ret (.rt (.list ds)) else none
  | _ => none
theorem EI.sames {K : PySem.W.Frag} {Hr H0 H : Hp} {R0 O : List Addr} {σ : St} {δ : DS} (E : EI K Hr R0 (fun _ => False) H0 O H σ δ) : Same H0 H := fun b o h => E.keep b o (fun w => w) h
/-- a statement that goes on, and the rest -/
def gSeqN (g h : DS → M Out) : DS → M Out := fun δ => (g δ).thn fun o => match o with
  | .nx δ' => h δ'
  | _ => none
/-- own lists lent to what makes a new list -/
def dFrzF (i : Nat) (f : DS → M D) : DS → M D := fun δ => f (frz i δ)
/-- what is told, as a value -/
def dFl (f : DS → M D) : DS → M D := fun δ => (f δ).thn fun d => match d with
  | .list ds => if flatDs ds = true then M.ret (.list ds) else none
  | _ => none
/-- what is told, as a list of one's own -/
def nF (f : DS → M D) : DS → M (List D) := fun δ => (f δ).thn fun d => match d with
  | .list ds => if flatDs ds = true then M.ret ds else none
  | _ => none
mutual
theorem Rep.flatTo {K : PySem.W.Frag} {O O' : List Addr} {H H' : Hp} (t : ∀ b xs, Rd H b (.tup xs) → Rd H' b (.tup xs)) : ∀ {v : V} {d : D}, flatD d = true → Rep K O H v d → Rep K O' H' v d
  | _, _, _, .non => .non
  | _, _, _, .bl b => .bl b
  | _, _, _, .int i => .int i
  | _, _, _, .str x => .str x
  | _, _, h, .tup q r => .tup (by rcases q with q | q; exact .inl (t _ _ q); exact .inr q) (Reps.flatTo t (by simpa only [flatD] using h) r)
  | _, _, h, .lst _ _ _ => by simp [flatD] at h
  | _, _, h, .lstK _ _ => by simp [flatD] at h
  | _, _, h, .dct _ _ _ _ => by simp [flatD] at h
  | _, _, h, .ins _ _ _ _ _ => by simp [flatD, insD] at h
theorem Reps.flatTo {K : PySem.W.Frag} {O O' : List Addr} {H H' : Hp} (t : ∀ b xs, Rd H b (.tup xs) → Rd H' b (.tup xs)) : ∀ {vs : List V} {ds : List D}, flatDs ds = true → Reps K O H vs ds → Reps K O' H' vs ds
  | _, _, _, .nil => .nil
  | _, _, h, .cons r rs => by
    simp only [flatDs, Bool.and_eq_true] at h
    exact .cons (Rep.flatTo t h.1 r) (Reps.flatTo t h.2 rs)
end
end
end DL
/-! a loop over an own list whose body only looks and perhaps returns; an own list's item set -/
namespace DL
open PySem PySem.Spec PyProof.Rows L2
/-- statements that look, and go on with nothing changed, or return -/
def PDR (X : Cx) (G : XD → Hp → Prop) (sts : List Stmt) (g : DS → M Out) : Prop :=
  ∃ t, PSs X sts t ∧ ∀ {Hr : Hp} (R0 : List Addr) (P0 : Addr → Prop) (H0 : Hp) (δ : DS) (O : List Addr) (σ : St) (H : Hp) (Dn : Ends), EI X.K Hr R0 P0 H0 O H σ δ →
    ok (GS G Hr) (g δ) (fun o => match o with
      | .nx _ => ∀ H', Same H H' → Dn.nx σ H'
      | .rt d => Fin X.K Hr R0 P0 H0 Dn (.rt d)
      | _ => False) → t Dn σ H
section
variable {X : Cx} {G : XD → Hp → Prop} {c e : Expr} {fb : DS → M Bool} {f : DS → M D} {gs gt : DS → M Out} {st1 body sts : List Stmt} {st : Stmt} {pos : Pos}
def gIfR (fb : DS → M Bool) (gs : DS → M Out) : DS → M Out := fun δ => (fb δ).thn fun b => if b = true then (gs δ).thn fun o => match o with
    | .rt d => M.ret (.rt d)
    | _ => none
  else M.ret (.nx δ)
def loopO (j : Nat) (g : DS → M Out) : List D → DS → M Out
  | [], δ => M.ret (.nx δ)
  | d :: ds, δ => (g (δ.set j (.vl d))).thn fun o => match o with
    | .nx _ => loopO j g ds (δ.set j (.vl d))
    | .rt d => M.ret (.rt d)
    | _ => none
def gForO (i j : Nat) (g : DS → M Out) : DS → M Out := fun δ => match δ[i]? with
  | some (.ow ds) => loopO j g ds δ
  | _ => none
end
end DL
/-! own lists whose items are set; pop; list * n, list + list as new lists; list.index -/
namespace L2
open PySem PySem.Spec PyProof.Rows
section
variable {X : Cx}
/-- the place of the first item that is x -/
def idxV (x : V) : List V → Option Nat
  | [] => none
  | y :: ys => if eqV y x = true then some 0 else (idxV x ys).map (· + 1)
def rIndex (K : PySem.W.Frag) : V → List V → Hp → VK → Prop := fun x vs H Q => ∃ l xs y j, x = .ref l ∧ vs = [y] ∧ SqL K H l xs ∧ flatV y = true ∧ xs.all flatV = true ∧ idxV y xs = some j ∧ Q (.int (j : Nat)) H
end
end L2
namespace DL
open PySem PySem.Spec PyProof.Rows L2
theorem EI.put {K : PySem.W.Frag} {Hr : Hp} {R0 : List Addr} {P0 : Addr → Prop} {H0 H : Hp} {O : List Addr} {σ : St} {δ : DS} {i : Nat} {l : Addr} {xs ys : List V} {ds ds' : List D} (E : EI K Hr R0 P0 H0 O H σ δ) (hd : δ[i]? = some (.ow ds)) (hσ : σ[i]? = some (some (.ref l))) (hl : H l = some (.lst xs)) (ry : Reps K O H ys ds') :
    EI K Hr R0 P0 H0 O (upd H l (.lst ys)) σ (δ.set i (.ow ds')) := by
  obtain ⟨l', xs', q1, lO, q3, _⟩ := E.ev.at_ i _ hd
  rw [hσ] at q1
  cases q1
  have tO : To O O H (upd H l (.lst ys)) := To.set hl lO
  refine ⟨⟨fun b o h => ?_, fun a ha => ?_, by rw [List.length_set]; exact E.ev.len, fun j s h => ?_, fun j k a es es' hjk h1 h2 h3 => ?_⟩, E.omr, fun b o n h => ?_, E.om, fun j es a h1 ho h2 => ?_, E.sub⟩
  · have q := E.ev.root b o h
    have hne : b ≠ l := fun z => by
      subst z
      rcases E.omr b lO with w | w
      · exact E.nr i ds b hd hσ w
      · rw [h] at w; cases w
    rw [upd_ne hne]
    exact q
  · by_cases hb : a = l
    · rw [hb]; exact .lst upd_same
    · exact (E.ev.oo a ha).upd_ne hb
  · rw [get_set] at h
    by_cases hij : i = j
    · rw [if_pos hij] at h
      split at h
      · cases h
        rw [← hij, hσ]
        exact ⟨l, _, rfl, lO, upd_same, ry.to tO⟩
      · cases h
    · rw [if_neg hij] at h
      refine (E.ev.at_ j s h).to tO (hd_set hl) fun a ys h1 h2 h3 h4 => ⟨h1, ?_⟩
      obtain ⟨es, rfl⟩ := h4
      have hne : a ≠ l := fun z => by
        subst z
        exact E.ev.dis i j a ds es hij hd h hσ h3
      rw [upd_ne hne]
      exact h2
  · have old : ∀ (j : Nat) (es : List D), (δ.set i (.ow ds'))[j]? = some (.ow es) → ∃ es', δ[j]? = some (.ow es') := fun j es h => by
      rw [get_set] at h
      by_cases hij : i = j
      · rw [← hij]; exact ⟨ds, hd⟩
      · rw [if_neg hij] at h; exact ⟨es, h⟩
    obtain ⟨e1, h1⟩ := old j es h1
    obtain ⟨e2, h2⟩ := old k es' h2
    exact E.ev.dis j k a e1 e2 hjk h1 h2 h3
  · have q := E.keep b o n h
    have hne : b ≠ l := fun z => by
      subst z
      rcases E.om b lO with w | w | w
      · exact E.nr i ds b hd hσ w
      · exact n w
      · rw [h] at w; cases w
    rw [upd_ne hne]
    exact q
  · rw [get_set] at h1
    by_cases hij : i = j
    · exact E.nr i ds a hd (by rw [hij]; exact h2)
    · rw [if_neg hij] at h1
      exact E.nr1 j es a h1 ho h2
section
variable {X : Cx} {G : XD → Hp → Prop} {a b c e ix : Expr} {es : List Expr} {f g fi : DS → M D} {fa : DS → M (List D)} {fn : DS → M (List D)} {pos tpos : Pos}
theorem Reps.set {K : PySem.W.Frag} {O : List Addr} {H : Hp} : ∀ {xs : List V} {ds : List D} {v : V} {d : D} (j : Nat), Reps K O H xs ds → Rep K O H v d → Reps K O H (xs.set j v) (ds.set j d)
  | _, _, _, _, _, .nil, _ => .nil
  | _, _, _, _, 0, .cons _ t, r => .cons r t
  | _, _, _, _, j + 1, .cons q t, r => .cons q (Reps.set j t r)
theorem Reps.erase {K : PySem.W.Frag} {O : List Addr} {H : Hp} : ∀ {xs : List V} {ds : List D} (j : Nat), Reps K O H xs ds → Reps K O H (xs.eraseIdx j) (ds.eraseIdx j)
  | _, _, _, .nil => .nil
  | _, _, 0, .cons _ t => t
  | _, _, j + 1, .cons q t => .cons q (Reps.erase j t)
/-- x[i] = e, x a list of one's own -/
def gSetO (i : Nat) (fi f : DS → M D) : DS → M Out := fun δ => match δ[i]? with
  | some (.ow ds) => (f δ).thn fun d => (fi δ).thn fun k => match k with
    | .int k => match ixN ds.length k with
      | some j => M.ret (.nx (δ.set i (.ow (ds.set j d))))
      | none => none
    | _ => none
  | _ => none
/-- x[i] += e, x[i] -= e -/
def gAugO (i : Nat) (h : Int → Int → Int) (fi f : DS → M D) : DS → M Out := fun δ => match δ[i]? with
  | some (.ow ds) => (fi δ).thn fun k => match k with
    | .int k => match ixN ds.length k with
      | some j => match ds[j]? with
        | some (.int m) => (f δ).thn fun d => match d with
          | .int n => M.ret (.nx (δ.set i (.ow (ds.set j (.int (h m n))))))
          | _ => none
        | _ => none
      | none => none
    | _ => none
  | _ => none
/-- x.append(y.pop(e)) -/
def gAppPop (i j : Nat) (f : DS → M D) : DS → M Out := fun δ => match δ[i]?, δ[j]? with
  | some (.ow ds), some (.ow es) => (f δ).thn fun k => match k with
    | .int k => match ixN es.length k with
      | some m => match es[m]? with
        | some d => if small (ds.length + 1) && decide (-(2 ^ 63) ≤ k ∧ k < 2 ^ 63) && decide (i ≠ j) then M.ret (.nx ((δ.set j (.ow (es.eraseIdx m))).set i (.ow (ds ++ [d])))) else none
        | none => none
      | none => none
    | _ => none
  | _, _ => none
/-! ### new lists -/
/-- a new list, as a value -/
def dOfN (fn : DS → M (List D)) : DS → M D := fun δ => (fn δ).thn fun ds => M.ret (.list ds)
def nFrz (i : Nat) (fn : DS → M (List D)) : DS → M (List D) := fun δ => (fn (frz i δ)).thn fun ds => if flatDs ds = true then M.ret ds else none
def nCat (f g : DS → M D) : DS → M (List D) := fun δ => (f δ).thn fun x => (g δ).thn fun y => match x, y with
  | .list xs, .list ys => if small (xs.length + ys.length) then M.ret (xs ++ ys) else none
  | _, _ => none
theorem Reps.rep {K : PySem.W.Frag} {O : List Addr} {H : Hp} {xs : List V} {ds : List D} (h : Reps K O H xs ds) : ∀ k : Nat, Reps K O H (List.replicate k xs).flatten (List.replicate k ds).flatten
  | 0 => .nil
  | k + 1 => by
    rw [List.replicate_succ, List.replicate_succ, List.flatten_cons, List.flatten_cons]
    exact h.append (Reps.rep h k)
def nRep (fn : DS → M (List D)) (g : DS → M D) : DS → M (List D) := fun δ => (fn δ).thn fun ds => (g δ).thn fun y => match y with
  | .int k => if small (ds.length * k.toNat) && decide (-(2 ^ 63) ≤ k ∧ k < 2 ^ 63) then M.ret (List.replicate k.toNat ds).flatten else none
  | _ => none
/-! ### list.index -/
def dIndex (f g : DS → M D) : DS → M D := fun δ => (f δ).thn fun x => match x with
  | .list ds => (g δ).thn fun y => match plainV y, plainVs ds with
    | some v, some vs => match idxV v vs with
      | some j => M.ret (.int (j : Nat))
      | none => none
    | _, _ => none
  | _ => none
end
end DL
/-! comprehensions that name several caught names in another order; tuple(list); sum of whole numbers of any size -/
namespace L2
open PySem PySem.Spec PyProof.Rows
end L2
namespace DL
open PySem PySem.Spec PyProof.Rows L2
section
variable {X : Cx}
def oSumG : List D → Option D
  | [.list ds] => (intsOf ds).map fun is => .int is.sum
  | _ => none
/-- tuple(x) of a list -/
def oTupOf : List D → Option D
  | [.list ds] => some (.tuple ds)
  | _ => none
end
end DL
namespace L2
open PySem PySem.Spec PyProof.Rows

/-! ### lists of pairs as tables -/
section
variable {κ : Type} [DecidableEq κ]
def valV (kvs : List (κ × V)) (k : κ) : Option V := (kvs.find? fun kv => decide (kv.1 = k)).map (·.2)
/-- in its place, or at the end -/
def putK (kvs : List (κ × V)) (k : κ) (v : V) : List (κ × V) :=
  if (kvs.any fun kv => decide (kv.1 = k)) = true then kvs.map (fun kv => if kv.1 = k then (kv.1, v) else kv) else kvs ++ [(k, v)]
def dropK (kvs : List (κ × V)) (k : κ) : List (κ × V) := kvs.filter fun kv => decide (kv.1 ≠ k)

theorem valV_pos {p : κ × V} {r : List (κ × V)} {k : κ} (e : p.1 = k) : valV (p :: r) k = some p.2 := by simp [valV, List.find?_cons, e]
theorem valV_neg {p : κ × V} {r : List (κ × V)} {k : κ} (e : ¬ p.1 = k) : valV (p :: r) k = valV r k := by simp [valV, List.find?_cons, e]
theorem valV_any (k : κ) : ∀ kvs : List (κ × V), (kvs.any fun kv => decide (kv.1 = k)) = (valV kvs k).isSome
  | [] => rfl
  | p :: r => by
    rw [List.any_cons]
    by_cases e : p.1 = k
    · simp only [valV_pos e, decide_eq_true e, Bool.true_or, Option.isSome_some]
    · rw [valV_neg e, decide_eq_false e, Bool.false_or]; exact valV_any k r
theorem RelO.isSome_eq {o : Option V} {u : Option Value} (r : RelO o u) : o.isSome = u.isSome := by
  cases o with
  | none => cases u with
    | none => rfl
    | some _ => exact (show False from r).elim
  | some _ => cases u with
    | none => exact (show False from r).elim
    | some _ => rfl
theorem RelO.getD {o : Option V} {u : Option Value} {d : V} {d' : Value} (r : RelO o u) (rd : RelV d d') : RelV (o.getD d) (u.getD d') := by
  cases o with
  | none => cases u with
    | none => exact rd
    | some _ => exact (show False from r).elim
  | some _ => cases u with
    | none => exact (show False from r).elim
    | some _ => exact r

/-- raw tables of the same keys -/
theorem KV.val {kvs : List (κ × V)} {vs : List (κ × Value)} (r : KV kvs vs) (k : κ) : RelO (valV kvs k) (valueAt vs k) := by
  unfold KV at r
  induction r with
  | nil => exact True.intro
  | @cons p q ps qs h t ih =>
    obtain ⟨h1, h2⟩ := h
    by_cases e : p.1 = k
    · have e' : q.1 = k := h1.symm.trans e
      have b : valueAt (q :: qs) k = some q.2 := by simp [valueAt, List.find?_cons, e']
      rw [valV_pos e, b]; exact h2
    · have e' : ¬ q.1 = k := fun z => e (h1.trans z)
      have b : valueAt (q :: qs) k = valueAt qs k := by simp [valueAt, List.find?_cons, e']
      rw [valV_neg e, b]; exact ih
theorem KV.any {kvs : List (κ × V)} {vs : List (κ × Value)} (r : KV kvs vs) (k : κ) : (kvs.any fun kv => decide (kv.1 = k)) = vs.any fun kv => decide (kv.1 = k) := by
  unfold KV at r
  induction r with
  | nil => rfl
  | cons h t ih => rw [List.any_cons, List.any_cons, ih, h.1]
theorem KV.repl {kvs : List (κ × V)} {vs : List (κ × Value)} (r : KV kvs vs) (k : κ) {y : V} {u : Value} (ry : RelV y u) :
    KV (kvs.map fun kv => if kv.1 = k then (kv.1, y) else kv) (vs.map fun kv => if kv.1 = k then (kv.1, u) else kv) := by
  unfold KV at r ⊢
  induction r with
  | nil => exact .nil
  | @cons p q ps qs h t ih =>
    rw [List.map_cons, List.map_cons]
    refine .cons ?_ ih
    obtain ⟨h1, h2⟩ := h
    by_cases e : p.1 = k
    · rw [if_pos e, if_pos (h1.symm.trans e)]; exact ⟨h1, ry⟩
    · rw [if_neg e, if_neg (fun z => e (h1.trans z))]; exact ⟨h1, h2⟩
theorem KV.put {kvs : List (κ × V)} {vs : List (κ × Value)} (r : KV kvs vs) (k : κ) {y : V} {u : Value} (ry : RelV y u) : KV (putK kvs k y) (stored vs k u) := by
  unfold putK stored
  rw [r.any k]
  by_cases e : (vs.any fun kv => decide (kv.1 = k)) = true
  · rw [if_pos e, if_pos e]; exact r.repl k ry
  · rw [if_neg e, if_neg e]; exact Paired.snoc r ⟨rfl, ry⟩
theorem KV.drop {kvs : List (κ × V)} {vs : List (κ × Value)} (r : KV kvs vs) (k : κ) : KV (dropK kvs k) (without vs k) := by
  unfold KV at r ⊢
  unfold dropK without
  induction r with
  | nil => exact .nil
  | @cons p q ps qs h t ih =>
    obtain ⟨h1, h2⟩ := h
    rw [List.filter_cons, List.filter_cons]
    by_cases e : p.1 = k
    · have a : ¬ decide (p.1 ≠ k) = true := by simp [e]
      have b : ¬ decide (q.1 ≠ k) = true := by simp [h1.symm.trans e]
      rw [if_neg a, if_neg b]; exact ih
    · have e' : ¬ q.1 = k := fun z => e (h1.trans z)
      have a : decide (p.1 ≠ k) = true := by simp [e]
      have b : decide (q.1 ≠ k) = true := by simp [e']
      rw [if_pos a, if_pos b]; exact .cons ⟨h1, h2⟩ ih
theorem KV.keys {kvs : List (κ × V)} {vs : List (κ × Value)} (r : KV kvs vs) : kvs.map (·.1) = vs.map (·.1) := by
  unfold KV at r
  induction r with
  | nil => rfl
  | cons h t ih => rw [List.map_cons, List.map_cons, ih, h.1]
theorem KV.length {kvs : List (κ × V)} {vs : List (κ × Value)} (r : KV kvs vs) : kvs.length = vs.length := Paired.length r
end


/-! ### a tracked dict, its keys ints and texts or tuples of these -/
/-- raw entries of a dict with tuple keys -/
abbrev KT (H : Hp) : List (List Key × V) → List (List Key × Addr × Value) → Prop := Paired fun p q => p.1 = q.1 ∧ H q.2.1 = some (.tup (p.1.map kV)) ∧ RelV p.2 q.2.2
theorem KT.val {H : Hp} {kvs : List (List Key × V)} {xs : List (List Key × Addr × Value)} (r : KT H kvs xs) (k : List Key) : RelO (valV kvs k) ((atKey xs k).map (·.2)) := by
  induction r with
  | nil => exact True.intro
  | @cons p q ps qs h t ih =>
    obtain ⟨h1, _, h2⟩ := h
    by_cases e : p.1 = k
    · have e' : q.1 = k := h1.symm.trans e
      have b : atKey (q :: qs) k = some q.2 := by simp [atKey, List.find?_cons, e']
      rw [valV_pos e, b]; exact h2
    · have e' : ¬ q.1 = k := fun z => e (h1.trans z)
      have b : atKey (q :: qs) k = atKey qs k := by simp [atKey, List.find?_cons, e']
      rw [valV_neg e, b]; exact ih
theorem KT.repl {H : Hp} {kvs : List (List Key × V)} {xs : List (List Key × Addr × Value)} (r : KT H kvs xs) (k : List Key) {y : V} {u : Value} (ry : RelV y u) :
    KT H (kvs.map fun kv => if kv.1 = k then (kv.1, y) else kv) (xs.map (putAt k u)) := by
  induction r with
  | nil => exact .nil
  | @cons p q ps qs h t ih =>
    rw [List.map_cons, List.map_cons]
    refine .cons ?_ ih
    obtain ⟨h1, h2, h3⟩ := h
    unfold putAt
    by_cases e : p.1 = k
    · rw [if_pos e, if_pos (h1.symm.trans e)]; exact ⟨h1, h2, ry⟩
    · rw [if_neg e, if_neg (fun z => e (h1.trans z))]; exact ⟨h1, h2, h3⟩
theorem KT.put {H : Hp} {kvs : List (List Key × V)} {xs : List (List Key × Addr × Value)} (r : KT H kvs xs) (k : List Key) {b : Addr} {y : V} {u : Value} (hb : H b = some (.tup (k.map kV))) (ry : RelV y u) :
    KT H (putK kvs k y) (storedH xs k b u) := by
  have e : (kvs.any fun kv => decide (kv.1 = k)) = (atKey xs k).isSome := by
    rw [valV_any, (r.val k).isSome_eq, Option.isSome_map]
  unfold putK storedH
  rw [e]
  by_cases q : (atKey xs k).isSome = true
  · rw [if_pos q, if_pos q]; exact r.repl k ry
  · rw [if_neg q, if_neg q]; exact Paired.snoc r ⟨rfl, hb, ry⟩
theorem KT.keeps {H H' : Hp} {kvs : List (List Key × V)} {xs : List (List Key × Addr × Value)} (r : KT H kvs xs) (ht : ∀ b ys, H b = some (.tup ys) → H' b = some (.tup ys)) : KT H' kvs xs :=
  Paired.mapP r fun _ _ z => ⟨z.1, ht _ _ z.2.1, z.2.2⟩

section
variable {P : Program} {w : World} {H : Hp} {h : Heap} {a : Addr}
end

/-- what the dict at a holds at the key y -/
def DGet (H : Hp) (a : Addr) (y : V) (r : Option V) : Prop :=
  (∃ kvs k, Rd H a (.dK kvs) ∧ y = kV k ∧ r = valV kvs k) ∨ ∃ kvs k b, Rd H a (.dT kvs) ∧ y = .ref b ∧ H b = some (.tup (k.map kV)) ∧ r = valV kvs k
/-- the heap behind a[y] = v -/
def DPut (H : Hp) (a : Addr) (y v : V) (H' : Hp) : Prop :=
  (∃ kvs k, H a = some (.dK kvs) ∧ y = kV k ∧ kvs.length < sizeLine ∧ H' = upd H a (.dK (putK kvs k v))) ∨
  ∃ kvs k b, H a = some (.dT kvs) ∧ y = .ref b ∧ H b = some (.tup (k.map kV)) ∧ kvs.length < sizeLine ∧ H' = upd H a (.dT (putK kvs k v))
theorem DGet.k {H : Hp} {a : Addr} {kvs : List (Key × V)} {k : Key} (e : H a = some (.dK kvs)) : DGet H a (kV k) (valV kvs k) := .inl ⟨kvs, k, .inl e, rfl, rfl⟩
theorem DGet.t {H : Hp} {a b : Addr} {kvs : List (List Key × V)} {k : List Key} (e : H a = some (.dT kvs)) (eb : H b = some (.tup (k.map kV))) : DGet H a (.ref b) (valV kvs k) := .inr ⟨kvs, k, b, .inl e, rfl, eb, rfl⟩
theorem DPut.k {H : Hp} {a : Addr} {kvs : List (Key × V)} {k : Key} {v : V} (e : H a = some (.dK kvs)) (hl : kvs.length < sizeLine) : DPut H a (kV k) v (upd H a (.dK (putK kvs k v))) := .inl ⟨kvs, k, e, rfl, hl, rfl⟩
theorem DPut.t {H : Hp} {a b : Addr} {kvs : List (List Key × V)} {k : List Key} {v : V} (e : H a = some (.dT kvs)) (eb : H b = some (.tup (k.map kV))) (hl : kvs.length < sizeLine) :
    DPut H a (.ref b) v (upd H a (.dT (putK kvs k v))) := .inr ⟨kvs, k, b, e, rfl, eb, hl, rfl⟩


section
variable {X : Cx} {pins : List (Addr × Obj)} {σ : St} {H : Hp} {s : Shared} {a : Addr} {y v : V} {u r : Value} {o : Option V} {A : Around} {E : Value → Shared → Prop}

theorem Inv.big (I : Inv X pins σ H s) : sysModules < s.heap.objs.size := by
  have h : mainGlobals < s.heap.objs.size := (I.mod.glob.keeps I.bk).lt
  exact Nat.lt_trans (by decide) h

end

section
variable {X : Cx} {pins : List (Addr × Obj)} {σ : St} {H : Hp} {s : Shared} {a : Addr} {kvs : List (Key × V)} {k : Key} {u : Value} {A : Around} {E : Value → Shared → Prop}
end


/-! ### readings and rules -/
/-- the element of a subscription, not a slice -/
def NoSl (i : Expr) : Prop := ∀ ov iv, subscripted i false ov iv = operate [ov, iv] (getItem ov iv)
/-- d[y] -/
def tDGet (td ty : TE) : TE := fun σ H Q => td σ H fun x H1 => ty σ H1 fun y H2 => ∃ a v, x = .ref a ∧ DGet H2 a y (some v) ∧ Q v H2
/-- y in d, y not in d -/
def tDIn (ty td : TE) : TE := fun σ H Q => ty σ H fun y H1 => td σ H1 fun x H2 => ∃ a o, x = .ref a ∧ DGet H2 a y o ∧ Q (.bl o.isSome) H2
def tDNotIn (ty td : TE) : TE := fun σ H Q => ty σ H fun y H1 => td σ H1 fun x H2 => ∃ a o, x = .ref a ∧ DGet H2 a y o ∧ Q (.bl (!o.isSome)) H2
/-- d[y] = v -/
def sDPut (td ty tv : TE) : TS := fun D σ H => tv σ H fun v H1 => td σ H1 fun x H2 => ty σ H2 fun y H3 => ∃ a H4, x = .ref a ∧ DPut H3 a y v H4 ∧ D.nx σ H4
/-- d[y] op= v -/
def sDAug (td ty tv : TE) (rd : V → V → Hp → VK → Prop) : TS := fun D σ H => td σ H fun x H1 => ty σ H1 fun y H2 => ∃ a v, x = .ref a ∧ DGet H2 a y (some v) ∧
  tv σ H2 fun y2 H3 => rd v y2 H3 fun z H4 => ∃ H5, DPut H4 a y z H5 ∧ D.nx σ H5
/-- del d[y] -/
def sDDel (td ty : TE) : TS := fun D σ H => td σ H fun x H1 => ty σ H1 fun y H2 => ∃ a kvs k, x = .ref a ∧ H2 a = some (.dK kvs) ∧ y = kV k ∧ (valV kvs k).isSome = true ∧ D.nx σ (upd H2 a (.dK (dropK kvs k)))

section
variable {X : Cx} {o i e value : Expr} {pos pos' tpos : Pos} {td ty tv : TE}
end


/-! ### displays -/
/-- {}, to be a dict of the kind that is wanted -/
def tDNewK : TE := fun _ H Q => ∀ p, H p = none → Q (.ref p) (upd H p (.dK []))
def tDNewT : TE := fun _ H Q => ∀ p, H p = none → Q (.ref p) (upd H p (.dT []))
section
variable {X : Cx} {pos : Pos}
end

/-- the pairs of a display, from the left -/
def tPairs : List (TE × TE) → St → Hp → (List (V × V) → Hp → Prop) → Prop
  | [], _, H, Q => Q [] H
  | (tk, tv) :: r, σ, H, Q => tk σ H fun x H1 => tv σ H1 fun y H2 => tPairs r σ H2 fun ps H3 => Q ((x, y) :: ps) H3
abbrev VV : List (V × V) → List (Value × Value) → Prop := Paired fun p q => RelV p.1 q.1 ∧ RelV p.2 q.2
def PPs (X : Cx) (pos : Pos) (keys : List (Option Expr)) (values : List Expr) (trs : List (TE × TE)) : Prop :=
  ∀ (pins : List (Addr × Obj)) (s : Shared) (σ : St) (H : Hp) (Q : List (V × V) → Hp → Prop), Inv X pins σ H s → tPairs trs σ H Q →
    wpAny (model X.prog X.w) X.A (evalPairs (pairTrees keys values X.env pos)) (fun vs s' => ∃ ps H', Inv X pins σ H' s' ∧ VV ps vs ∧ Q ps H') X.xe s
def mergeK (kvs more : List (Key × V)) : List (Key × V) := more.foldl (fun acc kv => putK acc kv.1 kv.2) kvs
theorem KV.merge : ∀ {more : List (Key × V)} {rs : List (Key × Value)} {kvs : List (Key × V)} {vs : List (Key × Value)}, KV more rs → KV kvs vs → KV (mergeK kvs more) (merged vs rs) := by
  intro more rs kvs vs r
  unfold KV at r
  induction r generalizing kvs vs with
  | nil => intro q; exact q
  | @cons p q ps qs h t ih =>
    intro r0
    have e : KV (putK kvs p.1 p.2) (stored vs q.1 q.2) := by
      have := r0.put p.1 h.2
      rw [← h.1]; exact this
    exact ih e
/-- {k: v, ..} with keys ints and texts; the new dict stands empty while the pairs are made -/
def tDisp (trs : List (TE × TE)) : TE := fun σ H Q => ∀ p, H p = none → tPairs trs σ (upd H p (.dK [])) fun ps H2 => H2 p = some (.dK []) ∧ ∃ kvs : List (Key × V), ps = kvs.map (fun kv => (kV kv.1, kv.2)) ∧ kvs.length ≤ 15 ∧ Q (.ref p) (upd H2 p (.dK (mergeK [] kvs)))
/-! ### methods -/
/-- a method call o.m(e) of a built-in, with one argument: what must be seen of the text -/
structure M1 (X : Cx) (o : Expr) (m : Str) (apos : Pos) (e : Expr) (cpos : Pos) : Prop where
  base : attributeBase o m X.env (eval o X.env) = eval o X.env
  few : ((backTo cpos (starEach [e] X.env)).all (fun x => !x.1) && (backToKw cpos (keywordEach [] X.env)).all (fun x => x.1.isSome)
    && decide (([e] : List Expr).length + ([] : List Keyword).length + (if ([] : List Keyword).isEmpty then 0 else 1) < 30)) = true
  line : (apos.endLine == cpos.line) = true
  trees : backTo cpos (starEach [e] X.env) = [(false, eval e X.env)]
structure M2 (X : Cx) (o : Expr) (m : Str) (apos : Pos) (e f : Expr) (cpos : Pos) : Prop where
  base : attributeBase o m X.env (eval o X.env) = eval o X.env
  few : ((backTo cpos (starEach [e, f] X.env)).all (fun x => !x.1) && (backToKw cpos (keywordEach [] X.env)).all (fun x => x.1.isSome)
    && decide (([e, f] : List Expr).length + ([] : List Keyword).length + (if ([] : List Keyword).isEmpty then 0 else 1) < 30)) = true
  line : (apos.endLine == cpos.line) = true
  trees : backTo cpos (starEach [e, f] X.env) = [(false, eval e X.env), (false, eval f X.env)]

/-- a is a dict, whatever its keys -/
def IsD (H : Hp) (a : Addr) : Prop := (∃ kvs, Rd H a (.dK kvs)) ∨ ∃ kvs, Rd H a (.dT kvs)
section
variable {X : Cx} {pins : List (Addr × Obj)} {σ : St} {H : Hp} {s : Shared} {a : Addr} {y d : V} {u r : Value} {o : Option V} {A : Around} {E : Value → Shared → Prop}
end

def tDGet1 (td ty : TE) : TE := fun σ H Q => td σ H fun x H1 => ∃ a, x = .ref a ∧ IsD H1 a ∧ ty σ H1 fun y H2 => ∃ o, DGet H2 a y o ∧ Q (o.getD .non) H2
def tDGet2 (td ty tx : TE) : TE := fun σ H Q => td σ H fun x H1 => ∃ a, x = .ref a ∧ IsD H1 a ∧ ty σ H1 fun y H2 => tx σ H2 fun z H3 => ∃ o, DGet H3 a y o ∧ Q (o.getD z) H3
/-- d.pop(k): there; d.pop(k, x): there or not -/
def tDPop1 (td ty : TE) : TE := fun σ H Q => td σ H fun x H1 => ∃ a, x = .ref a ∧ IsD H1 a ∧ ty σ H1 fun y H2 => ∃ kvs k v, H2 a = some (.dK kvs) ∧ y = kV k ∧ valV kvs k = some v ∧ Q v (upd H2 a (.dK (dropK kvs k)))
def tDPop2 (td ty tx : TE) : TE := fun σ H Q => td σ H fun x H1 => ∃ a, x = .ref a ∧ IsD H1 a ∧ ty σ H1 fun y H2 => tx σ H2 fun z H3 => ∃ kvs k, H3 a = some (.dK kvs) ∧ y = kV k ∧
  (∀ v, valV kvs k = some v → Q v (upd H3 a (.dK (dropK kvs k)))) ∧ (valV kvs k = none → Q z H3)
section
variable {X : Cx} {o e f : Expr} {apos cpos : Pos} {td ty tx : TE}
end

/-! ### dict(d): a copy -/
section
variable {X : Cx} {pins : List (Addr × Obj)} {σ : St} {H : Hp} {s : Shared} {a : Addr} {kvs : List (Key × V)} {A : Around} {E : Value → Shared → Prop}
end


section
variable {X : Cx} {pins : List (Addr × Obj)} {σ : St} {H : Hp} {s : Shared} {a : Addr} {y : V} {u : Value} {A : Around} {E : Value → Shared → Prop}
end
end L2
/-! dicts as data: d[k], x = {}, x = {..}, x[k] = v, return x -/
namespace DL
open PySem PySem.Spec PyProof.Rows L2
/-- as a key -/
def keyOf : D → Option Key
  | .int i => some (.inl i)
  | .str x => some (.inr x)
  | _ => none
def valD (es : List (Key × D)) (k : Key) : Option D := (es.find? fun e => decide (e.1 = k)).map (·.2)
def putD (es : List (Key × D)) (k : Key) (d : D) : List (Key × D) :=
  if (es.any fun e => decide (e.1 = k)) = true then es.map (fun e => if e.1 = k then (e.1, d) else e) else es ++ [(k, d)]
/-- d[y] -/
def oDGet : D → D → Option D
  | .dict X, y => match keyOf y with
    | some k => (X.find? fun e => decide (keyOf e.1 = some k)).map (·.2)
    | none => none
  | _, _ => none
section
variable {K : PySem.W.Frag} {O : List Addr} {H : Hp}
end
section
variable {X : Cx} {G : XD → Hp → Prop} {a b o i e : Expr} {f g : DS → M D} {pos pos' lp : Pos}
end
section
variable {K : PySem.W.Frag} {Hr : Hp} {R0 : List Addr} {P0 : Addr → Prop} {H0 H H' : Hp} {O : List Addr} {σ : St} {δ : DS}
theorem Mu.dct {H : Hp} {l : Addr} {xs : List (Key × V)} (h : H l = Option.some (HO.dK xs)) : Mu H l := .inr ⟨xs, h⟩
theorem Ev.ownD {l : Addr} (E : Ev K Hr O H σ δ) (hl : H l = none) : Ev K Hr (l :: O) (upd H l (HO.dK [])) σ δ := by
  refine ⟨fun b o h => by have q := E.root b o h; rw [upd_ne (ne_of_none q hl)]; exact q, fun a ha => ?_, E.len, fun j s h => ?_, E.dis⟩
  · rcases List.mem_cons.mp ha with rfl | ha
    · exact .dct upd_same
    · exact (E.oo a ha).new hl
  · exact (E.at_ j s h).to (To.own hl) (hd_new hl) fun a xs h1 h2 _ _ => ⟨List.mem_cons_of_mem _ h1, by rw [upd_ne (ne_of_none h2 hl)]; exact h2⟩
theorem EI.newD {i : Nat} {l : Addr} (E : EI K Hr R0 P0 H0 O H σ δ) (hl : H l = none) : EI K Hr R0 P0 H0 (l :: O) (upd H l (.dK [])) (σ.set i (some (.ref l))) (δ.set i (.od [])) := by
  have nO : l ∉ O := nin E.ev.oo hl
  have EO := E.ev.ownD hl
  refine ⟨⟨EO.root, EO.oo, by rw [List.length_set, List.length_set]; exact E.ev.len, fun j s h => ?_, fun j k a ds es hjk h1 h2 h3 h4 => ?_⟩, fun a ha => ?_, fun b o n h => ?_, fun a ha => ?_, fun j ds a h1 ho h2 => ?_, fun a ha => List.mem_cons_of_mem _ (E.sub a ha)⟩
  · rw [get_set] at h ⊢
    by_cases hij : i = j
    · rw [if_pos hij] at h ⊢
      by_cases hz : i < δ.length
      · rw [if_pos hz] at h
        rw [if_pos (by rw [E.ev.len]; exact hz)]
        cases h
        exact ⟨l, [], rfl, List.mem_cons_self, upd_same, rfl, .nil⟩
      · rw [if_neg hz] at h; cases h
    · rw [if_neg hij] at h ⊢
      exact EO.at_ j s h
  · rw [get_set] at h1 h2 h3 h4
    by_cases hij : i = j
    · rw [if_pos hij] at h1
      split at h1 <;> cases h1
    · rw [if_neg hij] at h1 h3
      by_cases hik : i = k
      · rw [if_pos hik] at h2
        split at h2 <;> cases h2
      · rw [if_neg hik] at h2 h4
        exact E.ev.dis j k a ds es hjk h1 h2 h3 h4
  · rcases List.mem_cons.mp ha with rfl | ha
    · refine .inr ?_
      cases q : Hr a with
      | none => rfl
      | some o =>
        rw [E.ev.root a o q] at hl
        cases hl
    · exact E.omr a ha
  · have q := E.keep b o n h
    rw [upd_ne (ne_of_none q hl)]
    exact q
  · rcases List.mem_cons.mp ha with rfl | ha
    · by_cases hp : P0 a
      · exact .inr (.inl hp)
      · refine .inr (.inr ?_)
        cases q : H0 a with
        | none => rfl
        | some o =>
          rw [E.keep a o hp q] at hl
          cases hl
    · exact E.om a ha
  · rw [get_set] at h1 h2
    by_cases hij : i = j
    · rw [if_pos hij] at h2
      have ha : a = l := by
        split at h2
        · cases h2; rfl
        · cases h2
      rw [ha]
      exact fun z => nO (E.sub l z)
    · rw [if_neg hij] at h1 h2
      exact E.nr1 j ds a h1 ho h2
/-- no other dict of one's own -/
def oneD (i : Nat) (δ : DS) : Bool := (List.range δ.length).all fun j => decide (j = i) || (match δ[j]? with | some (.od _) => false | _ => true)
theorem oneD_at {i j : Nat} {es : List (Key × D)} (h : oneD i δ = true) (hj : δ[j]? = some (.od es)) : j = i := by
  have hl : j < δ.length := (List.getElem?_eq_some_iff.mp hj).1
  have := List.all_eq_true.mp h j (List.mem_range.mpr hl)
  rw [hj] at this
  simpa using this
theorem EI.putD {i : Nat} {l : Addr} {kvs kvs' : List (Key × V)} {es es' : List (Key × D)} (E : EI K Hr R0 P0 H0 O H σ δ) (hd : δ[i]? = some (.od es)) (h1 : oneD i δ = true) (hσ : σ[i]? = some (some (.ref l))) (hl : H l = some (.dK kvs)) (hk : kvs'.map (·.1) = es'.map (·.1)) (ry : Reps K O H (kvs'.map (·.2)) (es'.map (·.2))) :
    EI K Hr R0 P0 H0 O (upd H l (.dK kvs')) σ (δ.set i (.od es')) := by
  obtain ⟨l', xs', q1, lO, q3, _⟩ := E.ev.at_ i _ hd
  rw [hσ] at q1
  cases q1
  have tO : To O O H (upd H l (.dK kvs')) := To.setD hl lO
  refine ⟨⟨fun b o h => ?_, fun a ha => ?_, by rw [List.length_set]; exact E.ev.len, fun j s h => ?_, fun j k a e1 e2 hjk h1 h2 h3 => ?_⟩, E.omr, fun b o n h => ?_, E.om, fun j es a h1 ho h2 => ?_, E.sub⟩
  · have q := E.ev.root b o h
    have hne : b ≠ l := fun z => by
      subst z
      rcases E.omr b lO with w | w
      · exact E.nr1 i _ b hd trivial hσ w
      · rw [h] at w; cases w
    rw [upd_ne hne]
    exact q
  · by_cases hb : a = l
    · rw [hb]; exact .dct upd_same
    · exact (E.ev.oo a ha).upd_ne hb
  · rw [get_set] at h
    by_cases hij : i = j
    · rw [if_pos hij] at h
      split at h
      · cases h
        rw [← hij, hσ]
        exact ⟨l, _, rfl, lO, upd_same, hk, ry.to tO⟩
      · cases h
    · rw [if_neg hij] at h
      have q := E.ev.at_ j s h
      cases s with
      | un => trivial
      | ex a => exact q
      | vl d =>
        obtain ⟨v, h1, r⟩ := q
        exact ⟨v, h1, r.to tO⟩
      | ow ds =>
        obtain ⟨a, xs, g1, g2, g3, r⟩ := q
        exact ⟨a, xs, g1, g2, by rw [upd_ne (ne_of g3 hl (by intro z; cases z))]; exact g3, r.to tO⟩
      | od es2 => exact absurd (oneD_at h1 h).symm hij
  · have old : ∀ (j : Nat) (es : List D), (δ.set i (.od es'))[j]? = some (.ow es) → δ[j]? = some (.ow es) := fun j es h => by
      rw [get_set] at h
      by_cases hij : i = j
      · rw [if_pos hij] at h
        split at h <;> cases h
      · rw [if_neg hij] at h; exact h
    exact E.ev.dis j k a e1 e2 hjk (old j _ h1) (old k _ h2) h3
  · have q := E.keep b o n h
    have hne : b ≠ l := fun z => by
      subst z
      rcases E.om b lO with w | w | w
      · exact E.nr1 i _ b hd trivial hσ w
      · exact n w
      · rw [h] at w; cases w
    rw [upd_ne hne]
    exact q
  · rw [get_set] at h1
    by_cases hij : i = j
    · exact E.nr1 i _ a hd trivial (by rw [hij]; exact h2)
    · rw [if_neg hij] at h1
      exact E.nr1 j es a h1 ho h2
end
section
variable {X : Cx} {G : XD → Hp → Prop} {a b o ix e : Expr} {f g : DS → M D} {pos pos' lp tpos : Pos}
def gNewD (i : Nat) : DS → M Out := fun δ => M.ret (.nx (δ.set i (.od [])))
def gPutD (i : Nat) (fk f : DS → M D) : DS → M Out := fun δ => match δ[i]? with
  | some (.od es) => (f δ).thn fun d => (fk δ).thn fun y => match keyOf y with
    | some k => if (oneD i δ && decide (es.length < 1000000)) = true then M.ret (.nx (δ.set i (.od (putD es k d)))) else none
    | none => none
  | _ => none
def gRetD (i : Nat) : DS → M Out := fun δ => match δ[i]? with
  | some (.od es) => M.ret (.rt (.dict (es.map fun e => (keyD e.1, e.2))))
  | _ => none
end
end DL
/-! new lists told by displays, an if among them, list.extend, dict displays, defs with defaults -/
namespace DL
open PySem PySem.Spec PyProof.Rows L2
section
variable {X : Cx} {G : XD → Hp → Prop} {a b c o i e : Expr} {f g : DS → M D} {fb : DS → M Bool} {fn : DS → M (List D)} {gs gt : DS → M Out} {st1 sts : List Stmt} {pos pos' lp : Pos}
def dNF (fn : DS → M (List D)) : DS → M D := fun δ => (fn δ).thn fun ds => if flatDs ds = true then M.ret (.list ds) else none
def gIfF (fb : DS → M Bool) (gs gt : DS → M Out) : DS → M Out := fun δ => (fb δ).thn fun b => if b = true then gs δ else gt δ
/-- x.extend(y), y a new list -/
def gExt (i : Nat) (fn : DS → M (List D)) : DS → M Out := fun δ => match δ[i]? with
  | some (.ow ds) => (fn δ).thn fun es => if small (ds.length + es.length) then M.ret (.nx (δ.set i (.ow (ds ++ es)))) else none
  | _ => none
end
/-! ### dict displays -/
def mergeD (es more : List (Key × D)) : List (Key × D) := more.foldl (fun acc e => putD acc e.1 e.2) es
section
variable {X : Cx} {G : XD → Hp → Prop} {k v : Expr} {ks : List (Option Expr)} {vs : List Expr} {f g : DS → M D} {fp : DS → M (List (Key × D))} {pos pos' lp : Pos}
/-- the pairs of a display -/
def PDP (X : Cx) (G : XD → Hp → Prop) (pos : Pos) (ks : List (Option Expr)) (vs : List Expr) (fp : DS → M (List (Key × D))) : Prop :=
  ∃ trs, PPs X pos ks vs trs ∧ ∀ {Hr : Hp} (δ : DS) (O : List Addr) (σ : St) (H : Hp) (Q : List (V × V) → Hp → Prop), Ev X.K Hr O H σ δ →
    ok (GS G Hr) (fp δ) (fun es => ∀ (kvs : List (Key × V)) H1, Same H H1 → kvs.map (·.1) = es.map (·.1) → Reps X.K O H1 (kvs.map (·.2)) (es.map (·.2)) → Q (kvs.map fun kv => (kV kv.1, kv.2)) H1) → tPairs trs σ H Q
def pNil : DS → M (List (Key × D)) := fun _ => M.ret []
def pCons (f g : DS → M D) (fp : DS → M (List (Key × D))) : DS → M (List (Key × D)) := fun δ => (f δ).thn fun y => (g δ).thn fun d => (fp δ).thn fun es => match keyOf y with
  | some k => M.ret ((k, d) :: es)
  | none => none
/-- x = {..} -/
def gDisp (i : Nat) (fp : DS → M (List (Key × D))) : DS → M Out := fun δ => (fp δ).thn fun es => if (oneD i (δ.set i (.od [])) && decide (es.length ≤ 15 ∧ i < δ.length)) = true then M.ret (.nx (δ.set i (.od (mergeD [] es)))) else none
end
/-! ### a def with defaults, all arguments given -/
structure FunD (K : PySem.W.Frag) (x qual : Str) (st : Stmt) (f : Addr) (fd : FuncData) (dV : Value) : Prop where
  ex : ∃ (oc : Value) (od : Option Addr) (kV doc pm : Value) (an : Option Addr) (cdv ct : Value) (osl : Array (Option Value)),
    fd = PySem.W.fnOf x qual (defArgs st) (defBody st) (defScope st) dV kV doc pm an cdv ct ∧ K.lookup f = some ⟨oc, od, .func fd, osl⟩ ∧ PySem.W.codeIn K cdv qual = true
  kp : PySem.W.keepIn K (.ref f) = true
section
variable {P : Program} {w : World} {K : PySem.W.Frag} {mg : Str → Option Value} {base : Heap}
theorem FunD.ok {x qual : Str} {st : Stmt} {f : Addr} {fd : FuncData} {dV : Value} {N ps : List Str} {k : Nat} {sp : Sp} (F : FunD K x qual st f fd dV) (S : FnScope N ps (defScope st)) (len : ∀ vs H Q E, sp vs H Q E → vs.length = ps.length)
    (hbody : ∀ (cdv : Value) (A : Around) (outer : List Env) (s : Shared) (H : Hp) (vs : List V) (Q : VK) (E : XK), Room k (A.deeper (envOfC qual (defScope st) s.heap.objs.size f cdv)) → sp vs H Q E →
      ∃ t, PSs (cxOf CX0 P w K mg base N qual (defScope st) f cdv A outer s H E).nox (defBody st) t ∧ t { nx := fun _ H' => Q .non H', rt := Q } (start N vs) H) : FnOk P w K mg base CX0 (k + 1) f fd ps sp := by
  obtain ⟨oc, od, kV, doc, pm, an, cdv, ct, osl, rfl, lk, hcd⟩ := F.ex
  refine fn_of lk hcd S len fun A outer s H vs Q E hr hsp => ?_
  obtain ⟨t, h, q⟩ := hbody cdv A outer s H vs Q E hr hsp
  exact ⟨t, h.nox, q⟩
theorem FunD.binds {x qual : Str} {st : Stmt} {f : Addr} {fd : FuncData} {dV : Value} {ps : List Str} (F : FunD K x qual st f fd dV)
    (h : ∀ (kV doc pm : Value) (an : Option Addr) (cdv ct : Value) (us : List Value), us.length = ps.length → bindArgs (PySem.W.fnOf x qual (defArgs st) (defBody st) (defScope st) dV kV doc pm an cdv ct) ⟨us, []⟩ = pure (ps.zip us)) : Binds K fd ps [] := by
  obtain ⟨oc, od, kV, doc, pm, an, cdv, ct, osl, rfl, lk, hcd⟩ := F.ex
  exact .all (h kV doc pm an cdv ct)
theorem FunD.bindsT {x qual : Str} {st : Stmt} {f T : Addr} {fd : FuncData} {ps : List Str} {o : Obj} {items : Array Value} {n : Nat} (F : FunD K x qual st f fd (.ref T)) (hT : K.lookup T = some o) (hs : o.data = .seq items n)
    (h : ∀ (kV doc pm : Value) (an : Option Addr) (cdv ct : Value) (us : List Value), us.length = ps.length → ∃ k, bindArgs (PySem.W.fnOf x qual (defArgs st) (defBody st) (defScope st) (.ref T) kV doc pm an cdv ct) ⟨us, []⟩ = seqItems? (.ref T) >>= k ∧ k (some items) = pure (ps.zip us)) : Binds K fd ps [] := by
  obtain ⟨oc, od, kV, doc, pm, an, cdv, ct, osl, rfl, lk, hcd⟩ := F.ex
  intro s us hK hl
  rw [List.append_nil] at hl ⊢
  obtain ⟨k, h1, h2⟩ := h kV doc pm an cdv ct us hl
  exact BindsTo.of_defaults rfl (hK _ _ hT) hs h1 h2
end
end DL
/-! dict(d); d == d2 where both are alike, of whole numbers -/
namespace DL
open PySem PySem.Spec PyProof.Rows L2
variable {X : Cx}
/-- dict(d): a new one -/
def oDictOf : List D → Option D
  | [.dict es] => if noIns (.dict es) = true then some (.dict es) else none
  | _ => none
/-- the numbers of one lie in the other -/
def hitsI (Y : List (D × D)) (k : Key) (i : Int) : Bool := match (Y.find? fun e => decide (keyOf e.1 = some k)).map (·.2) with
  | some (PyData.int j) => decide (i = j)
  | _ => false
def hitsD (Y : List (D × D)) (e : D × D) : Bool := match keyOf e.1, e.2 with
  | some k, PyData.int i => hitsI Y k i
  | _, _ => false
def oEqDI : D → D → Option D
  | .dict X, .dict Y => if X.length = Y.length ∧ X.all (hitsD Y) = true then some (.bool true) else none
  | _, _ => none
structure DefFZ (P : Program) (w : World) (K : PySem.W.Frag) (mg : Str → Option Value) (base : Heap) (k : Nat) (x : Str) (n : Nat) (z : Int) (F : List D → M D) : Prop where
  ex : ∃ (f : Addr) (fd : FuncData) (ps : List Str) (t : Tok), FnOk P w K mg base CX0 k f fd ps (spDF K (n + 1) F) ∧ mg x = some (.ref f) ∧ PySem.W.keepIn K (.ref f) = true ∧ Binds K fd ps [.int z t]
section
variable {G : XD → Hp → Prop} {e : Expr} {es : List Expr} {fa : DS → M (List D)} {pos : Pos}
end
section
variable {P : Program} {w : World} {K : PySem.W.Frag} {mg : Str → Option Value} {base : Heap}
end
end DL
/-! instances of the text's classes as data: o.f, o.m(..), C(..) -/
namespace DL
open PySem PySem.Spec PyProof.Rows L2
variable {X : Cx} {G : XD → Hp → Prop} {e o : Expr} {es : List Expr} {f g : DS → M D} {fa : DS → M (List D)} {pos apos : Pos}
/-- one reading or the other -/
def dEl (f g : DS → M D) : DS → M D := fun δ => match f δ with
  | none => g δ
  | r => r
theorem pd_el (h1 : PD X G e f) (h2 : PD X G e g) : PD X G e (dEl f g) := by
  obtain ⟨t1, p1, h1⟩ := h1
  obtain ⟨t2, p2, h2⟩ := h2
  refine ⟨fun σ H Q => t1 σ H Q ∨ t2 σ H Q, fun pins s σ H Q I h => ?_, fun δ O σ H Q E k => ?_⟩
  · rcases h with h | h
    · exact p1 pins s σ H Q I h
    · exact p2 pins s σ H Q I h
  · cases hf : f δ with
    | none =>
      have e : dEl f g δ = g δ := by unfold dEl; rw [hf]
      rw [e] at k
      exact .inr (h2 δ O σ H Q E k)
    | some r =>
      have e : dEl f g δ = f δ := by unfold dEl; rw [hf]
      rw [e] at k
      exact .inl (h1 δ O σ H Q E k)
theorem ev_el1 {δ : DS} {d : D} (h : f δ = M.ret d) : dEl f g δ = M.ret d := by unfold dEl; rw [h]; rfl
theorem ev_el2 {δ : DS} {r : M D} (h : f δ = none) (h2 : g δ = r) : dEl f g δ = r := by unfold dEl; rw [h]; exact h2
/-- the attributes of an instance of the class nm -/
def attrs (nm : Str) : D → Option (List (D))
  | .dict [(.none, .tuple (.str x :: r))] => if x = nm then some r else none
  | _ => none
def fldOf (f : Str) : List D → Option D
  | [] => none
  | .tuple [.str g, d] :: r => if g = f then some d else fldOf f r
  | _ :: _ => none
/-- o.f of an instance of the class nm -/
def oFld (nm f : Str) (x : D) : Option D := match attrs nm x with
  | some r => fldOf f r
  | none => none
/-- a class that the text makes instances of -/
structure ClsN (X : Cx) (nm : Str) (C : Addr) : Prop where
  at_ : PySem.W.nsIn X.K mainGlobals nm = some (some (.ref C))
  cls : Cls X.K C
theorem attrs_inv {K : PySem.W.Frag} {O : List Addr} {H : Hp} {v : V} {nm : Str} {x : D} {r : List D} (rx : Rep K O H v x) (h : attrs nm x = some r) : ∃ (a C dx : Addr) (fs : List (Str × V)) (es : List (Str × D)), v = .ref a ∧ r = es.map (fun e => PyData.tuple [.str e.1, e.2]) ∧ PySem.W.nsIn K mainGlobals nm = some (some (.ref C)) ∧ H a = some (.ins C dx fs) ∧ a ∉ O ∧ fs.map (·.1) = es.map (·.1) ∧ Reps K O H (fs.map (·.2)) (es.map (·.2)) := by
  cases rx with
  | dct h1 n hk rr =>
    rename_i a kvs es
    cases es with
    | nil => cases h
    | cons e es =>
      obtain ⟨k, y⟩ := e
      cases es with
      | nil => cases k <;> cases h
      | cons e2 es =>
        cases k <;> cases h
  | ins hN h1 n hk rr =>
    rename_i a C dx nm2 fs es
    have h' : (if nm2 = nm then some (es.map fun e => PyData.tuple [.str e.1, e.2]) else none) = some r := h
    by_cases c : nm2 = nm
    · rw [if_pos c] at h'
      exact ⟨_, _, _, _, _, rfl, (Option.some.inj h').symm, c ▸ hN, h1, n, hk, rr⟩
    · rw [if_neg c] at h'; cases h'
  | _ => cases h
theorem fld_rep {K : PySem.W.Frag} {O : List Addr} {H : Hp} {f : Str} {d : D} : ∀ {fs : List (Str × V)} {es : List (Str × D)}, fs.map (·.1) = es.map (·.1) → Reps K O H (fs.map (·.2)) (es.map (·.2)) → fldOf f (es.map fun e => PyData.tuple [.str e.1, e.2]) = some d → ∃ v, fs.lookup f = some v ∧ Rep K O H v d
  | [], [], _, _, h => by cases h
  | [], _ :: _, hk, _, _ => by cases hk
  | _ :: _, [], hk, _, _ => by cases hk
  | (g, v) :: fs, (g2, y) :: es, hk, r, h => by
    simp only [List.map_cons, List.cons.injEq] at hk
    obtain ⟨rfl, hk⟩ := hk
    rw [List.map_cons, List.map_cons] at r
    cases r with
    | cons r1 rs =>
      have h : (if g = f then some y else fldOf f (es.map fun e => PyData.tuple [.str e.1, e.2])) = some d := h
      by_cases c : g = f
      · rw [if_pos c] at h
        cases h
        subst c
        exact ⟨v, by simp [List.lookup], r1⟩
      · rw [if_neg c] at h
        obtain ⟨w, h1, h2⟩ := fld_rep hk rs h
        refine ⟨w, ?_, h2⟩
        have hb : (f == g) = false := beq_eq_false_iff_ne.mpr (Ne.symm c)
        simp only [List.lookup, hb]
        exact h1
theorem pd_fld {nm fl : Str} {C : Addr} (c : ClsN X nm C) (n : NoAttr X.K C fl) (ho : PD X G o f) (hb : attributeBase o fl X.env (eval o X.env) = eval o X.env := by rfl) : PD X G (.Attribute o fl pos) (d1 (oFld nm fl) f) := by
  obtain ⟨t, p, h⟩ := ho
  refine ⟨_, pe_fld p hb, fun δ O σ H Q E k => ?_⟩
  refine h δ O σ H _ E (ok_mono (ok_thn k) fun x z v H1 s1 rx => ?_)
  obtain ⟨d, hd, z⟩ := ok_lift z
  unfold oFld at hd
  cases ha : attrs nm x with
  | none => rw [ha] at hd; cases hd
  | some r =>
    rw [ha] at hd
    obtain ⟨a, C', dx, fs, es, rfl, rfl, hN, h1, hn, hk, rr⟩ := attrs_inv rx ha
    have : C' = C := by
      have := hN.symm.trans c.at_
      simp at this
      exact this
    subst this
    obtain ⟨w, l1, l2⟩ := fld_rep hk rr hd
    exact ⟨a, C', dx, fs, w, rfl, h1, c.cls, n, l1, z w H1 s1 l2⟩
/-- a method of the class nm -/
structure DefM (P : Program) (w : World) (K : PySem.W.Frag) (mg : Str → Option Value) (base : Heap) (k : Nat) (nm m : Str) (n : Nat) (F : List D → M D) : Prop where
  ex : ∃ (C f : Addr) (fd : FuncData) (ps : List Str), PySem.W.nsIn K mainGlobals nm = some (some (.ref C)) ∧ Cls K C ∧ Meth K C m f ∧ FnOk P w K mg base CX0 k f fd ps (spD K n F) ∧ Binds K fd ps []
/-- no attribute of its own has the name -/
def noFld (m : Str) (r : List D) : Bool := r.all fun d => match d with
  | .tuple [.str g, _] => decide (g ≠ m)
  | _ => false
def dMe (nm m : Str) (F : List D → M D) (fo : DS → M D) (fa : DS → M (List D)) : DS → M D := fun δ => (fo δ).thn fun x => match attrs nm x with
  | some r => if noFld m r = true then (fa δ).thn fun ds => F (x :: ds) else none
  | none => none
theorem noFld_look {m : Str} : ∀ {fs : List (Str × V)} {es : List (Str × D)}, fs.map (·.1) = es.map (·.1) → noFld m (es.map fun e => PyData.tuple [.str e.1, e.2]) = true → fs.lookup m = none
  | [], _, _, _ => rfl
  | _ :: _, [], hk, _ => by cases hk
  | (g, v) :: fs, (g2, y) :: es, hk, h => by
    simp only [List.map_cons, List.cons.injEq] at hk
    obtain ⟨rfl, hk⟩ := hk
    unfold noFld at h
    rw [List.map_cons, List.all_cons, Bool.and_eq_true] at h
    have c : g ≠ m := of_decide_eq_true h.1
    have hb : (m == g) = false := beq_eq_false_iff_ne.mpr (Ne.symm c)
    simp only [List.lookup, hb]
    exact noFld_look hk h.2
theorem pd_methI {pl : Sem Bool} {k n : Nat} {nm m : Str} {F : List D → M D} (h : DefM X.prog X.w X.K X.mg X.base k nm m n F) (hr : Room k X.A) (hn : (e :: es).length + 1 = n) (ho : PD X G o f) (ha : PDA X G (e :: es) fa)
    (hst : starEach (e :: es) X.env = (false, eval e X.env) :: starEach es X.env := by rfl) (hpl : (backTo pos (starEach es X.env)).any (·.1) = false := by rfl)
    (ht : eval (.Call (.Attribute o m apos) (e :: es) [] pos) X.env = (do
      let ov ← eval o X.env
      standAt apos.atName
      let (f, first) ← holding [ov] (getMethod ov m pl)
      callWith pos f first (backTo pos (starEach (e :: es) X.env)) (backToKw pos (keywordEach [] X.env))) := by rfl) :
    PD X G (.Call (.Attribute o m apos) (e :: es) [] pos) (dMe nm m (fun ds => noX (F ds)) f fa) := by
  obtain ⟨C, f0, fd, ps, hN, c, hm, F1, hb⟩ := h.ex
  obtain ⟨t, p, ho⟩ := ho
  obtain ⟨hl, ta, pa, ha⟩ := ha
  refine ⟨_, pe_meth (pl := pl) p c hm F1 hr hb .nil pass0 pa hst hpl ht, fun δ O σ H Q E k => ?_⟩
  refine ho δ O σ H _ E (ok_mono (ok_thn k) fun x z v H1 s1 rx => ?_)
  cases hat : attrs nm x with
  | none => rw [hat] at z; exact z.elim
  | some r =>
    rw [hat] at z
    have z1 : ok _ (if noFld m r = true then (fa δ).thn fun ds => noX (F (x :: ds)) else none) _ := z
    clear z
    by_cases hf : noFld m r = true
    · rw [if_pos hf] at z1
      obtain ⟨a, C', dx, fs, es', rfl, rfl, hN', h1, hn1, hk, rr⟩ := attrs_inv rx hat
      have hC : C' = C := by
        have := hN'.symm.trans hN
        simp at this
        exact this
      subst hC
      refine ⟨a, dx, fs, rfl, h1, noFld_look hk hf, ?_⟩
      have k1 := ok_thn z1
      refine ha δ O σ H1 _ (E.same s1) ?_
      cases e1 : fa δ with
      | none => rw [e1] at k1; exact k1.elim
      | some q =>
        rw [e1] at k1
        cases q with
        | error y => exact k1
        | ok ds =>
          refine fun vs H2 s2 rs => ?_
          refine ⟨O, x :: ds, ?_, ((E.same s1).same s2).oo, ?_, ok_mono (ok_noX k1) fun d z v H3 s3 r => z v H3 (s1.trans (s2.trans s3)) r⟩
          · show (vs ++ []).length + 1 = n
            rw [List.append_nil, rs.length, hl δ ds e1]
            exact hn
          · rw [List.append_nil]
            exact .cons (rx.same s2) rs
    · rw [if_neg hf] at z1; exact z1.elim
theorem ev_me {nm m : Str} {F : List D → M D} {δ : DS} {x d : D} {r ds : List D} (h1 : f δ = M.ret x) (h2 : attrs nm x = some r) (h3 : noFld m r = true) (h4 : fa δ = M.ret ds) (h5 : F (x :: ds) = M.ret d) : dMe nm m (fun ds => noX (F ds)) f fa δ = M.ret d := by
  unfold dMe
  rw [h1, thn_ret, h2]
  show (if noFld m r = true then (fa δ).thn fun ds => noX (F (x :: ds)) else none) = _
  rw [if_pos h3, h4, thn_ret, h5]
  rfl
theorem ev_me0 {nm m : Str} {F : List D → M D} {δ : DS} {x : D} (h1 : f δ = M.ret x) (h2 : attrs nm x = none) : dMe nm m F f fa δ = none := by
  unfold dMe
  rw [h1, thn_ret, h2]
end DL
/-! new instances: C() where there is no __init__, C(e, ..) where __init__ sets one attribute to its one parameter -/
namespace OI
open PySem PySem.Spec PyProof.Rows
theorem oi_kind : builtinKind "object.__init__" = some .slot := by decide +kernel
theorem oi_split : splitId "object.__init__" = some ("object", "__init__") := by decide +kernel
theorem oi_q (x : Value) : (Code.builtin "object.__init__" ⟨[x], []⟩).quiet = true := Code.quiet_builtin _ (by decide +kernel)
theorem oi_code {prog : Program} {w : World} {A : Around} {x : Value} {Q : PySem.Fin → Shared → Prop} {E : Value → Shared → Prop} {s : Shared} (q : Q (.done (.ret .none)) s) : wpAny (model prog w) A (Builtin.«object.__init__» ⟨[x], []⟩) Q E s := by
  unfold Builtin.«object.__init__»
  exact wpAny_pure q
theorem oi_chk {prog : Program} {w : World} {A : Around} {E : Value → Shared → Prop} {s : Shared} {x : Value} {Q : Unit → Shared → Prop} (hi : PySem.W.Looks (model prog w) s.heap (isInstance x (.type "object")) true) (q : Q () s) : wpAny (model prog w) A (checkBuiltinCall "object.__init__" ⟨[x], []⟩) Q E s :=
  PySem.W.check_slot (M := model prog w) (A := A) (E := E) (s := s) (i := "object.__init__") (owner := "object") (n := "__init__") (self := x) (rest := []) (kw := []) (Q := Q) oi_kind oi_split hi (PySem.F.args_object_init_1 x) q
theorem oi_run {prog : Program} {w : World} {A : Around} {R : Result → Shared → Prop} {s : Shared} {x : Value} (hi : PySem.W.Looks (model prog w) s.heap (isInstance x (.type "object")) true) (q : R (.ok (.ret .none)) s) : codeAny (model prog w) A (.call (.builtin "object.__init__") ⟨[x], []⟩) R s := by
  refine codeAny_call_builtin_at (oi_q x) PySem.F.entry_object_init ?_
  refine oi_chk hi ?_
  refine oi_code ?_
  exact q
end OI
namespace DL
open PySem PySem.Spec PyProof.Rows L2
/-! ### object.__init__ -/
theorem oi_bind (self : Value) : bindSpecial (.builtin "object.__init__") self = pure (.builtin "object.__init__", [self]) := by
  have hop : withoutEnding? "object.__init__" "#opaque" = none := by decide +kernel
  have hdat : withoutEnding? "object.__init__" "#data" = none := by decide +kernel
  simp only [bindSpecial, typeOf, builtinType, hop, hdat, OI.oi_kind]; rfl
/-- a class that is made without an __init__ of its own -/
structure Mk0 (K : PySem.W.Frag) (C : Addr) : Prop where
  makes : PySem.W.makesIn K C = true
  init : PySem.W.findIn K (.ref C) "__init__" = some (some (.builtin "object.__init__"))
  sub : PySem.W.subIn K (.ref C) (.type "object") = some true
  kp : PySem.W.keepIn K (.ref C) = true
section
variable {X : Cx} {G : XD → Hp → Prop} {C f : Addr} {x nm fl : Str} {p pos : Pos} {e : Expr} {es : List Expr} {g : DS → M D}
def tMk0 (C : Addr) : TE := fun σ H Q => ∀ x dx, H x = none → H dx = none → dx ≠ x → Q (.ref x) (upd (upd H dx (.own x)) x (.ins C dx []))
theorem pe_mk0 (M : Mk0 X.K C) (hg : Gl X x) (hm : X.mg x = some (.ref C)) (hdb : (x == ("__debug__" : Str)) = false := by decide) : PE X (.Call (.Name x p) [] [] pos) (tMk0 C) := by
  intro pins s σ H Q I h
  refine wpAny_Call_Name_kw (ld_glob I hg hm ?_ hdb)
  refine PySem.W.callWith_K0 I.kIn M.kp ?_
  have hq := h (s.heap.objs.size + 1) s.heap.objs.size (I.hok.fresh (Nat.le_succ _)) (I.hok.fresh (Nat.le_refl _)) (Nat.ne_of_lt (Nat.lt_succ_self _))
  have I2 := Inv.made (C := C) I
  refine wpAny_call (make_map0 I.kIn M.makes M.init (fun self => PySem.W.Looks.of_pure (oi_bind self)) (OI.oi_run ?_ ⟨rfl, ⟨V.ref (s.heap.objs.size + 1), _, I2, rfl, hq⟩⟩))
  have hx : ((s.heap.push PySem.W.emptyDict).push (PySem.W.instObj C s.heap.objs.size)).get? (s.heap.objs.size + 1) = some (PySem.W.instObj C s.heap.objs.size) := by
    have := Heap.get?_push_size (s.heap.push PySem.W.emptyDict) (o := PySem.W.instObj C s.heap.objs.size) rfl
    rw [Heap.size_push] at this
    exact this
  have t1 : PySem.W.Looks (model X.prog X.w) ((s.heap.push PySem.W.emptyDict).push (PySem.W.instObj C s.heap.objs.size)) (typeOf (.ref (s.heap.objs.size + 1))) (.ref C) := (PySem.W.Looks.ld hx).andThen .now
  exact t1.andThen (PySem.W.looks_subIn I2.kIn M.sub)
theorem rep_ins {K : PySem.W.Frag} {O : List Addr} {H : Hp} {C a dx : Addr} {nm : Str} {fs : List (Str × V)} {es : List (Str × D)} (oo : ∀ l ∈ O, Mu H l) (hN : PySem.W.nsIn K mainGlobals nm = some (some (.ref C))) (ha : H a = none) (hd : H dx = none) (hne : dx ≠ a) (hk : fs.map (·.1) = es.map (·.1)) (r : Reps K O H (fs.map (·.2)) (es.map (·.2))) : Same H (upd (upd H dx (.own a)) a (.ins C dx fs)) ∧ Rep K O (upd (upd H dx (.own a)) a (.ins C dx fs)) (.ref a) (insD nm es) := by
  have s : Same H (upd (upd H dx (.own a)) a (.ins C dx fs)) := (same_new hd).trans (same_new (by rw [upd_ne (Ne.symm hne)]; exact ha))
  exact ⟨s, .ins hN upd_same (nin oo ha) hk (r.same s)⟩
/-- C() -/
theorem pd_mk0 (M : Mk0 X.K C) (hN : PySem.W.nsIn X.K mainGlobals x = some (some (.ref C))) (hg : Gl X x) (hm : X.mg x = some (.ref C)) (hdb : (x == ("__debug__" : Str)) = false := by decide) : PD X G (.Call (.Name x p) [] [] pos) (dC (insD x [])) := by
  refine ⟨_, pe_mk0 M hg hm hdb, fun δ O σ H Q E k => ?_⟩
  intro a dx ha hd hne
  obtain ⟨s, r⟩ := rep_ins (fs := []) (es := []) E.oo hN ha hd hne rfl .nil
  exact k _ _ s r
/-! ### __init__ that sets one attribute -/
def spI (C : Addr) (fl : Str) : Sp := fun vs H Q _ => ∃ a dx v, vs = [.ref a, v] ∧ H a = some (.ins C dx []) ∧ Q .non (upd H a (.ins C dx [(fl, v)]))
structure MkI (P : Program) (w : World) (K : PySem.W.Frag) (mg : Str → Option Value) (base : Heap) (k : Nat) (x fl : Str) : Prop where
  ex : ∃ (C f : Addr) (fd : FuncData) (ps : List Str), PySem.W.nsIn K mainGlobals x = some (some (.ref C)) ∧ mg x = some (.ref C) ∧ Mk K C f ∧ FnOk P w K mg base CX0 k f fd ps (spI C fl) ∧ Binds K fd ps []
def dMk (x fl : Str) (fa : DS → M (List D)) : DS → M D := fun δ => (fa δ).thn fun ds => match ds with
  | [d] => M.ret (insD x [(fl, d)])
  | _ => none
theorem pd_mk1 {k : Nat} {fa : DS → M (List D)} (h : MkI X.prog X.w X.K X.mg X.base k x fl) (hr : Room (k + 1) X.A) (hg : Gl X x) (ha : PDA X G (e :: es) fa)
    (hdb : (x == ("__debug__" : Str)) = false := by decide) (he : starEach (e :: es) X.env = (false, eval e X.env) :: starEach es X.env := by rfl) (hpl : (backTo pos (starEach es X.env)).any (·.1) = false := by rfl) :
    PD X G (.Call (.Name x p) (e :: es) [] pos) (dMk x fl fa) := by
  obtain ⟨C, f, fd, ps, hN, hm, M1, F1, hb⟩ := h.ex
  obtain ⟨hl, t, pa, ha⟩ := ha
  refine ⟨_, pe_make M1 F1 hr hg hm hb .nil pass0 pa hdb he hpl, fun δ O σ H Q E k => ?_⟩
  have k1 := ok_thn k
  refine ha δ O σ H _ E ?_
  cases e1 : fa δ with
  | none => rw [e1] at k1; exact k1.elim
  | some r =>
    rw [e1] at k1
    cases r with
    | error y => exact k1
    | ok ds =>
      refine fun vs H1 s1 rs => ?_
      match ds, k1, rs with
      | [d], k1, rs =>
        intro a dx ha' hd hne
        obtain ⟨v, rfl, rv⟩ := reps1 rs
        obtain ⟨s, r⟩ := rep_ins (fs := [(fl, v)]) (es := [(fl, d)]) (E.same s1).oo hN ha' hd hne rfl (.cons rv .nil)
        refine ⟨a, dx, v, rfl, upd_same, rfl, ?_⟩
        rw [show upd (upd (upd H1 dx (.own a)) a (.ins C dx [])) a (.ins C dx [(fl, v)]) = upd (upd H1 dx (.own a)) a (.ins C dx [(fl, v)]) from by funext b; unfold upd; split <;> rfl]
        exact k1 _ _ (s1.trans s) r
end
section
variable {P : Program} {w : World} {K : PySem.W.Frag} {mg : Str → Option Value} {base : Heap}
/-- __init__(self, y): self.fl = y -/
theorem init_of {x qual fl : Str} {st : Stmt} {f C : Addr} {fd : FuncData} {N : List Str} {k : Nat} (F0 : Fun K x qual st f fd) (S : FnScope N N (defScope st)) (hN : N.length = 2) (c : Cls K C) (n : NoAttr K C fl)
    (hbody : ∀ (cdv : Value) (A : Around) (outer : List Env) (s : Shared) (H : Hp) (E : XK), PSs (cxOf CX0 P w K mg base N qual (defScope st) f cdv A outer s H E).nox (defBody st) (sFld K (tVar 0) (tVar 1) fl)) : FnOk P w K mg base CX0 (k + 1) f fd N (spI C fl) := by
  refine F0.ok S (fun vs H Q E h => ?_) (fun cdv A outer s H vs Q E hr h => ?_)
  · obtain ⟨a, dx, v, rfl, _⟩ := h
    exact hN.symm
  · obtain ⟨a, dx, v, rfl, ha, q⟩ := h
    refine ⟨_, hbody cdv A outer s H E, ?_⟩
    match N, hN with
    | [n0, n1], _ => exact ⟨v, rfl, .ref a, rfl, a, C, dx, [], rfl, ha, c, n, by decide, q⟩
end
end DL
/-! try: .. except C: .. (no name); methods that raise; isinstance of an instance and an own class -/
namespace L2
open PySem PySem.Spec PyProof.Rows
section
variable {X : Cx}
def tTryN (X : Cx) (C : Addr) (body suite : List Stmt) : TS := fun D σ H => ∃ Ex : XK,
  (∀ pn xe, Passes (CXE X.prog X.w) (X.tri pn xe) Ex → tCan (X.tri pn xe) body D σ H) ∧
  ∀ c d H', Ex c d H' → c = .ref C ∧ ∀ pn ea oe, (ea, oe) ∈ pn → oe.cls = .ref C → tCan (X.held pn ea) suite D (List.replicate X.N.length none) H'
theorem ps_try_no {x : Str} {C : Addr} {B newId initId : String} {bm : List Value} {body suite : List Stmt} {b0 : Stmt} {np hp pos : Pos} (hK : PySem.W.excIn X.K C bm newId = true) (FB : ExcBaseFacts B newId initId bm)
    (hst : X.stack = X.env :: X.outer) (hfr : X.env.frame = some X.env.locals) (hg : Gl X x) (hm : X.mg x = some (.ref C)) (hd : (x == ("__debug__" : Str)) = false := by decide) :
    PS X (.Try body [.ExceptHandler (some (.Name x np)) none (b0 :: suite) hp] [] [] pos) (tTryN X C body (b0 :: suite)) := by
  intro pins s σ H D I ⟨Ex, hb, hs⟩
  refine wpAny_Try_except ?_
  have hps : Passes (CXE X.prog X.w) (X.tri (X.pn ++ pins) fun e s' => ∃ σ1 H1 s1, Inv X pins σ1 H1 s1 ∧ CXE X.prog X.w X.stack H1 s1 Ex e s') Ex := fun pins' σ1 H1 s1 e s' I1 h1 => ⟨σ1, H1, s1, I1.untri, h1⟩
  have hw := pss_can [] s σ H D (I.tri _) (hb _ _ hps)
  refine wpAny_mono hw (fun f s1 h1 => ?_) (fun e s1 h1 => ?_)
  · cases f with
    | next =>
      obtain ⟨σ', H', I', q⟩ := h1
      exact wpAny_execs_nil (show SP X pins D .next s1 from ⟨σ', H', I'.untri, q⟩)
    | brk => obtain ⟨σ', H', I', q⟩ := h1; exact ⟨σ', H', I'.untri, q⟩
    | cont => obtain ⟨σ', H', I', q⟩ := h1; exact ⟨σ', H', I'.untri, q⟩
    | ret u => obtain ⟨v, σ', H', I', r, q⟩ := h1; exact ⟨v, σ', H', I'.untri, r, q⟩
  · obtain ⟨σ1, H1, s0, I0, ea, C', t, H', B0, rfl, F⟩ := h1
    obtain ⟨hc, hsuite⟩ := hs _ _ _ F.wish
    cases hc
    have fl := F.fl
    rw [hst] at fl
    refine wpAny_looks_onW (I.ok.frames.trans (by rw [hst])) hfr fl fun h4 hheld4 hsm4 => ?_
    refine wpAny_landsW hheld4 fun h5 hheld5 hsm5 => ?_
    have key : ∀ {h6 : Heap}, Heap.FlyingW B0 (X.env :: X.outer) ea (.ref C) (.ref t) h6 → s1.heap.UpToSlots h6 → ∃ oe, oe.cls = .ref C ∧ h6.get? ea = some oe ∧ Inv (X.held (X.pn ++ pins ++ [(ea, oe)]) ea) [] σ1 H' { s1 with heap := h6 } := by
      intro h6 hfl6 hsm6
      have I6 := fly_on I0 F hfl6.1 hsm6
      obtain ⟨oe, vs, hoe, hoec, hoed, _⟩ := hfl6.first
      refine ⟨oe, hoec, hoe, I6.held ⟨hoe, ?_, ?_, ?_, fun v z => by rw [hoed] at z; cases z⟩⟩
      · cases e : H' ea with
        | none => rfl
        | some o =>
          obtain ⟨ob, q⟩ := F.trk _ _ e
          rw [hfl6.2.1] at q; cases q
      · rintro rfl
        obtain ⟨m, ⟨o', es, ep, ho', hd', _⟩, _⟩ := I6.loc
        have ho' : h6.get? X.env.locals = some o' := ho'
        rw [hoe] at ho'; cases ho'; rw [hoed] at hd'; cases hd'
      · intro hb'
        obtain ⟨_, o', ho', hd'⟩ := I6.funs.mem hb'
        have ho' : h6.get? ea = some o' := ho'
        rw [hoe] at ho'; cases ho'
        exact hd' _ hoed
    obtain ⟨ob, hobc, hob, I5⟩ := key hheld5 (hsm4.trans hsm5)
    obtain ⟨tl, N, nm, q, bs, hdct, sn, sub, ab, col, dd, k0, k1, k2, k3, k5, mN, hC, hNs, hni, T⟩ := exc_obj I.ok.mod.kin hK
    refine wpAny_handleBy_cons (codeAny_handlers_test (ld_glob I5 hg hm ?_ hd)) (by intro q; cases q)
    refine wpAny_excMatches_sub_self (I5.bk _ _ hC) hob hobc (T.hasType FB.hasBase) (codeAny_handlers_suite ?_)
    refine lands_againW hheld5 fun h6 hfl6 hsm6 => ?_
    obtain ⟨oe, hoec, hoe, I6⟩ := key hfl6 ((hsm4.trans hsm5).trans hsm6)
    have I7 := I6.weak (σ' := List.replicate X.N.length none) (by rw [List.length_replicate]; exact I6.len.symm) (fun j v z => by
      rw [List.getElem?_replicate] at z
      split at z <;> cases z)
    refine wpAny_mono (pss_can [] _ _ H' D I7 (hsuite _ ea oe (by simp) hoec)) (fun f s10 z => ?_) (fun _ _ z => z.elim)
    cases f with
    | next => obtain ⟨σ', H2, J, q⟩ := z; exact ⟨σ', H2, J.unheld I.ok.hd, q⟩
    | brk => obtain ⟨σ', H2, J, q⟩ := z; exact ⟨σ', H2, J.unheld I.ok.hd, q⟩
    | cont => obtain ⟨σ', H2, J, q⟩ := z; exact ⟨σ', H2, J.unheld I.ok.hd, q⟩
    | ret u => obtain ⟨v, σ', H2, J, r, q⟩ := z; exact ⟨v, σ', H2, J.unheld I.ok.hd, r, q⟩
end
end L2
namespace DL
open PySem PySem.Spec PyProof.Rows L2
section
variable {K : PySem.W.Frag} {Hr H0 H H' : Hp} {R0 O : List Addr} {P0 : Addr → Prop} {σ : St} {δ : DS}
theorem ei_unS {N : Nat} (E : EI K Hr R0 P0 H0 O H σ δ) (s : Same H H') : EI K H O (fun _ => False) H O H' (List.replicate N none) (List.replicate N Sl.un) := by
  have no : ∀ {j : Nat} {s : Sl}, (List.replicate N Sl.un)[j]? = some s → s = .un := fun {j s} h => by
    rw [List.getElem?_replicate] at h
    split at h <;> cases h
    rfl
  refine ⟨⟨s, fun l hl => (E.ev.oo l hl).same s, by simp, fun j sl h => ?_, fun j k l ds es _ h1 => ?_⟩, fun l hl => .inl hl, fun b o _ h => s _ _ h, fun l hl => .inl hl, fun j ds l h1 ho => ?_, fun l hl => hl⟩
  · rw [no h]
    trivial
  · have := no h1
    cases this
  · have := no h1
    subst this
    exact ho.elim
/-- try: .. except C: .. -/
def gTryN (x : Str) (N : Nat) (gb gs : DS → M Out) : DS → M Out := fun δ => match gb (noOw δ) with
  | none => none
  | some (.ok o) => some (.ok o)
  | some (.error y) => if y.cls = x then noX (gs (List.replicate N .un)) else none
end
section
variable {X : Cx} {G : XD → Hp → Prop} {a b e o : Expr} {es : List Expr} {f : DS → M D} {fa : DS → M (List D)} {pos apos p p1 p2 : Pos}
theorem pd_try_no {x : Str} {C : Addr} {B newId initId : String} {bm : List Value} {body suite : List Stmt} {b0 : Stmt} {np hp pos : Pos} {gb gs : DS → M Out} (hK : PySem.W.excIn X.K C bm newId = true) (FB : ExcBaseFacts B newId initId bm)
    (hst : X.stack = X.env :: X.outer) (hfr : X.env.frame = some X.env.locals) (hg : Gl X x) (hm : X.mg x = some (.ref C))
    (hb : ∀ pn xe Ex, Passes (CXE X.prog X.w) (X.tri pn xe) Ex → PDSs (X.tri pn xe) (GX X.mg Ex) body gb)
    (hs : ∀ pn ea, PDSs (X.held pn ea) (fun _ _ => False) (b0 :: suite) gs)
    (hd : (x == ("__debug__" : Str)) = false := by decide) :
    PDS X G (.Try body [.ExceptHandler (some (.Name x np)) none (b0 :: suite) hp] [] [] pos) (gTryN x X.N.length gb gs) := by
  refine ⟨_, ps_try_no hK FB hst hfr hg hm hd, @fun Hr R0 P0 H0 δ O σ H Dn E k => ?_⟩
  unfold gTryN at k
  cases e : gb (noOw δ) with
  | none => rw [e] at k; exact k.elim
  | some r =>
    rw [e] at k
    cases r with
    | ok o =>
      refine ⟨E0, fun pn xe hps => ?_, fun c d H' z => z.elim⟩
      obtain ⟨t, p, hB⟩ := hb pn xe E0 hps
      exact ⟨t, p, hB O (fun _ => False) H (noOw δ) O σ H Dn E.fresh (by rw [e]; exact Fin.fresh E k)⟩
    | error y =>
      have k : ok (GS G Hr) (if y.cls = x then noX (gs (List.replicate X.N.length .un)) else none) (Fin X.K Hr R0 P0 H0 Dn) := k
      by_cases hy : y.cls = x
      · rw [if_pos hy] at k
        refine ⟨fun c _ H' => c = .ref C ∧ Same H H', fun pn xe hps => ?_, fun c d H' z => ⟨z.1, fun pn ea oe hin hoe => ?_⟩⟩
        · obtain ⟨t, p, hB⟩ := hb pn xe _ hps
          refine ⟨t, p, hB O (fun _ => False) H (noOw δ) O σ H Dn E.fresh ?_⟩
          rw [e]
          intro H' s C' hC'
          rw [hy, hm] at hC'
          exact ⟨Option.some.inj hC'.symm ▸ rfl, s⟩
        · obtain ⟨t, p, hB⟩ := hs pn ea
          refine ⟨t, p, hB O (fun _ => False) H (List.replicate X.N.length .un) O _ H' Dn (ei_unS E z.2) ?_⟩
          exact ok_weak (ok_mono (ok_noX k) fun o q => Fin.fresh E q) fun y z => z.elim
      · rw [if_neg hy] at k
        exact k.elim
theorem ev_tryN_x {x : Str} {N : Nat} {gb gs : DS → M Out} {δ : DS} {y : XD} {o : Out} (h : gb (noOw δ) = some (.error y)) (hy : y.cls = x) (hs : gs (List.replicate N .un) = M.ret o) : gTryN x N gb gs δ = M.ret o := by
  unfold gTryN
  rw [h]
  dsimp only
  rw [if_pos hy, hs]
  rfl
/-! ### methods that raise -/
structure DefMX (P : Program) (w : World) (K : PySem.W.Frag) (mg : Str → Option Value) (base : Heap) (k : Nat) (nm m : Str) (n : Nat) (F : List D → M D) : Prop where
  ex : ∃ (C f : Addr) (fd : FuncData) (ps : List Str), PySem.W.nsIn K mainGlobals nm = some (some (.ref C)) ∧ Cls K C ∧ Meth K C m f ∧ FnOk P w K mg base (CXE P w) k f fd ps (spX K mg n F) ∧ Binds K fd ps []
theorem meth_run {E : XK} {pl : Sem Bool} {k n : Nat} {nm m : Str} {F : List D → M D} (h : DefMX X.prog X.w X.K X.mg X.base k nm m n F) (hr : Room k X.A) (hx : Passes (CXE X.prog X.w) X E) (hG : ∀ x H, G x H → GX X.mg E x H) (hn : (e :: es).length + 1 = n) (ho : PD X G o f) (ha : PDA X G (e :: es) fa)
    (hst : starEach (e :: es) X.env = (false, eval e X.env) :: starEach es X.env := by rfl) (hpl : (backTo pos (starEach es X.env)).any (·.1) = false := by rfl)
    (ht : eval (.Call (.Attribute o m apos) (e :: es) [] pos) X.env = (do
      let ov ← eval o X.env
      standAt apos.atName
      let (f, first) ← holding [ov] (getMethod ov m pl)
      callWith pos f first (backTo pos (starEach (e :: es) X.env)) (backToKw pos (keywordEach [] X.env))) := by rfl) :
    PD X G (.Call (.Attribute o m apos) (e :: es) [] pos) (dMe nm m F f fa) := by
  obtain ⟨C, f0, fd, ps, hN, c, hm, F1, hb⟩ := h.ex
  obtain ⟨t, p, ho⟩ := ho
  obtain ⟨hl, ta, pa, ha⟩ := ha
  refine ⟨_, pe_meth (pl := pl) p c hm F1 hr hb .nil hx pa hst hpl ht, @fun Hr δ O σ H Q E0 k => ?_⟩
  refine ho δ O σ H _ E0 (ok_mono (ok_thn k) fun x z v H1 s1 rx => ?_)
  cases hat : attrs nm x with
  | none => rw [hat] at z; exact z.elim
  | some r =>
    rw [hat] at z
    have z1 : ok _ (if noFld m r = true then (fa δ).thn fun ds => F (x :: ds) else none) _ := z
    clear z
    by_cases hf : noFld m r = true
    · rw [if_pos hf] at z1
      obtain ⟨a, C', dx, fs, es', rfl, rfl, hN', h1, hn1, hk, rr⟩ := attrs_inv rx hat
      have hC : C' = C := by
        have := hN'.symm.trans hN
        simp at this
        exact this
      subst hC
      refine ⟨a, dx, fs, rfl, h1, noFld_look hk hf, ?_⟩
      have k1 := ok_thn z1
      refine ha δ O σ H1 _ (E0.same s1) ?_
      cases e1 : fa δ with
      | none => rw [e1] at k1; exact k1.elim
      | some r =>
        rw [e1] at k1
        cases r with
        | error y => exact k1
        | ok ds =>
          refine fun vs H2 s2 rs => ?_
          refine ⟨O, _ :: ds, ?_, ((E0.same s1).same s2).oo, .cons (rx.same s2) (by rw [List.append_nil]; exact rs), ok_weak (ok_mono k1 fun d z v H3 s3 r => z v H3 ((s1.trans s2).trans s3) r) fun y q H3 s3 => hG y H3 (q H3 (((E0.same s1).same s2).root.trans s3))⟩
          rw [List.append_nil, List.length_cons, rs.length, hl δ ds e1]
          exact hn
    · rw [if_neg hf] at z1; exact z1.elim
theorem pd_methN {pl : Sem Bool} {k n : Nat} {nm m : Str} {F : List D → M D} (h : DefMX X.prog X.w X.K X.mg X.base k nm m n F) (hr : Room k X.A) (hn : (e :: es).length + 1 = n) (ho : PD X G o f) (ha : PDA X G (e :: es) fa)
    (hst : starEach (e :: es) X.env = (false, eval e X.env) :: starEach es X.env := by rfl) (hpl : (backTo pos (starEach es X.env)).any (·.1) = false := by rfl)
    (ht : eval (.Call (.Attribute o m apos) (e :: es) [] pos) X.env = (do
      let ov ← eval o X.env
      standAt apos.atName
      let (f, first) ← holding [ov] (getMethod ov m pl)
      callWith pos f first (backTo pos (starEach (e :: es) X.env)) (backToKw pos (keywordEach [] X.env))) := by rfl) :
    PD X G (.Call (.Attribute o m apos) (e :: es) [] pos) (dMe nm m (fun ds => noX (F ds)) f fa) := by
  obtain ⟨C, f0, fd, ps, hN, c, hm, F1, hb⟩ := h.ex
  obtain ⟨t, p, ho⟩ := ho
  obtain ⟨hl, ta, pa, ha⟩ := ha
  refine ⟨_, pe_meth (pl := pl) p c hm F1 hr hb .nil passes_never pa hst hpl ht, @fun Hr δ O σ H Q E0 k => ?_⟩
  refine ho δ O σ H _ E0 (ok_mono (ok_thn k) fun x z v H1 s1 rx => ?_)
  cases hat : attrs nm x with
  | none => rw [hat] at z; exact z.elim
  | some r =>
    rw [hat] at z
    have z1 : ok _ (if noFld m r = true then (fa δ).thn fun ds => noX (F (x :: ds)) else none) _ := z
    clear z
    by_cases hf : noFld m r = true
    · rw [if_pos hf] at z1
      obtain ⟨a, C', dx, fs, es', rfl, rfl, hN', h1, hn1, hk, rr⟩ := attrs_inv rx hat
      have hC : C' = C := by
        have := hN'.symm.trans hN
        simp at this
        exact this
      subst hC
      refine ⟨a, dx, fs, rfl, h1, noFld_look hk hf, ?_⟩
      have k1 := ok_thn z1
      refine ha δ O σ H1 _ (E0.same s1) ?_
      cases e1 : fa δ with
      | none => rw [e1] at k1; exact k1.elim
      | some r =>
        rw [e1] at k1
        cases r with
        | error y => exact k1
        | ok ds =>
          refine fun vs H2 s2 rs => ?_
          refine ⟨O, _ :: ds, ?_, ((E0.same s1).same s2).oo, .cons (rx.same s2) (by rw [List.append_nil]; exact rs), ok_false (ok_mono (ok_noX k1) fun d z v H3 s3 r => z v H3 ((s1.trans s2).trans s3) r)⟩
          rw [List.append_nil, List.length_cons, rs.length, hl δ ds e1]
          exact hn
    · rw [if_neg hf] at z1; exact z1.elim
end
section
variable {P : Program} {w : World} {K : PySem.W.Frag} {mg : Str → Option Value} {base : Heap}
theorem fn_ofX {x qual : Str} {st : Stmt} {f : Addr} {fd : FuncData} {N ps : List Str} {k : Nat} {g : DS → M Out} (F0 : Fun K x qual st f fd) (S : FnScope N ps (defScope st))
    (hbody : ∀ (cdv : Value) (A : Around) (outer : List Env) (s : Shared) (H : Hp) (E : XK), Room k (A.deeper (envOfC qual (defScope st) s.heap.objs.size f cdv)) →
      PDSs (cxOf (CXE P w) P w K mg base N qual (defScope st) f cdv A outer s H E) (GX mg E) (defBody st) g) : FnOk P w K mg base (CXE P w) (k + 1) f fd ps (spX K mg ps.length (run N.length g)) := by
  obtain ⟨oc, od, kV, doc, pm, an, cdv, ct, osl, rfl, lk, hcd⟩ := F0.ex
  refine fn_of lk hcd S (fun vs H Q E h => ?_) fun A outer s H vs Q E hr h => ?_
  · obtain ⟨O, ds, hl, _⟩ := h
    exact hl
  · obtain ⟨O, ds, hl, oo, r, q⟩ := h
    obtain ⟨t, p, hB⟩ := hbody cdv A outer s H E hr
    refine ⟨t, p, hB O (fun _ => False) H (startD N.length ds) O (L2.start N vs) H _ ⟨ev_start N oo r, fun l hl => .inl hl, fun b o _ h => h, fun l hl => .inl hl, fun i es l h1 ho h2 => ?_, fun l hl => hl⟩ (ok_mono (ok_thn q) fun o z => ?_)⟩
    · exact (start_no h1 ho).elim
    · cases o with
      | rt d => exact fun v H' kp r => z v H' (fun b o h => kp b o (fun w => w) h) r
      | nx δ => exact fun O' σ' H' E' => z .non H' (fun b o h => E'.keep b o (fun w => w) h) .non
      | bk δ => exact z.elim
      | ct δ => exact z.elim
end
section
variable {X : Cx} {G : XD → Hp → Prop} {e : Expr} {f : DS → M D} {pos p p2 : Pos}
/-! ### isinstance of an instance and an own class -/
theorem call_isI {C Cc : Addr} {b : Bool} (cl : Cls X.K C) (ha : PySem.W.findIn X.K (.ref C) "__class__" = some (some (.builtin "object.__class__")))
    (hn : PySem.W.specialIn X.K (.builtin "object.__class__") "__get__" = some (some (.builtin "getset_descriptor.__get__"))) (htk : PySem.W.takesIn X.K (.builtin "object.__class__") = some true) (hm : PySem.W.mroIn X.K C (.type "object") = some true)
    (hk : PySem.W.kitOne X.K (.ref C) (.ref Cc) = some b) : CallR X (.builtin "isinstance") (fun xs H Q => ∃ a dx fs, xs = [.ref a, .ref Cc] ∧ H a = some (.ins C dx fs) ∧ Q (.bl b) H) := by
  intro pins s σ H xs us Q I r h
  obtain ⟨a, dx, fs, rfl, h1, q⟩ := h
  obtain ⟨u, w', rfl, r1, r2⟩ := vals2 r
  cases (show w' = Value.ref Cc from r2)
  exact isinst_ok I r1 (.ins h1 cl ha hn htk hm) hk fun tk => ⟨.bl _, H, I.tok _, rfl, q⟩
def dIsI (nm : Str) (b : Bool) (f : DS → M D) : DS → M D := fun δ => (f δ).thn fun x => match attrs nm x with
  | some _ => M.ret (.bool b)
  | none => none
theorem pd_isI {nm y : Str} {C Cc : Addr} {b : Bool} (hN : PySem.W.nsIn X.K mainGlobals nm = some (some (.ref C))) (cl : Cls X.K C) (hA : PySem.W.findIn X.K (.ref C) "__class__" = some (some (.builtin "object.__class__")))
    (hS : PySem.W.specialIn X.K (.builtin "object.__class__") "__get__" = some (some (.builtin "getset_descriptor.__get__"))) (hT : PySem.W.takesIn X.K (.builtin "object.__class__") = some true) (hM : PySem.W.mroIn X.K C (.type "object") = some true)
    (hk : PySem.W.kitOne X.K (.ref C) (.ref Cc) = some b) (hg : Gl X "isinstance") (hm : X.mg "isinstance" = none) (hy : PE X (.Name y p2) (tC (.ref Cc))) (he : PD X G e f)
    (hs1 : starEach [e, .Name y p2] X.env = (false, eval e X.env) :: starEach [.Name y p2] X.env := by rfl) (hs2 : starEach [.Name y p2] X.env = (false, eval (.Name y p2) X.env) :: starEach [] X.env := by rfl) (hpl : (backTo pos (starEach [.Name y p2] X.env)).any (·.1) = false := by rfl) :
    PD X G (.Call (.Name "isinstance" p) [e, .Name y p2] [] pos) (dIsI nm b f) := by
  obtain ⟨t, pe, he⟩ := he
  refine ⟨_, pe_callB (call_isI cl hA hS hT hM hk) hg hm boot_isinstance (pa_cons pe (pa_cons hy pa_nil hs2) hs1) (by decide) (by decide) hs1 hpl, fun δ O σ H Q E k => ?_⟩
  refine he δ O σ H _ E (ok_mono (ok_thn k) fun x z v H1 s1 rx => ?_)
  cases hat : attrs nm x with
  | none => rw [hat] at z; exact z.elim
  | some r =>
    rw [hat] at z
    obtain ⟨a, C', dx, fs, es', rfl, rfl, hN', h1, hn1, hk, rr⟩ := attrs_inv rx hat
    have hC : C' = C := by
      have := hN'.symm.trans hN
      simp at this
      exact this
    subst hC
    exact ⟨a, dx, fs, rfl, h1, z _ H1 s1 (.bl _)⟩
theorem ev_isI {nm : Str} {b : Bool} {δ : DS} {x : D} {r : List D} (h1 : f δ = M.ret x) (h2 : attrs nm x = some r) : dIsI nm b f δ = M.ret (.bool b) := by
  unfold dIsI
  rw [h1, thn_ret, h2]
theorem ev_isI0 {nm : Str} {b : Bool} {δ : DS} {x : D} (h1 : f δ = M.ret x) (h2 : attrs nm x = none) : dIsI nm b f δ = none := by
  unfold dIsI
  rw [h1, thn_ret, h2]
end
end DL
/-! < of whole numbers or texts -/
namespace DL
open PySem PySem.Spec PyProof.Rows L2
section
variable {X : Cx}
def oLtS : D → D → Option D
  | .int i, .int j => some (.bool (decide (i < j)))
  | .str i, .str j => some (.bool (decide (i.cps.toList < j.cps.toList)))
  | _, _ => none
theorem dop_ltS : DOp X (compareOp .Lt) oLtS := by
  refine ⟨_, op_lt.or op_lt_str, fun O H x y d v u Q oo rx ry e k => ?_⟩
  unfold oLtS at e
  split at e
  · cases e
    exact .inl ⟨_, _, rx.int_inv, ry.int_inv, k _ H (Same.refl H) (.bl _)⟩
  · cases e
    exact .inr ⟨_, _, rx.str_inv, ry.str_inv, k _ H (Same.refl H) (.bl _)⟩
  · cases e
end
end DL
/-! THE STORE LAYER: things that are changed, by handles into a store; over the data layer -/
namespace SL
open PySem PySem.Spec PyProof.Rows L2 DL
/-- a value: data that nobody changes any more, or the handle of a thing in the store -/
inductive Val where
  | d (x : D)
  | h (k : Nat)
  | t (xs : List Val)
inductive Ob where
  | lst (xs : List Val)
  | dct (es : List (Key × Val))
  | ins (c : Str) (fs : List (Str × Val))
  | gone
abbrev EnvS := List (Option Val)
abbrev Sto := List Ob
abbrev R (β : Type) := Option (Except (XD × Sto) β)
section
variable {β γ : Type}
def R.ret (b : β) : R β := some (.ok b)
def R.thn (r : R β) (f : β → R γ) : R γ := match r with
  | none => none
  | some (.ok a) => f a
  | some (.error x) => some (.error x)
def okR (G : XD → Sto → Prop) (r : R β) (k : β → Prop) : Prop := match r with
  | none => False
  | some (.ok a) => k a
  | some (.error x) => G x.1 x.2
theorem okR_mono {G : XD → Sto → Prop} {r : R β} {k k' : β → Prop} (h : okR G r k) (f : ∀ a, k a → k' a) : okR G r k' := by
  match r, h with
  | some (.ok a), h => exact f a h
  | some (.error x), h => exact h
theorem okR_imp {G G' : XD → Sto → Prop} {r : R β} {k : β → Prop} (h : okR G r k) (f : ∀ x μ, G x μ → G' x μ) : okR G' r k := by
  match r, h with
  | some (.ok a), h => exact h
  | some (.error x), h => exact f _ _ h
theorem okR_thn {G : XD → Sto → Prop} {r : R β} {f : β → R γ} {k : γ → Prop} (h : okR G (r.thn f) k) : okR G r (fun a => okR G (f a) k) := by
  match r, h with
  | some (.ok a), h => exact h
  | some (.error x), h => exact h
theorem rthn_ret (a : β) (f : β → R γ) : (R.ret a).thn f = f a := rfl
end
/-- a data result, the store as it is -/
def ofM {β : Type} (r : M β) (μ : Sto) : R β := match r with
  | none => none
  | some (.ok a) => some (.ok a)
  | some (.error x) => some (.error (x, μ))
mutual
inductive VR (K : PySem.W.Frag) (O : List Addr) (α : List (Option Addr)) (H : Hp) : V → Val → Prop
  | d {v : V} {x : D} (r : Rep K O H v x) : VR K O α H v (.d x)
  | h {k : Nat} {a : Addr} (e : α[k]? = some (some a)) : VR K O α H (.ref a) (.h k)
  | t {a : Addr} {vs : List V} {xs : List Val} (s : SqT K H a vs) (rs : VRs K O α H vs xs) : VR K O α H (.ref a) (.t xs)
inductive VRs (K : PySem.W.Frag) (O : List Addr) (α : List (Option Addr)) (H : Hp) : List V → List Val → Prop
  | nil : VRs K O α H [] []
  | cons {v : V} {x : Val} {vs : List V} {xs : List Val} (r : VR K O α H v x) (rs : VRs K O α H vs xs) : VRs K O α H (v :: vs) (x :: xs)
end
theorem VR.dinv {K : PySem.W.Frag} {O : List Addr} {α : List (Option Addr)} {H : Hp} {v : V} {x : D} (r : VR K O α H v (.d x)) : Rep K O H v x := by cases r; assumption
theorem VR.hinv {K : PySem.W.Frag} {O : List Addr} {α : List (Option Addr)} {H : Hp} {v : V} {k : Nat} (r : VR K O α H v (.h k)) : ∃ a, α[k]? = some (some a) ∧ v = .ref a := by
  cases r with
  | h e => exact ⟨_, e, rfl⟩
theorem VR.tinv {K : PySem.W.Frag} {O : List Addr} {α : List (Option Addr)} {H : Hp} {v : V} {xs : List Val} (r : VR K O α H v (.t xs)) : ∃ a vs, v = .ref a ∧ SqT K H a vs ∧ VRs K O α H vs xs := by
  cases r with
  | t s rs => exact ⟨_, _, rfl, s, rs⟩
def OR (K : PySem.W.Frag) (mg : Str → Option Value) (R0 O : List Addr) (α : List (Option Addr)) (H : Hp) (a : Addr) : Ob → Prop
  | .lst xs => a ∈ O ∧ a ∉ R0 ∧ ∃ vs, H a = some (.lst vs) ∧ VRs K O α H vs xs
  | .dct es => a ∈ O ∧ a ∉ R0 ∧ ∃ kvs, H a = some (.dK kvs) ∧ kvs.map (·.1) = es.map (·.1) ∧ VRs K O α H (kvs.map (·.2)) (es.map (·.2))
  | .ins c fs => a ∈ O ∧ ∃ C dx vfs, mg c = some (.ref C) ∧ H a = some (.ins C dx vfs) ∧ vfs.map (·.1) = fs.map (·.1) ∧ VRs K O α H (vfs.map (·.2)) (fs.map (·.2))
  | .gone => False
structure SR (K : PySem.W.Frag) (mg : Str → Option Value) (R0 O : List Addr) (α : List (Option Addr)) (H : Hp) (μ : Sto) : Prop where
  len : α.length = μ.length
  nd : ∀ (i j : Nat) (a : Addr), α[i]? = some (some a) → α[j]? = some (some a) → i = j
  oo : ∀ l ∈ O, Mu H l
  sub : ∀ l ∈ R0, l ∈ O
  at_ : ∀ (k : Nat) (a : Addr), α[k]? = some (some a) → ∃ ob, μ[k]? = some ob ∧ OR K mg R0 O α H a ob
/-- how a state goes over into a later one -/
structure Go (O0 : List Addr) (α0 : List (Option Addr)) (H0 : Hp) (O : List Addr) (α : List (Option Addr)) (H : Hp) : Prop where
  keep : ∀ b o, (∀ k : Nat, α0[k]? ≠ some (some b)) → H0 b = some o → H b = some o
  ex : ∀ (k : Nat) (a : Addr), α0[k]? = some (some a) → α[k]? = some (some a)
  len : α0.length ≤ α.length
  new : ∀ (k : Nat) (b : Addr), α[k]? = some (some b) → (α0[k]? = some (some b)) ∨ H0 b = none
  ol : ∀ l ∈ O, l ∈ O0 ∨ H0 l = none
  live : ∀ b, H b = none → H0 b = none
section
variable {K : PySem.W.Frag} {mg : Str → Option Value} {R0 O O' O1 : List Addr} {α α' α1 : List (Option Addr)} {H H' H1 : Hp} {μ μ' : Sto}
theorem Go.refl : Go O α H O α H := ⟨fun _ _ _ h => h, fun _ _ h => h, Nat.le_refl _, fun _ _ h => .inl h, fun _ h => .inl h, fun _ h => h⟩
theorem none_same (s : Same H H') {b : Addr} (h : H' b = none) : H b = none := by
  cases q : H b with
  | none => rfl
  | some o => rw [s b o q] at h; cases h
theorem Go.same (s : Same H H') : Go O α H O α H' := ⟨fun b o _ h => s b o h, fun _ _ h => h, Nat.le_refl _, fun _ _ h => .inl h, fun _ h => .inl h, fun _ h => none_same s h⟩
/-- what is tracked stands in the heap -/
theorem SR.tracked (S : SR K mg R0 O α H μ) {k : Nat} {a : Addr} (h : α[k]? = some (some a)) : ∃ o, H a = some o ∧ (∀ xs, o ≠ .tup xs) ∧ (∀ u xs, o ≠ .frz u (.tup xs)) ∧ (∀ u xs, o ≠ .frz u (.lst xs)) ∧ (∀ u xs, o ≠ .frz u (.dK xs)) ∧ (((∃ xs, o = .lst xs) ∨ (∃ xs, o = .dK xs) ∨ ∃ C dx fs, o = .ins C dx fs) → a ∈ O) := by
  obtain ⟨ob, _, h⟩ := S.at_ k a h
  cases ob with
  | lst xs =>
    obtain ⟨h1, _, vs, h2, _⟩ := h
    exact ⟨_, h2, (fun _ z => nomatch z), (fun _ _ z => nomatch z), (fun _ _ z => nomatch z), (fun _ _ z => nomatch z), fun _ => h1⟩
  | dct es =>
    obtain ⟨h1, _, vs, h2, _⟩ := h
    exact ⟨_, h2, (fun _ z => nomatch z), (fun _ _ z => nomatch z), (fun _ _ z => nomatch z), (fun _ _ z => nomatch z), fun _ => h1⟩
  | ins c fs =>
    obtain ⟨h1, C, dx, vfs, _, h2, _⟩ := h
    exact ⟨_, h2, (fun _ z => nomatch z), (fun _ _ z => nomatch z), (fun _ _ z => nomatch z), (fun _ _ z => nomatch z), fun _ => h1⟩
  | gone => exact h.elim
theorem Go.to (S : SR K mg R0 O α H μ) (T : Go O α H O' α' H') : To O O' H H' := by
  have tr : ∀ {b : Addr} {u : HO}, (Rd H b u) → ((∃ xs, u = .tup xs) ∨ (((∃ xs, u = .lst xs) ∨ (∃ xs, u = .dK xs)) ∧ b ∉ O)) → ∀ k : Nat, α[k]? ≠ some (some b) := fun {b u} h hu k e => by
    obtain ⟨o, h1, h2, h3, h4, h5, h6⟩ := S.tracked e
    rcases h with h | ⟨w, h⟩
    · rw [h1] at h
      cases h
      rcases hu with ⟨xs, rfl⟩ | ⟨hu, n⟩
      · exact h2 xs rfl
      · exact n (h6 (hu.elim .inl fun z => .inr (.inl z)))
    · rw [h1] at h
      cases h
      rcases hu with ⟨xs, rfl⟩ | ⟨⟨xs, rfl⟩ | ⟨xs, rfl⟩, n⟩
      · exact h3 w xs rfl
      · exact h4 w xs rfl
      · exact h5 w xs rfl
  have mv : ∀ {b : Addr} {u : HO}, Rd H b u → (∀ k : Nat, α[k]? ≠ some (some b)) → Rd H' b u := fun {b u} h n => by
    rcases h with h | ⟨w, h⟩
    · exact .inl (T.keep _ _ n h)
    · exact .inr ⟨w, T.keep _ _ n h⟩
  have no : ∀ {b : Addr} {u : HO}, Rd H b u → b ∉ O → b ∉ O' := fun {b u} h n z => by
    rcases T.ol b z with z | z
    · exact n z
    · rcases h with h | ⟨w, h⟩ <;> (rw [z] at h; cases h)
  refine ⟨fun b xs h => mv h (tr h (.inl ⟨xs, rfl⟩)), fun b xs n h => ⟨no h n, mv h (tr h (.inr ⟨.inl ⟨xs, rfl⟩, n⟩))⟩, fun b xs n h => ⟨no h n, mv h (tr h (.inr ⟨.inr ⟨xs, rfl⟩, n⟩))⟩, fun b C dx fs n h => ⟨no (.inl h) n, T.keep _ _ (fun k e => ?_) h⟩⟩
  obtain ⟨o, h1, _, _, _, _, h6⟩ := S.tracked e
  rw [h] at h1
  cases h1
  exact n (h6 (.inr (.inr ⟨_, _, _, rfl⟩)))
theorem Go.trans (T : Go O α H O1 α1 H1) (U : Go O1 α1 H1 O' α' H') : Go O α H O' α' H' := by
  refine ⟨fun b o n h => U.keep b o (fun k e => ?_) (T.keep b o n h), fun k a h => U.ex k a (T.ex k a h), Nat.le_trans T.len U.len, fun k b h => ?_, fun l hl => ?_, fun b h => T.live b (U.live b h)⟩
  · rcases T.new k b e with z | z
    · exact n k z
    · rw [z] at h; cases h
  · rcases U.new k b h with z | z
    · exact T.new k b z
    · exact .inr (T.live b z)
  · rcases U.ol l hl with z | z
    · exact T.ol l z
    · exact .inr (T.live l z)
mutual
theorem VR.to (T : To O O' H H') (e : ∀ (k : Nat) (a : Addr), α[k]? = some (some a) → α'[k]? = some (some a)) : ∀ {v : V} {x : Val}, VR K O α H v x → VR K O' α' H' v x
  | _, _, .d r => .d (Rep.to T r)
  | _, _, .h h => .h (e _ _ h)
  | _, _, .t s rs => .t (T.sqT s) (VRs.to T e rs)
theorem VRs.to (T : To O O' H H') (e : ∀ (k : Nat) (a : Addr), α[k]? = some (some a) → α'[k]? = some (some a)) : ∀ {vs : List V} {xs : List Val}, VRs K O α H vs xs → VRs K O' α' H' vs xs
  | _, _, .nil => .nil
  | _, _, .cons r rs => .cons (VR.to T e r) (VRs.to T e rs)
end
theorem VRs.length : ∀ {vs : List V} {xs : List Val}, VRs K O α H vs xs → vs.length = xs.length
  | _, _, .nil => rfl
  | _, _, .cons _ rs => congrArg (· + 1) (VRs.length rs)
theorem VRs.get : ∀ {vs : List V} {xs : List Val} {i : Nat} {x : Val}, VRs K O α H vs xs → xs[i]? = some x → ∃ v, vs[i]? = some v ∧ VR K O α H v x
  | _, _, _, _, .nil, e => by simp at e
  | _, _, 0, _, .cons r _, e => by simp at e; subst e; exact ⟨_, rfl, r⟩
  | _, _, i + 1, x, .cons _ rs, e => by
    obtain ⟨u, h1, h2⟩ := VRs.get (i := i) (x := x) rs (by simpa using e)
    exact ⟨u, by simpa using h1, h2⟩
theorem VRs.set {v : V} {x : Val} (r : VR K O α H v x) : ∀ {vs : List V} {xs : List Val} (i : Nat), VRs K O α H vs xs → VRs K O α H (vs.set i v) (xs.set i x)
  | _, _, _, .nil => .nil
  | _, _, 0, .cons _ rs => .cons r rs
  | _, _, i + 1, .cons q rs => .cons q (VRs.set r i rs)
theorem VRs.append : ∀ {vs us : List V} {xs ys : List Val}, VRs K O α H vs xs → VRs K O α H us ys → VRs K O α H (vs ++ us) (xs ++ ys)
  | _, _, _, _, .nil, s => s
  | _, _, _, _, .cons r t, s => .cons r (VRs.append t s)
theorem VRs.data : ∀ {vs : List V} {ds : List D}, Reps K O H vs ds → VRs K O α H vs (ds.map Val.d)
  | _, _, .nil => .nil
  | _, _, .cons r rs => .cons (.d r) (VRs.data rs)
theorem VRs.undata : ∀ {ds : List D} {vs : List V}, VRs K O α H vs (ds.map Val.d) → Reps K O H vs ds
  | [], _, .nil => .nil
  | _ :: _, _, .cons r rs => .cons r.dinv (VRs.undata rs)
theorem OR.to (T : To O O' H H') (e : ∀ (k : Nat) (a : Addr), α[k]? = some (some a) → α'[k]? = some (some a)) {a : Addr} {ob : Ob} (ho : a ∈ O → a ∈ O') (hh : H' a = H a) (r : OR K mg R0 O α H a ob) : OR K mg R0 O' α' H' a ob := by
  cases ob with
  | lst xs => obtain ⟨h1, h2, vs, h3, h4⟩ := r; exact ⟨ho h1, h2, vs, by rw [hh]; exact h3, h4.to T e⟩
  | dct es => obtain ⟨h1, h2, vs, h3, h4, h5⟩ := r; exact ⟨ho h1, h2, vs, by rw [hh]; exact h3, h4, h5.to T e⟩
  | ins c fs => obtain ⟨h0, C, dx, vfs, h1, h3, h4, h5⟩ := r; exact ⟨ho h0, C, dx, vfs, h1, by rw [hh]; exact h3, h4, h5.to T e⟩
  | gone => exact r
theorem SR.same (s : Same H H') (S : SR K mg R0 O α H μ) : SR K mg R0 O α H' μ := by
  refine ⟨S.len, S.nd, fun l hl => (S.oo l hl).same s, S.sub, fun k a h => ?_⟩
  obtain ⟨ob, h1, h2⟩ := S.at_ k a h
  obtain ⟨o, h3, _⟩ := S.tracked h
  exact ⟨ob, h1, h2.to (To.same s) (fun _ _ h => h) (fun h => h) (by rw [h3]; exact s a o h3)⟩
/-- a new list -/
theorem SR.newL (S : SR K mg R0 O α H μ) {l : Addr} {vs : List V} {xs : List Val} (hl : H l = none) (r : VRs K O α H vs xs) : SR K mg R0 (l :: O) (α ++ [some l]) (upd H l (.lst vs)) (μ ++ [.lst xs]) := by
  have T : To O (l :: O) H (upd H l (.lst vs)) := To.own hl
  have e : ∀ (k : Nat) (a : Addr), α[k]? = some (some a) → (α ++ [some l])[k]? = some (some a) := fun k a h => by
    rw [List.getElem?_append_left (List.getElem?_eq_some_iff.mp h).1]; exact h
  have cs : ∀ (k : Nat) (a : Addr), (α ++ [some l])[k]? = some (some a) → α[k]? = some (some a) ∨ (k = α.length ∧ a = l) := fun k a h => by
    by_cases hk : k < α.length
    · rw [List.getElem?_append_left hk] at h; exact .inl h
    · rw [List.getElem?_append_right (by omega)] at h
      have h0 : k - α.length = 0 := by
        have := (List.getElem?_eq_some_iff.mp h).1
        simp at this
        omega
      rw [h0] at h
      simp at h
      exact .inr ⟨by omega, h.symm⟩
  have ne : ∀ (k : Nat) (a : Addr), α[k]? = some (some a) → a ≠ l := fun k a h z => by
    obtain ⟨o, h3, _⟩ := S.tracked h
    rw [z, hl] at h3; cases h3
  refine ⟨by rw [List.length_append, List.length_append, S.len]; rfl, fun i j a h1 h2 => ?_, fun b hb => ?_, fun b hb => List.mem_cons_of_mem _ (S.sub b hb), fun k a h => ?_⟩
  · rcases cs i a h1 with h1 | ⟨h1, z⟩ <;> rcases cs j a h2 with h2 | ⟨h2, z2⟩
    · exact S.nd i j a h1 h2
    · exact absurd z2 (ne i a h1)
    · exact absurd z (ne j a h2)
    · omega
  · rcases List.mem_cons.mp hb with rfl | hb
    · exact .inl ⟨vs, upd_same⟩
    · exact (S.oo b hb).new hl
  · rcases cs k a h with h | ⟨rfl, rfl⟩
    · obtain ⟨ob, h1, h2⟩ := S.at_ k a h
      exact ⟨ob, by rw [List.getElem?_append_left (List.getElem?_eq_some_iff.mp h1).1]; exact h1, h2.to T e (fun z => List.mem_cons_of_mem _ z) (upd_ne (ne k a h))⟩
    · refine ⟨.lst xs, by rw [S.len, List.getElem?_append_right (Nat.le_refl _), Nat.sub_self]; rfl, List.mem_cons_self, fun z => ?_, vs, upd_same, r.to T e⟩
      obtain ⟨o, ho⟩ := (S.oo a (S.sub a z)).some
      rw [hl] at ho; cases ho
theorem Go.newL {l : Addr} {o : HO} (hl : H l = none) : Go O α H (l :: O) (α ++ [some l]) (upd H l o) := by
  refine ⟨fun b u _ h => by rw [upd_ne (ne_of_none h hl)]; exact h, fun k a h => by rw [List.getElem?_append_left (List.getElem?_eq_some_iff.mp h).1]; exact h, by rw [List.length_append]; omega, fun k b h => ?_, fun b hb => ?_, fun b h => ?_⟩
  · by_cases hk : k < α.length
    · rw [List.getElem?_append_left hk] at h; exact .inl h
    · rw [List.getElem?_append_right (by omega)] at h
      have h0 : k - α.length = 0 := by
        have := (List.getElem?_eq_some_iff.mp h).1
        simp at this
        omega
      rw [h0] at h
      simp at h
      exact .inr (by rw [← h]; exact hl)
  · rcases List.mem_cons.mp hb with rfl | hb
    · exact .inr hl
    · exact .inl hb
  · by_cases e : b = l
    · rw [e]; exact hl
    · rw [upd_ne e] at h; exact h
/-- a list is changed -/
theorem SR.setL (S : SR K mg R0 O α H μ) {k : Nat} {a : Addr} {xs : List Val} {vs' : List V} {xs' : List Val} (h : α[k]? = some (some a)) (hk : μ[k]? = some (.lst xs)) (r : VRs K O α H vs' xs') : SR K mg R0 O α (upd H a (.lst vs')) (μ.set k (.lst xs')) := by
  obtain ⟨ob, h1, h2⟩ := S.at_ k a h
  rw [hk] at h1
  cases h1
  obtain ⟨ho, hn, vs, hv, _⟩ := h2
  have T : To O O H (upd H a (.lst vs')) := To.set hv ho
  refine ⟨by rw [List.length_set]; exact S.len, S.nd, fun l hl => ?_, S.sub, fun j b hj => ?_⟩
  · by_cases e : l = a
    · subst e; exact .inl ⟨vs', upd_same⟩
    · exact (S.oo l hl).upd_ne e
  · by_cases e : j = k
    · subst e
      rw [h] at hj
      cases hj
      exact ⟨.lst xs', by rw [get_set, if_pos rfl, if_pos (List.getElem?_eq_some_iff.mp hk).1], ho, hn, vs', upd_same, r.to T fun _ _ h => h⟩
    · obtain ⟨ob, g1, g2⟩ := S.at_ j b hj
      have hb : b ≠ a := fun z => e (S.nd j k a (z ▸ hj) h)
      exact ⟨ob, by rw [get_set, if_neg (fun z => e z.symm)]; exact g1, g2.to T (fun _ _ h => h) (fun z => z) (upd_ne hb)⟩
theorem Go.setL {k : Nat} {a : Addr} {o : HO} (h : α[k]? = some (some a)) : Go O α H O α (upd H a o) := by
  refine ⟨fun b u n hb => ?_, fun _ _ h => h, Nat.le_refl _, fun _ _ h => .inl h, fun _ h => .inl h, fun b hb => ?_⟩
  · rw [upd_ne (fun z : b = a => n k (by rw [z]; exact h))]; exact hb
  · by_cases e : b = a
    · subst e; rw [upd_same] at hb; cases hb
    · rw [upd_ne e] at hb; exact hb
end
end SL
/-! the store layer: judgements, expressions, statements -/
namespace SL
open PySem PySem.Spec PyProof.Rows L2 DL
/-- where a def began: the callers' own lists, the lists that are owned, the tracked ones, the heap -/
structure An where
  R0 : List Addr
  O : List Addr
  α : List (Option Addr)
  H : Hp
structure SEv (K : PySem.W.Frag) (mg : Str → Option Value) (A : An) (O : List Addr) (α : List (Option Addr)) (H : Hp) (σ : L2.St) (δ : EnvS) (μ : Sto) : Prop where
  sr : SR K mg A.R0 O α H μ
  st : Go A.O A.α A.H O α H
  len : σ.length = δ.length
  at_ : ∀ (i : Nat) (x : Val), δ[i]? = some (some x) → ∃ v, σ[i]? = some (some v) ∧ VR K O α H v x
/-- an exception's wish at every later state -/
def Er (K : PySem.W.Frag) (mg : Str → Option Value) (G : XD → Hp → Prop) (R0 O : List Addr) (α : List (Option Addr)) (H : Hp) (x : XD) (μ : Sto) : Prop := ∀ O' α' H', Go O α H O' α' H' → SR K mg R0 O' α' H' μ → G x H'
def SX (X : Cx) (G : XD → Hp → Prop) (e : Expr) (f : EnvS → Sto → R (Val × Sto)) : Prop :=
  ∃ t, PE X e t ∧ ∀ (A : An) (δ : EnvS) (μ : Sto) (O : List Addr) (α : List (Option Addr)) (σ : L2.St) (H : Hp) (Q : VK), SEv X.K X.mg A O α H σ δ μ → okR (Er X.K X.mg G A.R0 O α H) (f δ μ) (fun r => ∀ v O' α' H', Go O α H O' α' H' → SR X.K X.mg A.R0 O' α' H' r.2 → VR X.K O' α' H' v r.1 → Q v H') → t σ H Q
def SA (X : Cx) (G : XD → Hp → Prop) (es : List Expr) (f : EnvS → Sto → R (List Val × Sto)) : Prop :=
  (∀ δ μ r, f δ μ = some (.ok r) → r.1.length = es.length) ∧ ∃ t, PA X es t ∧ ∀ (A : An) (δ : EnvS) (μ : Sto) (O : List Addr) (α : List (Option Addr)) (σ : L2.St) (H : Hp) (Q : List V → Hp → Prop), SEv X.K X.mg A O α H σ δ μ → okR (Er X.K X.mg G A.R0 O α H) (f δ μ) (fun r => ∀ vs O' α' H', Go O α H O' α' H' → SR X.K X.mg A.R0 O' α' H' r.2 → VRs X.K O' α' H' vs r.1 → Q vs H') → t σ H Q
def ST (X : Cx) (G : XD → Hp → Prop) (e : Expr) (f : EnvS → Sto → R (Bool × Sto)) : Prop :=
  ∃ t, PT X e t ∧ ∀ (A : An) (δ : EnvS) (μ : Sto) (O : List Addr) (α : List (Option Addr)) (σ : L2.St) (H : Hp) (Q : Bool → Hp → Prop), SEv X.K X.mg A O α H σ δ μ → okR (Er X.K X.mg G A.R0 O α H) (f δ μ) (fun r => ∀ O' α' H', Go O α H O' α' H' → SR X.K X.mg A.R0 O' α' H' r.2 → Q r.1 H') → t σ H Q
inductive OutS where
  | nx (δ : EnvS) (μ : Sto)
  | rt (v : Val) (μ : Sto)
  | bk (δ : EnvS) (μ : Sto)
  | ct (δ : EnvS) (μ : Sto)
def FinS (K : PySem.W.Frag) (mg : Str → Option Value) (A : An) (O0 : List Addr) (α0 : List (Option Addr)) (H0 : Hp) (Dn : Ends) : OutS → Prop
  | .nx δ μ => ∀ O α σ H, SEv K mg A O α H σ δ μ → Go O0 α0 H0 O α H → Dn.nx σ H
  | .rt x μ => ∀ v O α H, SR K mg A.R0 O α H μ → Go A.O A.α A.H O α H → VR K O α H v x → Dn.rt v H
  | .bk δ μ => ∀ O α σ H, SEv K mg A O α H σ δ μ → Go O0 α0 H0 O α H → Dn.bk σ H
  | .ct δ μ => ∀ O α σ H, SEv K mg A O α H σ δ μ → Go O0 α0 H0 O α H → Dn.ct σ H
theorem FinS.go {K : PySem.W.Frag} {mg : Str → Option Value} {A : An} {O0 O1 : List Addr} {α0 α1 : List (Option Addr)} {H0 H1 : Hp} {Dn : Ends} {o : OutS} (T : Go O0 α0 H0 O1 α1 H1) (h : FinS K mg A O0 α0 H0 Dn o) : FinS K mg A O1 α1 H1 Dn o := by
  cases o with
  | nx δ μ => exact fun O α σ H E U => h O α σ H E (T.trans U)
  | rt x μ => exact h
  | bk δ μ => exact fun O α σ H E U => h O α σ H E (T.trans U)
  | ct δ μ => exact fun O α σ H E U => h O α σ H E (T.trans U)
/-- a statement's run: the number of things that were tracked at the def's entry, names, store -/
abbrev SG := Nat → EnvS → Sto → R OutS
def SS (X : Cx) (G : XD → Hp → Prop) (st : Stmt) (g : SG) : Prop :=
  ∃ t, PS X st t ∧ ∀ (A : An) (δ : EnvS) (μ : Sto) (O : List Addr) (α : List (Option Addr)) (σ : L2.St) (H : Hp) (Dn : Ends), SEv X.K X.mg A O α H σ δ μ → okR (Er X.K X.mg G A.R0 A.O A.α A.H) (g A.α.length δ μ) (FinS X.K X.mg A O α H Dn) → t Dn σ H
def SSs (X : Cx) (G : XD → Hp → Prop) (sts : List Stmt) (g : SG) : Prop :=
  ∃ t, PSs X sts t ∧ ∀ (A : An) (δ : EnvS) (μ : Sto) (O : List Addr) (α : List (Option Addr)) (σ : L2.St) (H : Hp) (Dn : Ends), SEv X.K X.mg A O α H σ δ μ → okR (Er X.K X.mg G A.R0 A.O A.α A.H) (g A.α.length δ μ) (FinS X.K X.mg A O α H Dn) → t Dn σ H
section
variable {K : PySem.W.Frag} {mg : Str → Option Value} {A : An} {R0 O O' O1 : List Addr} {α α' α1 : List (Option Addr)} {H H' H1 : Hp} {μ μ' : Sto} {σ : L2.St} {δ : EnvS} {G : XD → Hp → Prop}
theorem SEv.go (E : SEv K mg A O α H σ δ μ) (T : Go O α H O' α' H') (S : SR K mg A.R0 O' α' H' μ') : SEv K mg A O' α' H' σ δ μ' :=
  ⟨S, E.st.trans T, E.len, fun i x h => let ⟨v, h1, h2⟩ := E.at_ i x h; ⟨v, h1, h2.to (T.to E.sr) T.ex⟩⟩
theorem SEv.same (E : SEv K mg A O α H σ δ μ) (s : Same H H') : SEv K mg A O α H' σ δ μ := E.go (Go.same s) (E.sr.same s)
theorem SEv.set {i : Nat} {v : V} {x : Val} (E : SEv K mg A O α H σ δ μ) (r : VR K O α H v x) : SEv K mg A O α H (σ.set i (some v)) (δ.set i (some x)) μ := by
  refine ⟨E.sr, E.st, by rw [List.length_set, List.length_set, E.len], fun j y h => ?_⟩
  rw [get_set] at h
  by_cases hij : i = j
  · subst hij
    rw [if_pos rfl] at h
    split at h
    · cases h
      rename_i hl
      exact ⟨v, by rw [get_set, if_pos rfl, if_pos (by rw [E.len]; exact hl)], r⟩
    · cases h
  · rw [if_neg hij] at h
    obtain ⟨w, h1, h2⟩ := E.at_ j y h
    exact ⟨w, by rw [get_set, if_neg hij]; exact h1, h2⟩
theorem Er.go {x : XD} (T : Go O α H O' α' H') (h : Er K mg G R0 O α H x μ) : Er K mg G R0 O' α' H' x μ := fun O2 α2 H2 U S => h O2 α2 H2 (T.trans U) S
/-! views as data -/
def v0 : Option Val → Sl
  | some (.d x) => .vl x
  | _ => .un
def view (δ : EnvS) : DS := δ.map v0
theorem view_get {i : Nat} {s : Sl} (h : (view δ)[i]? = some s) : (∃ x, δ[i]? = some (some (.d x)) ∧ s = .vl x) ∨ s = .un := by
  unfold view at h
  rw [List.getElem?_map] at h
  cases e : δ[i]? with
  | none => rw [e] at h; cases h
  | some o =>
    rw [e] at h
    cases o with
    | none => cases h; exact .inr rfl
    | some x =>
      cases x with
      | d x => cases h; exact .inl ⟨x, rfl, rfl⟩
      | h k => cases h; exact .inr rfl
      | t xs => cases h; exact .inr rfl
theorem SEv.view (E : SEv K mg A O α H σ δ μ) : Ev K H O H σ (view δ) := by
  refine ⟨Same.refl H, E.sr.oo, by unfold SL.view; rw [List.length_map]; exact E.len, fun i s h => ?_, fun i j l ds es hij h1 => ?_⟩
  · rcases view_get h with ⟨x, h1, rfl⟩ | rfl
    · obtain ⟨v, g1, g2⟩ := E.at_ i _ h1
      exact ⟨v, g1, g2.dinv⟩
    · trivial
  · rcases view_get h1 with ⟨x, _, z⟩ | z <;> cases z
/-- data, if there is no handle in it -/
def dataOf : List Val → Option (List D)
  | [] => some []
  | .d x :: r => (dataOf r).map (x :: ·)
  | _ :: _ => none
theorem dataOf_some : ∀ {xs : List Val} {ds : List D}, dataOf xs = some ds → xs = ds.map Val.d
  | [], ds, h => by cases h; rfl
  | .d x :: r, ds, h => by
    unfold dataOf at h
    cases e : dataOf r with
    | none => rw [e] at h; cases h
    | some q => rw [e] at h; cases h; rw [dataOf_some e]; rfl
theorem dataOf_map (ds : List D) : dataOf (ds.map Val.d) = some ds := by
  induction ds with
  | nil => rfl
  | cons d r ih => show (dataOf (r.map Val.d)).map (d :: ·) = _; rw [ih]; rfl
/-- a value as data: tracked lists are read as they are now, two deep -/
def lv1 (n : Nat) (μ : Sto) : Val → Option D
  | .d x => some x
  | .h k => if n ≤ k then (match μ[k]? with
    | some (.lst xs) => (dataOf xs).map PyData.list
    | _ => none) else none
  | .t _ => none
def lv1s (n : Nat) (μ : Sto) : List Val → Option (List D)
  | [] => some []
  | x :: xs => match lv1 n μ x, lv1s n μ xs with
    | some d, some ds => some (d :: ds)
    | _, _ => none
def lv2 (n : Nat) (μ : Sto) : Val → Option D
  | .d x => some x
  | .h k => if n ≤ k then (match μ[k]? with
    | some (.lst xs) => (lv1s n μ xs).map PyData.list
    | _ => none) else none
  | .t xs => (lv1s n μ xs).map PyData.tuple
def v1 (n : Nat) (μ : Sto) : Option Val → Sl
  | some x => match lv2 n μ x with
    | some d => .vl d
    | none => .un
  | none => .un
def viewL (n : Nat) (μ : Sto) (δ : EnvS) : DS := δ.map (v1 n μ)
theorem lv1s_data (n : Nat) (μ : Sto) (ds : List D) : lv1s n μ (ds.map Val.d) = some ds := by
  induction ds with
  | nil => rfl
  | cons d ds ih => show (match lv1 n μ (.d d), lv1s n μ (ds.map Val.d) with | some d, some ds => some (d :: ds) | _, _ => none) = _; rw [ih]; rfl
theorem v1_of {n : Nat} {μ : Sto} {x : Val} {d : D} (h : lv2 n μ x = some d) : v1 n μ (some x) = .vl d := by
  show (match lv2 n μ x with | some d => Sl.vl d | none => .un) = _
  rw [h]
theorem lv2_h {n k : Nat} {μ : Sto} {xs : List Val} {ds : List D} (hn : n ≤ k) (h : μ[k]? = some (.lst xs)) (hx : lv1s n μ xs = some ds) : lv2 n μ (.h k) = some (.list ds) := by
  show (if n ≤ k then (match μ[k]? with | some (.lst xs) => (lv1s n μ xs).map PyData.list | _ => none) else none) = _
  rw [if_pos hn, h]
  show (lv1s n μ xs).map PyData.list = _
  rw [hx]
  rfl
theorem v1_h {n k : Nat} {μ : Sto} {ds : List D} (hn : n ≤ k) (h : μ[k]? = some (.lst (ds.map Val.d))) : v1 n μ (some (.h k)) = .vl (.list ds) := v1_of (lv2_h hn h (lv1s_data n μ ds))
section
variable {n : Nat}
/-- what is read so stands for the data, if what is read lies without O' -/
theorem lv1_rep (S : SR K mg R0 O α H μ) (T : To O O' H H) (hn : ∀ (k : Nat) (a : Addr) (xs : List Val), α[k]? = some (some a) → n ≤ k → μ[k]? = some (.lst xs) → a ∉ O') {v : V} {x : Val} {d : D} (r : VR K O α H v x) (h : lv1 n μ x = some d) : Rep K O' H v d := by
  cases x with
  | d x => cases h; exact Rep.to T r.dinv
  | t xs => cases h
  | h k =>
    obtain ⟨a, ha, rfl⟩ := r.hinv
    have h : (if n ≤ k then (match μ[k]? with | some (.lst xs) => (dataOf xs).map PyData.list | _ => none) else none) = some d := h
    by_cases hk : n ≤ k
    · rw [if_pos hk] at h
      obtain ⟨ob, g1, g2⟩ := S.at_ k a ha
      rw [g1] at h
      cases ob with
      | lst xs =>
        have h : (dataOf xs).map PyData.list = some d := h
        cases e : dataOf xs with
        | none => rw [e] at h; cases h
        | some ds =>
          rw [e] at h
          cases h
          obtain ⟨_, _, vs, g5, g6⟩ := g2
          rw [dataOf_some e] at g6
          exact .lst (.inl g5) (hn k a xs ha hk g1) (g6.undata.to T)
      | dct es => cases h
      | ins c fs => cases h
      | gone => cases h
    · rw [if_neg hk] at h; cases h
theorem lv1s_rep (S : SR K mg R0 O α H μ) (T : To O O' H H) (hn : ∀ (k : Nat) (a : Addr) (xs : List Val), α[k]? = some (some a) → n ≤ k → μ[k]? = some (.lst xs) → a ∉ O') : ∀ {xs : List Val} {vs : List V} {ds : List D}, VRs K O α H vs xs → lv1s n μ xs = some ds → Reps K O' H vs ds
  | [], _, ds, .nil, h => by cases h; exact .nil
  | x :: xs, _, ds, .cons r rs, h => by
    unfold lv1s at h
    split at h
    · rename_i d ds' e1 e2
      cases h
      exact .cons (lv1_rep S T hn r e1) (lv1s_rep S T hn rs e2)
    · cases h
theorem lv2_rep (S : SR K mg R0 O α H μ) (T : To O O' H H) (hn : ∀ (k : Nat) (a : Addr) (xs : List Val), α[k]? = some (some a) → n ≤ k → μ[k]? = some (.lst xs) → a ∉ O') {v : V} {x : Val} {d : D} (r : VR K O α H v x) (h : lv2 n μ x = some d) : Rep K O' H v d := by
  cases x with
  | d x => cases h; exact Rep.to T r.dinv
  | t xs =>
    obtain ⟨a, vs, rfl, hs, rs⟩ := r.tinv
    have h : (lv1s n μ xs).map PyData.tuple = some d := h
    cases e : lv1s n μ xs with
    | none => rw [e] at h; cases h
    | some ds =>
      rw [e] at h
      cases h
      exact .tup hs (lv1s_rep S T hn rs e)
  | h k =>
    obtain ⟨a, ha, rfl⟩ := r.hinv
    have h : (if n ≤ k then (match μ[k]? with | some (.lst xs) => (lv1s n μ xs).map PyData.list | _ => none) else none) = some d := h
    by_cases hk : n ≤ k
    · rw [if_pos hk] at h
      obtain ⟨ob, g1, g2⟩ := S.at_ k a ha
      rw [g1] at h
      cases ob with
      | lst xs =>
        have h : (lv1s n μ xs).map PyData.list = some d := h
        cases e : lv1s n μ xs with
        | none => rw [e] at h; cases h
        | some ds =>
          rw [e] at h
          cases h
          obtain ⟨_, _, vs, g5, g6⟩ := g2
          exact .lst (.inl g5) (hn k a xs ha hk g1) (lv1s_rep S T hn g6 e)
      | dct es => cases h
      | ins c fs => cases h
      | gone => cases h
    · rw [if_neg hk] at h; cases h
end
theorem viewL_get {n i : Nat} {s : Sl} (h : (viewL n μ δ)[i]? = some s) : (∃ x d, δ[i]? = some (some x) ∧ lv2 n μ x = some d ∧ s = .vl d) ∨ s = .un := by
  unfold viewL at h
  rw [List.getElem?_map] at h
  cases e : δ[i]? with
  | none => rw [e] at h; cases h
  | some o =>
    rw [e] at h
    cases o with
    | none => cases h; exact .inr rfl
    | some x =>
      have h : some (match lv2 n μ x with | some d => Sl.vl d | none => .un) = some s := h
      cases e2 : lv2 n μ x with
      | none => rw [e2] at h; cases h; exact .inr rfl
      | some d => rw [e2] at h; cases h; exact .inl ⟨x, d, rfl, e2, rfl⟩
/-- with lists of the def's own read as data: O' keeps out what is read so -/
theorem SEv.viewL {n : Nat} (E : SEv K mg A O α H σ δ μ) (hs : ∀ l ∈ O', l ∈ O) (hn : ∀ (k : Nat) (a : Addr) (xs : List Val), α[k]? = some (some a) → n ≤ k → μ[k]? = some (.lst xs) → a ∉ O') : Ev K H O' H σ (SL.viewL n μ δ) := by
  have T : To O O' H H := .less hs
  refine ⟨Same.refl H, fun l hl => E.sr.oo l (hs l hl), by unfold SL.viewL; rw [List.length_map]; exact E.len, fun i s h => ?_, fun i j l ds es hij h1 => ?_⟩
  · rcases viewL_get h with ⟨x, d, h1, h2, rfl⟩ | rfl
    · obtain ⟨v, g1, g2⟩ := E.at_ i _ h1
      exact ⟨v, g1, lv2_rep E.sr T hn g2 h2⟩
    · trivial
  · rcases viewL_get h1 with ⟨x, d, _, _, z⟩ | z <;> cases z
end
section
variable {X : Cx} {G : XD → Hp → Prop} {a b c e : Expr} {es rest : List Expr} {pos pos' : Pos} {st : Stmt} {sts sts' : List Stmt}
/-- what a data expression gives -/
def sPure (f : DS → M D) : EnvS → Sto → R (Val × Sto) := fun δ μ => (ofM (f (view δ)) μ).thn fun d => R.ret (.d d, μ)
theorem ofM_ok {β : Type} {K : PySem.W.Frag} {mg : Str → Option Value} {R0 O : List Addr} {α : List (Option Addr)} {H : Hp} {μ : Sto} {r : M β} {k : β → Prop} (S : SR K mg R0 O α H μ) (h : okR (Er K mg G R0 O α H) (ofM r μ) k) : ok (GS G H) r k := by
  match r, h with
  | some (.ok a), h => exact h
  | some (.error x), h => exact fun H' s => h O α H' (Go.same s) (S.same s)
theorem sx_pure {f : DS → M D} (h : PD X G e f) : SX X G e (sPure f) := by
  obtain ⟨t, p, h⟩ := h
  refine ⟨t, p, fun A δ μ O α σ H Q E k => ?_⟩
  refine h (view δ) O σ H Q E.view (ok_mono (ofM_ok E.sr (okR_thn k)) fun d z v H' s r => z v O α H' (Go.same s) (E.sr.same s) (.d r))
/-- a data expression with the tracked lists lent; what it gives has no list in it -/
def sLend (f : DS → M D) : EnvS → Sto → R (Val × Sto) := fun δ μ => (ofM (f (viewL 0 μ δ)) μ).thn fun d => if flatD d = true then R.ret (.d d, μ) else none
theorem sx_lend {f : DS → M D} (h : PD X G e f) : SX X G e (sLend f) := by
  obtain ⟨t, p, h⟩ := h
  refine ⟨t, p, fun A δ μ O α σ H Q E k => ?_⟩
  refine h (viewL 0 μ δ) A.R0 σ H Q (E.viewL E.sr.sub fun k a xs ha _ hx => ?_) (ok_mono (ofM_ok E.sr (okR_thn k)) fun d z v H' s r => ?_)
  · obtain ⟨ob, h1, h2⟩ := E.sr.at_ k a ha
    rw [hx] at h1
    cases h1
    exact h2.2.1
  · by_cases hf : flatD d = true
    · rw [if_pos hf] at z
      exact z v O α H' (Go.same s) (E.sr.same s) (.d (r.flat hf))
    · rw [if_neg hf] at z; exact z.elim
end
end SL
/-! the store layer: names, arguments, calls, statements, defs -/
namespace SL
open PySem PySem.Spec PyProof.Rows L2 DL
section
variable {X : Cx} {G : XD → Hp → Prop} {a b c e ix : Expr} {es rest : List Expr} {pos pos' tpos : Pos} {st : Stmt} {sts sts' : List Stmt}
def sVar (i : Nat) : EnvS → Sto → R (Val × Sto) := fun δ μ => match δ[i]? with
  | some (some x) => R.ret (x, μ)
  | _ => none
theorem sx_var {i : Nat} (h : PE X e (tVar i)) : SX X G e (sVar i) := by
  refine ⟨_, h, fun A δ μ O α σ H Q E k => ?_⟩
  unfold sVar at k
  split at k
  · rename_i x hx
    obtain ⟨v, h1, h2⟩ := E.at_ i x hx
    exact ⟨v, h1, k v O α H Go.refl E.sr h2⟩
  · exact k.elim
def sNil : EnvS → Sto → R (List Val × Sto) := fun _ μ => R.ret ([], μ)
def sCons (f : EnvS → Sto → R (Val × Sto)) (fa : EnvS → Sto → R (List Val × Sto)) : EnvS → Sto → R (List Val × Sto) := fun δ μ => (f δ μ).thn fun r => (fa δ r.2).thn fun q => R.ret (r.1 :: q.1, q.2)
/-! tests over data, tracked lists lent -/
def sTest (fb : DS → M Bool) : EnvS → Sto → R (Bool × Sto) := fun δ μ => (ofM (fb (viewL 0 μ δ)) μ).thn fun b => R.ret (b, μ)
theorem st_test {fb : DS → M Bool} (h : PDT X G e fb) : ST X G e (sTest fb) := by
  obtain ⟨t, p, h⟩ := h
  refine ⟨t, p, fun A δ μ O α σ H Q E k => ?_⟩
  refine h (viewL 0 μ δ) A.R0 σ H Q (E.viewL E.sr.sub fun k a xs ha _ hx => ?_) (ok_mono (ofM_ok E.sr (okR_thn k)) fun d z H' s => z O α H' (Go.same s) (E.sr.same s))
  obtain ⟨ob, h1, h2⟩ := E.sr.at_ k a ha
  rw [hx] at h1
  cases h1
  exact h2.2.1
/-! statements -/
def sNext : SG := fun _ δ μ => R.ret (.nx δ μ)
def sSeq (g h : SG) : SG := fun n δ μ => (g n δ μ).thn fun o => match o with
  | .nx δ' μ' => h n δ' μ'
  | o => R.ret o
theorem sss_nil : SSs X G [] sNext := ⟨_, pss_nil, fun A δ μ O α σ H Dn E k => k O α σ H E Go.refl⟩
theorem sss_one {g : SG} (h : SS X G st g) : SSs X G [st] g := by
  obtain ⟨t, p, h⟩ := h
  exact ⟨_, pss_one p, h⟩
theorem sss_cons {g h : SG} (h1 : SS X G st g) (h2 : SSs X G sts h) : SSs X G (st :: sts) (sSeq g h) := by
  obtain ⟨t, p, h1⟩ := h1
  obtain ⟨u, q, h2⟩ := h2
  refine ⟨_, pss_cons p q, fun A δ μ O α σ H Dn E k => ?_⟩
  refine h1 A δ μ O α σ H _ E (okR_mono (okR_thn k) fun o z => ?_)
  cases o with
  | nx δ' μ' => exact fun O' α' σ' H' E' T => h2 A δ' μ' O' α' σ' H' Dn E' (okR_mono z fun o w => w.go T)
  | rt v μ' => exact z
  | bk δ' μ' => exact z
  | ct δ' μ' => exact z
def sPass : SG := fun _ δ μ => R.ret (.nx δ μ)
def sBreak : SG := fun _ δ μ => R.ret (.bk δ μ)
def sIf (c : EnvS → Sto → R (Bool × Sto)) (g h : SG) : SG := fun n δ μ => (c δ μ).thn fun r => if r.1 = true then g n δ r.2 else h n δ r.2
theorem ss_if {fc : EnvS → Sto → R (Bool × Sto)} {g h : SG} (hc : ST X G c fc) (h1 : SSs X G sts g) (h2 : SSs X G sts' h) : SS X G (.If c sts sts' pos) (sIf fc g h) := by
  obtain ⟨t, p, hc⟩ := hc
  obtain ⟨u, q, h1⟩ := h1
  obtain ⟨w, r, h2⟩ := h2
  refine ⟨_, ps_if p q r, fun A δ μ O α σ H Dn E k => ?_⟩
  refine hc A δ μ O α σ H _ E (okR_mono (okR_imp (okR_thn k) fun x μ h => Er.go E.st h) fun r z O1 α1 H1 T1 S1 => ?_)
  cases hb : r.1 with
  | true =>
    rw [hb, if_pos rfl] at z
    rw [if_pos rfl]
    exact h1 A δ r.2 O1 α1 σ H1 Dn (E.go T1 S1) (okR_mono z fun o w => w.go T1)
  | false =>
    rw [hb, if_neg Bool.false_ne_true] at z
    rw [if_neg Bool.false_ne_true]
    exact h2 A δ r.2 O1 α1 σ H1 Dn (E.go T1 S1) (okR_mono z fun o w => w.go T1)
def sAsg (i : Nat) (f : EnvS → Sto → R (Val × Sto)) : SG := fun _ δ μ => (f δ μ).thn fun r => R.ret (.nx (δ.set i (some r.1)) r.2)
theorem ss_set {i : Nat} {x : Str} {f : EnvS → Sto → R (Val × Sto)} (hN : X.N.Nodup) (hi : X.N[i]? = some x) (hx : Loc X.env.scope x) (he : SX X G e f) (hs : swapsWith e (some (.Name x pos')) pos.line X.env = pure false := by rfl) (hf : X.fn x = true ∨ X.env.scope.names.lookup x = some .local := by first | exact .inl rfl | exact .inr rfl | assumption) :
    SS X G (.Assign [.Name x pos'] e pos) (sAsg i f) := by
  obtain ⟨t, p, he⟩ := he
  refine ⟨_, ps_set hN hi hx p hs hf, fun A δ μ O α σ H Dn E k => ?_⟩
  refine he A δ μ O α σ H _ E (okR_mono (okR_imp (okR_thn k) fun x μ h => Er.go E.st h) fun r z v O1 α1 H1 T1 S1 r1 => ?_)
  exact z O1 α1 _ H1 ((E.go T1 S1).set r1) T1
/-- name = a new list of data -/
def sNewL (i : Nat) (fn : DS → M (List D)) : SG := fun _ δ μ => (ofM (fn (view δ)) μ).thn fun ds => R.ret (.nx (δ.set i (some (.h μ.length))) (μ ++ [.lst (ds.map Val.d)]))
/-- name[i] = e, the name a tracked list -/
def sSetI (i : Nat) (fi f : EnvS → Sto → R (Val × Sto)) : SG := fun _ δ μ => (f δ μ).thn fun r => (match δ[i]? with
  | some (some (.h k)) => (fi δ r.2).thn fun q => match q.1, q.2[k]? with
    | .d (.int n), some (.lst xs) => match ixN xs.length n with
      | some j => R.ret (.nx δ (q.2.set k (.lst (xs.set j r.1))))
      | none => none
    | _, _ => none
  | _ => none)
def sRet (f : EnvS → Sto → R (Val × Sto)) : SG := fun _ δ μ => (f δ μ).thn fun r => R.ret (.rt r.1 r.2)
theorem ss_ret {f : EnvS → Sto → R (Val × Sto)} (he : SX X G e f) : SS X G (.Return (some e) pos) (sRet f) := by
  obtain ⟨t, p, he⟩ := he
  refine ⟨_, ps_ret p, fun A δ μ O α σ H Dn E k => ?_⟩
  exact he A δ μ O α σ H _ E (okR_mono (okR_imp (okR_thn k) fun x μ h => Er.go E.st h) fun r z v O1 α1 H1 T1 S1 r1 => z v O1 α1 H1 S1 (E.st.trans T1) r1)
mutual
def closedV (n : Nat) : Val → Bool
  | .d _ => true
  | .h k => decide (k < n)
  | .t xs => closedVs n xs
def closedVs (n : Nat) : List Val → Bool
  | [] => true
  | x :: xs => closedV n x && closedVs n xs
end
def closedO (n : Nat) : Ob → Bool
  | .lst xs => closedVs n xs
  | .dct es => closedVs n (es.map (·.2))
  | .ins _ fs => closedVs n (fs.map (·.2))
  | .gone => true
/-- return e: what the def itself tracks is data from now on -/
def sRetF (f : DS → M D) : SG := fun n δ μ => if (μ.take n).all (closedO n) = true then (ofM (f (viewL n μ δ)) μ).thn fun d => R.ret (.rt (.d d) (μ.take n)) else none
section
variable {K : PySem.W.Frag} {mg : Str → Option Value} {R0 O O' : List Addr} {α α' : List (Option Addr)} {H H' : Hp} {μ : Sto}
mutual
theorem VR.cut {n : Nat} (T : To O O' H H') : ∀ {v : V} {x : Val}, closedV n x = true → VR K O α H v x → VR K O' (α.take n) H' v x
  | _, _, _, .d r => .d (Rep.to T r)
  | _, .h k, hc, .h e => by
    have hk : k < n := of_decide_eq_true hc
    exact .h (by rw [List.getElem?_take, if_pos hk]; exact e)
  | _, .t xs, hc, .t s rs => .t (T.sqT s) (VRs.cut T hc rs)
theorem VRs.cut {n : Nat} (T : To O O' H H') : ∀ {vs : List V} {xs : List Val}, closedVs n xs = true → VRs K O α H vs xs → VRs K O' (α.take n) H' vs xs
  | _, _, _, .nil => .nil
  | _, _ :: _, hc, .cons r rs => .cons (VR.cut T (Bool.and_eq_true_iff.mp hc).1 r) (VRs.cut T (Bool.and_eq_true_iff.mp hc).2 rs)
end
theorem SR.cut {n : Nat} (S : SR K mg R0 O α H μ) (hs : ∀ l ∈ O', l ∈ O) (hr : ∀ l ∈ R0, l ∈ O') (hk : ∀ (k : Nat) (a : Addr), k < n → α[k]? = some (some a) → a ∈ O → a ∈ O') (hc : (μ.take n).all (closedO n) = true) : SR K mg R0 O' (α.take n) H (μ.take n) := by
  have T : To O O' H H := .less hs
  have gt : ∀ (k : Nat) (a : Addr), (α.take n)[k]? = some (some a) → k < n ∧ α[k]? = some (some a) := fun k a h => by
    rw [List.getElem?_take] at h
    split at h
    · rename_i hk; exact ⟨hk, h⟩
    · cases h
  refine ⟨by rw [List.length_take, List.length_take, S.len], fun i j a h1 h2 => S.nd i j a (gt i a h1).2 (gt j a h2).2, fun l hl => S.oo l (hs l hl), hr, fun k a h => ?_⟩
  obtain ⟨h1, h2⟩ := gt k a h
  obtain ⟨ob, g1, g2⟩ := S.at_ k a h2
  have gk : (μ.take n)[k]? = some ob := by rw [List.getElem?_take, if_pos h1]; exact g1
  have hco : closedO n ob = true := List.all_eq_true.mp hc ob (List.mem_of_getElem? gk)
  refine ⟨ob, gk, ?_⟩
  cases ob with
  | lst xs => obtain ⟨p1, p2, vs, p3, p4⟩ := g2; exact ⟨hk k a h1 h2 p1, p2, vs, p3, p4.cut T hco⟩
  | dct es =>
    obtain ⟨p1, p2, kvs, p3, p4, p5⟩ := g2
    exact ⟨hk k a h1 h2 p1, p2, kvs, p3, p4, p5.cut T hco⟩
  | ins c fs =>
    obtain ⟨p1, C, dx, vfs, p2, p3, p4, p5⟩ := g2
    exact ⟨hk k a h1 h2 p1, C, dx, vfs, p2, p3, p4, p5.cut T hco⟩
  | gone => exact g2
end
def sDrop (f : EnvS → Sto → R (Val × Sto)) : SG := fun _ δ μ => (f δ μ).thn fun r => R.ret (.nx δ r.2)
theorem ss_expr {f : EnvS → Sto → R (Val × Sto)} (he : SX X G e f) (hs : swapsWith e none pos.line X.env = pure false := by rfl) : SS X G (.Expr e pos) (sDrop f) := by
  obtain ⟨t, p, he⟩ := he
  refine ⟨_, ps_expr p hs, fun A δ μ O α σ H Dn E k => ?_⟩
  exact he A δ μ O α σ H _ E (okR_mono (okR_imp (okR_thn k) fun x μ h => Er.go E.st h) fun r z v O1 α1 H1 T1 S1 r1 => z O1 α1 σ H1 (E.go T1 S1) T1)
/-! targets: names and tuples of names -/
def SGT (X : Cx) (tg : Expr) (g : D → EnvS → Option EnvS) : Prop :=
  ∃ t, PG X tg t ∧ ∀ (A : An) (δ δ' : EnvS) (d : D) (v : V) (O : List Addr) (α : List (Option Addr)) (σ : L2.St) (μ : Sto) (H : Hp) (Q : L2.St → Hp → Prop), SEv X.K X.mg A O α H σ δ μ → Rep X.K O H v d → g d δ = some δ' → (∀ σ', SEv X.K X.mg A O α H σ' δ' μ → Q σ' H) → t v σ H Q
def SGTs (X : Cx) (ts : List Expr) (g : List D → EnvS → Option EnvS) : Prop :=
  ∃ t, PGs X ts t ∧ ∀ (A : An) (δ δ' : EnvS) (ds : List D) (vs : List V) (O : List Addr) (α : List (Option Addr)) (σ : L2.St) (μ : Sto) (H : Hp) (Q : L2.St → Hp → Prop), SEv X.K X.mg A O α H σ δ μ → Reps X.K O H vs ds → g ds δ = some δ' → (∀ σ', SEv X.K X.mg A O α H σ' δ' μ → Q σ' H) → t vs σ H Q
def agN (i : Nat) : D → EnvS → Option EnvS := fun d δ => some (δ.set i (some (.d d)))
theorem sg_name {i : Nat} (h : PG X e (gName i)) : SGT X e (agN i) := by
  refine ⟨_, h, fun A δ δ' d v O α σ μ H Q E r e k => ?_⟩
  cases e
  exact k _ (E.set (.d r))
def agNil : List D → EnvS → Option EnvS := fun ds δ => match ds with
  | [] => some δ
  | _ => none
def agCons (t : D → EnvS → Option EnvS) (u : List D → EnvS → Option EnvS) : List D → EnvS → Option EnvS := fun ds δ => match ds with
  | d :: r => (t d δ).bind (u r)
  | [] => none
theorem sgs_nil : SGTs X [] agNil := by
  refine ⟨_, pgs_nil, fun A δ δ' ds vs O α σ μ H Q E r e k => ?_⟩
  cases ds with
  | nil => cases r; cases e; exact ⟨rfl, k σ E⟩
  | cons d ds => cases e
theorem sgs_cons {t : D → EnvS → Option EnvS} {u : List D → EnvS → Option EnvS} (h1 : SGT X e t) (h2 : SGTs X es u)
    (hs : (assignEach (e :: es) X.env).map (·.2) = assign e X.env :: (assignEach es X.env).map (·.2) := by rfl) : SGTs X (e :: es) (agCons t u) := by
  obtain ⟨t1, p1, h1⟩ := h1
  obtain ⟨t2, p2, h2⟩ := h2
  refine ⟨_, pgs_cons p1 p2 hs, fun A δ δ' ds vs O α σ μ H Q E r e k => ?_⟩
  cases ds with
  | nil => cases e
  | cons d ds =>
    cases r with
    | @cons v _ vs _ r rs =>
      have e : (t d δ).bind (u ds) = some δ' := e
      cases e1 : t d δ with
      | none => rw [e1] at e; cases e
      | some δ1 =>
        rw [e1] at e
        refine ⟨v, vs, rfl, h1 A δ δ1 d v O α σ μ H _ E r e1 fun σ1 E1 => ?_⟩
        exact h2 A δ1 δ' ds vs O α σ1 μ H Q E1 rs e k
def agTup (n : Nat) (u : List D → EnvS → Option EnvS) : D → EnvS → Option EnvS := fun d δ => match d with
  | .tuple ds => if ds.length = n then u ds δ else none
  | _ => none
theorem sg_tup {k : Nat} {u : List D → EnvS → Option EnvS} {n : Nat} (hc : X.calm = true) (h : SGTs X es u)
    (hn : (assignEach es X.env).length = n := by rfl) (hst : (assignEach es X.env).findIdx? (·.1) = none := by rfl) : SGT X (.Tuple es k pos) (agTup n u) := by
  obtain ⟨t, p, h⟩ := h
  refine ⟨_, pg_tup hc p hn hst, fun A δ δ' d v O α σ μ H Q E r e k => ?_⟩
  cases d with
  | tuple ds =>
    have e : (if ds.length = n then u ds δ else none) = some δ' := e
    by_cases hl : ds.length = n
    · rw [if_pos hl] at e
      obtain ⟨a, xs, rfl, h1, rs⟩ := r.tup_inv
      exact ⟨a, xs, rfl, h1, by rw [rs.length]; exact hl, h A δ δ' ds xs O α σ μ H Q E rs e k⟩
    · rw [if_neg hl] at e; cases e
  | _ => cases e
/-! for, over what data gives -/
def forS (t : D → EnvS → Option EnvS) (g : EnvS → Sto → R OutS) : List D → EnvS → Sto → R OutS
  | [], δ, μ => R.ret (.nx δ μ)
  | d :: ds, δ, μ => match t d δ with
    | none => none
    | some δ1 => (g δ1 μ).thn fun o => match o with
      | .nx δ' μ' => forS t g ds δ' μ'
      | .ct δ' μ' => forS t g ds δ' μ'
      | .bk δ' μ' => R.ret (.nx δ' μ')
      | .rt v μ' => R.ret (.rt v μ')
def sFor (fi : DS → M (List D)) (t : D → EnvS → Option EnvS) (g : SG) : SG := fun n δ μ => (ofM (fi (view δ)) μ).thn fun ds => forS t (g n) ds δ μ
theorem ss_for {tg iter : Expr} {body : List Stmt} {t : D → EnvS → Option EnvS} {fi : DS → M (List D)} {g : SG} (hp : PassesOwn (model X.prog X.w) X.A X.env X.xe) (hc : X.calm = true) (hi : PDI X G tg iter fi) (hg : SGT X tg t) (hb : SSs X G body g)
    (hs : ∀ x, foldedSetIterable iter X.env x = pure x := by intro _; rfl) : SS X G (.For tg iter body [] pos) (sFor fi t g) := by
  obtain ⟨wi, pi, hi⟩ := hi
  obtain ⟨tgt, pt, hg⟩ := hg
  obtain ⟨tb, pb, hb⟩ := hb
  refine ⟨_, ps_for hp hc pi pt pb hs, fun A δ μ O α σ H Dn E k => ?_⟩
  refine hi (view δ) O σ H _ E.view (ok_mono (ofM_ok E.sr (okR_imp (okR_thn k) fun x μ h => Er.go E.st h)) fun ds z J H1 s1 Y => ?_)
  have E1 := E.same s1
  refine ⟨fun i m σ2 H2 => m = ds.length - i ∧ i ≤ ds.length ∧ ∃ δ2 μ2 O2 α2, SEv X.K X.mg A O2 α2 H2 σ2 δ2 μ2 ∧ Go O α H1 O2 α2 H2 ∧ okR (Er X.K X.mg G A.R0 A.O A.α A.H) (forS t (g A.α.length) (ds.drop i) δ2 μ2) (FinS X.K X.mg A O α H Dn), ⟨_, rfl, Nat.zero_le _, δ, μ, O, α, E1, Go.refl, z⟩, ?_⟩
  rintro i m σ2 H2 ⟨rfl, hi, δ2, μ2, O2, α2, E2, T, k2⟩
  have TT := T.to E1.sr
  by_cases hlt : i < ds.length
  · right
    have hd : ds[i]? = some ds[i] := List.getElem?_eq_getElem hlt
    obtain ⟨go, yl⟩ := Y.step O2 H2 TT i _ hd
    refine ⟨go, fun σ' H' => ∃ δ2 μ2 O2 α2, SEv X.K X.mg A O2 α2 H' σ' δ2 μ2 ∧ Go O α H1 O2 α2 H' ∧ okR (Er X.K X.mg G A.R0 A.O A.α A.H) (forS t (g A.α.length) (ds.drop (i + 1)) δ2 μ2) (FinS X.K X.mg A O α H Dn), fun σ' H' h => ⟨_, by omega, rfl, hlt, h⟩, fun x H3 y => ?_⟩
    obtain ⟨s3, rx⟩ := yl x H3 y
    rw [drop_get hd] at k2
    have E3 := E2.same s3
    have T3 := T.trans (Go.same s3)
    unfold forS at k2
    cases h3 : t ds[i] δ2 with
    | none => rw [h3] at k2; exact k2.elim
    | some δ3 =>
      rw [h3] at k2
      refine hg A δ2 δ3 ds[i] x O2 α2 σ2 μ2 H3 _ E3 rx h3 fun σ4 E4 => ?_
      refine hb A δ3 μ2 O2 α2 σ4 H3 _ E4 (okR_mono (okR_thn k2) fun o z => ?_)
      cases o with
      | nx δ5 μ5 => exact fun O5 α5 σ5 H5 E5 T5 => ⟨δ5, μ5, O5, α5, E5, T3.trans T5, z⟩
      | ct δ5 μ5 => exact fun O5 α5 σ5 H5 E5 T5 => ⟨δ5, μ5, O5, α5, E5, T3.trans T5, z⟩
      | bk δ5 μ5 => exact fun O5 α5 σ5 H5 E5 T5 => z O5 α5 σ5 H5 E5 ((Go.same s1).trans (T3.trans T5))
      | rt v μ5 => exact z
  · left
    have e : i = ds.length := by omega
    subst e
    rw [List.drop_length] at k2
    exact ⟨Y.stop O2 H2 TT, k2 O2 α2 σ2 H2 E2 ((Go.same s1).trans T)⟩
/-! while -/
def whileS (c : EnvS → Sto → R (Bool × Sto)) (g : EnvS → Sto → R OutS) : Nat → EnvS → Sto → R OutS
  | 0, _, _ => none
  | n + 1, δ, μ => (c δ μ).thn fun r => if r.1 = true then (g δ r.2).thn fun o => match o with
      | .nx δ' μ' => whileS c g n δ' μ'
      | .ct δ' μ' => whileS c g n δ' μ'
      | .bk δ' μ' => R.ret (.nx δ' μ')
      | .rt v μ' => R.ret (.rt v μ')
    else R.ret (.nx δ r.2)
noncomputable def sWhile (c : EnvS → Sto → R (Bool × Sto)) (g : SG) : SG := fun m δ μ =>
  open Classical in if h : ∃ n r, whileS c (g m) n δ μ = some r then whileS c (g m) (Classical.choose h) δ μ else none
end
end SL
/-! the store layer: defs, calls, a def of the store layer as one of the data layer -/
namespace SL
open PySem PySem.Spec PyProof.Rows L2 DL
def spS (K : PySem.W.Frag) (mg : Str → Option Value) (n : Nat) (F : List Val → Sto → R (Val × Sto)) : Sp := fun vs H Q _ => ∃ R0 O α μ xs, vs.length = n ∧ SR K mg R0 O α H μ ∧ VRs K O α H vs xs ∧ okR (fun _ _ => False) (F xs μ) (fun r => ∀ v O' α' H', Go O α H O' α' H' → SR K mg R0 O' α' H' r.2 → VR K O' α' H' v r.1 → Q v H')
structure DefS (P : Program) (w : World) (K : PySem.W.Frag) (mg : Str → Option Value) (base : Heap) (k : Nat) (x : Str) (n : Nat) (F : List Val → Sto → R (Val × Sto)) : Prop where
  ex : ∃ (f : Addr) (fd : FuncData) (ps : List Str), FnOk P w K mg base CX0 k f fd ps (spS K mg n F) ∧ mg x = some (.ref f) ∧ PySem.W.keepIn K (.ref f) = true ∧ Binds K fd ps []
def noXR {β : Type} (r : R β) : R β := match r with
  | some (.error _) => none
  | r => r
def sCall (F : List Val → Sto → R (Val × Sto)) (fa : EnvS → Sto → R (List Val × Sto)) : EnvS → Sto → R (Val × Sto) := fun δ μ => (fa δ μ).thn fun r => noXR (F r.1 r.2)
section
variable {X : Cx} {G : XD → Hp → Prop} {e : Expr} {es : List Expr} {pos p : Pos}
end
def startS (n : Nat) (xs : List Val) : EnvS := xs.map some ++ List.replicate (n - xs.length) none
def endS (o : OutS) : R (Val × Sto) := match o with
  | .rt v μ => R.ret (v, μ)
  | .nx _ μ => R.ret (.d .none, μ)
  | _ => none
def runS (n : Nat) (g : SG) (xs : List Val) (μ : Sto) : R (Val × Sto) := (g μ.length (startS n xs) μ).thn endS
section
variable {P : Program} {w : World} {K : PySem.W.Frag} {mg : Str → Option Value} {base : Heap}
theorem ev_startS {R0 O : List Addr} {α : List (Option Addr)} {H : Hp} {μ : Sto} {vs : List V} {xs : List Val} (N : List Str) (S : SR K mg R0 O α H μ) (r : VRs K O α H vs xs) : SEv K mg ⟨R0, O, α, H⟩ O α H (L2.start N vs) (startS N.length xs) μ := by
  refine ⟨S, Go.refl, ?_, fun i x h => ?_⟩
  · unfold L2.start startS
    simp [r.length]
  · unfold startS at h
    by_cases hi : i < xs.length
    · rw [List.getElem?_append_left (by simpa using hi), List.getElem?_map] at h
      cases e : xs[i]? with
      | none => rw [e] at h; cases h
      | some y =>
        rw [e] at h
        cases h
        obtain ⟨v, hv, rv⟩ := r.get e
        refine ⟨v, ?_, rv⟩
        unfold L2.start
        have hi : i < vs.length := (List.getElem?_eq_some_iff.mp hv).1
        rw [List.getElem?_append_left (by simpa using hi), List.getElem?_map, hv]
        rfl
    · rw [List.getElem?_append_right (by simpa using hi), List.getElem?_replicate] at h
      split at h <;> cases h
theorem fn_ofS {x qual : Str} {st : Stmt} {f : Addr} {fd : FuncData} {N ps : List Str} {k : Nat} {g : SG} (F0 : Fun K x qual st f fd) (S : FnScope N ps (defScope st))
    (hbody : ∀ (cdv : Value) (A : Around) (outer : List PySem.Env) (s : Shared) (H : Hp) (E : XK), Room k (A.deeper (envOfC qual (defScope st) s.heap.objs.size f cdv)) →
      SSs (cxOf CX0 P w K mg base N qual (defScope st) f cdv A outer s H E).nox (fun _ _ => False) (defBody st) g) : FnOk P w K mg base CX0 (k + 1) f fd ps (spS K mg ps.length (runS N.length g)) := by
  refine F0.ok S (fun vs H Q E h => ?_) (fun cdv A outer s H vs Q E hr h => ?_)
  · obtain ⟨R0, O, α, μ, xs, hl, _⟩ := h
    exact hl
  · obtain ⟨R0, O, α, μ, xs, hl, S0, r, q⟩ := h
    obtain ⟨t, p, hB⟩ := hbody cdv A outer s H E hr
    refine ⟨t, p, hB ⟨R0, O, α, H⟩ (startS N.length xs) μ O α (L2.start N vs) H _ (ev_startS N S0 r) ?_⟩
    have q1 := okR_thn (show okR _ ((g μ.length (startS N.length xs) μ).thn endS) _ from q)
    rw [← S0.len] at q1
    refine okR_mono (okR_imp q1 fun x μ h => h.elim) fun o z => ?_
    cases o with
    | rt v μ' => exact fun u O' α' H' S' G' r' => z u O' α' H' G' S' r'
    | nx δ μ' => exact fun O' α' σ' H' E' G' => z .non O' α' H' G' E'.sr (.d .non)
    | bk δ μ' => exact z.elim
    | ct δ μ' => exact z.elim
/-- from data to data -/
def asD (F : List Val → Sto → R (Val × Sto)) : List D → M D := fun ds => match F (ds.map Val.d) [] with
  | some (.ok (.d x, _)) => M.ret x
  | _ => none
theorem fn_toD {k n : Nat} {f : Addr} {fd : FuncData} {ps : List Str} {F : List Val → Sto → R (Val × Sto)} (F1 : FnOk P w K mg base CX0 k f fd ps (spS K mg n F)) : FnOk P w K mg base CX0 k f fd ps (spD K n (asD F)) := by
  refine F1.imp fun vs H Q E q => ?_
  obtain ⟨O, ds, hl, oo, rs, q⟩ := q
  refine ⟨O, O, [], [], ds.map Val.d, hl, ⟨rfl, fun i j a h => (by simp at h), oo, fun _ h => h, fun k a h => (by simp at h)⟩, VRs.data rs, ?_⟩
  unfold asD at q
  match hF : F (ds.map Val.d) [], q with
  | some (.ok (.d x, μ')), q =>
    refine fun v O' α' H' T S r => q v H' (fun b o h => T.keep b o (fun k => by simp) h) ?_
    exact Rep.to (To.less S.sub) r.dinv
theorem DefS.toD {k n : Nat} {x : Str} {F : List Val → Sto → R (Val × Sto)} (h : DefS P w K mg base k x n F) : Def P w K mg base k x n (asD F) := by
  obtain ⟨f, fd, ps, F1, hm, hk, hb⟩ := h.ex
  refine ⟨f, fd, ps, F1.imp fun vs H Q E q => ?_, hm, hk, hb⟩
  obtain ⟨O, ds, hl, oo, rs, q⟩ := q
  refine ⟨O, O, [], [], ds.map Val.d, hl, ⟨rfl, fun i j a h => (by simp at h), oo, fun _ h => h, fun k a h => (by simp at h)⟩, VRs.data rs, ?_⟩
  unfold asD at q
  match hF : F (ds.map Val.d) [], q with
  | some (.ok (.d x, μ')), q =>
    refine fun v O' α' H' T S r => q v H' (fun b o h => T.keep b o (fun k => by simp) h) ?_
    exact Rep.to (To.less S.sub) r.dinv
end
/-! evaluation -/
section
variable {δ δ' : EnvS} {μ μ' μ1 : Sto} {n : Nat} {f fi : EnvS → Sto → R (Val × Sto)} {fa : EnvS → Sto → R (List Val × Sto)} {fc : EnvS → Sto → R (Bool × Sto)} {g h : SG} {v : Val} {r : R OutS}
theorem es_var {i : Nat} (h : δ[i]? = some (some v)) : sVar i δ μ = R.ret (v, μ) := by unfold sVar; rw [h]
theorem es_pure {f : DS → M D} {d : D} (h : f (view δ) = M.ret d) : sPure f δ μ = R.ret (.d d, μ) := by unfold sPure; rw [h]; rfl
theorem es_lend {f : DS → M D} {d : D} (h : f (viewL 0 μ δ) = M.ret d) (hf : flatD d = true) : sLend f δ μ = R.ret (.d d, μ) := by
  unfold sLend; rw [h]; show (if flatD d = true then _ else _) = _; rw [if_pos hf]
theorem es_seq (h1 : g n δ μ = R.ret (.nx δ' μ')) (h2 : h n δ' μ' = r) : sSeq g h n δ μ = r := by unfold sSeq; rw [h1]; exact h2
theorem es_asg {i : Nat} (h : f δ μ = R.ret (v, μ')) : sAsg i f n δ μ = R.ret (.nx (δ.set i (some v)) μ') := by unfold sAsg; rw [h]; rfl
theorem es_ret (h : f δ μ = R.ret (v, μ')) : sRet f n δ μ = R.ret (.rt v μ') := by unfold sRet; rw [h]; rfl
theorem es_if {b : Bool} (h1 : fc δ μ = R.ret (b, μ1)) (h2 : (if b = true then g n δ μ1 else h n δ μ1) = r) : sIf fc g h n δ μ = r := by unfold sIf; rw [h1]; exact h2
theorem es_test {fb : DS → M Bool} {b : Bool} (h : fb (viewL 0 μ δ) = M.ret b) : sTest fb δ μ = R.ret (b, μ) := by unfold sTest; rw [h]; rfl
theorem es_for {fi : DS → M (List D)} {t : D → EnvS → Option EnvS} {ds : List D} (h1 : fi (view δ) = M.ret ds) (h2 : forS t (g n) ds δ μ = r) : sFor fi t g n δ μ = r := by unfold sFor; rw [h1]; exact h2
theorem forS_cons {t : D → EnvS → Option EnvS} {g : EnvS → Sto → R OutS} {d : D} {ds : List D} {δ1 : EnvS} (h1 : t d δ = some δ1) (h2 : g δ1 μ = R.ret (.nx δ' μ')) (h3 : forS t g ds δ' μ' = r) : forS t g (d :: ds) δ μ = r := by
  unfold forS; rw [h1]; show (g δ1 μ).thn _ = _; rw [h2]; exact h3
theorem es_run {k : Nat} {xs : List Val} (h : g μ.length (startS k xs) μ = R.ret (.rt v μ')) : runS k g xs μ = R.ret (v, μ') := by unfold runS; rw [h]; rfl
end
end SL
/-! the store layer: new lists as values, displays, items, methods of tracked lists -/
namespace SL
open PySem PySem.Spec PyProof.Rows L2 DL
section
variable {K : PySem.W.Frag} {mg : Str → Option Value} {R0 O O' : List Addr} {α α' : List (Option Addr)} {H H' : Hp} {μ μ' : Sto}
/-- a list that was made meanwhile is tracked from now on -/
theorem SR.adopt (S : SR K mg R0 O α H μ) {l : Addr} {vs : List V} {ds : List D} (s : Same H H') (hl : H l = none) (hx : H' l = some (.lst vs)) (r : Reps K [] H' vs ds) (hf : flatDs ds = true) : SR K mg R0 (l :: O) (α ++ [some l]) H' (μ ++ [.lst (ds.map Val.d)]) := by
  have T1 : To O O H H' := To.same s
  have ne : ∀ (k : Nat) (a : Addr), α[k]? = some (some a) → a ≠ l := fun k a h z => by
    obtain ⟨o, h3, _⟩ := S.tracked h
    rw [z, hl] at h3; cases h3
  have hlO : l ∉ O := fun z => by
    obtain ⟨o, ho⟩ := (S.oo l z).some
    rw [hl] at ho; cases ho
  -- what was there leans on nothing new
  have T : To O (l :: O) H H' := by
    refine ⟨fun b xs h => Same.rd s h, fun b xs n h => ⟨fun z => ?_, Same.rd s h⟩, fun b xs n h => ⟨fun z => ?_, Same.rd s h⟩, fun b C dx fs n h => ⟨fun z => ?_, s _ _ h⟩⟩
    · rcases List.mem_cons.mp z with z | z
      · exact Rd.ne_new h hl z
      · exact n z
    · rcases List.mem_cons.mp z with z | z
      · exact Rd.ne_new h hl z
      · exact n z
    · rcases List.mem_cons.mp z with z | z
      · exact ne_of_none h hl z
      · exact n z
  have e : ∀ (k : Nat) (a : Addr), α[k]? = some (some a) → (α ++ [some l])[k]? = some (some a) := fun k a h => by
    rw [List.getElem?_append_left (List.getElem?_eq_some_iff.mp h).1]; exact h
  have cs : ∀ (k : Nat) (a : Addr), (α ++ [some l])[k]? = some (some a) → α[k]? = some (some a) ∨ (k = α.length ∧ a = l) := fun k a h => by
    by_cases hk : k < α.length
    · rw [List.getElem?_append_left hk] at h; exact .inl h
    · rw [List.getElem?_append_right (by omega)] at h
      have h0 : k - α.length = 0 := by
        have := (List.getElem?_eq_some_iff.mp h).1
        simp at this
        omega
      rw [h0] at h
      simp at h
      exact .inr ⟨by omega, h.symm⟩
  refine ⟨by rw [List.length_append, List.length_append, S.len]; rfl, fun i j a h1 h2 => ?_, fun b hb => ?_, fun b hb => List.mem_cons_of_mem _ (S.sub b hb), fun k a h => ?_⟩
  · rcases cs i a h1 with h1 | ⟨h1, z⟩ <;> rcases cs j a h2 with h2 | ⟨h2, z2⟩
    · exact S.nd i j a h1 h2
    · exact absurd z2 (ne i a h1)
    · exact absurd z (ne j a h2)
    · omega
  · rcases List.mem_cons.mp hb with rfl | hb
    · exact .inl ⟨vs, hx⟩
    · exact (S.oo b hb).same s
  · rcases cs k a h with h | ⟨rfl, rfl⟩
    · obtain ⟨ob, h1, h2⟩ := S.at_ k a h
      obtain ⟨o, h3, _⟩ := S.tracked h
      exact ⟨ob, by rw [List.getElem?_append_left (List.getElem?_eq_some_iff.mp h1).1]; exact h1, h2.to T e (fun z => List.mem_cons_of_mem _ z) (by rw [h3]; exact s a o h3)⟩
    · refine ⟨.lst (ds.map Val.d), by rw [S.len, List.getElem?_append_right (Nat.le_refl _), Nat.sub_self]; rfl, List.mem_cons_self, fun z => ?_, vs, hx, VRs.data (r.flat hf)⟩
      exact hlO (S.sub a z)
theorem Go.adopt {l : Addr} (s : Same H H') (hl : H l = none) : Go O α H (l :: O) (α ++ [some l]) H' := by
  refine ⟨fun b u _ h => s b u h, fun k a h => by rw [List.getElem?_append_left (List.getElem?_eq_some_iff.mp h).1]; exact h, by rw [List.length_append]; omega, fun k b h => ?_, fun b hb => ?_, fun b h => none_same s h⟩
  · by_cases hk : k < α.length
    · rw [List.getElem?_append_left hk] at h; exact .inl h
    · rw [List.getElem?_append_right (by omega)] at h
      have h0 : k - α.length = 0 := by
        have := (List.getElem?_eq_some_iff.mp h).1
        simp at this
        omega
      rw [h0] at h
      simp at h
      exact .inr (by rw [← h]; exact hl)
  · rcases List.mem_cons.mp hb with rfl | hb
    · exact .inr hl
    · exact .inl hb
theorem SR.at_new (S : SR K mg R0 O α H μ) {l : Addr} : (α ++ [some l])[μ.length]? = some (some l) := by
  rw [← S.len, List.getElem?_append_right (Nat.le_refl _), Nat.sub_self]; rfl
theorem VRs.atI {vs : List V} {xs : List Val} {i : Int} {x : Val} (r : VRs K O α H vs xs) (h : L2.atI xs i = some x) : ∃ v, L2.atI vs i = some v ∧ VR K O α H v x := by
  unfold L2.atI at h ⊢
  rw [r.length]
  cases e : ixN xs.length i with
  | none => rw [e] at h; cases h
  | some j =>
    rw [e] at h
    exact r.get h
theorem VRs.reverse {vs : List V} {xs : List Val} (r : VRs K O α H vs xs) : VRs K O α H vs.reverse xs.reverse := by
  induction vs generalizing xs with
  | nil => cases r; exact .nil
  | cons v vs ih =>
    cases r with
    | cons r rs =>
      rw [List.reverse_cons, List.reverse_cons]
      exact (ih rs).append (.cons r .nil)
end
section
variable {X : Cx} {G : XD → Hp → Prop} {a b c e ix o : Expr} {es : List Expr} {pos pos' tpos apos cpos : Pos} {f fi fo : EnvS → Sto → R (Val × Sto)} {fa : EnvS → Sto → R (List Val × Sto)}
/-- a new list of data, as a value -/
def sNew (fn : DS → M (List D)) : EnvS → Sto → R (Val × Sto) := fun δ μ => (ofM (fn (view δ)) μ).thn fun ds => R.ret (.h μ.length, μ ++ [.lst (ds.map Val.d)])
theorem sx_new {fn : DS → M (List D)} (he : PDN X G e fn) : SX X G e (sNew fn) := by
  obtain ⟨t, p, he⟩ := he
  refine ⟨t, p, fun A δ μ O α σ H Q E k => ?_⟩
  refine he (view δ) O σ H _ E.view (ok_mono (ofM_ok E.sr (okR_thn k)) fun ds z l xs H1 s1 hl rx => ?_)
  have E1 := E.same s1
  exact z _ (l :: O) (α ++ [some l]) _ ((Go.same s1).trans (Go.newL hl)) (E1.sr.newL hl (VRs.data (α := α) rx)) (.h E.sr.at_new)
/-- the same with tracked lists lent, its items flat -/
def sNewL' (fn : DS → M (List D)) : EnvS → Sto → R (Val × Sto) := fun δ μ => (ofM (fn (viewL 0 μ δ)) μ).thn fun ds => if flatDs ds = true then R.ret (.h μ.length, μ ++ [.lst (ds.map Val.d)]) else none
/-- a def or a comprehension that tells a new list of flat things; tracked lists lent -/
def sNewF (f : DS → M D) : EnvS → Sto → R (Val × Sto) := fun δ μ => (ofM (f (viewL 0 μ δ)) μ).thn fun d => match d with
  | .list ds => if flatDs ds = true then R.ret (.h μ.length, μ ++ [.lst (ds.map Val.d)]) else none
  | _ => none
/-- [..], (..) of values -/
def sLst (fa : EnvS → Sto → R (List Val × Sto)) : EnvS → Sto → R (Val × Sto) := fun δ μ => (fa δ μ).thn fun r => if small r.1.length = true then R.ret (.h r.2.length, r.2 ++ [.lst r.1]) else none
def sTup (fa : EnvS → Sto → R (List Val × Sto)) : EnvS → Sto → R (Val × Sto) := fun δ μ => (fa δ μ).thn fun r => if small r.1.length = true then R.ret (.t r.1, r.2) else none
/-- an item of a tracked list or of a tuple of values -/
def sIx (fo fi : EnvS → Sto → R (Val × Sto)) : EnvS → Sto → R (Val × Sto) := fun δ μ => (fo δ μ).thn fun r => (fi δ r.2).thn fun q => match q.1 with
  | .d (.int i) => match r.1 with
    | .h k => match q.2[k]? with
      | some (.lst xs) => match L2.atI xs i with
        | some x => R.ret (x, q.2)
        | none => none
      | _ => none
    | .t xs => match L2.atI xs i with
      | some x => R.ret (x, q.2)
      | none => none
    | .d (.tuple ds) => match L2.atI ds i with
      | some d => R.ret (.d d, q.2)
      | none => none
    | .d (.list ds) => match L2.atI ds i with
      | some d => R.ret (.d d, q.2)
      | none => none
    | _ => none
  | _ => none
theorem sx_ix (ha : SX X G a fo) (hb : SX X G b fi) (hs : PlainIx b) : SX X G (.Subscript a b pos) (sIx fo fi) := by
  obtain ⟨ta, pa, ha⟩ := ha
  obtain ⟨tb, pb, hb⟩ := hb
  refine ⟨_, pe_ix ix_seq pa pb hs, fun A δ μ O α σ H Q E k => ?_⟩
  refine ha A δ μ O α σ H _ E (okR_mono (okR_thn k) fun r z v O1 α1 H1 T1 S1 r1 => ?_)
  refine hb A δ r.2 O1 α1 σ H1 _ (E.go T1 S1) (okR_mono (okR_imp (okR_thn z) fun x μ h => Er.go T1 h) fun q y w O2 α2 H2 T2 S2 r2 => ?_)
  have T := T1.trans T2
  obtain ⟨q1, q2⟩ := q
  obtain ⟨p1, p2⟩ := r
  match q1, y, r2 with
  | .d (.int i), y, r2 =>
    have hw := Rep.int_inv r2.dinv
    subst hw
    match p1, y, r1 with
    | .h k, y, r1 =>
      obtain ⟨l, hl, rfl⟩ := r1.hinv
      have hl2 := T2.ex _ _ hl
      obtain ⟨ob, g1, g2⟩ := S2.at_ k l hl2
      dsimp only at y
      rw [g1] at y
      match ob, y, g2 with
      | .lst xs, y, g2 =>
        obtain ⟨_, _, vs, g3, g4⟩ := g2
        dsimp only at y
        cases hx : L2.atI xs i with
        | none => rw [hx] at y; exact y.elim
        | some x =>
          rw [hx] at y
          obtain ⟨u, hu, ru⟩ := g4.atI hx
          exact .inl ⟨l, vs, i, u, rfl, rfl, .inl (.inl g3), hu, y u O2 α2 H2 T S2 ru⟩
    | .t xs, y, r1 =>
      obtain ⟨p, vs, rfl, h1, rs⟩ := (r1.to (T2.to S1) T2.ex).tinv
      dsimp only at y
      cases hx : L2.atI xs i with
      | none => rw [hx] at y; exact y.elim
      | some x =>
        rw [hx] at y
        obtain ⟨u, hu, ru⟩ := rs.atI hx
        exact .inr (.inl ⟨p, vs, i, u, rfl, rfl, h1, hu, y u O2 α2 H2 T S2 ru⟩)
    | .d (.tuple ds), y, r1 =>
      have rx := (r1.to (T2.to S1) T2.ex).dinv
      dsimp only at y
      cases hx : L2.atI ds i with
      | none => rw [hx] at y; exact y.elim
      | some x =>
        rw [hx] at y
        obtain ⟨p, vs, rfl, h1, r3⟩ := rx.tup_inv
        obtain ⟨u, hu, ru⟩ := r3.atI hx
        exact .inr (.inl ⟨p, vs, i, u, rfl, rfl, h1, hu, y u O2 α2 H2 T S2 (.d ru)⟩)
    | .d (.list ds), y, r1 =>
      have rx := (r1.to (T2.to S1) T2.ex).dinv
      dsimp only at y
      cases hx : L2.atI ds i with
      | none => rw [hx] at y; exact y.elim
      | some x =>
        rw [hx] at y
        obtain ⟨p, vs, rfl, h1, r3⟩ := rx.lst_inv
        obtain ⟨u, hu, ru⟩ := r3.atI hx
        exact .inl ⟨p, vs, i, u, rfl, rfl, h1, hu, y u O2 α2 H2 T S2 (.d ru)⟩
/-- what is done to a tracked list -/
def sUpd (fo : EnvS → Sto → R (Val × Sto)) (h : List Val → List Val) : EnvS → Sto → R (Val × Sto) := fun δ μ => (fo δ μ).thn fun r => match r.1 with
  | .h k => match r.2[k]? with
    | some (.lst xs) => R.ret (.d .none, r.2.set k (.lst (h xs)))
    | _ => none
  | _ => none
def sApp (fo f : EnvS → Sto → R (Val × Sto)) : EnvS → Sto → R (Val × Sto) := fun δ μ => (fo δ μ).thn fun r => match r.1 with
  | .h k => match r.2[k]? with
    | some (.lst _) => (f δ r.2).thn fun q => match q.2[k]? with
      | some (.lst xs) => if small (xs.length + 1) = true then R.ret (.d .none, q.2.set k (.lst (xs ++ [q.1]))) else none
      | _ => none
    | _ => none
  | _ => none
theorem sx_app (ho : SX X G o fo) (he : SX X G e f)
    (hst : starEach [e] X.env = (false, eval e X.env) :: starEach [] X.env := by rfl)
    (hbase : attributeBase o "append" X.env (eval o X.env) = eval o X.env := by rfl)
    (hfew : ((backTo cpos (starEach [e] X.env)).all (fun x => !x.1) && (backToKw cpos (keywordEach [] X.env)).all (fun x => x.1.isSome)
      && decide ([e].length + ([] : List Keyword).length + (if ([] : List Keyword).isEmpty then 0 else 1) < 30)) = true := by rfl)
    (hline : (apos.endLine == cpos.line) = true := by rfl) (hplain : (backTo cpos (starEach [] X.env)).any (·.1) = false := by rfl) :
    SX X G (.Call (.Attribute o "append" apos) [e] [] cpos) (sApp fo f) := by
  obtain ⟨t, p, ho⟩ := ho
  obtain ⟨u, q, he⟩ := he
  refine ⟨_, pe_bm PySem.F.plainAttrs_list PySem.F.slot_list_append PySem.F.type_list_append mt_append p (pa_cons q pa_nil hst) hbase hfew hline hst hplain, fun A δ μ O α σ H Q E k => ?_⟩
  refine ho A δ μ O α σ H _ E (okR_mono (okR_thn k) fun r z v O1 α1 H1 T1 S1 r1 => ?_)
  obtain ⟨p1, p2⟩ := r
  match p1, z, r1 with
  | .h k, z, r1 =>
    obtain ⟨l, hl, rfl⟩ := r1.hinv
    obtain ⟨ob, g1, g2⟩ := S1.at_ k l hl
    dsimp only at z
    rw [g1] at z
    match ob, z, g2 with
    | .lst xs0, z, g2 =>
    refine ⟨.inl ⟨rfl, _, .inl (.inl g2.2.2.choose_spec.1)⟩, ?_⟩
    have z : okR _ ((f δ p2).thn _) _ := z
    refine he A δ p2 O1 α1 σ H1 _ (E.go T1 S1) (okR_mono (okR_imp (okR_thn z) fun x μ h => Er.go T1 h) fun q y w O2 α2 H2 T2 S2 r2 => ?_)
    obtain ⟨q1, q2⟩ := q
    have hl2 := T2.ex _ _ hl
    obtain ⟨ob, g1, g2⟩ := S2.at_ k l hl2
    dsimp only at y
    rw [g1] at y
    match ob, y, g2, g1 with
    | .lst xs, y, g2, g1 =>
      obtain ⟨_, _, vs, g3, g4⟩ := g2
      dsimp only at y
      by_cases hz : small (xs.length + 1) = true
      · rw [if_pos hz] at y
        exact ⟨l, vs, w, rfl, rfl, g3, by rw [g4.length]; exact small_lt hz, y .non O2 α2 _ (T1.trans (T2.trans (Go.setL hl2))) (S2.setL hl2 g1 (g4.append (.cons r2 .nil))) (.d .non)⟩
      · rw [if_neg hz] at y; exact y.elim
end
end SL
/-! the store layer: for over a tracked list; x[i][j] = v -/
namespace SL
open PySem PySem.Spec PyProof.Rows L2 DL
section
variable {X : Cx} {G : XD → Hp → Prop} {a b c e ix o : Expr} {es : List Expr} {pos pos' tpos apos cpos : Pos} {f fi fo : EnvS → Sto → R (Val × Sto)}
open Classical in
/-- the turns of a walk over a tracked list, which stays as it is meanwhile -/
noncomputable def forT (i k : Nat) (xs : List Val) (g : EnvS → Sto → R OutS) : List Val → EnvS → Sto → R OutS
  | [], δ, μ => if μ[k]? = some (.lst xs) then R.ret (.nx δ μ) else none
  | v :: vs, δ, μ => if μ[k]? = some (.lst xs) then (g (δ.set i (some v)) μ).thn fun o => match o with
      | .nx δ' μ' => forT i k xs g vs δ' μ'
      | .ct δ' μ' => forT i k xs g vs δ' μ'
      | .bk δ' μ' => R.ret (.nx δ' μ')
      | .rt v μ' => R.ret (.rt v μ') else none
noncomputable def sForT (i : Nat) (f : EnvS → Sto → R (Val × Sto)) (g : SG) : SG := fun n δ μ => (f δ μ).thn fun r => match r.1 with
  | .h k => match r.2[k]? with
    | some (.lst xs) => forT i k xs (g n) xs δ r.2
    | _ => none
  | _ => none
/-! x[i][j] = v -/
def sSetX (fo fi f : EnvS → Sto → R (Val × Sto)) : SG := fun _ δ μ => (f δ μ).thn fun r => (fo δ r.2).thn fun p => match p.1 with
  | .h k => (fi δ p.2).thn fun q => match q.1, q.2[k]? with
    | .d (.int n), some (.lst xs) => match ixN xs.length n with
      | some j => R.ret (.nx δ (q.2.set k (.lst (xs.set j r.1))))
      | none => none
    | _, _ => none
  | _ => none
/-! a op b of values, things that are tracked as they stand -/
def sCmp (h : D → D → Option D) (fo fi : EnvS → Sto → R (Val × Sto)) : EnvS → Sto → R (Val × Sto) := fun δ μ => (fo δ μ).thn fun p => (fi δ p.2).thn fun q => match lv2 0 q.2 p.1, lv2 0 q.2 q.1 with
  | some x, some y => match h x y with
    | some d => if flatD d = true then R.ret (.d d, q.2) else none
    | none => none
  | _, _ => none
end
end SL
/-! the store layer: [[..] for x in l]; for over a tracked list of data, and over its enumerate -/
namespace SL
open PySem PySem.Spec PyProof.Rows L2 DL
section
variable {X : Cx} {G : XD → Hp → Prop} {pos : Pos}
def nD (K : PySem.W.Frag) (f : DS → M (List D)) : TE := fun σ H Q => ∃ Hr δ O, Ev K Hr O H σ δ ∧ ok (GS (fun _ _ => False) Hr) (f δ) (fun ds => ∀ l xs H1, Same H H1 → H1 l = none → Reps K O H1 xs ds → Q (.ref l) (upd H1 l (.lst xs)))
theorem PDN.can {X : Cx} {e : Expr} {f : DS → M (List D)} (h : PDN X (fun _ _ => False) e f) : PE X e (nD X.K f) := by
  obtain ⟨t, p, h⟩ := h
  intro pins s σ H Q I hw
  obtain ⟨Hr, δ, O, E, k⟩ := hw
  exact p pins s σ H Q I (h δ O σ H Q E k)
theorem ofM_thn {α β : Type} {g : XD → Sto → Prop} {r : M α} {h : α → M β} {μ : Sto} {k : β → Prop} (q : okR g (ofM (r.thn h) μ) k) : okR g (ofM r μ) (fun a => okR g (ofM (h a) μ) k) := by
  match r, q with
  | some (.ok a), q => exact q
  | some (.error x), q => exact q
def compN (f : DS → M (List D)) : List D → M (List (List D))
  | [] => M.ret []
  | d :: ds => (nX f [.vl d]).thn fun r => if flatDs r = true then (compN f ds).thn fun rest => M.ret (r :: rest) else none
def addRows (k : Nat) : List (List D) → List Val → Sto → Sto
  | [], _, μ => μ
  | r :: rs, hs, μ => addRows k rs (hs ++ [Val.h μ.length]) ((μ ++ [Ob.lst (r.map Val.d)]).set k (Ob.lst (hs ++ [Val.h μ.length])))
def sCompN (fi : DS → M (List D)) (f : DS → M (List D)) : EnvS → Sto → R (Val × Sto) := fun δ μ => (ofM (fi (viewL 0 μ δ)) μ).thn fun ds => if small ds.length = true then (ofM (compN f ds) μ).thn fun rows => R.ret (.h μ.length, addRows μ.length rows [] (μ ++ [.lst []])) else none
theorem compN_run {wi : TI} {fi : DS → M (List D)} {f : DS → M (List D)} (hi : ∀ {Hr : Hp} (δ : DS) (O : List Addr) (σ : DL.St) (H : Hp) (R : It → Hp → Prop), Ev X.K Hr O H σ δ → ok (GS G Hr) (fi δ) (fun ds => ∀ J H1, Same H H1 → Yl X.K J O H1 ds → R J H1) → wi σ H R)
    (A : An) (δ : EnvS) (μ : Sto) (O : List Addr) (α : List (Option Addr)) (σ : L2.St) (H : Hp) (Q : VK) (E : SEv X.K X.mg A O α H σ δ μ) (k : okR (Er X.K X.mg G A.R0 O α H) (sCompN fi f δ μ) (fun r => ∀ v O' α' H', Go O α H O' α' H' → SR X.K X.mg A.R0 O' α' H' r.2 → VR X.K O' α' H' v r.1 → Q v H')) :
    tCompG 1 [] wi (gD X.K (tgN 0)) (cD X.K dYes) (nD X.K f) σ H Q := by
  have hv := E.viewL (n := 0) (O' := A.R0) E.sr.sub fun k a xs ha _ hx => by
    obtain ⟨ob, h1, h2⟩ := E.sr.at_ k a ha
    rw [hx] at h1
    cases h1
    exact h2.2.1
  refine hi (viewL 0 μ δ) A.R0 σ H _ hv (ok_mono (ofM_ok E.sr (okR_thn k)) fun ds z J H1 s1 Y => ?_)
  by_cases hsz : small ds.length = true
  case neg =>
    rw [if_neg hsz] at z
    exact z.elim
  rw [if_pos hsz] at z
  intro l hl
  have E1 := E.same s1
  have hv1 := hv.same s1
  have S0 := E1.sr.newL hl (VRs.nil (K := X.K) (O := O) (α := α) (H := H1))
  have z := okR_thn z
  refine ⟨fun i m τ xs H2 => m = ds.length - i ∧ i ≤ ds.length ∧ xs.length ≤ i ∧ H2 l = some (.lst xs) ∧ ∃ δc hs μ2 O2 α2, EC X.K A.R0 H1 l H2 τ δc ∧ δc.length = 1 ∧ SR X.K X.mg A.R0 O2 α2 H2 μ2 ∧ Go O α H O2 α2 H2 ∧ α2[μ.length]? = some (some l) ∧ μ2[μ.length]? = some (.lst hs) ∧
    okR (Er X.K X.mg G A.R0 O α H) (ofM (compN f (ds.drop i)) μ) (fun rows => ∀ v O' α' H', Go O α H O' α' H' → SR X.K X.mg A.R0 O' α' H' (addRows μ.length rows hs μ2) → VR X.K O' α' H' v (.h μ.length) → Q v H'), ?_, ?_⟩
  · refine ⟨_, rfl, Nat.zero_le _, Nat.le_refl _, upd_same, _, [], _, _, _, slot_of (fr := []) hv1 1 hl, rfl, S0, (Go.same s1).trans (Go.newL hl), E.sr.at_new, by simp, ?_⟩
    exact okR_mono z fun rows q v O' α' H' T S r => q v O' α' H' T S r
  rintro i m τ xs H2 ⟨rfl, hi', hx, h2, δc, hs2, μ2, O2, α2, Ec, hδ, S2, T2, a2, m2, kc⟩
  have kp : Kp l H1 H2 := fun b o hb e => Ec.keep b o hb e
  refine ⟨h2, ?_⟩
  have T : To A.R0 (l :: A.R0) H1 H2 := kp.to hl
  by_cases hlt : i < ds.length
  · right
    have hd : ds[i]? = some ds[i] := List.getElem?_eq_getElem hlt
    obtain ⟨go, yl⟩ := Y.step (l :: A.R0) H2 T i _ hd
    refine ⟨go, Nat.lt_of_le_of_lt hx (Nat.lt_of_lt_of_le hlt (small_le hsz)), fun y H3 hy => ?_⟩
    obtain ⟨s3, rx⟩ := yl y H3 hy
    rw [drop_get hd] at kc
    obtain ⟨s0, rfl⟩ : ∃ s0, δc = [s0] := by
      match δc, hδ with
      | [s0], _ => exact ⟨s0, rfl⟩
    have kc := ofM_thn (show okR _ (ofM ((nX f [.vl ds[i]]).thn _) μ) _ from kc)
    refine ⟨_, _, _, _, [s0], [.vl ds[i]], ds[i], l :: A.R0, Ec.same s3, rx, rfl, fun τ' H4 E4 s4 => ?_⟩
    refine ⟨_, [.vl ds[i]], l :: A.R0, E4.ev, fun H5 s5 => ?_⟩
    dsimp only
    rw [if_pos rfl]
    have E5 := E4.same s5
    have s25 := (s3.trans s4).trans s5
    refine ⟨_, [.vl ds[i]], l :: A.R0, E5.ev, ?_⟩
    cases hf1 : f [.vl ds[i]] with
    | none =>
      have : nX f [.vl ds[i]] = none := by unfold nX; rw [hf1]; rfl
      rw [this] at kc
      exact kc.elim
    | some rr =>
      cases rr with
      | error y =>
        have : nX f [.vl ds[i]] = none := by unfold nX; rw [hf1]; rfl
        rw [this] at kc
        exact kc.elim
      | ok row =>
        have en : nX f [.vl ds[i]] = some (.ok row) := by unfold nX; rw [hf1]; rfl
        rw [en] at kc
        have kc : okR (Er X.K X.mg G A.R0 O α H) (ofM (if flatDs row = true then (compN f (ds.drop (i + 1))).thn fun rest => M.ret (row :: rest) else none) μ) _ := kc
        by_cases hf : flatDs row = true
        case neg =>
          rw [if_neg hf] at kc
          exact kc.elim
        rw [if_pos hf] at kc
        have kc := ofM_thn kc
        intro l' xs' H6 s6 hl' rs
        have h6 : H6 l = some (.lst xs) := s6 _ _ (s25 _ _ h2)
        have hne : l ≠ l' := fun z => by rw [z, hl'] at h6; cases h6
        have h7 : (upd H6 l' (.lst xs')) l = some (.lst xs) := by rw [upd_ne hne]; exact h6
        have S6 := S2.same (s25.trans s6)
        have rs' : VRs X.K O2 α2 H6 xs' (row.map Val.d) := VRs.data (rs.flat hf)
        have S7 := S6.newL hl' rs'
        have a7 : (α2 ++ [some l'])[μ.length]? = some (some l) := by
          rw [List.getElem?_append_left (List.getElem?_eq_some_iff.mp a2).1]
          exact a2
        have m7 : (μ2 ++ [Ob.lst (row.map Val.d)])[μ.length]? = some (.lst hs2) := by
          rw [List.getElem?_append_left (List.getElem?_eq_some_iff.mp m2).1]
          exact m2
        obtain ⟨ob, g1, g2⟩ := S7.at_ μ.length l a7
        rw [m7] at g1
        cases g1
        obtain ⟨g3, g4, vs, g5, g6⟩ := g2
        rw [h7] at g5
        cases g5
        have rn := g6.append (VRs.cons (VR.h (H := upd H6 l' (.lst xs')) S6.at_new) VRs.nil)
        refine ⟨h7, ds.length - (i + 1), by omega, rfl, hlt, by rw [List.length_append]; show xs.length + 1 ≤ i + 1; omega, upd_same, [.vl ds[i]], _, _, _, _, EC.put ((E5.same s6).same (same_new hl')) h7, rfl, S7.setL a7 m7 rn, ((T2.trans (Go.same (s25.trans s6))).trans (Go.newL hl')).trans (Go.setL a7), a7, by rw [List.getElem?_set_self (by rw [List.length_append]; have := (List.getElem?_eq_some_iff.mp m2).1; omega)], ?_⟩
        exact okR_mono kc fun rest q v O' α' H' T S r => q v O' α' H' T S r
  · left
    have e : i = ds.length := by omega
    subst e
    rw [List.drop_length] at kc
    exact ⟨Y.stop (l :: A.R0) H2 T, kc (.ref l) O2 α2 H2 T2 S2 (.h a2)⟩
theorem ss_compN {y : Str} {py spos : Pos} {iy : Nat} {cl : List (Str × Addr)} {x : Str} {elt iter tg : Expr} {scope : Scope} {fi : DS → M (List D)} {f : DS → M (List D)} (hc : X.calm = true)
    (hkind : scope.kind = .function) (hcell : ∀ y ∈ scope.names, y.2 ≠ .cell) (hclos : closureFor scope X.env = pure cl) (hsub : ∀ y c, cl.lookup y = some c → X.env.cells.lookup y = some c)
    (hhas : ∀ y ∈ (relabel scope X.env).names, (y.2 = .cell ∨ y.2 = .free) → ∃ c, cl.lookup y.1 = some c) (hnames : ∀ y ∈ scope.names, y.2 = .local → scope.names.lookup y.1 = some .local)
    (hi : PDI X G tg iter fi) (hg : ∀ C s3 H3 fp, PDG (compCxG X scope cl [] [x] C s3 H3 fp) tg (tgN 0)) (hcs : ∀ C s3 H3 fp, PDTs (compCxG X scope cl [] [x] C s3 H3 fp) [] dYes) (he : ∀ C s3 H3 fp, PDN (compCxG X scope cl [] [x] C s3 H3 fp) (fun _ _ => False) elt f) (hN : X.N.Nodup) (hiy : X.N[iy]? = some y) (hly : Loc X.env.scope y) (hs : ∀ x, foldedSetIterable iter X.env x = pure x := by intro _; rfl) (hsw : swapsWith (.ListComp elt [⟨tg, iter, [], 0⟩] scope pos) (some (.Name y py)) spos.line X.env = pure true := by rfl) (hfy : X.fn y = true ∨ X.env.scope.names.lookup y = some .local := by first | exact .inl rfl | exact .inr rfl | assumption) :
    SS X G (.Assign [.Name y py] (.ListComp elt [⟨tg, iter, [], 0⟩] scope pos) spos) (sAsg iy (sCompN fi f)) := by
  obtain ⟨wi, pi, hi⟩ := hi
  refine ⟨_, ps_compG (iy := iy) (fr := []) (tn := [x]) (g := gD X.K (tgN 0)) (tc := cD X.K dYes) (te := nD X.K f) hc hkind hcell hclos hsub hhas (fun p hp => nomatch hp) hnames pi (fun C s3 H3 fp => (hg C s3 H3 fp).can) (fun C s3 H3 fp => (hcs C s3 H3 fp).can) (fun C s3 H3 fp => PDN.can (he C s3 H3 fp)) hs hsw hN hiy hly hfy, fun A δ μ O α σ H Dn E k => compN_run hi A δ μ O α σ H _ E (okR_mono (okR_imp (okR_thn k) fun x μ h => Er.go E.st h) fun r z v O1 α1 H1 T1 S1 r1 => z O1 α1 _ H1 ((E.go T1 S1).set r1) T1)⟩
open Classical in
/-- the turns of a walk over a tracked list of data (its items, or what stands for them) -/
noncomputable def forTI (k : Nat) (xs : List Val) (t : D → EnvS → Option EnvS) (g : EnvS → Sto → R OutS) : List D → EnvS → Sto → R OutS
  | [], δ, μ => if μ[k]? = some (.lst xs) then R.ret (.nx δ μ) else none
  | d :: ds, δ, μ => if μ[k]? = some (.lst xs) then (match t d δ with
    | none => none
    | some δ1 => (g δ1 μ).thn fun o => match o with
      | .nx δ' μ' => forTI k xs t g ds δ' μ'
      | .ct δ' μ' => forTI k xs t g ds δ' μ'
      | .bk δ' μ' => R.ret (.nx δ' μ')
      | .rt v μ' => R.ret (.rt v μ')) else none
noncomputable def sForTI (en : Bool) (t : D → EnvS → Option EnvS) (f : EnvS → Sto → R (Val × Sto)) (g : SG) : SG := fun n δ μ => (f δ μ).thn fun r => match r.1 with
  | .h k => match r.2[k]? with
    | some (.lst xs) => match dataOf xs with
      | some ds => forTI k xs t (g n) (if en then enumD 0 ds else ds) δ r.2
      | none => none
    | _ => none
  | _ => none
variable {f : EnvS → Sto → R (Val × Sto)}
theorem ss_forTD {tg iter : Expr} {body : List Stmt} {t : D → EnvS → Option EnvS} {g : SG} (hp : PassesOwn (model X.prog X.w) X.A X.env X.xe) (hc : X.calm = true) (hi : SX X G iter f) (hg : SGT X tg t) (hb : SSs X G body g)
    (hs : ∀ x, foldedSetIterable iter X.env x = pure x := by intro _; rfl) : SS X G (.For tg iter body [] pos) (sForTI false t f g) := by
  obtain ⟨ti, p, hi⟩ := hi
  obtain ⟨tgt, pt, hg⟩ := hg
  obtain ⟨tb, pb, hb⟩ := hb
  refine ⟨_, ps_for hp hc (pi_list p) pt pb hs, fun A δ μ O α σ H Dn E k => ?_⟩
  refine hi A δ μ O α σ H _ E (okR_mono (okR_imp (okR_thn k) fun x μ h => Er.go E.st h) fun r z v O1 α1 H1 T1 S1 r1 => ?_)
  have E1 := E.go T1 S1
  obtain ⟨rv, rμ⟩ := r
  match rv, z, r1 with
  | .h kk, z, r1 =>
    obtain ⟨l, hl, rfl⟩ := r1.hinv
    dsimp only at z
    obtain ⟨ob, g1, g2⟩ := S1.at_ kk l hl
    rw [g1] at z
    match ob, z, g1, g2 with
    | .lst xs, z, g1, g2 =>
      dsimp only at z
      cases hdo : dataOf xs with
      | none => rw [hdo] at z; exact z.elim
      | some ds =>
        rw [hdo] at z
        have hxs := dataOf_some hdo
        subst hxs
        dsimp only at z
        rw [if_neg Bool.false_ne_true] at z
        obtain ⟨g3, g4, vs, g5, g6⟩ := g2
        refine ⟨l, rfl, ⟨vs, .inl (.inl g5)⟩, ?_⟩
        refine ⟨fun i' m σ2 H2 => m = ds.length - i' ∧ i' ≤ ds.length ∧ ∃ δ2 μ2 O2 α2, SEv X.K X.mg A O2 α2 H2 σ2 δ2 μ2 ∧ Go O α H O2 α2 H2 ∧ α2[kk]? = some (some l) ∧ okR (Er X.K X.mg G A.R0 A.O A.α A.H) (forTI kk (ds.map Val.d) t (g A.α.length) (ds.drop i') δ2 μ2) (FinS X.K X.mg A O α H Dn), ⟨_, rfl, Nat.zero_le _, δ, rμ, O1, α1, E1, T1, hl, z⟩, ?_⟩
        rintro i' m σ2 H2 ⟨rfl, hi', δ2, μ2, O2, α2, E2, T, hl2, k2⟩
        by_cases hlt : i' < ds.length
        · right
          have hd : (ds.map Val.d)[i']? = some (.d ds[i']) := by rw [List.getElem?_map, List.getElem?_eq_getElem hlt]; rfl
          have hdrop : ds.drop i' = ds[i'] :: ds.drop (i' + 1) := List.drop_eq_getElem_cons hlt
          rw [hdrop] at k2
          unfold forTI at k2
          by_cases hm : μ2[kk]? = some (.lst (ds.map Val.d))
          · rw [if_pos hm] at k2
            obtain ⟨ob2, u1, u2⟩ := E2.sr.at_ kk l hl2
            rw [hm] at u1
            cases u1
            obtain ⟨u3, u4, vs2, u5, u6⟩ := u2
            obtain ⟨x, hx, rx⟩ := u6.get hd
            refine ⟨⟨vs2, x, .inl (.inl u5), hx⟩, fun σ' H' => ∃ δ2 μ2 O2 α2, SEv X.K X.mg A O2 α2 H' σ' δ2 μ2 ∧ Go O α H O2 α2 H' ∧ α2[kk]? = some (some l) ∧ okR (Er X.K X.mg G A.R0 A.O A.α A.H) (forTI kk (ds.map Val.d) t (g A.α.length) (ds.drop (i' + 1)) δ2 μ2) (FinS X.K X.mg A O α H Dn), fun σ' H' h => ⟨_, by omega, rfl, hlt, h⟩, fun y H3 hy => ?_⟩
            obtain ⟨rfl, hy⟩ := hy
            have ey := hy vs2 (.inl (.inl u5))
            rw [hx] at ey
            cases ey
            cases h3 : t ds[i'] δ2 with
            | none => rw [h3] at k2; exact k2.elim
            | some δ3 =>
              rw [h3] at k2
              refine hg A δ2 δ3 ds[i'] _ O2 α2 σ2 μ2 _ _ E2 rx.dinv h3 fun σ4 E4 => ?_
              refine hb A δ3 μ2 O2 α2 σ4 _ _ E4 (okR_mono (okR_thn k2) fun o z => ?_)
              cases o with
              | nx δ5 μ5 => exact fun O5 α5 σ5 H5 E5 T5 => ⟨δ5, μ5, O5, α5, E5, T.trans T5, T5.ex _ _ hl2, z⟩
              | ct δ5 μ5 => exact fun O5 α5 σ5 H5 E5 T5 => ⟨δ5, μ5, O5, α5, E5, T.trans T5, T5.ex _ _ hl2, z⟩
              | bk δ5 μ5 => exact fun O5 α5 σ5 H5 E5 T5 => z O5 α5 σ5 H5 E5 (T.trans T5)
              | rt v μ5 => exact z
          · rw [if_neg hm] at k2; exact k2.elim
        · left
          have e : i' = ds.length := by omega
          subst e
          rw [List.drop_length] at k2
          unfold forTI at k2
          by_cases hm : μ2[kk]? = some (.lst (ds.map Val.d))
          · rw [if_pos hm] at k2
            obtain ⟨ob2, u1, u2⟩ := E2.sr.at_ kk l hl2
            rw [hm] at u1
            cases u1
            obtain ⟨u3, u4, vs2, u5, u6⟩ := u2
            exact ⟨⟨vs2, .inl (.inl u5), by rw [u6.length, List.length_map]; exact Nat.le_refl _⟩, k2 O2 α2 σ2 H2 E2 T⟩
          · rw [if_neg hm] at k2; exact k2.elim
theorem ss_forTE {elts : List Expr} {x1 : Nat} {tpos p ipos : Pos} {a : Expr} {body : List Stmt} {t : D → EnvS → Option EnvS} {g : SG} (hp : PassesOwn (model X.prog X.w) X.A X.env X.xe) (hc : X.calm = true) (hgl : Gl X "enumerate") (hmg : X.mg "enumerate" = none) (hi : SX X G a f) (hg : SGT X (.Tuple elts x1 tpos) t) (hb : SSs X G body g)
    (hs : ∀ x, foldedSetIterable (.Call (.Name "enumerate" p) [a] [] ipos) X.env x = pure x := by intro _; rfl) (hst : starEach [a] X.env = (false, eval a X.env) :: starEach [] X.env := by rfl) (hst1 : starEach [a] X.env = [(false, eval a X.env)] := by rfl) : SS X G (.For (.Tuple elts x1 tpos) (.Call (.Name "enumerate" p) [a] [] ipos) body [] pos) (sForTI true t f g) := by
  obtain ⟨ti, pe, hi⟩ := hi
  obtain ⟨tgt, pt, hg⟩ := hg
  obtain ⟨tb, pb, hb⟩ := hb
  refine ⟨_, ps_for hp hc (pi_enum hgl hmg (pa_cons pe pa_nil hst) hst1) pt pb hs, fun A δ μ O α σ H Dn E k => ?_⟩
  refine hi A δ μ O α σ H _ E (okR_mono (okR_imp (okR_thn k) fun x μ h => Er.go E.st h) fun r z v O1 α1 H1 T1 S1 r1 => ?_)
  have E1 := E.go T1 S1
  obtain ⟨rv, rμ⟩ := r
  match rv, z, r1 with
  | .h kk, z, r1 =>
    obtain ⟨l, hl, rfl⟩ := r1.hinv
    dsimp only at z
    obtain ⟨ob, g1, g2⟩ := S1.at_ kk l hl
    rw [g1] at z
    match ob, z, g1, g2 with
    | .lst xs, z, g1, g2 =>
      dsimp only at z
      cases hdo : dataOf xs with
      | none => rw [hdo] at z; exact z.elim
      | some ds =>
        rw [hdo] at z
        have hxs := dataOf_some hdo
        subst hxs
        dsimp only at z
        rw [if_pos rfl] at z
        obtain ⟨g3, g4, vs, g5, g6⟩ := g2
        have hel : (enumD 0 ds).length = ds.length := enumD_len 0 ds
        refine ⟨l, rfl, ⟨vs, .inl (.inl g5)⟩, ?_⟩
        refine ⟨fun i' m σ2 H2 => m = ds.length - i' ∧ i' ≤ ds.length ∧ ∃ δ2 μ2 O2 α2, SEv X.K X.mg A O2 α2 H2 σ2 δ2 μ2 ∧ Go O α H O2 α2 H2 ∧ α2[kk]? = some (some l) ∧ okR (Er X.K X.mg G A.R0 A.O A.α A.H) (forTI kk (ds.map Val.d) t (g A.α.length) ((enumD 0 ds).drop i') δ2 μ2) (FinS X.K X.mg A O α H Dn), ⟨_, rfl, Nat.zero_le _, δ, rμ, O1, α1, E1, T1, hl, z⟩, ?_⟩
        rintro i' m σ2 H2 ⟨rfl, hi', δ2, μ2, O2, α2, E2, T, hl2, k2⟩
        by_cases hlt : i' < ds.length
        · right
          have hd : (ds.map Val.d)[i']? = some (.d ds[i']) := by rw [List.getElem?_map, List.getElem?_eq_getElem hlt]; rfl
          have hlt2 : i' < (enumD 0 ds).length := by rw [hel]; exact hlt
          obtain ⟨w, hw, ew⟩ := enumD_get (List.getElem?_eq_getElem hlt2)
          rw [List.getElem?_eq_getElem hlt] at hw
          cases hw
          rw [Nat.zero_add] at ew
          have hdrop : (enumD 0 ds).drop i' = .tuple [.int (i' : Int), ds[i']] :: (enumD 0 ds).drop (i' + 1) := by rw [← ew]; exact List.drop_eq_getElem_cons hlt2
          rw [hdrop] at k2
          unfold forTI at k2
          by_cases hm : μ2[kk]? = some (.lst (ds.map Val.d))
          · rw [if_pos hm] at k2
            obtain ⟨ob2, u1, u2⟩ := E2.sr.at_ kk l hl2
            rw [hm] at u1
            cases u1
            obtain ⟨u3, u4, vs2, u5, u6⟩ := u2
            obtain ⟨x, hx, rx⟩ := u6.get hd
            refine ⟨⟨vs2, x, .inl (.inl u5), hx⟩, fun σ' H' => ∃ δ2 μ2 O2 α2, SEv X.K X.mg A O2 α2 H' σ' δ2 μ2 ∧ Go O α H O2 α2 H' ∧ α2[kk]? = some (some l) ∧ okR (Er X.K X.mg G A.R0 A.O A.α A.H) (forTI kk (ds.map Val.d) t (g A.α.length) ((enumD 0 ds).drop (i' + 1)) δ2 μ2) (FinS X.K X.mg A O α H Dn), fun σ' H' h => ⟨_, by omega, rfl, hlt, h⟩, fun y H3 hy => ?_⟩
            obtain ⟨T', rfl, hT', hy⟩ := hy
            have e3 := hy vs2 x (.inl (.inl u5)) hx
            subst e3
            have E3 := E2.same (same_new (o := .tup [.int (i' : Int), x]) hT')
            have T3 := T.trans (Go.same (same_new (o := .tup [.int (i' : Int), x]) hT'))
            have rt : Rep X.K O2 (upd H2 T' (.tup [.int (i' : Int), x])) (.ref T') (.tuple [.int (i' : Int), ds[i']]) := rep_newT hT' (.cons (.int _) (.cons rx.dinv .nil))
            cases h3 : t (.tuple [.int (i' : Int), ds[i']]) δ2 with
            | none => rw [h3] at k2; exact k2.elim
            | some δ3 =>
              rw [h3] at k2
              refine hg A δ2 δ3 _ _ O2 α2 σ2 μ2 _ _ E3 rt h3 fun σ4 E4 => ?_
              refine hb A δ3 μ2 O2 α2 σ4 _ _ E4 (okR_mono (okR_thn k2) fun o z => ?_)
              cases o with
              | nx δ5 μ5 => exact fun O5 α5 σ5 H5 E5 T5 => ⟨δ5, μ5, O5, α5, E5, T3.trans T5, T5.ex _ _ hl2, z⟩
              | ct δ5 μ5 => exact fun O5 α5 σ5 H5 E5 T5 => ⟨δ5, μ5, O5, α5, E5, T3.trans T5, T5.ex _ _ hl2, z⟩
              | bk δ5 μ5 => exact fun O5 α5 σ5 H5 E5 T5 => z O5 α5 σ5 H5 E5 (T3.trans T5)
              | rt v μ5 => exact z
          · rw [if_neg hm] at k2; exact k2.elim
        · left
          have e : i' = ds.length := by omega
          subst e
          rw [← hel, List.drop_length] at k2
          unfold forTI at k2
          by_cases hm : μ2[kk]? = some (.lst (ds.map Val.d))
          · rw [if_pos hm] at k2
            obtain ⟨ob2, u1, u2⟩ := E2.sr.at_ kk l hl2
            rw [hm] at u1
            cases u1
            obtain ⟨u3, u4, vs2, u5, u6⟩ := u2
            exact ⟨⟨vs2, .inl (.inl u5), by rw [u6.length, List.length_map]; exact Nat.le_refl _⟩, k2 O2 α2 σ2 H2 E2 T⟩
          · rw [if_neg hm] at k2; exact k2.elim
theorem es_forTI {en : Bool} {k n : Nat} {t : D → EnvS → Option EnvS} {g : SG} {δ : EnvS} {μ μ' : Sto} {ds : List D} {r : R OutS} (h1 : f δ μ = R.ret (.h k, μ')) (h2 : μ'[k]? = some (.lst (ds.map Val.d))) (h3 : forTI k (ds.map Val.d) t (g n) (if en then enumD 0 ds else ds) δ μ' = r) : sForTI en t f g n δ μ = r := by
  unfold sForTI
  rw [h1, rthn_ret]
  dsimp only
  rw [h2]
  dsimp only
  rw [dataOf_map]
  exact h3
theorem forTI_nil {k : Nat} {xs : List Val} {t : D → EnvS → Option EnvS} {g : EnvS → Sto → R OutS} {δ : EnvS} {μ : Sto} (h : μ[k]? = some (.lst xs)) : forTI k xs t g [] δ μ = R.ret (.nx δ μ) := by
  unfold forTI
  rw [if_pos h]
theorem forTI_cons {k : Nat} {xs : List Val} {t : D → EnvS → Option EnvS} {g : EnvS → Sto → R OutS} {δ δ1 δ' : EnvS} {μ μ' : Sto} {d : D} {ds : List D} {r : R OutS} (h : μ[k]? = some (.lst xs)) (ht : t d δ = some δ1) (h1 : g δ1 μ = R.ret (.nx δ' μ')) (h2 : forTI k xs t g ds δ' μ' = r) : forTI k xs t g (d :: ds) δ μ = r := by
  unfold forTI
  rw [if_pos h, ht]
  dsimp only
  rw [h1]
  exact h2
theorem es_compN {fi : DS → M (List D)} {fn : DS → M (List D)} {δ : EnvS} {μ : Sto} {ds : List D} {rows : List (List D)} (h1 : fi (viewL 0 μ δ) = M.ret ds) (hz : small ds.length = true) (h2 : compN fn ds = M.ret rows) : sCompN fi fn δ μ = R.ret (.h μ.length, addRows μ.length rows [] (μ ++ [.lst []])) := by
  unfold sCompN
  rw [h1]
  show (if small ds.length = true then _ else _) = _
  rw [if_pos hz, h2]
  rfl
end
end SL
/-! THE MATHEMATICS of frames and labels: minutes m, places o within a minute (of 60 b) -/
namespace FM
structure Nb (b l e : Int) : Prop where
  b1 : 1 ≤ b
  b2 : b ≤ 999
  l1 : 0 ≤ l
  l2 : l < b
  e1 : 1 ≤ e
  e2 : e ≤ 60
/-- the o-th place of minute m has a label that is not left out -/
structure Ok (b l e m o : Int) : Prop where
  m0 : 0 ≤ m
  o0 : 0 ≤ o
  o1 : o < 60 * b
  g : m % e ≠ 0 → l ≤ o
/-- its frame -/
def fr (b l e m o : Int) : Int := m * (60 * b) + o - l * (m - m / e)
/-- the gaps, as the program reckons them -/
def len (b l e : Int) : Int := 60 * b + (e - 1) * (60 * b - l)
def gaps (b l e f : Int) : Int := if f % len b l e < 60 * b then f / len b l e * (e - 1) else f / len b l e * (e - 1) + 1 + (f % len b l e - 60 * b) / (60 * b - l)
theorem divq {q e k : Int} (h0 : 0 ≤ k) (h1 : k < e) : (q * e + k) / e = q := by
  rw [Int.add_comm, Int.add_mul_ediv_right _ _ (by omega), Int.ediv_eq_zero_of_lt h0 h1]; omega
theorem modq {q e k : Int} (h0 : 0 ≤ k) (h1 : k < e) : (q * e + k) % e = k := by
  rw [Int.add_comm, Int.add_mul_emod_self_right, Int.emod_eq_of_lt h0 h1]
theorem len_pos {b l e : Int} (h : Nb b l e) : 60 * b ≤ len b l e ∧ len b l e ≤ 3596400 := by
  unfold len
  have h1 : 0 ≤ (e - 1) * (60 * b - l) := Int.mul_nonneg (by have := h.e1; omega) (by have := h.l2; have := h.b1; omega)
  have h2 : (e - 1) * (60 * b - l) ≤ 59 * (60 * b - l) := Int.mul_le_mul_of_nonneg_right (by have := h.e2; omega) (by have := h.l2; have := h.b1; omega)
  have := h.b2
  have := h.l1
  omega
/-- the place of a frame -/
theorem place {b l e f : Int} (h : Nb b l e) (hf : 0 ≤ f) : ∃ m o, Ok b l e m o ∧ f + l * gaps b l e f = m * (60 * b) + o ∧ f = fr b l e m o := by
  have hL := len_pos h
  have hLp : 0 < len b l e := by have := h.b1; omega
  have h1 := Int.emod_nonneg f (show len b l e ≠ 0 by omega)
  have h2 := Int.emod_lt_of_pos f hLp
  have h3 := Int.mul_ediv_add_emod f (len b l e)
  have hq : 0 ≤ f / len b l e := Int.ediv_nonneg hf (by omega)
  unfold gaps
  generalize f / len b l e = q at *
  generalize f % len b l e = r at *
  have hb1 := h.b1
  have hl1 := h.l1
  have hl2 := h.l2
  have he1 := h.e1
  by_cases hr : r < 60 * b
  · refine ⟨q * e + 0, r, ⟨?_, h1, hr, fun z => ?_⟩, ?_, ?_⟩
    · have := Int.mul_nonneg hq (show 0 ≤ e by omega); omega
    · rw [modq (by omega) (by omega)] at z; omega
    · rw [if_pos hr, ← h3]; unfold len; grind
    · unfold fr; rw [divq (by omega) (by omega), ← h3]; unfold len; grind
  · have hS : 0 < 60 * b - l := by omega
    have t0 := Int.emod_nonneg (r - 60 * b) (show 60 * b - l ≠ 0 by omega)
    have t1 := Int.emod_lt_of_pos (r - 60 * b) hS
    have t2 := Int.mul_ediv_add_emod (r - 60 * b) (60 * b - l)
    have k0 : 0 ≤ (r - 60 * b) / (60 * b - l) := Int.ediv_nonneg (by omega) (by omega)
    have k1 : (r - 60 * b) / (60 * b - l) < e - 1 := by
      apply Int.ediv_lt_of_lt_mul hS
      have : len b l e = 60 * b + (e - 1) * (60 * b - l) := rfl
      omega
    rw [if_neg hr]
    generalize (r - 60 * b) / (60 * b - l) = k at *
    generalize (r - 60 * b) % (60 * b - l) = t at *
    refine ⟨q * e + (1 + k), t + l, ⟨?_, by omega, by omega, fun z => by omega⟩, ?_, ?_⟩
    · have := Int.mul_nonneg hq (show 0 ≤ e by omega); omega
    · rw [← h3]; unfold len; grind
    · unfold fr; rw [divq (by omega) (by omega), ← h3]; unfold len; grind
/-! ### the order -/
/-- as many minutes with a gap lie below a later minute, at most as many more as minutes -/
theorem ceil_mono {e m m' : Int} (he : 1 ≤ e) (h : m ≤ m') : m / e ≤ m' / e := Int.ediv_le_ediv (by omega) h
theorem div_succ {e m : Int} (he : 1 ≤ e) : (m + 1) / e = m / e + (if (m + 1) % e = 0 then 1 else 0) := by
  have h1 := Int.mul_ediv_add_emod m e
  have h2 := Int.emod_nonneg m (show e ≠ 0 by omega)
  have h3 := Int.emod_lt_of_pos m (show 0 < e by omega)
  by_cases hz : m % e + 1 = e
  · have e1 : m + 1 = (m / e + 1) * e + 0 := by grind
    rw [e1, divq (by omega) (by omega), modq (by omega) (by omega), if_pos rfl]
  · have e1 : m + 1 = (m / e) * e + (m % e + 1) := by grind
    have e2 : (m + 1) / e = m / e := by rw [e1, divq (by omega) (by omega)]
    have e3 : (m + 1) % e = m % e + 1 := by rw [e1, modq (by omega) (by omega)]
    rw [e2, e3, if_neg (by omega)]; omega
/-- the next place that is not left out -/
def nxt (b l e m o : Int) : Int × Int := if o + 1 < 60 * b then (m, o + 1) else (m + 1, if (m + 1) % e = 0 then 0 else l)
/-- what lies in a later minute has a greater frame -/
theorem fr_lt_m {b l e m o m' o' : Int} (h : Nb b l e) (k : Ok b l e m o) (k' : Ok b l e m' o') (hm : m < m') : fr b l e m o < fr b l e m' o' := by
  have hb1 := h.b1
  have hl1 := h.l1
  have hl2 := h.l2
  have he1 := h.e1
  have o1 := k.o1
  have o0' := k'.o0
  unfold fr
  -- at minute m' : o' - l * (m' - m'/e) ≥ - l * (m' - 1 - (m'-1)/e)
  have hs := div_succ (m := m' - 1) he1
  rw [show m' - 1 + 1 = m' by omega] at hs
  have hc := ceil_mono (m := m) (m' := m' - 1) he1 (by omega)
  have low : - (l * (m' - 1 - (m' - 1) / e)) ≤ o' - l * (m' - m' / e) := by
    by_cases hz : m' % e = 0
    · rw [if_pos hz] at hs
      have : m' - m' / e = m' - 1 - (m' - 1) / e := by omega
      rw [this]; omega
    · rw [if_neg hz] at hs
      have hg := k'.g hz
      have : m' - m' / e = m' - 1 - (m' - 1) / e + 1 := by omega
      rw [this, Int.mul_add]; omega
  have h1 : l * (m' - 1 - (m' - 1) / e) ≤ l * (m' - 1 - m / e) := Int.mul_le_mul_of_nonneg_left (by omega) hl1
  have h2 : l * (m' - 1 - m / e) = l * (m' - 1 - m) + l * (m - m / e) := by grind
  have h3 : l * (m' - 1 - m) ≤ (60 * b) * (m' - 1 - m) := Int.mul_le_mul_of_nonneg_right (by omega) (by omega)
  have h4 : m' * (60 * b) = (60 * b) * (m' - 1 - m) + m * (60 * b) + 60 * b := by grind
  omega
theorem fr_lt {b l e m o m' o' : Int} (h : Nb b l e) (k : Ok b l e m o) (k' : Ok b l e m' o') : fr b l e m o < fr b l e m' o' ↔ (m < m' ∨ (m = m' ∧ o < o')) := by
  rcases Int.lt_trichotomy m m' with hm | hm | hm
  · exact ⟨fun _ => .inl hm, fun _ => fr_lt_m h k k' hm⟩
  · subst hm
    unfold fr
    constructor
    · intro z; exact .inr ⟨rfl, by omega⟩
    · intro z; rcases z with z | z <;> omega
  · have := fr_lt_m h k' k hm
    exact ⟨fun z => by omega, fun z => by omega⟩
theorem fr_inj {b l e m o m' o' : Int} (h : Nb b l e) (k : Ok b l e m o) (k' : Ok b l e m' o') (q : fr b l e m o = fr b l e m' o') : m = m' ∧ o = o' := by
  have h1 := fr_lt h k k'
  have h2 := fr_lt h k' k
  omega
/-! ### labels -/
theorem lab {b m o : Int} (hb : 1 ≤ b) (o0 : 0 ≤ o) (o1 : o < 60 * b) : (m * (60 * b) + o) / b = 60 * m + o / b ∧ 0 ≤ o / b ∧ o / b < 60 ∧ (m * (60 * b) + o) % b = o % b ∧ 0 ≤ o % b ∧ o % b < b ∧ o = b * (o / b) + o % b := by
  have e1 : m * (60 * b) + o = o + (60 * m) * b := by grind
  refine ⟨?_, Int.ediv_nonneg o0 (by omega), Int.ediv_lt_of_lt_mul (by omega) o1, ?_, Int.emod_nonneg o (by omega), Int.emod_lt_of_pos o (by omega), (Int.mul_ediv_add_emod o b).symm⟩
  · rw [e1, Int.add_mul_ediv_right _ _ (by omega)]; omega
  · rw [e1, Int.add_mul_emod_self_right]
theorem fr_nonneg {b l e m o : Int} (h : Nb b l e) (k : Ok b l e m o) : 0 ≤ fr b l e m o := by
  have hb1 := h.b1
  have hl1 := h.l1
  have hl2 := h.l2
  have he1 := h.e1
  have m0 := k.m0
  have o0 := k.o0
  unfold fr
  have h1 : 0 ≤ m / e := Int.ediv_nonneg m0 (by omega)
  have h2 : l * (m - m / e) ≤ l * m := Int.mul_le_mul_of_nonneg_left (by omega) hl1
  have h3 : l * m ≤ (60 * b) * m := Int.mul_le_mul_of_nonneg_right (by omega) m0
  have h4 : m * (60 * b) = (60 * b) * m := Int.mul_comm _ _
  omega
end FM
namespace CT
open PySem PySem.Spec L2 DL SL
noncomputable def g_show_parts : DS → M Out := (gSeq (gAsg (dMeth sZfill (dCB oStr (dCons (d2 oIx (dVar 0) (dC (.int 0))) dNil)) (dCons (dC (.int 2)) dNil)) (tgN 3))
    (gSeq (gAsg (dMeth sZfill (dCB oStr (dCons (d2 oIx (dVar 0) (dC (.int 1))) dNil)) (dCons (dC (.int 2)) dNil)) (tgN 4))
    (gSeq (gAsg (dMeth sZfill (dCB oStr (dCons (d2 oIx (dVar 0) (dC (.int 2))) dNil)) (dCons (dC (.int 2)) dNil)) (tgN 5))
    (gSeq (gAsg (dMeth sZfill (dCB oStr (dCons (d2 oIx (dVar 0) (dC (.int 3))) dNil)) (dCons (dVar 2) dNil)) (tgN 6))
    (gRet (joinD ((dFV (dVar 3)) :: ((dC (.str ":")) :: ((dFV (dVar 4)) :: ((dC (.str ":")) :: ((dFV (dVar 5)) :: ((dFV (dVar 1)) :: ((dFV (dVar 6)) :: []))))))) Str.empty))))))
noncomputable def F_show_parts : List D → M D := run 7 g_show_parts
noncomputable def g_show_moment : DS → M Out := (gSeq (gAsg (d2 oDiv (dVar 0) (dC (.int 1000))) (tgN 1))
    (gSeq (gAsg (d2 oDiv (dVar 1) (dC (.int 60))) (tgN 2))
    (gRet (dCall (fun ds => noX (F_show_parts ds)) (dCons (dTup (dCons (d2 oDiv (dVar 2) (dC (.int 60))) (dCons (d2 oMod (dVar 2) (dC (.int 60))) (dCons (d2 oMod (dVar 1) (dC (.int 60))) (dCons (d2 oMod (dVar 0) (dC (.int 1000))) dNil))))) (dCons (dC (.str ".")) (dCons (dC (.int 3)) dNil)))))))
noncomputable def F_show_moment : List D → M D := run 3 g_show_moment
noncomputable def g_Thousandths_show : DS → M Out := (gRet (dCall (fun ds => noX (F_show_moment ds)) (dCons (dVar 1) dNil)))
noncomputable def F_Thousandths_show : List D → M D := run 2 g_Thousandths_show
noncomputable def g_are_figures : DS → M Out := (gRet (dAndV (d2 oNe (dVar 0) (dC (.str ""))) (dCB oAll (dCons (dCompG 1 [] (tgN 0) (dAny (dVar 0)) dYes (d2 oInS (dVar 0) (dC (.str "0123456789")))) dNil))))
noncomputable def F_are_figures : List D → M D := run 1 g_are_figures
noncomputable def g_has_figures : DS → M Out := (gRet (dAndV (d2 oEq (dCB oLen (dCons (dVar 0) dNil)) (dVar 1)) (dCall (fun ds => noX (F_are_figures ds)) (dCons (dVar 0) dNil))))
noncomputable def F_has_figures : List D → M D := run 2 g_has_figures
noncomputable def g_are_hours : DS → M Out := (gSeq (gIf (dB (dCall (fun ds => noX (F_has_figures ds)) (dCons (dVar 0) (dCons (dC (.int 2)) dNil)))) (gRet (dC (.bool true))) gNext)
    (gRet (dAndV (dChain oLeD oLeD (dC (.int 3)) (dCB oLen (dCons (dVar 0) dNil)) (dC (.int 20))) (dAndV (dCall (fun ds => noX (F_are_figures ds)) (dCons (dVar 0) dNil)) (d2 oNe (d2 oIx (dVar 0) (dC (.int 0))) (dC (.str "0")))))))
noncomputable def F_are_hours : List D → M D := run 1 g_are_hours
noncomputable def g_are_sixtieths : DS → M Out := (gRet (dAndV (dCall (fun ds => noX (F_has_figures ds)) (dCons (dVar 0) (dCons (dC (.int 2)) dNil))) (d2 oLt (dCB oIntS (dCons (dVar 0) dNil)) (dC (.int 60)))))
noncomputable def F_are_sixtieths : List D → M D := run 1 g_are_sixtieths
noncomputable def g_read_parts : DS → M Out := (gSeq (gIf (dNot (dB (dIs "str" (dVar 0)))) (gRaise "NoTime" (dCons (dC (.str "this is no text")) dNil)) gNext)
    (gSeq (gAsg (dMeth sPartition (dVar 0) (dCons (dC (.str ":")) dNil)) (tgN 3))
    (gSeq (gAsg (dMeth sPartition (d2 oIx (dVar 3) (dC (.int 2))) (dCons (dC (.str ":")) dNil)) (tgN 4))
    (gSeq (gAsg (dMeth sPartition (d2 oIx (dVar 4) (dC (.int 2))) (dCons (dVar 1) dNil)) (tgN 5))
    (gSeq (gIf (dNot (dAnd (dB (dCall (fun ds => noX (F_are_hours ds)) (dCons (d2 oIx (dVar 3) (dC (.int 0))) dNil))) (dAnd (dB (dCall (fun ds => noX (F_are_sixtieths ds)) (dCons (d2 oIx (dVar 4) (dC (.int 0))) dNil))) (dB (dCall (fun ds => noX (F_are_sixtieths ds)) (dCons (d2 oIx (dVar 5) (dC (.int 0))) dNil)))))) (gRaise "NoTime" (dCons (dC (.str "these are no hours, minutes and seconds")) dNil)) gNext)
    (gSeq (gIf (dNot (dB (dCall (fun ds => noX (F_has_figures ds)) (dCons (d2 oIx (dVar 5) (dC (.int 2))) (dCons (dVar 2) dNil))))) (gRaise "NoTime" (dCons (dC (.str "the figures behind the seconds are none, too few or too many")) dNil)) gNext)
    (gRet (dTup (dCons (dCB oIntS (dCons (d2 oIx (dVar 3) (dC (.int 0))) dNil)) (dCons (dCB oIntS (dCons (d2 oIx (dVar 4) (dC (.int 0))) dNil)) (dCons (dCB oIntS (dCons (d2 oIx (dVar 5) (dC (.int 0))) dNil)) (dCons (dCB oIntS (dCons (d2 oIx (dVar 5) (dC (.int 2))) dNil)) dNil))))))))))))
noncomputable def F_read_parts : List D → M D := run 6 g_read_parts
noncomputable def g_read_moment : DS → M Out := (gSeq (gAsg (dCall F_read_parts (dCons (dVar 0) (dCons (dC (.str ".")) (dCons (dC (.int 3)) dNil)))) (tgN 1))
    (gSeq (gAsg (d2 oAdd (d2 oMul (dC (.int 60)) (d2 oAdd (d2 oMul (dC (.int 60)) (d2 oIx (dVar 1) (dC (.int 0)))) (d2 oIx (dVar 1) (dC (.int 1))))) (d2 oIx (dVar 1) (dC (.int 2)))) (tgN 2))
    (gRet (d2 oAdd (d2 oMul (dC (.int 1000)) (dVar 2)) (d2 oIx (dVar 1) (dC (.int 3)))))))
noncomputable def F_read_moment : List D → M D := run 3 g_read_moment
noncomputable def g_Thousandths_read : DS → M Out := (gRet (dCall F_read_moment (dCons (dVar 1) dNil)))
noncomputable def F_Thousandths_read : List D → M D := run 2 g_Thousandths_read
noncomputable def g_gaps_before_frame : DS → M Out := (gSeq (gAsg (d2 oMul (dC (.int 60)) (d2 oIx (dVar 0) (dC (.int 0)))) (tgN 2))
    (gSeq (gAsg (d2 oSub (dVar 2) (d2 oIx (dVar 0) (dC (.int 1)))) (tgN 3))
    (gSeq (gAsg (d2 oSub (d2 oIx (dVar 0) (dC (.int 2))) (dC (.int 1))) (tgN 4))
    (gSeq (gAsg (d2 oAdd (dVar 2) (d2 oMul (dVar 4) (dVar 3))) (tgN 5))
    (gSeq (gAsg (d2 oMul (d2 oDiv (dVar 1) (dVar 5)) (dVar 4)) (tgN 6))
    (gSeq (gAsg (d2 oMod (dVar 1) (dVar 5)) (tgN 7))
    (gSeq (gIf (dB (d2 oLt (dVar 7) (dVar 2))) (gRet (dVar 6)) gNext)
    (gRet (d2 oAdd (d2 oAdd (dVar 6) (dC (.int 1))) (d2 oDiv (d2 oSub (dVar 7) (dVar 2)) (dVar 3)))))))))))
noncomputable def F_gaps_before_frame : List D → M D := run 8 g_gaps_before_frame
noncomputable def g_label_of : DS → M Out := (gSeq (gAsg (d2 oIx (dVar 0) (dC (.int 0))) (tgN 2))
    (gSeq (gAsg (d2 oAdd (dVar 1) (d2 oMul (d2 oIx (dVar 0) (dC (.int 1))) (dCall (fun ds => noX (F_gaps_before_frame ds)) (dCons (dVar 0) (dCons (dVar 1) dNil))))) (tgN 3))
    (gSeq (gAsg (d2 oDiv (dVar 3) (dVar 2)) (tgN 4))
    (gSeq (gAsg (d2 oDiv (dVar 4) (dC (.int 60))) (tgN 5))
    (gRet (dTup (dCons (d2 oDiv (dVar 5) (dC (.int 60))) (dCons (d2 oMod (dVar 5) (dC (.int 60))) (dCons (d2 oMod (dVar 4) (dC (.int 60))) (dCons (d2 oMod (dVar 3) (dVar 2)) dNil))))))))))
noncomputable def F_label_of : List D → M D := run 6 g_label_of
noncomputable def g_frame_sign : DS → M Out := (gRet (dIf (dB (d2 oGt (d2 oIx (dVar 0) (dC (.int 1))) (dC (.int 0)))) (dC (.str ";")) (dC (.str ":"))))
noncomputable def F_frame_sign : List D → M D := run 1 g_frame_sign
noncomputable def g_frame_figures : DS → M Out := (gRet (dCB oMax (dCons (dC (.int 2)) (dCons (dCB oLen (dCons (dCB oStr (dCons (d2 oSub (d2 oIx (dVar 0) (dC (.int 0))) (dC (.int 1))) dNil)) dNil)) dNil))))
noncomputable def F_frame_figures : List D → M D := run 1 g_frame_figures
noncomputable def g_show_frame : DS → M Out := (gRet (dCall (fun ds => noX (F_show_parts ds)) (dCons (dCall (fun ds => noX (F_label_of ds)) (dCons (dVar 0) (dCons (dVar 1) dNil))) (dCons (dCall (fun ds => noX (F_frame_sign ds)) (dCons (dVar 0) dNil)) (dCons (dCall (fun ds => noX (F_frame_figures ds)) (dCons (dVar 0) dNil)) dNil)))))
noncomputable def F_show_frame : List D → M D := run 2 g_show_frame
noncomputable def g_Frames_show : DS → M Out := (gRet (dCall (fun ds => noX (F_show_frame ds)) (dCons (d1 (oFld "Frames" "numbering") (dVar 0)) (dCons (dVar 1) dNil))))
noncomputable def F_Frames_show : List D → M D := run 2 g_Frames_show
noncomputable def g_is_whole : DS → M Out := (gRet (dAndV (dIs "int" (dVar 0)) (dNotV (dIs "bool" (dVar 0)))))
noncomputable def F_is_whole : List D → M D := run 1 g_is_whole
noncomputable def g_has_form : DS → M Out := (gSeq (gIf (dOr (dNot (dB (dIs "tuple" (dVar 1)))) (dB (d2 oNe (dCB oLen (dCons (dVar 1) dNil)) (dC (.int 4))))) (gRet (dC (.bool false))) gNext)
    (gSeq (gIf (dNot (dB (dCB oAll (dCons (dCompG 1 [] (tgN 0) (dAny (dVar 1)) dYes (dAndV (dCall (fun ds => noX (F_is_whole ds)) (dCons (dVar 0) dNil)) (d2 oGe (dVar 0) (dC (.int 0))))) dNil)))) (gRet (dC (.bool false))) gNext)
    (gRet (dAndV (d2 oLt (d2 oIx (dVar 1) (dC (.int 1))) (dC (.int 60))) (dAndV (d2 oLt (d2 oIx (dVar 1) (dC (.int 2))) (dC (.int 60))) (d2 oLt (d2 oIx (dVar 1) (dC (.int 3))) (d2 oIx (dVar 0) (dC (.int 0)))))))))
noncomputable def F_has_form : List D → M D := run 2 g_has_form
noncomputable def g_minute_of : DS → M Out := (gRet (d2 oAdd (d2 oMul (dC (.int 60)) (d2 oIx (dVar 0) (dC (.int 0)))) (d2 oIx (dVar 0) (dC (.int 1)))))
noncomputable def F_minute_of : List D → M D := run 1 g_minute_of
noncomputable def g_is_left_out : DS → M Out := (gSeq (gIf (dB (d2 oEq (d2 oMod (dCall (fun ds => noX (F_minute_of ds)) (dCons (dVar 1) dNil)) (d2 oIx (dVar 0) (dC (.int 2)))) (dC (.int 0)))) (gRet (dC (.bool false))) gNext)
    (gRet (dAndV (d2 oEq (d2 oIx (dVar 1) (dC (.int 2))) (dC (.int 0))) (d2 oLt (d2 oIx (dVar 1) (dC (.int 3))) (d2 oIx (dVar 0) (dC (.int 1)))))))
noncomputable def F_is_left_out : List D → M D := run 2 g_is_left_out
noncomputable def g_is_label : DS → M Out := (gRet (dAndV (dCall (fun ds => noX (F_has_form ds)) (dCons (dVar 0) (dCons (dVar 1) dNil))) (dNotV (dCall (fun ds => noX (F_is_left_out ds)) (dCons (dVar 0) (dCons (dVar 1) dNil))))))
noncomputable def F_is_label : List D → M D := run 2 g_is_label
noncomputable def g_frame_of : DS → M Out := (gSeq (gIf (dNot (dB (dCall (fun ds => noX (F_is_label ds)) (dCons (dVar 0) (dCons (dVar 1) dNil))))) gNever gNext)
    (gSeq (gAsg (dCall (fun ds => noX (F_minute_of ds)) (dCons (dVar 1) dNil)) (tgN 2))
    (gSeq (gAsg (d2 oAdd (d2 oMul (d2 oAdd (d2 oMul (dC (.int 60)) (dVar 2)) (d2 oIx (dVar 1) (dC (.int 2)))) (d2 oIx (dVar 0) (dC (.int 0)))) (d2 oIx (dVar 1) (dC (.int 3)))) (tgN 3))
    (gSeq (gAsg (d2 oSub (dVar 2) (d2 oDiv (dVar 2) (d2 oIx (dVar 0) (dC (.int 2))))) (tgN 4))
    (gRet (d2 oSub (dVar 3) (d2 oMul (d2 oIx (dVar 0) (dC (.int 1))) (dVar 4))))))))
noncomputable def F_frame_of : List D → M D := run 5 g_frame_of
noncomputable def g_read_frame : DS → M Out := (gSeq (gAsg (dCall F_read_parts (dCons (dVar 1) (dCons (dCall (fun ds => noX (F_frame_sign ds)) (dCons (dVar 0) dNil)) (dCons (dCall (fun ds => noX (F_frame_figures ds)) (dCons (dVar 0) dNil)) dNil)))) (tgN 2))
    (gSeq (gIf (dNot (dB (dCall (fun ds => noX (F_is_label ds)) (dCons (dVar 0) (dCons (dVar 2) dNil))))) (gRaise "NoTime" (dCons (dC (.str "the numbering has no such label")) dNil)) gNext)
    (gRet (dCall (fun ds => noX (F_frame_of ds)) (dCons (dVar 0) (dCons (dVar 2) dNil))))))
noncomputable def F_read_frame : List D → M D := run 3 g_read_frame
noncomputable def g_Frames_read : DS → M Out := (gRet (dCall F_read_frame (dCons (d1 (oFld "Frames" "numbering") (dVar 0)) (dCons (dVar 1) dNil))))
noncomputable def F_Frames_read : List D → M D := run 2 g_Frames_read
end CT
open PySem PySem.Spec L2 DL
local macro_rules | `(tactic| walk_at "call") => `(tactic| fail)
local macro_rules | `(tactic| walk_at "cond") => `(tactic| first | rfl | omega | (simp only [Bool.or_eq_false_iff, Bool.and_eq_false_iff, Bool.or_eq_true, Bool.and_eq_true, Bool.not_eq_false', Bool.not_eq_true', decide_eq_false_iff_not, decide_eq_true_eq, Bool.not_true, Bool.not_false, Bool.false_or, Bool.true_and, Bool.false_and, Bool.true_or, isD, tyD]; omega) | (simp [isD, tyD]; done) | (simp [isD, tyD]; omega))
local macro_rules | `(tactic| walk_at "side") => `(tactic| first | assumption | omega | decide | exact bMul_l (by omega) (by omega) | exact bMul_r (by omega) (by omega) | exact bDiv_of (by omega) (by omega) | rfl)
local macro_rules | `(tactic| walk_at "ev1") => `(tactic| (first
  | with_reducible assumption | with_reducible exact ev_c | exact ev_var rfl | with_reducible exact ev_nil | with_reducible exact ev_next | with_reducible exact ev_nopart
  | with_reducible apply ev_2 | with_reducible apply ev_cons | with_reducible apply ev_1
  | with_reducible exact o_add | with_reducible exact o_sub | with_reducible exact o_lt | with_reducible exact o_ltD | with_reducible exact o_le | with_reducible exact o_gt | with_reducible exact o_ge | with_reducible exact o_eq | with_reducible exact o_ne
  | (with_reducible refine o_mul ?_; walk_at "side") | (with_reducible refine o_div ?_; walk_at "side") | (with_reducible refine o_mod ?_; walk_at "side")
  | ((with_reducible show oIx _ (PyData.int (OfNat.ofNat _)) = some _); exact rfl) | with_reducible exact o_pow6 | with_reducible exact o_pow9 | with_reducible exact o_pow15 | with_reducible exact o_pow18 | with_reducible exact o_pow4 | with_reducible exact o_pow7 | with_reducible exact o_pow8 | with_reducible exact o_pow10 | with_reducible exact o_pow12 | with_reducible exact o_pow19 | with_reducible exact o_pow20 | with_reducible exact o_pow24 | ((with_reducible show tgTup _ _ _ _ = some _); exact rfl) | ((with_reducible show oNeg _ = some _); exact rfl)
  | ((with_reducible show small _ = true); exact rfl) | with_reducible apply ev_cb | with_reducible exact o_max | with_reducible exact o_min | with_reducible exact o_lenL | with_reducible exact o_lenT | with_reducible exact o_intI | with_reducible exact o_intB
  | with_reducible apply ev_call | walk_at "call"
  | (with_reducible refine ev_pass ?_ ?_ ?_) | with_reducible apply ev_seqIf | with_reducible apply ev_seqN | (with_reducible apply ev_seq; with_reducible apply ev_asg) | with_reducible apply ev_ret | (with_reducible apply ev_seqR; with_reducible apply ev_ret)
  | with_reducible apply ev_asg | (with_reducible apply ev_seq; with_reducible apply ev_asgT) | with_reducible apply ev_par | (with_reducible apply ev_seq; with_reducible apply ev_par)
  | with_reducible apply ev_b | with_reducible apply ev_not | with_reducible apply ev_notV | with_reducible apply ev_is
  | with_reducible apply ev_tup | with_reducible apply ev_lst | with_reducible apply ev_cut | with_reducible apply ev_part
  | with_reducible apply ev_pass1 | with_reducible apply ev_ifS
  | with_reducible apply ev_or | with_reducible apply ev_and | with_reducible apply ev_orV | with_reducible apply ev_andV | with_reducible apply ev_if
  | ((with_reducible show (_ : Bool) = false); walk_at "cond")
  | ((with_reducible show (if _ = true then _ else _) = _); first | (refine ite_F rfl ?_) | (refine ite_T rfl ?_) | (refine ite_t (by omega) ?_) | (refine ite_f (by omega) ?_) | (refine ite_F (by walk_at "cond") ?_) | (refine ite_T (by walk_at "cond") ?_))))
local macro_rules | `(tactic| walk_at "ev") => `(tactic| repeat (walk_at "ev1"))
open PySem PySem.Spec L2 DL NumText
namespace TX
/-- a text's signs, and back -/
def S (l : List Nat) : Str := ⟨l.toArray⟩
theorem L_S (l : List Nat) : (S l).cps.toList = l := by unfold S; simp
theorem S_L (x : Str) : S x.cps.toList = x := by unfold S; simp
theorem S_app (a b : List Nat) : S a ++ S b = S (a ++ b) := by
  have : (S a ++ S b).cps = (S (a ++ b)).cps := by
    show a.toArray ++ b.toArray = (a ++ b).toArray
    simp
  cases h1 : S a ++ S b
  cases h2 : S (a ++ b)
  rw [h1, h2] at this
  cases this
  rfl
theorem S_len (l : List Nat) : (S l).length = l.length := by unfold S; show l.toArray.size = _; simp
theorem S_inj {a b : List Nat} (h : S a = S b) : a = b := by rw [← L_S a, h, L_S]
theorem S_nil : S [] = Str.empty := rfl
/-- figures -/
def digs (n : Nat) : List Nat := if h : n = 0 then [] else digs (n / 10) ++ [48 + n % 10]
decreasing_by omega
theorem digs_zero : digs 0 = [] := by unfold digs; rfl
theorem digs_pos {n : Nat} (h : n ≠ 0) : digs n = digs (n / 10) ++ [48 + n % 10] := by
  rw [digs]
  simp [h]
def fg (k n : Nat) : List Nat := List.replicate (k - (digs n).length) 48 ++ digs n
theorem fg_step {k n : Nat} (h : 0 < n ∨ 0 < k) : fg k n = fg (k - 1) (n / 10) ++ [48 + n % 10] := by
  unfold fg
  by_cases hn : n = 0
  · subst hn
    rw [digs_zero]
    have hk : 0 < k := by omega
    obtain ⟨k, rfl⟩ : ∃ j, k = j + 1 := ⟨k - 1, by omega⟩
    simp only [Nat.zero_div, Nat.zero_mod, digs_zero, List.append_nil, List.length_nil, Nat.sub_zero, Nat.add_sub_cancel, Nat.add_zero]
    rw [List.replicate_succ']
  · rw [digs_pos hn, List.length_append]
    have e : k - ((digs (n / 10)).length + [48 + n % 10].length) = k - 1 - (digs (n / 10)).length := by
      show k - ((digs (n / 10)).length + 1) = _
      omega
    rw [e, List.append_assoc]
theorem digs_digits (n : Nat) : ∀ c ∈ digs n, 48 ≤ c ∧ c ≤ 57 := by
  induction n using Nat.strongRecOn with
  | _ n ih =>
    by_cases h : n = 0
    · subst h; rw [digs_zero]; intro c hc; cases hc
    · rw [digs_pos h]
      intro c hc
      rcases List.mem_append.mp hc with hc | hc
      · exact ih (n / 10) (by omega) c hc
      · rw [List.mem_singleton] at hc
        omega
theorem fg_digits (k n : Nat) : ∀ c ∈ fg k n, 48 ≤ c ∧ c ≤ 57 := by
  intro c hc
  unfold fg at hc
  rcases List.mem_append.mp hc with hc | hc
  · have := List.eq_of_mem_replicate hc
    omega
  · exact digs_digits n c hc
theorem digs_len (j : Nat) : ∀ n, n < 10 ^ j → (digs n).length ≤ j := by
  induction j with
  | zero =>
    intro n hn
    have : n = 0 := by simpa using hn
    subst this
    rw [digs_zero]
    exact Nat.le_refl _
  | succ j ih =>
    intro n hn
    by_cases h : n = 0
    · subst h; rw [digs_zero]; exact Nat.zero_le _
    · rw [digs_pos h, List.length_append]
      have h1 : n / 10 < 10 ^ j := by
        rw [Nat.pow_succ] at hn
        omega
      have := ih (n / 10) h1
      show _ + 1 ≤ _
      omega
theorem fg_len {k n : Nat} (h : n < 10 ^ k) : (fg k n).length = k := by
  unfold fg
  have := digs_len k n h
  rw [List.length_append, List.length_replicate]
  omega
theorem digs_len_ge (j : Nat) : ∀ n, 10 ^ j ≤ n → j + 1 ≤ (digs n).length := by
  induction j with
  | zero =>
    intro n hn
    have h : n ≠ 0 := by
      have : 10 ^ 0 = 1 := rfl
      omega
    rw [digs_pos h, List.length_append]
    show 0 + 1 ≤ _ + 1
    omega
  | succ j ih =>
    intro n hn
    have p := Nat.pow_pos (n := j) (show 0 < 10 by decide)
    rw [Nat.pow_succ] at hn
    have h : n ≠ 0 := by omega
    have := ih (n / 10) (by omega)
    rw [digs_pos h, List.length_append]
    show _ ≤ _ + 1
    omega
theorem toDig (n : Nat) : (Nat.toDigits 10 n).map Char.toNat = if n = 0 then [48] else digs n := by
  have one : ∀ d : Nat, d < 10 → (Nat.digitChar d).toNat = 48 + d := by decide
  induction n using Nat.strongRecOn with
  | _ n ih =>
    by_cases h : n < 10
    · rw [Nat.toDigits_of_lt_base h]
      show [(Nat.digitChar n).toNat] = _
      rw [one n h]
      by_cases hz : n = 0
      · subst hz; rfl
      · rw [if_neg hz, digs_pos hz, show n / 10 = 0 by omega, digs_zero, show n % 10 = n by omega]
        rfl
    · have hm : n % 10 < 10 := Nat.mod_lt n (by decide)
      have t : Nat.toDigits 10 (n / 10) ++ Nat.toDigits 10 (n % 10) = Nat.toDigits 10 (10 * (n / 10) + n % 10) := Nat.toDigits_append_toDigits (by decide) (by omega) hm
      rw [Nat.div_add_mod] at t
      rw [← t, List.map_append, ih (n / 10) (by omega), if_neg (by omega), if_neg (by omega), Nat.toDigits_of_lt_base hm, digs_pos (n := n) (by omega)]
      show _ ++ [(Nat.digitChar (n % 10)).toNat] = _
      rw [one _ hm]
theorem str_num (n : Nat) : Str.ofString (toString ((n : Nat) : Int)) = S (if n = 0 then [48] else digs n) := by
  rw [← toDig, ← PySem.W.KIN.signs_num, S_L]
/-- str(n).zfill(k) -/
theorem zfill_num {n k : Nat} (hk : 1 ≤ k) : Txt.zfill (Str.ofString (toString ((n : Nat) : Int))) (k : Int) = S (fg k n) := by
  rw [str_num]
  have hd : ∀ c ∈ (if n = 0 then [48] else digs n), 48 ≤ c ∧ c ≤ 57 := by
    by_cases h : n = 0
    · rw [if_pos h]; intro c hc; rw [List.mem_singleton] at hc; omega
    · rw [if_neg h]; exact digs_digits n
  have hf : fg k n = List.replicate (k - (if n = 0 then [48] else digs n).length) 48 ++ (if n = 0 then [48] else digs n) := by
    by_cases h : n = 0
    · subst h
      rw [if_pos rfl]
      unfold fg
      rw [digs_zero]
      show List.replicate (k - 0) 48 ++ [] = List.replicate (k - 1) 48 ++ [48]
      rw [List.append_nil, ← List.replicate_succ']
      congr 1
      omega
    · rw [if_neg h]
      rfl
  rw [hf]
  generalize (if n = 0 then [48] else digs n) = l at *
  unfold Txt.zfill
  rw [S_len]
  by_cases hl : (k : Int) ≤ (l.length : Nat)
  · rw [if_pos hl]
    have : k - l.length = 0 := by omega
    rw [this]
    rfl
  · rw [if_neg hl]
    have e : ((k : Int)).toNat - l.length = k - l.length := by omega
    rw [e]
    have hp : zfilled (S l) (k - l.length) = Builtin.Str.padded (S l) (k - l.length) 0 48 := by
      unfold zfilled
      cases l with
      | nil => rfl
      | cons c r =>
        have hc := hd c List.mem_cons_self
        have h0 : (S (c :: r)).cps[0]? = some c := rfl
        rw [h0]
        split
        · rename_i z
          cases z
          omega
        · rename_i z
          cases z
          omega
        · rfl
    rw [hp]
    unfold Builtin.Str.padded S
    simp
/-- what figures are worth -/
theorem val_snoc (cs : List Nat) (c : Nat) : digitsVal (cs ++ [c]) = digitsVal cs * 10 + (c - 48) := digitsVal_snoc cs c
theorem val_digs (n : Nat) : digitsVal (digs n) = n := by
  induction n using Nat.strongRecOn with
  | _ n ih =>
    by_cases h : n = 0
    · subst h; rw [digs_zero]; rfl
    · rw [digs_pos h, val_snoc, ih (n / 10) (by omega)]
      omega
theorem val_zeros (j : Nat) (l : List Nat) : digitsVal (List.replicate j 48 ++ l) = digitsVal l := by
  induction j with
  | zero => rfl
  | succ j ih =>
    rw [List.replicate_succ, List.cons_append]
    show digitsVal (48 :: _) = _
    rw [digitsVal_zero]
    exact ih
theorem val_fg (k n : Nat) : digitsVal (fg k n) = n := by
  unfold fg
  rw [val_zeros, val_digs]
theorem int_digits {l : List Nat} (h : ∀ c ∈ l, 48 ≤ c ∧ c ≤ 57) (h1 : l ≠ []) (h2 : l.length ≤ 640) : oIntS [.str (S l)] = some (.int ((digitsVal l : Nat) : Int)) := by
  have e := intText_digits (x := S l) (by rw [L_S]; exact h) (by rw [L_S]; exact h1) (by rw [S_len]; omega)
  rw [L_S] at e
  show (match PySem.intText? (S l) with | some n => if (S l).length ≤ 640 then some (PyData.int n) else none | none => none) = _
  rw [e]
  show (if (S l).length ≤ 640 then _ else _) = _
  rw [S_len, if_pos h2]
/-- cut at the first c -/
theorem at_one (l : List Nat) (c i : Nat) : StrLaws.At (S l) ⟨#[c]⟩ (S l).length i ↔ l[i]? = some c := by
  have := StrLaws.subAt_one (S l) c i
  rw [L_S] at this
  exact this
theorem part_at {u v : List Nat} {c : Nat} (hc : c ∉ u) : Txt.partition (S (u ++ c :: v)) ⟨#[c]⟩ = (S u, ⟨#[c]⟩, S v) := by
  have hu : (u ++ c :: v)[u.length]? = some c := by rw [List.getElem?_append_right (Nat.le_refl _)]; simp
  unfold Txt.partition
  rcases StrLaws.occ_head (S (u ++ c :: v)) ⟨#[c]⟩ 1 (Nat.le_refl 1) with ⟨_, hn⟩ | ⟨i, r, h0, hi, hn⟩
  · exact absurd ((at_one _ c _).mpr hu) (hn u.length)
  · have e : i = u.length := by
      rcases Nat.lt_trichotomy i u.length with h | h | h
      · exfalso
        have h1 := (at_one _ c i).mp hi
        rw [List.getElem?_append_left h] at h1
        exact hc (List.mem_of_getElem? h1)
      · exact h
      · exact absurd ((at_one _ c _).mpr hu) (hn u.length h)
    subst e
    rw [h0]
    show (Builtin.Str.strSub _ 0 u.length, _, Builtin.Str.strSub _ (u.length + 1) _) = _
    have s1 : Builtin.Str.strSub (S (u ++ c :: v)) 0 u.length = S u := by
      rw [← S_L (Builtin.Str.strSub _ _ _), StrLaws.strSub_toList, L_S]
      simp
    have s2 : Builtin.Str.strSub (S (u ++ c :: v)) (u.length + 1) (S (u ++ c :: v)).length = S v := by
      rw [← S_L (Builtin.Str.strSub _ _ _), StrLaws.strSub_toList, L_S, S_len]
      have e : u ++ c :: v = (u ++ [c]) ++ v := by simp
      have l1 : u.length + 1 = (u ++ [c]).length := by simp
      rw [e, l1, List.drop_left]
      congr 1
      refine List.take_of_length_le ?_
      rw [List.length_append]
      omega
    rw [s1, s2]
theorem part_no {u : List Nat} {c : Nat} (hc : c ∉ u) : Txt.partition (S u) ⟨#[c]⟩ = (S u, Str.empty, Str.empty) := by
  unfold Txt.partition
  rcases StrLaws.occ_head (S u) ⟨#[c]⟩ 1 (Nat.le_refl 1) with ⟨h0, _⟩ | ⟨i, r, h0, hi, hn⟩
  · rw [h0]
  · exact absurd (List.mem_of_getElem? ((at_one _ c i).mp hi)) hc
end TX
namespace DL
open PySem PySem.Spec L2
section
variable {δ : DS} {f g k : DS → M D} {fa : DS → M (List D)} {x d : D}
theorem ev_meth {h : Str → List D → Option D} {z : Str} {xs : List D} (h1 : f δ = M.ret (.str z)) (h2 : fa δ = M.ret xs) (h3 : h z xs = some d) : dMeth h f fa δ = M.ret d := by
  unfold dMeth
  rw [h1]
  show (fa δ).thn _ = _
  rw [h2]
  show M.lift (h z xs) = _
  rw [h3]
  rfl
theorem ev_fv {z : Str} (h1 : f δ = M.ret (.str z)) (hz : small z.length = true) : dFV f δ = M.ret (.str z) := by
  unfold dFV
  rw [h1]
  show (match txtOf (.str z) with | some z => M.ret (PyData.str z) | none => none) = _
  unfold txtOf
  dsimp only
  rw [if_pos hz]
theorem ev_join0 {out : Str} (hz : small out.length = true) : joinD [] out δ = M.ret (.str out) := by unfold joinD; rw [if_pos hz]
theorem ev_joinC {fs : List (DS → M D)} {out z y : Str} (h1 : f δ = M.ret (.str z)) (hz : small (out ++ z).length = true) (h2 : joinD fs (out ++ z) δ = M.ret (.str y)) : joinD (f :: fs) out δ = M.ret (.str y) := by
  show (f δ).thn _ = _
  rw [h1]
  show (if small (out ++ z).length = true then _ else _) = _
  rw [if_pos hz, h2]
theorem ev_chain {h h' : D → D → Option D} {y w : D} {b1 b2 : Bool} (h1 : f δ = M.ret x) (h2 : g δ = M.ret y) (h3 : h x y = some (.bool b1)) (h4 : k δ = M.ret w) (h5 : h' y w = some (.bool b2)) : dChain h h' f g k δ = M.ret (.bool (b1 && b2)) := by
  unfold dChain
  rw [h1, thn_ret, h2, thn_ret, h3, lift_some, thn_ret]
  cases b1
  · rfl
  · show (k δ).thn _ = _
    rw [h4, thn_ret, h5]
    rfl
theorem ev_cutS {fl fh : DS → M (Option Int)} {lo hi : Option Int} (h1 : f δ = M.ret x) (h2 : fl δ = M.ret lo) (h3 : fh δ = M.ret hi) (h4 : oCutS lo hi x = some d) : dCutS f fl fh δ = M.ret d := by
  unfold dCutS; rw [h1, thn_ret, h2, thn_ret, h3, thn_ret, h4]; rfl
theorem o_leD {i j : Int} : oLeD (.int i) (.int j) = some (.bool (decide (i ≤ j))) := rfl
theorem o_neS {a b : Str} (ha : PyData.strOk a = true) (hb : PyData.strOk b = true) : oNe (.str a) (.str b) = some (.bool (!(a == b))) := by
  unfold oNe flat
  simp [PyData.canLay0, PyData.depth, PyData.eqv, ha, hb]
theorem o_eqS {a b : Str} (ha : PyData.strOk a = true) (hb : PyData.strOk b = true) : oEq (.str a) (.str b) = some (.bool (a == b)) := by
  unfold oEq flat
  simp [PyData.canLay0, PyData.depth, PyData.eqv, ha, hb]
end
end DL
namespace TX
open PySem PySem.Spec L2 DL NumText
theorem S_beq (a b : List Nat) : (S a == S b) = decide (a = b) := by
  by_cases h : a = b
  · subst h
    rw [decide_eq_true rfl]
    exact beq_self_eq_true _
  · rw [decide_eq_false h]
    refine beq_eq_false_iff_ne.mpr fun e => h (S_inj e)
def isF (c : Nat) : Bool := decide (48 ≤ c ∧ c ≤ 57)
def isFig (l : List Nat) : Bool := !decide (l = []) && l.all isF
def hasF (k : Nat) (l : List Nat) : Bool := decide (l.length = k) && isFig l
def hrs (l : List Nat) : Bool := hasF 2 l || (decide (3 ≤ l.length ∧ l.length ≤ 20) && (isFig l && !decide (l.head? = some 48)))
def six (l : List Nat) : Bool := hasF 2 l && decide (digitsVal l < 60)
theorem isFig_of {l : List Nat} (h0 : l ≠ []) (h : ∀ c ∈ l, 48 ≤ c ∧ c ≤ 57) : isFig l = true := by
  unfold isFig
  rw [decide_eq_false h0, Bool.not_false, Bool.true_and, List.all_eq_true]
  exact fun c hc => decide_eq_true (h c hc)
theorem isFig_ne {l : List Nat} (h : isFig l = true) : l ≠ [] := by
  unfold isFig at h
  rw [Bool.and_eq_true] at h
  simpa using h.1
theorem isFig_mem {l : List Nat} (h : isFig l = true) : ∀ c ∈ l, 48 ≤ c ∧ c ≤ 57 := by
  unfold isFig at h
  rw [Bool.and_eq_true, List.all_eq_true] at h
  exact fun c hc => of_decide_eq_true (h.2 c hc)
def pre (c : Nat) (l : List Nat) : List Nat := l.takeWhile (· != c)
def post (c : Nat) (l : List Nat) : List Nat := (l.dropWhile (· != c)).drop 1
theorem pre_mem (c : Nat) (l : List Nat) : c ∉ pre c l := by
  induction l with
  | nil => intro h; cases h
  | cons a r ih =>
    unfold pre at ih ⊢
    by_cases h : a = c
    · subst h
      rw [List.takeWhile_cons_of_neg (by simp)]
      intro h; cases h
    · rw [List.takeWhile_cons_of_pos (by simpa using h)]
      intro hm
      rcases List.mem_cons.mp hm with e | e
      · exact h e.symm
      · exact ih e
theorem pre_app {c : Nat} {u v : List Nat} (h : c ∉ u) : pre c (u ++ c :: v) = u ∧ post c (u ++ c :: v) = v := by
  induction u with
  | nil =>
    unfold pre post
    rw [List.nil_append, List.takeWhile_cons_of_neg (by simp), List.dropWhile_cons_of_neg (by simp)]
    exact ⟨rfl, rfl⟩
  | cons a r ih =>
    have ha : a ≠ c := fun e => h (e ▸ List.mem_cons_self)
    have ih := ih (fun e => h (List.mem_cons_of_mem _ e))
    unfold pre post at ih ⊢
    rw [List.cons_append, List.takeWhile_cons_of_pos (by simpa using ha), List.dropWhile_cons_of_pos (by simpa using ha), ih.1, ih.2]
    exact ⟨rfl, rfl⟩
theorem pre_no {c : Nat} {u : List Nat} (h : c ∉ u) : pre c u = u ∧ post c u = [] := by
  induction u with
  | nil => exact ⟨rfl, rfl⟩
  | cons a r ih =>
    have ha : a ≠ c := fun e => h (e ▸ List.mem_cons_self)
    have ih := ih (fun e => h (List.mem_cons_of_mem _ e))
    unfold pre post at ih ⊢
    rw [List.takeWhile_cons_of_pos (by simpa using ha), List.dropWhile_cons_of_pos (by simpa using ha), ih.1, ih.2]
    exact ⟨rfl, rfl⟩
theorem cut_or (c : Nat) (l : List Nat) : (c ∉ l ∧ pre c l = l ∧ post c l = []) ∨ l = pre c l ++ c :: post c l := by
  by_cases h : c ∈ l
  · right
    induction l with
    | nil => cases h
    | cons a r ih =>
      by_cases ha : a = c
      · subst ha
        have := pre_app (c := a) (u := []) (v := r) (by simp)
        rw [List.nil_append] at this
        rw [this.1, this.2]
        rfl
      · have hr : c ∈ r := by
          rcases List.mem_cons.mp h with e | e
          · exact absurd e.symm ha
          · exact e
        have ih := ih hr
        unfold pre post at ih ⊢
        rw [List.takeWhile_cons_of_pos (by simpa using ha), List.dropWhile_cons_of_pos (by simpa using ha), List.cons_append, ← ih]
  · exact .inl ⟨h, pre_no h⟩
theorem part_any (c : Nat) (l : List Nat) : ∃ w, Txt.partition (S l) ⟨#[c]⟩ = (S (pre c l), w, S (post c l)) := by
  rcases cut_or c l with ⟨h, e1, e2⟩ | e
  · rw [e1, e2]
    exact ⟨_, part_no h⟩
  · have := part_at (c := c) (v := post c l) (pre_mem c l)
    rw [← e] at this
    exact ⟨_, this⟩
theorem pre_len (c : Nat) (l : List Nat) : (pre c l).length ≤ l.length ∧ (post c l).length ≤ l.length := by
  rcases cut_or c l with ⟨h, e1, e2⟩ | e
  · rw [e1, e2]
    exact ⟨Nat.le_refl _, Nat.zero_le _⟩
  · have := congrArg List.length e
    rw [List.length_append, List.length_cons] at this
    omega
theorem o_part {c : Nat} {l : List Nat} (hl : l.length ≤ 1000) : ∃ w, sPartition (S l) [.str ⟨#[c]⟩] = some (.tuple [.str (S (pre c l)), .str w, .str (S (post c l))]) := by
  obtain ⟨w, e⟩ := part_any c l
  refine ⟨w, ?_⟩
  unfold sPartition
  dsimp only
  rw [if_pos, e]
  rw [Bool.and_eq_true]
  refine ⟨rfl, ?_⟩
  rw [S_len]
  exact small_of (by omega)
theorem ix_sign {l : List Nat} {i : Int} {c : Nat} (hl : l.length ≤ 1000) (h0 : 0 ≤ i) (h : l[i.toNat]? = some c) : oIx (.str (S l)) (.int i) = some (.str ⟨#[c]⟩) := by
  show (if small (S l).length = true then _ else _) = _
  rw [if_pos (by rw [S_len]; exact small_of (by omega)), L_S]
  have e := L2.atI_nat h
  rw [Int.toNat_of_nonneg h0] at e
  rw [e]
  rfl
end TX
open PySem PySem.Spec L2 DL CT TX NumText
namespace TX
theorem ok_S {l : List Nat} (h : ∀ c ∈ l, c < 1114112) : PyData.strOk (S l) = true := by
  unfold PyData.strOk S
  rw [← Array.all_toList]
  simpa using h
theorem o_neT {a b : List Nat} (ha : ∀ c ∈ a, c < 1114112) (hb : ∀ c ∈ b, c < 1114112) : oNe (.str (S a)) (.str (S b)) = some (.bool (!decide (a = b))) := by rw [o_neS (ok_S ha) (ok_S hb), S_beq]
def Uc (l : List Nat) : Prop := ∀ c ∈ l, c < 1114112
theorem lenT {l : List Nat} (h : l.length ≤ 1000) : oLen [.str (S l)] = some (.int ((l.length : Nat) : Int)) := by
  show (if small (S l).length = true then _ else _) = _
  rw [S_len, if_pos (small_of (by omega))]
theorem bools_mapN (l : List Nat) (p : Nat → Bool) : bools (l.map fun c => PyData.bool (p c)) = some (l.map p) := by
  induction l with
  | nil => rfl
  | cons a r ih =>
    show (bools (r.map fun c => PyData.bool (p c))).map _ = _
    rw [ih]
    rfl
end TX
namespace CT
theorem in_figs (c : Nat) : oInS (.str ⟨#[c]⟩) (.str "0123456789") = some (.bool (isF c)) := by
  show some (PyData.bool _) = _
  rw [StrLaws.found_one]
  congr 2
  unfold isF
  have : ("0123456789" : Str).cps.toList = [48, 49, 50, 51, 52, 53, 54, 55, 56, 57] := by decide
  rw [this]
  refine decide_eq_decide.mpr ?_
  simp only [List.mem_cons, List.not_mem_nil, or_false]
  omega
theorem are_figures_ev {l : List Nat} (hl : l.length ≤ 1000) (hu : Uc l) : F_are_figures [.str (S l)] = M.ret (.bool (isFig l)) := by
  refine ev_run (ev_ret ?_)
  have h1 : oNe (.str (S l)) (.str "") = some (.bool (!decide (l = []))) := o_neT (b := []) hu (fun _ h => nomatch h)
  refine ev_andV (ev_2 (ev_var rfl) ev_c h1) ?_
  refine ev_cb (ev_cons (ev_compG (ds := signsD (S l)) (ys := l.map fun c => .bool (isF c)) (ev_any (x := .str (S l)) (ev_var rfl) rfl) ?_ ?_) ev_nil) ?_
  · unfold signsD
    rw [List.length_map, L_S]
    exact small_of (by omega)
  · have := ev_compM (t := tgN 0) (f := d2 oInS (dVar 0) (dC (.str "0123456789"))) (h := fun d => match d with | .str z => .bool (z.cps.toList.all isF) | _ => .none) (fun δ => ∃ x, δ = [x]) (signsD (S l)) [.un] ⟨_, rfl⟩ (fun d hd δ hδ => by
      obtain ⟨x, rfl⟩ := hδ
      unfold signsD at hd
      obtain ⟨c, _, rfl⟩ := List.mem_map.mp hd
      refine ⟨[.vl (.str ⟨#[c]⟩)], rfl, ?_, _, rfl⟩
      refine ev_2 (ev_var rfl) ev_c ?_
      rw [in_figs]
      simp)
    refine Eq.trans this ?_
    unfold signsD
    rw [List.map_map, L_S]
    congr 1
    refine List.map_congr_left fun c _ => ?_
    show PyData.bool _ = _
    simp
  · show (bools _).map _ = _
    rw [bools_mapN]
    show some (PyData.bool _) = _
    rw [List.all_map]
    rfl
theorem has_figures_ev {l : List Nat} {k : Nat} (hl : l.length ≤ 1000) (hu : Uc l) : F_has_figures [.str (S l), .int (k : Nat)] = M.ret (.bool (hasF k l)) := by
  have h1 := are_figures_ev hl hu
  have h2 := lenT hl
  refine ev_run (ev_ret ?_)
  unfold hasF
  refine ev_andV (ev_2 (ev_cb (by walk_at "ev") h2) (ev_var rfl) ?_) (by walk_at "ev")
  rw [o_eq]
  congr 2
  refine decide_eq_decide.mpr ?_
  omega
theorem are_sixtieths_ev {l : List Nat} (hl : l.length ≤ 1000) (hu : Uc l) : F_are_sixtieths [.str (S l)] = M.ret (.bool (six l)) := by
  have h1 := has_figures_ev (k := 2) hl hu
  refine ev_run (ev_ret ?_)
  unfold six
  by_cases h : hasF 2 l = true
  · rw [h, Bool.true_and]
    rw [h] at h1
    refine ev_andV_t (ev_call (ds := [.str (S l), .int 2]) (by walk_at "ev") h1) ?_
    have h2 := h
    unfold hasF at h2
    rw [Bool.and_eq_true, decide_eq_true_eq] at h2
    have h3 := int_digits (isFig_mem h2.2) (isFig_ne h2.2) (by omega)
    refine ev_2 (ev_cb (ev_cons (ev_var rfl) ev_nil) h3) ev_c ?_
    first | rw [o_lt] | rw [o_ltD]
    congr 2
    refine decide_eq_decide.mpr ?_
    omega
  · have h := Bool.not_eq_true _ ▸ h
    rw [h, Bool.false_and]
    rw [h] at h1
    exact ev_andV_f (ev_call (ds := [.str (S l), .int 2]) (by walk_at "ev") h1)
theorem are_hours_ev {l : List Nat} (hl : l.length ≤ 1000) (hu : Uc l) : F_are_hours [.str (S l)] = M.ret (.bool (hrs l)) := by
  have h1 := has_figures_ev (k := 2) hl hu
  have h2 := are_figures_ev hl hu
  refine ev_run ?_
  unfold hrs g_are_hours
  by_cases h : hasF 2 l = true
  · rw [h, Bool.true_or]
    rw [h] at h1
    refine ev_seqIf (b := true) (ev_b (ev_call (ds := [.str (S l), .int 2]) (by walk_at "ev") h1)) (ite_T rfl (ev_seqR (ev_ret ev_c)))
  · have h := Bool.not_eq_true _ ▸ h
    rw [h, Bool.false_or]
    rw [h] at h1
    refine ev_seqIf (b := false) (ev_b (ev_call (ds := [.str (S l), .int 2]) (by walk_at "ev") h1)) (ite_F rfl (ev_seqN (ev_ret ?_)))
    have h3 := lenT hl
    have hc : dChain oLeD oLeD (dC (.int 3)) (dCB oLen (dCons (dVar 0) dNil)) (dC (.int 20)) (startD 1 [.str (S l)]) = M.ret (.bool (decide (3 ≤ l.length ∧ l.length ≤ 20))) := by
      have := ev_chain (h := oLeD) (h' := oLeD) (f := dC (.int 3)) (g := dCB oLen (dCons (dVar 0) dNil)) (k := dC (.int 20)) (δ := startD 1 [.str (S l)]) ev_c (ev_cb (ev_cons (ev_var rfl) ev_nil) h3) o_leD ev_c o_leD
      rw [this]
      congr 2
      rw [← Bool.decide_and]
      refine decide_eq_decide.mpr ?_
      omega
    cases hb : isFig l with
    | false =>
      rw [hb] at h2
      refine ev_andV hc ?_
      rw [Bool.false_and]
      exact ev_andV_f (ev_call (ds := [.str (S l)]) (by walk_at "ev") h2)
    | true =>
      rw [hb] at h2
      refine ev_andV hc (ev_andV (ev_call (ds := [.str (S l)]) (by walk_at "ev") h2) ?_)
      cases l with
      | nil => exact absurd rfl (isFig_ne hb)
      | cons c r =>
        refine ev_2 (ev_2 (ev_var rfl) ev_c (ix_sign (c := c) hl (by decide) rfl)) ev_c ?_
        have : oNe (.str (S [c])) (.str (S [48])) = some (.bool (!decide ([c] = [48]))) := o_neT (fun d hd => hu d (by rw [List.mem_singleton] at hd; rw [hd]; exact List.mem_cons_self)) (by decide)
        refine Eq.trans this ?_
        congr 3
        refine decide_eq_decide.mpr ?_
        simp
end CT
open PySem PySem.Spec L2 DL CT TX NumText
namespace TX
theorem Uc_pre {l : List Nat} (c : Nat) (h : Uc l) : Uc (pre c l) := fun x hx => h x ((List.takeWhile_sublist _).subset hx)
theorem Uc_post {l : List Nat} (c : Nat) (h : Uc l) : Uc (post c l) := fun x hx => h x ((List.dropWhile_sublist _).subset (List.mem_of_mem_drop hx))
/-- h:m:s sign t -/
def pH (l : List Nat) : List Nat := pre 58 l
def pM (l : List Nat) : List Nat := pre 58 (post 58 l)
def pS (sg : Nat) (l : List Nat) : List Nat := pre sg (post 58 (post 58 l))
def pT (sg : Nat) (l : List Nat) : List Nat := post sg (post 58 (post 58 l))
def good (sg k : Nat) (l : List Nat) : Bool := hrs (pH l) && (six (pM l) && six (pS sg l)) && hasF k (pT sg l)
theorem hasF_get {k : Nat} {l : List Nat} (h : hasF k l = true) : l.length = k ∧ isFig l = true := by
  unfold hasF at h
  rw [Bool.and_eq_true, decide_eq_true_eq] at h
  exact h
theorem six_get {l : List Nat} (h : six l = true) : l.length = 2 ∧ isFig l = true ∧ digitsVal l < 60 := by
  unfold six at h
  rw [Bool.and_eq_true, decide_eq_true_eq] at h
  exact ⟨(hasF_get h.1).1, (hasF_get h.1).2, h.2⟩
theorem hrs_get {l : List Nat} (h : hrs l = true) : l.length ≤ 20 ∧ isFig l = true := by
  unfold hrs at h
  simp only [Bool.or_eq_true, Bool.and_eq_true, decide_eq_true_eq] at h
  rcases h with h | h
  · have := hasF_get h
    exact ⟨by omega, this.2⟩
  · exact ⟨h.1.2, h.2.1⟩
theorem int_fig {l : List Nat} (h : isFig l = true) (hl : l.length ≤ 100) : oIntS [.str (S l)] = some (.int ((digitsVal l : Nat) : Int)) := int_digits (isFig_mem h) (isFig_ne h) (by omega)
end TX
namespace CT
theorem ev_isStr {δ : DS} {f : DS → M D} {z : Str} (h : f δ = M.ret (.str z)) : dIs "str" f δ = M.ret (.bool true) := by
  rw [ev_is h]
  simp [isD, tyD]
theorem read_parts_ev {l : List Nat} {sg k : Nat} (hl : l.length ≤ 900) (hu : Uc l) (hk : k ≤ 100) (hg : good sg k l = true) :
    F_read_parts [.str (S l), .str ⟨#[sg]⟩, .int (k : Nat)] = M.ret (.tuple [.int (digitsVal (pH l) : Nat), .int (digitsVal (pM l) : Nat), .int (digitsVal (pS sg l) : Nat), .int (digitsVal (pT sg l) : Nat)]) := by
  have hg0 := hg
  unfold good at hg0
  rw [Bool.and_eq_true, Bool.and_eq_true, Bool.and_eq_true] at hg0
  obtain ⟨⟨g1, g2, g3⟩, g4⟩ := hg0
  obtain ⟨w1, p1⟩ := o_part (c := 58) (l := l) (by omega)
  have l1 := pre_len 58 l
  obtain ⟨w2, p2⟩ := o_part (c := 58) (l := post 58 l) (by omega)
  have l2 := pre_len 58 (post 58 l)
  obtain ⟨w3, p3⟩ := o_part (c := sg) (l := post 58 (post 58 l)) (by omega)
  have l3 := pre_len sg (post 58 (post 58 l))
  have e1 := are_hours_ev (l := pH l) (by unfold pH; omega) (Uc_pre _ hu)
  have e2 := are_sixtieths_ev (l := pM l) (by unfold pM; omega) (Uc_pre _ (Uc_post _ hu))
  have e3 := are_sixtieths_ev (l := pS sg l) (by unfold pS; omega) (Uc_pre _ (Uc_post _ (Uc_post _ hu)))
  have e4 := has_figures_ev (l := pT sg l) (k := k) (by unfold pT; omega) (Uc_post _ (Uc_post _ (Uc_post _ hu)))
  rw [g1] at e1
  rw [g2] at e2
  rw [g3] at e3
  rw [g4] at e4
  have i1 := int_fig (hrs_get g1).2 (by have := (hrs_get g1).1; omega)
  have i2 := int_fig (six_get g2).2.1 (by have := (six_get g2).1; omega)
  have i3 := int_fig (six_get g3).2.1 (by have := (six_get g3).1; omega)
  have i4 := int_fig (hasF_get g4).2 (by have := (hasF_get g4).1; omega)
  refine ev_run ?_
  unfold g_read_parts
  refine ev_pass (b := false) (ev_not (b := true) (ev_b (ev_isStr (ev_var rfl)))) rfl ?_
  refine ev_seq (ev_asg (ev_meth (ev_var rfl) (ev_cons ev_c ev_nil) p1)) ?_
  refine ev_seq (ev_asg (ev_meth (ev_2 (ev_var rfl) ev_c rfl) (ev_cons ev_c ev_nil) p2)) ?_
  refine ev_seq (ev_asg (ev_meth (ev_2 (ev_var rfl) ev_c rfl) (ev_cons (ev_var rfl) ev_nil) p3)) ?_
  refine ev_pass (b := false) (ev_not (b := true) (ev_and (b1 := true) (ev_b (ev_call (ev_cons (ev_2 (ev_var rfl) ev_c rfl) ev_nil) e1)) (ev_and (b1 := true) (b2 := true) (ev_b (ev_call (ev_cons (ev_2 (ev_var rfl) ev_c rfl) ev_nil) e2)) (ev_b (ev_call (ev_cons (ev_2 (ev_var rfl) ev_c rfl) ev_nil) e3))))) rfl ?_
  refine ev_pass (b := false) (ev_not (b := true) (ev_b (ev_call (ev_cons (ev_2 (ev_var rfl) ev_c rfl) (ev_cons (ev_var rfl) ev_nil)) e4))) rfl ?_
  refine ev_ret (ev_tup (ev_cons (ev_cb (ev_cons (ev_2 (ev_var rfl) ev_c rfl) ev_nil) i1) (ev_cons (ev_cb (ev_cons (ev_2 (ev_var rfl) ev_c rfl) ev_nil) i2) (ev_cons (ev_cb (ev_cons (ev_2 (ev_var rfl) ev_c rfl) ev_nil) i3) (ev_cons (ev_cb (ev_cons (ev_2 (ev_var rfl) ev_c rfl) ev_nil) i4) ev_nil)))) rfl)
end CT
namespace TX
end TX
open PySem PySem.Spec L2 DL CT TX NumText
namespace TX
theorem o_strN {v : Int} (h : v.natAbs < 1267650600228229401496703205376) : oStr [.int v] = some (.str (Str.ofString (toString v))) := by
  refine if_pos ?_
  by_cases hz : v.natAbs = 0
  · rw [hz]; decide
  · have : v.natAbs.log2 < 100 := (Nat.log2_lt hz).mpr (by
      have e : (2 : Nat) ^ 100 = 1267650600228229401496703205376 := by decide
      omega)
    omega
theorem o_divN {n k m : Nat} (hk : 0 < k) (hk2 : k < 1267650600228229401496703205376) (h : n / k = m) : oDiv (.int (n : Nat)) (.int (k : Nat)) = some (.int (m : Nat)) := by
  rw [o_div (bDiv_of (by omega) (by omega)), ← h]
  rfl
theorem o_modN {n k m : Nat} (hk : 0 < k) (h : n % k = m) : oMod (.int (n : Nat)) (.int (k : Nat)) = some (.int (m : Nat)) := by
  rw [o_mod (by omega), ← h]
  rfl
theorem fg_le {k n j : Nat} (h : n < 10 ^ j) : (fg k n).length ≤ k + j := by
  unfold fg
  have := digs_len j n h
  rw [List.length_append, List.length_replicate]
  omega
theorem pads : ∀ k : Nat, k ≤ 100 → PadOk (k : Nat) = true := fun k hk => (show ∀ k : Nat, k < 101 → PadOk (k : Nat) = true by decide +kernel) k (by omega)
theorem S_zfill {n k : Nat} (hk : 1 ≤ k) (hk2 : k ≤ 100) : sZfill (Str.ofString (toString ((n : Nat) : Int))) [.int (k : Nat)] = some (.str (S (fg k n))) := by
  unfold sZfill
  dsimp only
  rw [if_pos (pads k hk2), zfill_num hk]
def txt (sg k h m s t : Nat) : List Nat := fg 2 h ++ 58 :: (fg 2 m ++ 58 :: (fg 2 s ++ sg :: fg k t))
end TX
open PySem PySem.Spec L2 DL TX NumText
namespace TX
theorem digs_head {n : Nat} (h : n ≠ 0) : ∃ c r, digs n = c :: r ∧ c ≠ 48 := by
  induction n using Nat.strongRecOn with
  | _ n ih =>
    rw [digs_pos h]
    by_cases hz : n / 10 = 0
    · rw [hz, digs_zero]
      exact ⟨_, _, rfl, by omega⟩
    · obtain ⟨c, r, e, hc⟩ := ih (n / 10) (by omega) hz
      rw [e]
      exact ⟨c, _, rfl, hc⟩
theorem fg_ne {k n : Nat} (hk : 1 ≤ k) : fg k n ≠ [] := by
  rw [fg_step (.inr (by omega))]
  simp
theorem hrs_fg {h : Nat} (hh : h < 10 ^ 20) : hrs (fg 2 h) = true := by
  have hf := isFig_of (fg_ne (k := 2) (n := h) (by decide)) (fg_digits 2 h)
  unfold hrs hasF
  by_cases h2 : h < 100
  · rw [fg_len (k := 2) (by omega), hf]
    rfl
  · have l1 := digs_len_ge 2 h (by omega)
    have l2 := digs_len 20 h hh
    have e : fg 2 h = digs h := by
      unfold fg
      rw [show 2 - (digs h).length = 0 by omega]
      rfl
    obtain ⟨c, r, e2, hc⟩ := digs_head (n := h) (by omega)
    rw [hf, e]
    rw [decide_eq_true (show 3 ≤ (digs h).length ∧ (digs h).length ≤ 20 by omega), e2, decide_eq_false (show ¬ (List.head? (c :: r) = some 48) by simpa using hc)]
    simp
theorem six_fg {m : Nat} (hm : m < 60) : six (fg 2 m) = true := by
  unfold six hasF
  rw [fg_len (k := 2) (by omega), isFig_of (fg_ne (by decide)) (fg_digits 2 m), val_fg, decide_eq_true hm]
  rfl
theorem hasF_fg {k t : Nat} (hk : 1 ≤ k) (ht : t < 10 ^ k) : hasF k (fg k t) = true := by
  unfold hasF
  rw [fg_len ht, isFig_of (fg_ne hk) (fg_digits k t), decide_eq_true rfl]
  rfl
theorem no_fig {k n c : Nat} (hc : c < 48 ∨ 57 < c) : c ∉ fg k n := fun h => by
  have := fg_digits k n c h
  omega
theorem parts_txt {sg k h m s t : Nat} (hsg : sg < 48 ∨ 57 < sg) : pH (txt sg k h m s t) = fg 2 h ∧ pM (txt sg k h m s t) = fg 2 m ∧ pS sg (txt sg k h m s t) = fg 2 s ∧ pT sg (txt sg k h m s t) = fg k t := by
  unfold pH pM pS pT txt
  have e1 := pre_app (c := 58) (u := fg 2 h) (v := fg 2 m ++ 58 :: (fg 2 s ++ sg :: fg k t)) (no_fig (by omega))
  have e2 := pre_app (c := 58) (u := fg 2 m) (v := fg 2 s ++ sg :: fg k t) (no_fig (by omega))
  have e3 := pre_app (c := sg) (u := fg 2 s) (v := fg k t) (no_fig hsg)
  rw [e1.1, e1.2, e2.1, e2.2, e3.1, e3.2]
  exact ⟨rfl, rfl, rfl, rfl⟩
theorem good_txt {sg k h m s t : Nat} (hsg : sg < 48 ∨ 57 < sg) (hh : h < 10 ^ 20) (hm : m < 60) (hs : s < 60) (hk : 1 ≤ k) (ht : t < 10 ^ k) : good sg k (txt sg k h m s t) = true := by
  obtain ⟨e1, e2, e3, e4⟩ := parts_txt (sg := sg) (k := k) (h := h) (m := m) (s := s) (t := t) hsg
  unfold good
  rw [e1, e2, e3, e4, hrs_fg hh, six_fg hm, six_fg hs, hasF_fg hk ht]
  rfl
theorem Uc_txt {sg k h m s t : Nat} (hsg : sg < 200) : Uc (txt sg k h m s t) := by
  intro c hc
  unfold txt at hc
  simp only [List.mem_append, List.mem_cons] at hc
  rcases hc with hc | rfl | hc | rfl | hc | rfl | hc
  · have := fg_digits _ _ c hc; omega
  · omega
  · have := fg_digits _ _ c hc; omega
  · omega
  · have := fg_digits _ _ c hc; omega
  · omega
  · have := fg_digits _ _ c hc; omega
theorem txt_len {sg k h m s t : Nat} (hh : h < 10 ^ 30) (hm : m < 10 ^ 2) (hs : s < 10 ^ 2) (ht : t < 10 ^ k) : (txt sg k h m s t).length ≤ 39 + k := by
  have l1 := fg_le (k := 2) hh
  have l2 := fg_len hm
  have l3 := fg_len hs
  have l4 := fg_len ht
  unfold txt
  simp only [List.length_append, List.length_cons]
  omega
end TX
open PySem PySem.Spec L2 DL TX NumText
namespace TX
/-- a cut's ends -/
def cLo (n : Nat) : Option Int → Nat
  | none => 0
  | some i => (max 0 (min (if i < 0 then i + n else i) n)).toNat
def cHi (n : Nat) : Option Int → Nat
  | none => n
  | some i => (max 0 (min (if i < 0 then i + n else i) n)).toNat
end TX
open PySem PySem.Spec L2 DL
namespace DL
section
variable {δ δ' : DS} {c : DS → M Bool} {f : DS → M D} {t : D → DS → Option DS} {y d : D} {ds ys : List D}
end
end DL
namespace DL
theorem forD_cons {body : D → DS → M Out} {d : D} {ds : List D} {δ δ' : DS} {r : M Out} (h1 : body d δ = M.ret (.nx δ')) (h2 : forD body ds δ' = r) : forD body (d :: ds) δ = r := by
  show (body d δ).thn _ = _
  rw [h1]
  exact h2
end DL
namespace DL
section
variable {f fi : DS → M D} {δ : DS} {ds es : List D} {d : D} {i j m : Nat} {k n a : Int}
end
end DL
namespace DL
end DL
open PySem PySem.Spec L2 DL CT TX NumText
namespace CT
/-- texts with a sign between -/
def jn (c : Nat) : List (List Nat) → List Nat
  | [] => []
  | [a] => a
  | a :: b :: r => a ++ c :: jn c (b :: r)
/-- as many signs -/
def tot : List (List Nat) → Nat
  | [] => 0
  | a :: r => a.length + 1 + tot r
end CT
open PySem PySem.Spec L2 DL CT TX NumText
namespace CT
theorem show_parts_ev {sg k h m s t : Nat} (k1 : 1 ≤ k) (k2 : k ≤ 100) (hh : h < 10 ^ 30) (hm : m < 10 ^ 30) (hs : s < 10 ^ 30) (ht : t < 10 ^ 30) :
    F_show_parts [.tuple [.int (h : Nat), .int (m : Nat), .int (s : Nat), .int (t : Nat)], .str (S [sg]), .int (k : Nat)] = M.ret (.str (S (txt sg k h m s t))) := by
  have st : ∀ n : Nat, n < 10 ^ 30 → oStr [.int (n : Nat)] = some (.str (Str.ofString (toString ((n : Nat) : Int)))) := fun n hn => o_strN (by omega)
  have l1 := fg_le (k := 2) hh
  have l2 := fg_le (k := 2) hm
  have l3 := fg_le (k := 2) hs
  have l4 := fg_le (k := k) ht
  refine ev_run ?_
  unfold g_show_parts
  refine ev_seq (ev_asg (ev_meth (ev_cb (ev_cons (ev_2 (ev_var rfl) ev_c rfl) ev_nil) (st h hh)) (ev_cons ev_c ev_nil) (S_zfill (k := 2) (by decide) (by decide)))) ?_
  refine ev_seq (ev_asg (ev_meth (ev_cb (ev_cons (ev_2 (ev_var rfl) ev_c rfl) ev_nil) (st m hm)) (ev_cons ev_c ev_nil) (S_zfill (k := 2) (by decide) (by decide)))) ?_
  refine ev_seq (ev_asg (ev_meth (ev_cb (ev_cons (ev_2 (ev_var rfl) ev_c rfl) ev_nil) (st s hs)) (ev_cons ev_c ev_nil) (S_zfill (k := 2) (by decide) (by decide)))) ?_
  refine ev_seq (ev_asg (ev_meth (ev_cb (ev_cons (ev_2 (ev_var rfl) ev_c rfl) ev_nil) (st t ht)) (ev_cons (ev_var rfl) ev_nil) (S_zfill k1 k2))) ?_
  have sm : ∀ l : List Nat, l.length ≤ 1000 → small (S l).length = true := fun l hl => by rw [S_len]; exact small_of (by omega)
  have ap : ∀ (a b : List Nat), S a ++ S b = S (a ++ b) := S_app
  refine ev_ret (Eq.trans (ev_joinC (z := S (fg 2 h)) (y := S (((((([] ++ fg 2 h) ++ [58]) ++ fg 2 m) ++ [58]) ++ fg 2 s) ++ [sg] ++ fg k t)) (ev_fv (ev_var rfl) (sm _ (by omega))) ?_ ?_) ?_)
  · rw [← S_nil, S_app]
    exact sm _ (by simp only [List.length_append, List.length_nil]; omega)
  rw [← S_nil, S_app]
  refine ev_joinC (z := S [58]) ev_c ?_ ?_
  · rw [S_app]
    exact sm _ (by simp only [List.length_append, List.length_nil, List.length_singleton]; omega)
  rw [S_app]
  refine ev_joinC (z := S (fg 2 m)) (ev_fv (ev_var rfl) (sm _ (by omega))) ?_ ?_
  · rw [S_app]
    exact sm _ (by simp only [List.length_append, List.length_nil, List.length_singleton]; omega)
  rw [S_app]
  refine ev_joinC (z := S [58]) ev_c ?_ ?_
  · rw [S_app]
    exact sm _ (by simp only [List.length_append, List.length_nil, List.length_singleton]; omega)
  rw [S_app]
  refine ev_joinC (z := S (fg 2 s)) (ev_fv (ev_var rfl) (sm _ (by omega))) ?_ ?_
  · rw [S_app]
    exact sm _ (by simp only [List.length_append, List.length_nil, List.length_singleton]; omega)
  rw [S_app]
  refine ev_joinC (z := S [sg]) (ev_fv (ev_var rfl) rfl) ?_ ?_
  · rw [S_app]
    exact sm _ (by simp only [List.length_append, List.length_nil, List.length_singleton]; omega)
  rw [S_app]
  refine ev_joinC (z := S (fg k t)) (ev_fv (ev_var rfl) (sm _ (by omega))) ?_ ?_
  · rw [S_app]
    exact sm _ (by simp only [List.length_append, List.length_nil, List.length_singleton]; omega)
  rw [S_app]
  refine ev_join0 (sm _ (by simp only [List.length_append, List.length_nil, List.length_singleton]; omega))
  · unfold txt
    simp
end CT
open PySem PySem.Spec L2 DL CT TX NumText
namespace CT
theorem show_moment_ev {n : Nat} (hn : n < 10 ^ 30) : F_show_moment [.int (n : Nat)] = M.ret (.str (S (txt 46 3 (n / 3600000) (n / 60000 % 60) (n / 1000 % 60) (n % 1000)))) := by
  have h1 := show_parts_ev (sg := 46) (k := 3) (h := n / 3600000) (m := n / 60000 % 60) (s := n / 1000 % 60) (t := n % 1000) (by decide) (by decide) (by omega) (by omega) (by omega) (by omega)
  have q1 : oDiv (.int (n : Nat)) (.int 1000) = some (.int ((n / 1000 : Nat) : Int)) := o_divN (k := 1000) (by decide) (by decide) rfl
  have q2 : oDiv (.int ((n / 1000 : Nat) : Int)) (.int 60) = some (.int ((n / 60000 : Nat) : Int)) := o_divN (k := 60) (by decide) (by decide) (by omega)
  have q3 : oDiv (.int ((n / 60000 : Nat) : Int)) (.int 60) = some (.int ((n / 3600000 : Nat) : Int)) := o_divN (k := 60) (by decide) (by decide) (by omega)
  have q4 : oMod (.int ((n / 60000 : Nat) : Int)) (.int 60) = some (.int ((n / 60000 % 60 : Nat) : Int)) := o_modN (k := 60) (by decide) rfl
  have q5 : oMod (.int ((n / 1000 : Nat) : Int)) (.int 60) = some (.int ((n / 1000 % 60 : Nat) : Int)) := o_modN (k := 60) (by decide) rfl
  have q6 : oMod (.int (n : Nat)) (.int 1000) = some (.int ((n % 1000 : Nat) : Int)) := o_modN (k := 1000) (by decide) rfl
  refine ev_run ?_
  unfold g_show_moment
  refine ev_seq (ev_asg (ev_2 (ev_var rfl) ev_c q1)) ?_
  refine ev_seq (ev_asg (ev_2 (ev_var rfl) ev_c q2)) ?_
  exact ev_ret (ev_call (ev_cons (ev_tup (ev_cons (ev_2 (ev_var rfl) ev_c q3) (ev_cons (ev_2 (ev_var rfl) ev_c q4) (ev_cons (ev_2 (ev_var rfl) ev_c q5) (ev_cons (ev_2 (ev_var rfl) ev_c q6) ev_nil)))) rfl) (ev_cons ev_c (ev_cons ev_c ev_nil))) h1)
end CT
open PySem PySem.Spec L2 DL CT TX NumText
namespace CT
theorem read_moment_ev {l : List Nat} (hl : l.length ≤ 900) (hu : Uc l) (hg : good 46 3 l = true) :
    F_read_moment [.str (S l)] = M.ret (.int (1000 * (60 * (60 * (digitsVal (pH l) : Nat) + (digitsVal (pM l) : Nat)) + (digitsVal (pS 46 l) : Nat)) + (digitsVal (pT 46 l) : Nat))) := by
  have h1 := read_parts_ev hl hu (by decide) hg
  refine ev_run ?_
  unfold g_read_moment
  refine ev_seq (ev_asg (by first | exact ev_call (ev_cons (ev_var rfl) (ev_cons ev_c (ev_cons ev_c ev_nil))) h1 | exact ev_callX (ev_cons (ev_var rfl) (ev_cons ev_c (ev_cons ev_c ev_nil))) h1)) ?_
  clear h1
  obtain ⟨a, ha⟩ : ∃ a : Int, a = ((digitsVal (pH l) : Nat) : Int) := ⟨_, rfl⟩
  obtain ⟨b, hb⟩ : ∃ a : Int, a = ((digitsVal (pM l) : Nat) : Int) := ⟨_, rfl⟩
  obtain ⟨c, hc⟩ : ∃ a : Int, a = ((digitsVal (pS 46 l) : Nat) : Int) := ⟨_, rfl⟩
  obtain ⟨d, hd⟩ : ∃ a : Int, a = ((digitsVal (pT 46 l) : Nat) : Int) := ⟨_, rfl⟩
  rw [← ha, ← hb, ← hc, ← hd]
  walk_at "ev"
end CT
open PySem PySem.Spec L2 DL CT FM
namespace CT
abbrev nb (b l e : Int) : D := .tuple [.int b, .int l, .int e]
abbrev lt (h m s g : Int) : D := .tuple [.int h, .int m, .int s, .int g]
/-- a whole number from 0 on -/
def okP : D → Bool
  | .int i => decide (0 ≤ i)
  | _ => false
theorem is_whole_int (i : Int) : F_is_whole [.int i] = M.ret (.bool true) := rfl
theorem part_ev (i : Int) : (dAndV (dCall (fun ds => noX (F_is_whole ds)) (dCons (dVar 0) dNil)) (d2 oGe (dVar 0) (dC (.int 0)))) [.vl (.int i)] = M.ret (.bool (okP (.int i))) := ev_andV_t (ev_call (ds := [.int i]) (by walk_at "ev") (is_whole_int i)) (ev_2 (ev_var rfl) ev_c o_ge)
theorem bools_map (g : D → Bool) (ds : List D) : bools (ds.map fun d => PyData.bool (g d)) = some (ds.map g) := by
  induction ds with
  | nil => rfl
  | cons d ds ih =>
    show (bools (ds.map fun d => PyData.bool (g d))).map (g d :: ·) = _
    rw [ih]
    rfl
theorem o_all_map (g : D → Bool) (ds : List D) : oAll [.list (ds.map fun d => PyData.bool (g d))] = some (.bool (ds.all g)) := by
  show (bools (ds.map fun d => PyData.bool (g d))).map (fun bs => PyData.bool (bs.all id)) = _
  rw [bools_map]
  show some (PyData.bool ((ds.map g).all id)) = _
  rw [List.all_map]
  rfl
theorem has_form_tup {b l e : Int} {ds : List D} (hi : ∀ d ∈ ds, ∃ i, d = PyData.int i) (h4 : ds.length = 4) {r : D} (hr : ds.all okP = true → (dAndV (d2 oLt (d2 oIx (dVar 1) (dC (.int 1))) (dC (.int 60))) (dAndV (d2 oLt (d2 oIx (dVar 1) (dC (.int 2))) (dC (.int 60))) (d2 oLt (d2 oIx (dVar 1) (dC (.int 3))) (d2 oIx (dVar 0) (dC (.int 0)))))) [.vl (nb b l e), .vl (.tuple ds)] = M.ret r) (hn : ds.all okP = false → r = .bool false) :
    F_has_form [nb b l e, .tuple ds] = M.ret r := by
  refine ev_run ?_
  unfold g_has_form
  refine ev_pass (b := false) (ev_or_f (ev_not (b := true) (ev_b (ev_is (d := .tuple ds) (ev_var rfl)))) ?_) rfl ?_
  · refine ev_b (ev_2 (ev_cb (ds := [.tuple ds]) (by walk_at "ev") o_lenT) ev_c ?_)
    rw [o_ne, decide_eq_true (by omega)]
    rfl
  have hc : dCB oAll (dCons (dCompG 1 [] (tgN 0) (dAny (dVar 1)) dYes (dAndV (dCall (fun ds => noX (F_is_whole ds)) (dCons (dVar 0) dNil)) (d2 oGe (dVar 0) (dC (.int 0))))) dNil) (startD 2 [nb b l e, .tuple ds]) = M.ret (.bool (ds.all okP)) := by
    refine ev_cb (ev_cons (ev_compG (ev_any (x := .tuple ds) (ev_var rfl) rfl) (small_of (by omega)) (ev_compM (h := fun d => .bool (okP d)) (fun δ => ∃ s, δ = [s]) _ _ ⟨_, rfl⟩ fun d hd δ hδ => ?_)) ev_nil) (o_all_map okP ds)
    obtain ⟨s, rfl⟩ := hδ
    obtain ⟨i, rfl⟩ := hi d hd
    exact ⟨[.vl (.int i)], rfl, part_ev i, _, rfl⟩
  cases ha : ds.all okP with
  | true =>
    rw [ha] at hc
    exact ev_pass (b := false) (ev_not (b := true) (ev_b hc)) rfl (ev_ret (hr ha))
  | false =>
    rw [ha] at hc
    rw [hn ha]
    exact ev_seqIf (b := true) (ev_not (b := false) (ev_b hc)) (ite_T rfl (ev_seqR (ev_ret ev_c)))
theorem minute_ev (h m : Int) (s g : D) : F_minute_of [.tuple [.int h, .int m, s, g]] = M.ret (.int (60 * h + m)) := by
  refine ev_run ?_
  unfold g_minute_of
  walk_at "ev"
theorem has_form_yes {b l e h m s g : Int} (h0 : 0 ≤ h) (m0 : 0 ≤ m) (s0 : 0 ≤ s) (g0 : 0 ≤ g) (m1 : m < 60) (s1 : s < 60) (g1 : g < b) : F_has_form [nb b l e, lt h m s g] = M.ret (.bool true) := by
  refine has_form_tup (ds := [.int h, .int m, .int s, .int g]) (fun d hd => by simp only [List.mem_cons, List.not_mem_nil, or_false] at hd; rcases hd with rfl | rfl | rfl | rfl <;> exact ⟨_, rfl⟩) rfl (fun _ => ?_) (fun z => ?_)
  · have e1 : (decide (m < 60) && (decide (s < 60) && decide (g < b))) = true := by rw [decide_eq_true m1, decide_eq_true s1, decide_eq_true g1]; rfl
    rw [← e1]
    walk_at "ev"
  · exfalso
    simp [okP, h0, m0, s0, g0] at z
theorem is_left_out_ev (b l e h m s g : Int) (he : 1 ≤ e) (he2 : e ≤ 60) : F_is_left_out [nb b l e, lt h m s g] = M.ret (.bool (!decide ((60 * h + m) % e = 0) && (decide (s = 0) && decide (g < l)))) := by
  refine ev_run ?_
  unfold g_is_left_out
  have hm := minute_ev h m (.int s) (.int g)
  by_cases hz : (60 * h + m) % e = 0
  · refine ev_seqIf (b := true) ?_ (ite_T rfl ?_)
    · walk_at "ev"
      rw [o_eq, decide_eq_true hz]
    · rw [decide_eq_true hz, Bool.not_true, Bool.false_and]
      walk_at "ev"
  · refine ev_seqIf (b := false) ?_ (ite_F rfl ?_)
    · walk_at "ev"
      rw [o_eq, decide_eq_false hz]
    · rw [decide_eq_false hz, Bool.not_false, Bool.true_and]
      walk_at "ev"
theorem is_label_at {b l e h m s g : Int} (he : 1 ≤ e) (he2 : e ≤ 60) (h0 : 0 ≤ h) (m0 : 0 ≤ m) (s0 : 0 ≤ s) (g0 : 0 ≤ g) (m1 : m < 60) (s1 : s < 60) (g1 : g < b) : F_is_label [nb b l e, lt h m s g] = M.ret (.bool (!(!decide ((60 * h + m) % e = 0) && (decide (s = 0) && decide (g < l))))) := by
  refine ev_run ?_
  unfold g_is_label
  exact ev_ret (ev_andV_t (ev_call (ds := [nb b l e, lt h m s g]) (by walk_at "ev") (has_form_yes h0 m0 s0 g0 m1 s1 g1)) (ev_notV (ev_call (ds := [nb b l e, lt h m s g]) (by walk_at "ev") (is_left_out_ev b l e h m s g he he2))))
end CT
open PySem PySem.Spec L2 DL CT FM
namespace CT
abbrev lb (m o b : Int) : D := .tuple [.int (m / 60), .int (m % 60), .int (o / b), .int (o % b)]
theorem gaps_ev {b l e f : Int} (h : Nb b l e) : F_gaps_before_frame [nb b l e, .int f] = M.ret (.int (gaps b l e f)) := by
  have hL := len_pos h
  obtain ⟨b1, b2, l1, l2, e1, e2⟩ := id h
  have hd : bDiv (60 * b + (e - 1) * (60 * b - l)) = true := bDiv_of (by unfold len at hL; omega) (by unfold len at hL; omega)
  have hp : 0 < 60 * b + (e - 1) * (60 * b - l) := by unfold len at hL; omega
  refine ev_run ?_
  unfold g_gaps_before_frame gaps len
  by_cases hc : f % (60 * b + (e - 1) * (60 * b - l)) < 60 * b
  · rw [if_pos hc]
    walk_at "ev"
  · rw [if_neg hc]
    walk_at "ev"
theorem label_ev {b l e f : Int} (h : Nb b l e) (hf : 0 ≤ f) : ∃ m o, Ok b l e m o ∧ f = fr b l e m o ∧ F_label_of [nb b l e, .int f] = M.ret (lb m o b) := by
  obtain ⟨m, o, k, hp, hq⟩ := place h hf
  refine ⟨m, o, k, hq, ?_⟩
  obtain ⟨b1, b2, l1, l2, e1, e2⟩ := id h
  obtain ⟨m0, o0, o1, _⟩ := id k
  obtain ⟨p1, p2, p3, p4, p5, p6, p7⟩ := lab (m := m) b1 o0 o1
  have q1 : (60 * m + o / b) / 60 = m := by omega
  have q2 : (60 * m + o / b) % 60 = o / b := by omega
  have hga := gaps_ev (f := f) h
  have main : F_label_of [nb b l e, .int f] = M.ret (.tuple [.int ((f + l * gaps b l e f) / b / 60 / 60), .int ((f + l * gaps b l e f) / b / 60 % 60), .int ((f + l * gaps b l e f) / b % 60), .int ((f + l * gaps b l e f) % b)]) := by
    refine ev_run ?_
    unfold g_label_of
    walk_at "ev"
  rw [main, hp, p1, q1, q2, p4]
/-- by minute and place -/
theorem label_at {b l e m o : Int} (h : Nb b l e) (k : Ok b l e m o) (hf : 0 ≤ fr b l e m o) : F_label_of [nb b l e, .int (fr b l e m o)] = M.ret (lb m o b) := by
  obtain ⟨m', o', k', hq, r⟩ := label_ev h hf
  obtain ⟨rfl, rfl⟩ := fr_inj h k k' hq
  exact r
end CT
open PySem PySem.Spec L2 DL CT FM
namespace CT
theorem is_label_lb {b l e m o : Int} (h : Nb b l e) (k : Ok b l e m o) : F_is_label [nb b l e, lb m o b] = M.ret (.bool true) := by
  obtain ⟨b1, b2, l1, l2, e1, e2⟩ := id h
  obtain ⟨m0, o0, o1, g⟩ := id k
  obtain ⟨p1, p2, p3, p4, p5, p6, p7⟩ := lab (m := m) b1 o0 o1
  refine Eq.trans (is_label_at (b := b) (l := l) (e := e) (h := m / 60) (m := m % 60) (s := o / b) (g := o % b) e1 e2 (by omega) (by omega) p2 p5 (by omega) p3 p6) ?_
  have e60 : 60 * (m / 60) + m % 60 = m := by omega
  rw [e60]
  congr 2
  by_cases z1 : m % e = 0
  · rw [decide_eq_true z1]; rfl
  · by_cases z2 : o / b = 0
    · have := g z1
      have z3 : o = o % b := by
        rw [z2, Int.mul_zero] at p7
        omega
      rw [decide_eq_false (show ¬ o % b < l by omega)]
      simp
    · rw [decide_eq_false z2]
      simp
theorem frame_of_lb {b l e m o : Int} (h : Nb b l e) (k : Ok b l e m o) : F_frame_of [nb b l e, lb m o b] = M.ret (.int (fr b l e m o)) := by
  obtain ⟨b1, b2, l1, l2, e1, e2⟩ := id h
  obtain ⟨m0, o0, o1, g⟩ := id k
  obtain ⟨p1, p2, p3, p4, p5, p6, p7⟩ := lab (m := m) b1 o0 o1
  have hl := is_label_lb h k
  have hm := minute_ev (m / 60) (m % 60) (.int (o / b)) (.int (o % b))
  have e60 : 60 * (m / 60) + m % 60 = m := by omega
  rw [e60] at hm
  have main : F_frame_of [nb b l e, lb m o b] = M.ret (.int ((60 * m + o / b) * b + o % b - l * (m - m / e))) := by
    refine ev_run ?_
    unfold g_frame_of
    refine ev_pass (b := false) (ev_not (b := true) (ev_b (ev_call (ds := [nb b l e, lb m o b]) (by walk_at "ev") hl))) rfl ?_
    walk_at "ev"
  have : (60 * m + o / b) * b + o % b - l * (m - m / e) = fr b l e m o := by
    unfold fr
    have : (60 * m + o / b) * b = m * (60 * b) + b * (o / b) := by grind
    omega
  rw [main, this]
end CT
open PySem PySem.Spec L2 DL CT FM TX NumText
namespace CT
def sgn (l : Int) : Nat := if 0 < l then 59 else 58
def wide (b : Int) : Nat := if 100 < b then 3 else 2
theorem sgn_no (l : Int) : sgn l < 48 ∨ 57 < sgn l := by unfold sgn; split <;> decide
theorem sgn_lt (l : Int) : sgn l < 200 := by unfold sgn; split <;> decide
theorem wide_or (b : Int) : wide b = 2 ∨ wide b = 3 := by unfold wide; split <;> simp
theorem frame_sign_ev (b l e : Int) : F_frame_sign [nb b l e] = M.ret (.str (S [sgn l])) := by
  unfold sgn
  refine ev_run (ev_ret (ev_if (b := decide (0 < l)) (by walk_at "ev") ?_))
  by_cases h : 0 < l
  · rw [decide_eq_true h, if_pos rfl, if_pos h]
    exact ev_c
  · rw [decide_eq_false h, if_neg Bool.false_ne_true, if_neg h]
    exact ev_c
theorem frame_figures_ev {b l e : Int} (b1 : 1 ≤ b) (b2 : b ≤ 999) : F_frame_figures [nb b l e] = M.ret (.int (wide b : Nat)) := by
  have hs : oStr [.int (b - 1)] = some (.str (S (if (b - 1).toNat = 0 then [48] else digs (b - 1).toNat))) := by
    rw [o_strN (by omega), ← str_num, Int.toNat_of_nonneg (by omega)]
  have hlen : ∃ j : Nat, (if (b - 1).toNat = 0 then [48] else digs (b - 1).toNat).length = j ∧ max (2 : Int) (j : Int) = (wide b : Nat) := by
    refine ⟨_, rfl, ?_⟩
    unfold wide
    by_cases h0 : (b - 1).toNat = 0
    · rw [if_pos h0, if_neg (by omega)]
      rfl
    · rw [if_neg h0]
      by_cases h : 100 < b
      · rw [if_pos h]
        have l1 := digs_len_ge 2 (b - 1).toNat (by omega)
        have l2 := digs_len 3 (b - 1).toNat (by omega)
        omega
      · rw [if_neg h]
        have l2 := digs_len 2 (b - 1).toNat (by omega)
        omega
  obtain ⟨j, hj, hm⟩ := hlen
  obtain ⟨q, hq⟩ : ∃ q, q = (if (b - 1).toNat = 0 then [48] else digs (b - 1).toNat) := ⟨_, rfl⟩
  rw [← hq] at hs hj
  have hj2 : j ≤ 3 := by
    have := wide_or b
    omega
  have hl := lenT (l := q) (by omega)
  rw [hj] at hl
  refine ev_run (ev_ret ?_)
  rw [← hm]
  refine ev_cb (ev_cons ev_c (ev_cons (ev_cb (ev_cons (ev_cb (ev_cons (ev_2 (ev_2 (ev_var rfl) ev_c rfl) ev_c o_sub) ev_nil) hs) ev_nil) hl) ev_nil)) o_max
theorem wide_pow {b : Int} {g : Nat} (b2 : b ≤ 999) (h : (g : Int) < b) : g < 10 ^ wide b := by
  unfold wide
  split <;> omega
end CT
open PySem PySem.Spec L2 DL CT FM TX NumText
namespace CT
/-- a label's parts, as numbers from 0 on -/
theorem lb_nat {b l e m o : Int} (h : Nb b l e) (k : Ok b l e m o) : ∃ x y s g : Nat, lb m o b = .tuple [.int (x : Nat), .int (y : Nat), .int (s : Nat), .int (g : Nat)] ∧ (x : Int) = m / 60 ∧ y < 60 ∧ s < 60 ∧ (g : Int) < b ∧ (g : Int) = o % b ∧ (s : Int) = o / b ∧ (y : Int) = m % 60 := by
  obtain ⟨b1, b2, l1, l2, e1, e2⟩ := id h
  obtain ⟨m0, o0, o1, g⟩ := id k
  obtain ⟨p1, p2, p3, p4, p5, p6, p7⟩ := lab (m := m) b1 o0 o1
  refine ⟨(m / 60).toNat, (m % 60).toNat, (o / b).toNat, (o % b).toNat, ?_, by omega, by omega, by omega, by omega, by omega, by omega, by omega⟩
  show PyData.tuple [.int (m / 60), .int (m % 60), .int (o / b), .int (o % b)] = _
  rw [Int.toNat_of_nonneg (by omega), Int.toNat_of_nonneg (by omega), Int.toNat_of_nonneg p2, Int.toNat_of_nonneg p5]
/-- what is read, when the parts are a label's -/
theorem read_frame_ev {b l e m o : Int} {x y s g : Nat} {t : List Nat} (h : Nb b l e) (k : Ok b l e m o) (hlb : lb m o b = .tuple [.int (x : Nat), .int (y : Nat), .int (s : Nat), .int (g : Nat)])
    (hl : t.length ≤ 900) (hu : Uc t) (hg : good (sgn l) (wide b) t = true) (v1 : digitsVal (pH t) = x) (v2 : digitsVal (pM t) = y) (v3 : digitsVal (pS (sgn l) t) = s) (v4 : digitsVal (pT (sgn l) t) = g) :
    F_read_frame [nb b l e, .str (S t)] = M.ret (.int (fr b l e m o)) := by
  obtain ⟨b1, b2, l1, l2, e1, e2⟩ := id h
  have h1 := read_parts_ev hl hu (by have := wide_or b; omega) hg
  rw [v1, v2, v3, v4, ← hlb] at h1
  have h2 := frame_sign_ev b l e
  have h3 := frame_figures_ev (l := l) (e := e) b1 b2
  have h4 := is_label_lb h k
  have h5 := frame_of_lb h k
  refine ev_run ?_
  unfold g_read_frame
  have ha : (dCons (dVar 1) (dCons (dCall (fun ds => noX (F_frame_sign ds)) (dCons (dVar 0) dNil)) (dCons (dCall (fun ds => noX (F_frame_figures ds)) (dCons (dVar 0) dNil)) dNil))) (startD 3 [nb b l e, .str (S t)]) = M.ret [.str (S t), .str (S [sgn l]), .int (wide b : Nat)] :=
    ev_cons (ev_var rfl) (ev_cons (ev_call (ev_cons (ev_var rfl) ev_nil) h2) (ev_cons (ev_call (ev_cons (ev_var rfl) ev_nil) h3) ev_nil))
  refine ev_seq (ev_asg (by first | exact ev_call ha h1 | exact ev_callX ha h1)) ?_
  refine ev_pass (b := false) (ev_not (b := true) (ev_b (ev_call (ev_cons (ev_var rfl) (ev_cons (ev_var rfl) ev_nil)) h4))) rfl ?_
  exact ev_ret (ev_call (ev_cons (ev_var rfl) (ev_cons (ev_var rfl) ev_nil)) h5)
end CT
open PySem PySem.Spec L2 DL CT FM TX NumText
namespace CT
theorem show_frame_ev {b l e m o : Int} {x y s g : Nat} (h : Nb b l e) (k : Ok b l e m o) (hlb : lb m o b = .tuple [.int (x : Nat), .int (y : Nat), .int (s : Nat), .int (g : Nat)])
    (hx : x < 10 ^ 20) (hy : y < 60) (hs : s < 60) (hg : (g : Int) < b) : F_show_frame [nb b l e, .int (fr b l e m o)] = M.ret (.str (S (txt (sgn l) (wide b) x y s g))) := by
  obtain ⟨b1, b2, l1, l2, e1, e2⟩ := id h
  have h1 := label_at h k (fr_nonneg h k)
  rw [hlb] at h1
  have h2 := frame_sign_ev b l e
  have h3 := frame_figures_ev (l := l) (e := e) b1 b2
  have h4 := show_parts_ev (sg := sgn l) (k := wide b) (h := x) (m := y) (s := s) (t := g) (by have := wide_or b; omega) (by have := wide_or b; omega) (by omega) (by omega) (by omega) (by omega)
  exact ev_run (ev_ret (ev_call (ev_cons (ev_call (ev_cons (ev_var rfl) (ev_cons (ev_var rfl) ev_nil)) h1) (ev_cons (ev_call (ev_cons (ev_var rfl) ev_nil) h2) (ev_cons (ev_call (ev_cons (ev_var rfl) ev_nil) h3) ev_nil))) h4))
end CT
open PySem PySem.Spec L2 DL CT TX NumText
namespace CT
abbrev tx (l : List Nat) : D := .str (S l)
theorem o_lenX {l : List Nat} (h : l.length ≤ 1000000) : oLen [.str (S l)] = some (.int ((l.length : Nat) : Int)) := by
  show (if small (S l).length = true then _ else _) = _
  rw [S_len, if_pos (small_of (by omega))]
end CT
open PySem PySem.Spec L2 DL TX NumText
namespace TX
/-! texts of figures of one length stand as their numbers do -/
theorem lt_app : ∀ {u v : List Nat} (r r' : List Nat), u.length = v.length → (u ++ r < v ++ r' ↔ u < v ∨ (u = v ∧ r < r'))
  | [], [], r, r', _ => by simp
  | a :: u, b :: v, r, r', h => by
    have ih := lt_app (u := u) (v := v) r r' (by simpa using h)
    rw [List.cons_append, List.cons_append, List.cons_lt_cons_iff, List.cons_lt_cons_iff, ih, List.cons.injEq]
    constructor
    · rintro (h1 | ⟨h1, h2 | ⟨h2, h3⟩⟩)
      · exact .inl (.inl h1)
      · exact .inl (.inr ⟨h1, h2⟩)
      · exact .inr ⟨⟨h1, h2⟩, h3⟩
    · rintro ((h1 | ⟨h1, h2⟩) | ⟨⟨h1, h2⟩, h3⟩)
      · exact .inl h1
      · exact .inr ⟨h1, .inl h2⟩
      · exact .inr ⟨h1, .inr ⟨h2, h3⟩⟩
theorem lt_sign (c : Nat) (r r' : List Nat) : (c :: r < c :: r' ↔ r < r') := by
  rw [List.cons_lt_cons_iff]
  simp
theorem fold_base : ∀ (l : List Nat) (a : Nat), l.foldl (fun acc c => acc * 10 + (c - 48)) a = a * 10 ^ l.length + l.foldl (fun acc c => acc * 10 + (c - 48)) 0
  | [], a => by simp
  | c :: l, a => by
    rw [List.foldl_cons, List.foldl_cons, fold_base l (a * 10 + (c - 48)), fold_base l (0 * 10 + (c - 48)), List.length_cons, Nat.pow_succ, Nat.add_mul, Nat.zero_mul, Nat.zero_add, Nat.mul_assoc, Nat.mul_comm 10]
    omega
theorem val_cons (c : Nat) (l : List Nat) : digitsVal (c :: l) = (c - 48) * 10 ^ l.length + digitsVal l := by
  unfold digitsVal
  rw [List.foldl_cons, Nat.zero_mul, Nat.zero_add, fold_base]
theorem val_small : ∀ {l : List Nat}, (∀ c ∈ l, 48 ≤ c ∧ c ≤ 57) → digitsVal l < 10 ^ l.length
  | [], _ => by decide
  | c :: l, h => by
    have h1 := h c List.mem_cons_self
    have h2 := val_small (l := l) fun d hd => h d (List.mem_cons_of_mem _ hd)
    rw [val_cons, List.length_cons, Nat.pow_succ]
    have h3 : (c - 48) * 10 ^ l.length ≤ 9 * 10 ^ l.length := Nat.mul_le_mul_right _ (by omega)
    omega
theorem dig_lt : ∀ {u v : List Nat}, u.length = v.length → (∀ c ∈ u, 48 ≤ c ∧ c ≤ 57) → (∀ c ∈ v, 48 ≤ c ∧ c ≤ 57) → (u < v ↔ digitsVal u < digitsVal v)
  | [], [], _, _, _ => by simp
  | a :: u, b :: v, h, hu, hv => by
    have ih := dig_lt (u := u) (v := v) (by simpa using h) (fun d hd => hu d (List.mem_cons_of_mem _ hd)) (fun d hd => hv d (List.mem_cons_of_mem _ hd))
    have h1 := hu a List.mem_cons_self
    have h2 := hv b List.mem_cons_self
    have s1 := val_small (l := u) fun d hd => hu d (List.mem_cons_of_mem _ hd)
    have s2 := val_small (l := v) fun d hd => hv d (List.mem_cons_of_mem _ hd)
    have hl : u.length = v.length := by simpa using h
    rw [List.cons_lt_cons_iff, ih, val_cons, val_cons, ← hl]
    rw [← hl] at s2
    constructor
    · rintro (q | ⟨rfl, q⟩)
      · have : (a - 48 + 1) * 10 ^ u.length ≤ (b - 48) * 10 ^ u.length := Nat.mul_le_mul_right _ (by omega)
        rw [Nat.add_mul, Nat.one_mul] at this
        omega
      · omega
    · intro q
      rcases Nat.lt_trichotomy a b with z | z | z
      · exact .inl z
      · subst z
        exact .inr ⟨rfl, by omega⟩
      · have : (b - 48 + 1) * 10 ^ u.length ≤ (a - 48) * 10 ^ u.length := Nat.mul_le_mul_right _ (by omega)
        rw [Nat.add_mul, Nat.one_mul] at this
        omega
theorem fg_lt {k n m : Nat} (h : (fg k n).length = (fg k m).length) : (fg k n < fg k m ↔ n < m) := by
  rw [dig_lt h (fg_digits k n) (fg_digits k m), val_fg, val_fg]
theorem fg_eq {k n m : Nat} (h : fg k n = fg k m) : n = m := by rw [← val_fg k n, h, val_fg]
/-- the order of four numbers -/
def lex4 (h m s g h' m' s' g' : Nat) : Prop := h < h' ∨ (h = h' ∧ (m < m' ∨ (m = m' ∧ (s < s' ∨ (s = s' ∧ g < g')))))
theorem txt_lt {sg k h m s g h' m' s' g' : Nat} (m1 : m < 60) (s1 : s < 60) (g1 : g < 10 ^ k) (m2 : m' < 60) (s2 : s' < 60) (g2 : g' < 10 ^ k) (hl : (txt sg k h m s g).length = (txt sg k h' m' s' g').length) : (txt sg k h m s g < txt sg k h' m' s' g' ↔ lex4 h m s g h' m' s' g') := by
  have lm : (fg 2 m).length = 2 := fg_len (by omega)
  have lm' : (fg 2 m').length = 2 := fg_len (by omega)
  have ls : (fg 2 s).length = 2 := fg_len (by omega)
  have ls' : (fg 2 s').length = 2 := fg_len (by omega)
  have lg : (fg k g).length = k := fg_len g1
  have lg' : (fg k g').length = k := fg_len g2
  have lh : (fg 2 h).length = (fg 2 h').length := by
    unfold txt at hl
    simp only [List.length_append, List.length_cons] at hl
    omega
  unfold txt lex4
  have eqs : ∀ {k n m : Nat}, (fg k n = fg k m ↔ n = m) := fun {k n m} => ⟨fg_eq, fun e => by rw [e]⟩
  rw [lt_app _ _ lh, lt_sign, lt_app _ _ (by rw [lm, lm']), lt_sign, lt_app _ _ (by rw [ls, ls']), lt_sign, fg_lt lh, fg_lt (by rw [lm, lm']), fg_lt (by rw [ls, ls']), fg_lt (by rw [lg, lg']), eqs, eqs, eqs]
end TX
namespace K14
open PySem PySem.Spec L2 DL CT SL
noncomputable def g__law_cell_at : DS → M Out := (gSeq (gIf (dB (d2 oLt (dVar 1) (dCB oLen (dCons (dVar 0) dNil)))) (gRet (d2 oIx (dVar 0) (dVar 1))) gNext)
    (gRet (dC (.int 0))))
noncomputable def F__law_cell_at : List D → M D := run 2 g__law_cell_at
noncomputable def g__law_whole : DS → M Out := (gRet (dAndV (dIs "int" (dVar 0)) (dNotV (dIs "bool" (dVar 0)))))
noncomputable def F__law_whole : List D → M D := run 1 g__law_whole
noncomputable def g__law_numbering : DS → M Out := (gSeq (gAsg (d2 oMod (d2 oMul (d2 oMod (dVar 0) (dC (.int 2147483647))) (dC (.int 48271))) (dC (.int 2147483647))) (tgN 1))
    (gSeq (gAsg (d2 oIx (dLst (dCons (dC (.int 1)) (dCons (dC (.int 2)) (dCons (dC (.int 24)) (dCons (dC (.int 25)) (dCons (dC (.int 30)) (dCons (dC (.int 60)) (dCons (dC (.int 100)) (dCons (dC (.int 999)) dNil))))))))) (d2 oMod (dVar 1) (dC (.int 8)))) (tgN 2))
    (gSeq (gIf (dB (d2 oEq (d2 oMod (d2 oDiv (dVar 1) (dC (.int 8))) (dC (.int 3))) (dC (.int 0)))) (gAsg (d2 oAdd (dC (.int 1)) (d2 oMod (d2 oDiv (dVar 1) (dC (.int 24))) (dC (.int 999)))) (tgN 2)) gNext)
    (gSeq (gAsg (d2 oIx (dLst (dCons (dC (.int 0)) (dCons (d2 oSub (dVar 2) (dC (.int 1))) (dCons (dCB oMin (dCons (dC (.int 2)) (dCons (d2 oSub (dVar 2) (dC (.int 1))) dNil))) (dCons (d2 oMod (d2 oDiv (dVar 1) (dC (.int 7))) (dVar 2)) dNil))))) (d2 oMod (d2 oDiv (dVar 1) (dC (.int 64))) (dC (.int 4)))) (tgN 3))
    (gRet (dTup (dCons (dVar 2) (dCons (dVar 3) (dCons (d2 oIx (dLst (dCons (dC (.int 1)) (dCons (dC (.int 2)) (dCons (dC (.int 10)) (dCons (dC (.int 60)) (dCons (d2 oAdd (dC (.int 1)) (d2 oMod (d2 oDiv (dVar 1) (dC (.int 11))) (dC (.int 60)))) dNil)))))) (d2 oMod (d2 oDiv (dVar 1) (dC (.int 256))) (dC (.int 5)))) dNil)))))))))
noncomputable def F__law_numbering : List D → M D := run 4 g__law_numbering
noncomputable def g__law_moment : DS → M Out := (gSeq (gIf (dB (d2 oEq (d2 oMod (dVar 1) (dC (.int 4))) (dC (.int 0)))) (gRet (d2 oMod (d2 oDiv (dVar 1) (dC (.int 4))) (d2 oPow (dC (.int 10)) (dC (.int 15))))) gNext)
    (gSeq (gIf (dB (d2 oEq (d2 oMod (dVar 1) (dC (.int 4))) (dC (.int 1)))) (gRet (d2 oMod (d2 oDiv (dVar 1) (dC (.int 4))) (d2 oPow (dC (.int 10)) (dC (.int 6))))) gNext)
    (gRet (dCB oMax (dCons (dC (.int 0)) (dCons (d2 oSub (d2 oAdd (dVar 0) (d2 oMul (d2 oMod (dVar 1) (dC (.int 4))) (dC (.int 2)))) (dC (.int 5))) dNil))))))
noncomputable def F__law_moment : List D → M D := run 2 g__law_moment
noncomputable def b__law_order_0 : DS → M Out := (gSeq (gAsg (d2 oIx (dVar 0) (d2 oSub (dVar 1) (dC (.int 1)))) (tgTup 2 (tgCons (tgN 2) (tgCons (tgN 3) tgNil))))
    (gSeq (gAsg (d2 oIx (dVar 0) (dVar 1)) (tgTup 2 (tgCons (tgN 4) (tgCons (tgN 5) tgNil))))
    (gSeq (gIf (dB (d2 oNe (d2 oEq (dVar 2) (dVar 4)) (d2 oEq (dVar 3) (dVar 5)))) (gRet (dC (.bool false))) gNext)
    (gIf (dAnd (dB (d2 oEq (dCB oLen (dCons (dVar 3) dNil)) (dCB oLen (dCons (dVar 5) dNil)))) (dB (d2 oNe (d2 oLtS (dVar 2) (dVar 4)) (d2 oLtS (dVar 3) (dVar 5))))) (gRet (dC (.bool false))) gNext))))
noncomputable def g__law_order : DS → M Out := (gSeq (gForI (dRng rng2 (dCons (dC (.int 1)) (dCons (dCB oLen (dCons (dVar 0) dNil)) dNil))) (tgN 1) b__law_order_0)
    (gRet (dC (.bool true))))
noncomputable def F__law_order : List D → M D := run 6 g__law_order
noncomputable def g__law_no_text : DS → M Out := (gSeq (gAsg (dC (.bool false)) (tgN 2))
    (gSeq (gTryN "NoTime" 3 (gDrop (dEl (dMe "Thousandths" "read" F_Thousandths_read (dVar 0) (dCons (dVar 1) dNil)) (dMe "Frames" "read" F_Frames_read (dVar 0) (dCons (dVar 1) dNil)))) (gAsg (dC (.bool true)) (tgN 2)))
    (gRet (dVar 2))))
noncomputable def F__law_no_text : List D → M D := run 3 g__law_no_text
noncomputable def b_law_0 : SL.SG := (sSeq (sAsg 4 (sPure (d2 oMod (d2 oDiv (dVar 3) (dC (.int 3))) (dC (.int 3)))))
    (sSeq (sAsg 5 (sLend (dCall (fun ds => noX (F__law_moment ds)) (dCons (d2 oIx (d2 oIx (d2 oIx (dVar 2) (dVar 4)) (d1 oNeg (dC (.int 1)))) (dC (.int 0))) (dCons (d2 oDiv (dVar 3) (dC (.int 9))) dNil)))))
    (sSeq (sAsg 6 (sLend (dEl (dMe "Thousandths" "show" (fun ds => noX (F_Thousandths_show ds)) (d2 oIx (dVar 1) (dVar 4)) (dCons (dVar 5) dNil)) (dMe "Frames" "show" (fun ds => noX (F_Frames_show ds)) (d2 oIx (dVar 1) (dVar 4)) (dCons (dVar 5) dNil)))))
    (sSeq (sAsg 7 (sLend (dEl (dMe "Thousandths" "read" (fun ds => noX (F_Thousandths_read ds)) (d2 oIx (dVar 1) (dVar 4)) (dCons (dVar 6) dNil)) (dMe "Frames" "read" (fun ds => noX (F_Frames_read ds)) (d2 oIx (dVar 1) (dVar 4)) (dCons (dVar 6) dNil)))))
    (sSeq (sIf (sTest (dOr (dNot (dB (dIs "str" (dVar 6)))) (dOr (dNot (dB (dCall (fun ds => noX (F__law_whole ds)) (dCons (dVar 7) dNil)))) (dB (d2 oNe (dVar 7) (dVar 5)))))) (sRet (sPure (dC (.bool false)))) sNext)
    (sDrop (sApp (sIx (sVar 2) (sVar 4)) (sPure (dTup (dCons (dVar 5) (dCons (dVar 6) dNil)))))))))))
noncomputable def b_law_1 : SL.SG := (sIf (sTest (dOr (dB (d2 oNe (dEl (dMe "Thousandths" "show" (fun ds => noX (F_Thousandths_show ds)) (dVar 8) (dCons (dVar 5) dNil)) (dMe "Frames" "show" (fun ds => noX (F_Frames_show ds)) (dVar 8) (dCons (dVar 5) dNil))) (dVar 6))) (dB (d2 oNe (dEl (dMe "Thousandths" "read" (fun ds => noX (F_Thousandths_read ds)) (dVar 8) (dCons (dVar 6) dNil)) (dMe "Frames" "read" (fun ds => noX (F_Frames_read ds)) (dVar 8) (dCons (dVar 6) dNil))) (dVar 5))))) (sRet (sPure (dC (.bool false)))) sNext)
noncomputable def b_law_2 : SL.SG := (sSeq (sIf (sTest (dOr (dNot (dB (dEl (dIsI "Thousandths" true (dVar 8)) (dIsI "Frames" true (dVar 8))))) (dOr (dNot (dB (dCall (fun ds => noX (F__law_order ds)) (dCons (d2 oIx (dVar 2) (dVar 4)) dNil)))) (dNot (dB (dCall (fun ds => noX (F__law_no_text ds)) (dCons (dVar 8) (dCons (dVar 4) dNil)))))))) (sRet (sPure (dC (.bool false)))) sNext)
    (sForTI false (agTup 2 (agCons (agN 5) (agCons (agN 6) agNil))) (sIx (sVar 2) (sVar 4)) b_law_1))
noncomputable def g_law : SL.SG := (sSeq (sAsg 1 (sNew (nLst (dCons (dC (insD "Thousandths" [])) (dCons (dMk "Frames" "numbering" (dCons (dCall (fun ds => noX (F__law_numbering ds)) (dCons (dCall (fun ds => noX (F__law_cell_at ds)) (dCons (dVar 0) (dCons (dC (.int 0)) dNil))) dNil)) dNil)) dNil)))))
    (sSeq (sDrop (sApp (sVar 1) (sPure (dMk "Frames" "numbering" (dCons (dCall (fun ds => noX (F__law_numbering ds)) (dCons (dCall (fun ds => noX (F__law_cell_at ds)) (dCons (dVar 0) (dCons (dC (.int 1)) dNil))) dNil)) dNil)))))
    (sSeq (sAsg 2 (sCompN (dAny (dVar 1)) (nLst (dCons (dTup (dCons (dC (.int 0)) (dCons (dEl (dMe "Thousandths" "show" (fun ds => noX (F_Thousandths_show ds)) (dVar 0) (dCons (dC (.int 0)) dNil)) (dMe "Frames" "show" (fun ds => noX (F_Frames_show ds)) (dVar 0) (dCons (dC (.int 0)) dNil))) dNil))) dNil))))
    (sSeq (sFor (dAny (dCutS (dVar 0) (dPart (dC (.int 2))) (dPart (dC (.int 42))))) (agN 3) b_law_0)
    (sSeq (sForTI true (agTup 2 (agCons (agN 4) (agCons (agN 8) agNil))) (sVar 1) b_law_2)
    (sRet (sPure (dC (.bool true)))))))))
noncomputable def FS_law : List SL.Val → SL.Sto → SL.R (SL.Val × SL.Sto) := SL.runS 9 g_law
noncomputable def F_law : List D → M D := SL.asD FS_law
end K14
open PySem PySem.Spec L2 DL CT
namespace K14
theorem cell_at_ev (ns : List Int) (k : Int) (k0 : 0 ≤ k) : ∃ c, F__law_cell_at [.list (ns.map PyData.int), .int k] = M.ret (.int c) := by
  by_cases h : k.toNat < ns.length
  · refine ⟨ns[k.toNat], ev_run ?_⟩
    unfold g__law_cell_at
    refine ev_seqIf (b := true) ?_ (ite_T rfl (ev_seqR (ev_ret ?_)))
    · walk_at "ev"
      first | rw [o_lt, List.length_map, decide_eq_true (by omega)] | rw [o_ltD, List.length_map, decide_eq_true (by omega)]
    · refine ev_2 (ev_var rfl) (ev_var rfl) (ix_nat k0 ?_)
      rw [List.getElem?_map, List.getElem?_eq_getElem h]
      rfl
  · refine ⟨0, ev_run ?_⟩
    unfold g__law_cell_at
    refine ev_seqIf (b := false) ?_ (ite_F rfl (ev_seqN ?_))
    · walk_at "ev"
      first | rw [o_lt, List.length_map, decide_eq_false (by omega)] | rw [o_ltD, List.length_map, decide_eq_false (by omega)]
    · walk_at "ev"
/-- an item of a written list -/
theorem item {ds : List D} {P : Int → Prop} {i : Int} (h0 : 0 ≤ i) (h1 : i < ds.length) (hP : ∀ d ∈ ds, ∃ n, d = .int n ∧ P n) : ∃ n, oIx (.list ds) (.int i) = some (.int n) ∧ P n := by
  obtain ⟨d, hd, e⟩ := ix_in h0 h1
  obtain ⟨n, rfl, p⟩ := hP d hd
  exact ⟨n, e, p⟩
theorem al {P : Int → Prop} {a : Int} {r : List D} (h : P a) (hr : ∀ x ∈ r, ∃ n, x = .int n ∧ P n) : ∀ x ∈ (PyData.int a) :: r, ∃ n, x = .int n ∧ P n := by
  intro x hx
  rcases List.mem_cons.mp hx with rfl | hx
  · exact ⟨a, rfl, h⟩
  · exact hr x hx
theorem al0 {P : Int → Prop} : ∀ x ∈ ([] : List D), ∃ n, x = .int n ∧ P n := fun x hx => nomatch hx
theorem cut_len {α : Type} (xs : List α) (lo hi : Option Int) : (cutD xs lo hi).length ≤ xs.length := by
  unfold cutD
  rw [List.length_take, List.length_drop]
  omega
/-- [0] + script[lo:hi] -/
theorem cells (ns : List Int) (hl : ns.length ≤ 63) (lo hi : Option Int) : oAdd (.list [.int 0]) (.list (cutD (ns.map PyData.int) lo hi)) = some (.list (PyData.int 0 :: cutD (ns.map PyData.int) lo hi)) := by
  refine o_addL (small_of ?_)
  have := cut_len (ns.map PyData.int) lo hi
  rw [List.length_map] at this
  show 1 + _ ≤ _
  omega
end K14
open PySem PySem.Spec L2 DL CT FM
namespace K14
theorem numbering_ev (c : Int) : ∃ b l e, Nb b l e ∧ F__law_numbering [.int c] = M.ret (nb b l e) := by
  obtain ⟨n, hn⟩ : ∃ n, n = c % 2147483647 * 48271 % 2147483647 := ⟨_, rfl⟩
  have n0 : 0 ≤ n := by omega
  obtain ⟨b0, hb0, p0, q0⟩ := item (P := fun b => 1 ≤ b ∧ b ≤ 999) (i := n % 8) (by omega) (by show n % 8 < 8; omega) (al (a := 1) (by decide) (al (a := 2) (by decide) (al (a := 24) (by decide) (al (a := 25) (by decide) (al (a := 30) (by decide) (al (a := 60) (by decide) (al (a := 100) (by decide) (al (a := 999) (by decide) al0))))))))
  obtain ⟨b, hb, hif⟩ : ∃ b, (1 ≤ b ∧ b ≤ 999) ∧ ((n / 8 % 3 = 0 ∧ b = 1 + n / 24 % 999) ∨ (¬ n / 8 % 3 = 0 ∧ b = b0)) := by
    by_cases h : n / 8 % 3 = 0
    · exact ⟨_, by omega, .inl ⟨h, rfl⟩⟩
    · exact ⟨_, ⟨p0, q0⟩, .inr ⟨h, rfl⟩⟩
  obtain ⟨l, hl, pl, ql⟩ := item (P := fun l => 0 ≤ l ∧ l < b) (i := n / 64 % 4) (by omega) (by show n / 64 % 4 < 4; omega) (al (a := 0) (by omega) (al (a := b - 1) (by omega) (al (a := min 2 (b - 1)) (by omega) (al (a := n / 7 % b) ⟨Int.emod_nonneg _ (by omega), Int.emod_lt_of_pos _ (by omega)⟩ al0))))
  obtain ⟨e, he, pe, qe⟩ := item (P := fun e => 1 ≤ e ∧ e ≤ 60) (i := n / 256 % 5) (by omega) (by show n / 256 % 5 < 5; omega) (al (a := 1) (by decide) (al (a := 2) (by decide) (al (a := 10) (by decide) (al (a := 60) (by decide) (al (a := 1 + n / 11 % 60) (by omega) al0)))))
  refine ⟨b, l, e, ⟨hb.1, hb.2, pl, ql, pe, qe⟩, ev_run ?_⟩
  unfold g__law_numbering
  have hbp : 0 < b := by omega
  refine ev_seq (ev_asg (d := .int n) (by rw [hn]; walk_at "ev")) ?_
  clear hn
  rcases hif with ⟨hc, rfl⟩ | ⟨hc, rfl⟩
  all_goals
    walk_at "ev"
end K14
open PySem PySem.Spec L2 DL CT TX NumText FM
namespace K14
/-- a moment as a text of a clock -/
structure Tm (CK : D) (n : Nat) (t : List Nat) : Prop where
  sh : ∀ {fo : DS → M D} {fa : DS → M (List D)} {δ : DS}, fo δ = M.ret CK → fa δ = M.ret [.int (n : Int)] → dEl (dMe "Thousandths" "show" (fun ds => noX (F_Thousandths_show ds)) fo fa) (dMe "Frames" "show" (fun ds => noX (F_Frames_show ds)) fo fa) δ = M.ret (tx t)
  rd : ∀ {fo : DS → M D} {fa : DS → M (List D)} {δ : DS}, fo δ = M.ret CK → fa δ = M.ret [tx t] → dEl (dMe "Thousandths" "read" (fun ds => noX (F_Thousandths_read ds)) fo fa) (dMe "Frames" "read" (fun ds => noX (F_Frames_read ds)) fo fa) δ = M.ret (.int (n : Int))
  len : t.length ≤ 60
  sg : ∀ c ∈ t, 46 ≤ c ∧ c ≤ 59
theorem at_T : attrs "Thousandths" (insD "Thousandths" []) = some [] := by kernel_rfl
theorem at_TF (d : D) : attrs "Thousandths" (insD "Frames" [("numbering", d)]) = none := by kernel_rfl
theorem at_F (d : D) : attrs "Frames" (insD "Frames" [("numbering", d)]) = some [.tuple [.str "numbering", d]] := by kernel_rfl
theorem fl_F (d : D) : oFld "Frames" "numbering" (insD "Frames" [("numbering", d)]) = some d := by kernel_rfl
theorem nf_F (d : D) : noFld "show" [.tuple [.str "numbering", d]] = true := by kernel_rfl
theorem nf_FR (d : D) : noFld "read" [.tuple [.str "numbering", d]] = true := by kernel_rfl
theorem txt_sg {sg k h m s t : Nat} (hg : 46 ≤ sg ∧ sg ≤ 59) : ∀ c ∈ txt sg k h m s t, 46 ≤ c ∧ c ≤ 59 := by
  intro c hc
  unfold txt at hc
  simp only [List.mem_append, List.mem_cons] at hc
  rcases hc with hc | rfl | hc | rfl | hc | rfl | hc
  · have := fg_digits _ _ c hc; omega
  · decide
  · have := fg_digits _ _ c hc; omega
  · decide
  · have := fg_digits _ _ c hc; omega
  · exact hg
  · have := fg_digits _ _ c hc; omega
/-- the shape of a text: what its parts say of the moment -/
def Sh (sg k : Nat) (V : Nat → Nat → Nat → Nat → Nat → Prop) (n : Nat) (t : List Nat) : Prop := ∃ h m s g, V n h m s g ∧ m < 60 ∧ s < 60 ∧ g < 10 ^ k ∧ t = txt sg k h m s g
def VO (V : Nat → Nat → Nat → Nat → Nat → Prop) : Prop := ∀ n h m s g n' h' m' s' g', V n h m s g → V n' h' m' s' g' → (n < n' ↔ lex4 h m s g h' m' s' g')
theorem sh_lt {sg k : Nat} {V : Nat → Nat → Nat → Nat → Nat → Prop} (hV : VO V) {n n' : Nat} {t t' : List Nat} (h : Sh sg k V n t) (h' : Sh sg k V n' t') (hl : t.length = t'.length) : (t < t' ↔ n < n') := by
  obtain ⟨h, m, s, g, v, m1, s1, g1, rfl⟩ := h
  obtain ⟨h', m', s', g', v', m1', s1', g1', rfl⟩ := h'
  rw [txt_lt m1 s1 g1 m1' s1' g1' hl, hV n h m s g n' h' m' s' g' v v']
def VT (n h m s g : Nat) : Prop := h = n / 3600000 ∧ m = n / 60000 % 60 ∧ s = n / 1000 % 60 ∧ g = n % 1000
theorem vo_T : VO VT := by
  rintro n h m s g n' h' m' s' g' ⟨e1, e2, e3, e4⟩ ⟨e5, e6, e7, e8⟩
  unfold lex4
  omega
theorem tm_thou {n : Nat} (hn : n < 10 ^ 19) : ∃ t, Tm (insD "Thousandths" []) n t ∧ Sh 46 3 VT n t := by
  refine ⟨txt 46 3 (n / 3600000) (n / 60000 % 60) (n / 1000 % 60) (n % 1000), ⟨fun h1 h2 => ?_, fun h1 h2 => ?_, ?_, txt_sg (by decide)⟩, _, _, _, _, ⟨rfl, rfl, rfl, rfl⟩, by omega, by omega, by omega, rfl⟩
  · refine ev_el1 (ev_me h1 at_T rfl h2 (ev_run ?_))
    unfold g_Thousandths_show
    exact ev_ret (ev_call (ev_cons (ev_var rfl) ev_nil) (show_moment_ev (by omega)))
  · have hr := read_moment_ev (l := txt 46 3 (n / 3600000) (n / 60000 % 60) (n / 1000 % 60) (n % 1000)) (by
      have := txt_len (sg := 46) (k := 3) (h := n / 3600000) (m := n / 60000 % 60) (s := n / 1000 % 60) (t := n % 1000) (by omega) (by omega) (by omega) (by omega)
      omega) (Uc_txt (by decide)) (good_txt (by decide) (by omega) (by omega) (by omega) (by decide) (by omega))
    obtain ⟨v1, v2, v3, v4⟩ := parts_txt (sg := 46) (k := 3) (h := n / 3600000) (m := n / 60000 % 60) (s := n / 1000 % 60) (t := n % 1000) (by decide)
    rw [v1, v2, v3, v4, val_fg, val_fg, val_fg, val_fg] at hr
    have e : (1000 * (60 * (60 * ((n / 3600000 : Nat) : Int) + ((n / 60000 % 60 : Nat) : Int)) + ((n / 1000 % 60 : Nat) : Int)) + ((n % 1000 : Nat) : Int)) = (n : Int) := by omega
    rw [e] at hr
    refine ev_el1 (ev_me h1 at_T rfl h2 (ev_run ?_))
    unfold g_Thousandths_read
    exact ev_ret (ev_callX (ev_cons (ev_var rfl) ev_nil) hr)
  · have := txt_len (sg := 46) (k := 3) (h := n / 3600000) (m := n / 60000 % 60) (s := n / 1000 % 60) (t := n % 1000) (by omega) (by omega) (by omega) (by omega)
    omega
theorem fr_ge {b l e m o : Int} (h : Nb b l e) (k : Ok b l e m o) : m ≤ fr b l e m o := by
  obtain ⟨b1, b2, l1, l2, e1, e2⟩ := h
  obtain ⟨m0, o0, o1, g⟩ := k
  unfold fr
  have h1 : 0 ≤ m / e := Int.ediv_nonneg m0 (by omega)
  have h2 : l * (m - m / e) ≤ l * m := Int.mul_le_mul_of_nonneg_left (by omega) l1
  have h3 : l * m ≤ b * m := Int.mul_le_mul_of_nonneg_right (by omega) m0
  have h4 : 1 * m ≤ b * m := Int.mul_le_mul_of_nonneg_right (by omega) m0
  have h5 : m * (60 * b) = 60 * (b * m) := by rw [Int.mul_left_comm, Int.mul_comm m b]
  omega
def VF (b l e : Int) (n h m s g : Nat) : Prop := ∃ m0 o : Int, Ok b l e m0 o ∧ (n : Int) = fr b l e m0 o ∧ (h : Int) = m0 / 60 ∧ (m : Int) = m0 % 60 ∧ (s : Int) = o / b ∧ (g : Int) = o % b
theorem div_lt {b o o' : Int} (hb : 1 ≤ b) : (o < o' ↔ o / b < o' / b ∨ (o / b = o' / b ∧ o % b < o' % b)) := by
  have h1 := Int.mul_ediv_add_emod o b
  have h2 := Int.mul_ediv_add_emod o' b
  have h3 := Int.emod_nonneg o (show b ≠ 0 by omega)
  have h4 := Int.emod_nonneg o' (show b ≠ 0 by omega)
  have h5 := Int.emod_lt_of_pos o (show 0 < b by omega)
  have h6 := Int.emod_lt_of_pos o' (show 0 < b by omega)
  constructor
  · intro h
    rcases Int.lt_trichotomy (o / b) (o' / b) with z | z | z
    · exact .inl z
    · rw [z] at h1
      exact .inr ⟨z, by omega⟩
    · have : b * (o' / b + 1) ≤ b * (o / b) := Int.mul_le_mul_of_nonneg_left (by omega) (by omega)
      rw [Int.mul_add, Int.mul_one] at this
      omega
  · rintro (z | ⟨z, q⟩)
    · have : b * (o / b + 1) ≤ b * (o' / b) := Int.mul_le_mul_of_nonneg_left (by omega) (by omega)
      rw [Int.mul_add, Int.mul_one] at this
      omega
    · rw [z] at h1
      omega
theorem vo_F {b l e : Int} (hn : Nb b l e) : VO (VF b l e) := by
  rintro n h m s g n' h' m' s' g' ⟨m0, o, k, e0, e1, e2, e3, e4⟩ ⟨m0', o', k', e0', e1', e2', e3', e4'⟩
  have h1 : (n < n') ↔ (n : Int) < (n' : Int) := by omega
  have hb := hn.1
  rw [h1, e0, e0', fr_lt hn k k', div_lt (o := o) (o' := o') hb, ← e3, ← e3', ← e4, ← e4']
  unfold lex4
  have mm : (m0 < m0' ↔ h < h' ∨ (h = h' ∧ m < m')) := by omega
  have me : (m0 = m0' ↔ h = h' ∧ m = m') := by omega
  rw [mm, me]
  omega
theorem tm_frame {b l e : Int} (h : Nb b l e) {n : Nat} (hn : n < 10 ^ 19) : ∃ t, Tm (insD "Frames" [("numbering", nb b l e)]) n t ∧ Sh (sgn l) (wide b) (VF b l e) n t := by
  obtain ⟨m, o, k, hf, _⟩ := label_ev h (f := (n : Int)) (by omega)
  obtain ⟨x, y, s, g, hlb, hx, hy, hs, hg, hg2, hs2, hy2⟩ := lb_nat h k
  have hm := fr_ge h k
  rw [← hf] at hm
  obtain ⟨b1, b2, l1, l2, e1, e2⟩ := id h
  have hw := wide_or b
  have hx1 : x < 10 ^ 20 := by omega
  have hpw := wide_pow b2 hg
  have hsg : 46 ≤ sgn l ∧ sgn l ≤ 59 := by unfold sgn; split <;> decide
  have hlen : (txt (sgn l) (wide b) x y s g).length ≤ 60 := by
    have := txt_len (sg := sgn l) (k := wide b) (h := x) (m := y) (s := s) (t := g) (by omega) (by omega) (by omega) hpw
    omega
  refine ⟨txt (sgn l) (wide b) x y s g, ⟨fun h1 h2 => ?_, fun h1 h2 => ?_, hlen, txt_sg hsg⟩, x, y, s, g, ⟨m, o, k, hf, hx, hy2, hs2, hg2⟩, hy, hs, hpw, rfl⟩
  · have hs' := show_frame_ev h k hlb hx1 hy hs hg
    rw [← hf] at hs'
    refine ev_el2 (ev_me0 h1 (at_TF _)) (ev_me h1 (at_F _) (nf_F _) h2 (ev_run ?_))
    unfold g_Frames_show
    exact ev_ret (ev_call (ev_cons (ev_1 (ev_var rfl) (fl_F _)) (ev_cons (ev_var rfl) ev_nil)) hs')
  · obtain ⟨v1, v2, v3, v4⟩ := parts_txt (sg := sgn l) (k := wide b) (h := x) (m := y) (s := s) (t := g) (sgn_no l)
    have hr := read_frame_ev (t := txt (sgn l) (wide b) x y s g) h k hlb (by omega) (Uc_txt (sgn_lt l)) (good_txt (sgn_no l) hx1 hy hs (by omega) hpw) (by rw [v1, val_fg]) (by rw [v2, val_fg]) (by rw [v3, val_fg]) (by rw [v4, val_fg])
    rw [← hf] at hr
    refine ev_el2 (ev_me0 h1 (at_TF _)) (ev_me h1 (at_F _) (nf_FR _) h2 (ev_run ?_))
    unfold g_Frames_read
    exact ev_ret (ev_callX (ev_cons (ev_1 (ev_var rfl) (fl_F _)) (ev_cons (ev_var rfl) ev_nil)) hr)
/-- a clock with its texts -/
structure Ck (CK : D) (T : Nat → List Nat) : Prop where
  tm : ∀ n, n < 10 ^ 19 → Tm CK n (T n)
  lt : ∀ n n', n < 10 ^ 19 → n' < 10 ^ 19 → (T n).length = (T n').length → (T n < T n' ↔ n < n')
theorem ck_of {CK : D} {sg k : Nat} {V : Nat → Nat → Nat → Nat → Nat → Prop} (hV : VO V) (h : ∀ n, n < 10 ^ 19 → ∃ t, Tm CK n t ∧ Sh sg k V n t) : ∃ T, Ck CK T := by
  have hT : ∃ T : Nat → List Nat, ∀ n, n < 10 ^ 19 → Tm CK n (T n) ∧ Sh sg k V n (T n) := by
    refine ⟨fun n => if q : n < 10 ^ 19 then Classical.choose (h n q) else [], fun n q => ?_⟩
    have e : (if q : n < 10 ^ 19 then Classical.choose (h n q) else []) = Classical.choose (h n q) := dif_pos q
    show Tm CK n (if q : n < 10 ^ 19 then Classical.choose (h n q) else []) ∧ Sh sg k V n (if q : n < 10 ^ 19 then Classical.choose (h n q) else [])
    rw [e]
    exact Classical.choose_spec (h n q)
  obtain ⟨T, hT⟩ := hT
  exact ⟨T, fun n q => (hT n q).1, fun n n' q q' hl => sh_lt hV (hT n q).2 (hT n' q').2 hl⟩
/-- which of the two a clock is -/
def Is2 (CK : D) : Prop := CK = insD "Thousandths" [] ∨ ∃ b l e, Nb b l e ∧ CK = insD "Frames" [("numbering", nb b l e)]
theorem is2_ck {CK : D} (h : Is2 CK) : ∃ T, Ck CK T := by
  rcases h with rfl | ⟨b, l, e, hn, rfl⟩
  · exact ck_of vo_T fun n q => tm_thou q
  · exact ck_of (vo_F hn) fun n q => tm_frame hn q
theorem isI_ev {CK : D} (h : Is2 CK) {fo : DS → M D} {δ : DS} (h1 : fo δ = M.ret CK) : dEl (dIsI "Thousandths" true fo) (dIsI "Frames" true fo) δ = M.ret (.bool true) := by
  rcases h with rfl | ⟨b, l, e, hn, rfl⟩
  · exact ev_el1 (ev_isI h1 at_T)
  · exact ev_el2 (ev_isI0 h1 (at_TF _)) (ev_isI h1 (at_F _))
theorem parts_no (i : Int) (x y : D) : F_read_parts [.int i, x, y] = some (.error ⟨"NoTime", []⟩) := by
  refine er_run ?_
  unfold g_read_parts
  exact er_seq (er_if_t (ev_not (b := false) (ev_b (ev_is (d := .int i) (ev_var rfl)))) (ev_raise (ev_cons ev_c ev_nil) rfl))
theorem er_me {nm m : Str} {F : List D → M D} {f : DS → M D} {fa : DS → M (List D)} {δ : DS} {x : D} {r ds : List D} {y : XD} (h1 : f δ = M.ret x) (h2 : attrs nm x = some r) (h3 : noFld m r = true) (h4 : fa δ = M.ret ds) (h5 : F (x :: ds) = some (.error y)) : dMe nm m F f fa δ = some (.error y) := by
  unfold dMe
  rw [h1, thn_ret, h2]
  dsimp only
  rw [if_pos h3, h4, thn_ret, h5]
theorem me_none {nm m : Str} {F : List D → M D} {f : DS → M D} {fa : DS → M (List D)} {δ : DS} {x : D} (h1 : f δ = M.ret x) (h2 : attrs nm x = none) : dMe nm m F f fa δ = none := by
  unfold dMe
  rw [h1, thn_ret, h2]
theorem er_ret {f : DS → M D} {δ : DS} {y : XD} (h : f δ = some (.error y)) : gRet f δ = some (.error y) := by unfold gRet; rw [h]; rfl
theorem er_asg2 {f : DS → M D} {δ : DS} {n : Nat} {y : XD} (h : f δ = some (.error y)) : gAsg f (tgN n) δ = some (.error y) := by unfold gAsg; rw [h]; rfl
theorem no_text_ev {CK : D} (h : Is2 CK) (i : Int) : F__law_no_text [CK, .int i] = M.ret (.bool true) := by
  have hb : (gDrop (dEl (dMe "Thousandths" "read" F_Thousandths_read (dVar 0) (dCons (dVar 1) dNil)) (dMe "Frames" "read" F_Frames_read (dVar 0) (dCons (dVar 1) dNil)))) [.vl CK, .vl (.int i), .vl (.bool false)] = some (.error ⟨"NoTime", []⟩) := by
    refine er_drop ?_
    rcases h with rfl | ⟨b, l, e, hn, rfl⟩
    · have e1 : dMe "Thousandths" "read" F_Thousandths_read (dVar 0) (dCons (dVar 1) dNil) [.vl (insD "Thousandths" []), .vl (.int i), .vl (.bool false)] = some (.error ⟨"NoTime", []⟩) := by
        refine er_me (ev_var rfl) at_T rfl (ev_cons (ev_var rfl) ev_nil) (er_run ?_)
        unfold g_Thousandths_read
        refine er_ret (er_callX (ds := [.int i]) (ev_cons (ev_var rfl) ev_nil) (er_run ?_))
        unfold g_read_moment
        exact er_seq (er_asg2 (er_callX (ev_cons (ev_var rfl) (ev_cons ev_c (ev_cons ev_c ev_nil))) (parts_no i _ _)))
      unfold dEl
      rw [e1]
    · have e0 : dMe "Thousandths" "read" F_Thousandths_read (dVar 0) (dCons (dVar 1) dNil) [.vl (insD "Frames" [("numbering", nb b l e)]), .vl (.int i), .vl (.bool false)] = none := me_none (ev_var rfl) (at_TF _)
      have e1 : dMe "Frames" "read" F_Frames_read (dVar 0) (dCons (dVar 1) dNil) [.vl (insD "Frames" [("numbering", nb b l e)]), .vl (.int i), .vl (.bool false)] = some (.error ⟨"NoTime", []⟩) := by
        refine er_me (ev_var rfl) (at_F _) (nf_FR _) (ev_cons (ev_var rfl) ev_nil) (er_run ?_)
        unfold g_Frames_read
        refine er_ret (er_callX (ds := [nb b l e, .int i]) (ev_cons (ev_1 (ev_var rfl) (fl_F _)) (ev_cons (ev_var rfl) ev_nil)) (er_run ?_))
        unfold g_read_frame
        exact er_seq (er_asg2 (er_callX (ev_cons (ev_var rfl) (ev_cons (ev_call (ev_cons (ev_var rfl) ev_nil) (frame_sign_ev b l e)) (ev_cons (ev_call (ev_cons (ev_var rfl) ev_nil) (frame_figures_ev hn.1 hn.2)) ev_nil))) (parts_no i _ _)))
      unfold dEl
      rw [e0, e1]
  refine ev_run ?_
  unfold g__law_no_text
  refine ev_seq (ev_asg (d := .bool false) ev_c) ?_
  refine ev_seq (ev_tryN_x (y := ⟨"NoTime", []⟩) (o := .nx [.un, .un, .vl (.bool true)]) hb rfl (ev_asg (d := .bool true) ev_c)) ?_
  exact ev_ret (ev_var rfl)
end K14
namespace SL
open DL L2 PySem
section
variable {f fo fi : EnvS → Sto → R (Val × Sto)} {fa : EnvS → Sto → R (List Val × Sto)} {δ : EnvS} {μ μ' μ1 : Sto} {v : Val} {n : Nat}
theorem es_new {fn : DS → M (List D)} {ds : List D} (h : fn (view δ) = M.ret ds) : sNew fn δ μ = R.ret (.h μ.length, μ ++ [.lst (ds.map Val.d)]) := by
  unfold sNew
  rw [h]
  rfl
theorem es_drop (h : f δ μ = R.ret (v, μ')) : sDrop f n δ μ = R.ret (.nx δ μ') := by
  unfold sDrop
  rw [h]
  rfl
theorem es_app {k : Nat} {xs ys : List Val} (h1 : fo δ μ = R.ret (.h k, μ1)) (h2 : μ1[k]? = some (.lst ys)) (h3 : f δ μ1 = R.ret (v, μ')) (h4 : μ'[k]? = some (.lst xs)) (hs : small (xs.length + 1) = true) : sApp fo f δ μ = R.ret (.d .none, μ'.set k (.lst (xs ++ [v]))) := by
  unfold sApp
  rw [h1, rthn_ret]
  dsimp only
  rw [h2]
  dsimp only
  rw [h3, rthn_ret]
  dsimp only
  rw [h4]
  dsimp only
  rw [if_pos hs]
theorem es_ix {k : Nat} {i : Int} {xs : List Val} (h1 : fo δ μ = R.ret (.h k, μ1)) (h2 : fi δ μ1 = R.ret (.d (.int i), μ')) (h3 : μ'[k]? = some (.lst xs)) (h4 : L2.atI xs i = some v) : sIx fo fi δ μ = R.ret (v, μ') := by
  unfold sIx
  rw [h1, rthn_ret]
  dsimp only
  rw [h2, rthn_ret]
  dsimp only
  rw [h3]
  dsimp only
  rw [h4]
end
end SL
open PySem PySem.Spec L2 DL CT TX NumText FM SL
namespace K14
def it (T : Nat → List Nat) (n : Nat) : D := .tuple [.int (n : Int), tx (T n)]
def rw (T : Nat → List Nat) (L : List Nat) : D := .list (L.map (it T))
theorem tx_ok {t : List Nat} (h : ∀ c ∈ t, 46 ≤ c ∧ c ≤ 59) : PyData.strOk (S t) = true := ok_S fun x hx => by have := h x hx; omega
theorem ne_bool (b : Bool) : oNe (.bool b) (.bool b) = some (.bool false) := by cases b <;> rfl
theorem rngS (j m : Nat) : rngD (j : Int) (m + 1) = .int (j : Int) :: rngD ((j + 1 : Nat) : Int) m := by
  unfold rngD
  rw [List.range_succ_eq_map, List.map_cons, List.map_map]
  refine congr (congrArg _ (congrArg _ (by push_cast; omega))) (List.map_congr_left fun i _ => ?_)
  show PyData.int _ = PyData.int _
  congr 1
  push_cast
  omega
theorem rng2N {a b : Nat} (h : a ≤ b) (hb : b ≤ 100000) : rng2 [.int (a : Int), .int (b : Int)] = some (rngD (a : Int) (b - a)) := by
  unfold rng2
  dsimp only
  rw [if_pos (by unfold b62; simp; omega)]
  congr 2
  omega
theorem T_inj {CK : D} {T : Nat → List Nat} (hT : Ck CK T) {n n' : Nat} (h : n < 10 ^ 19) (h' : n' < 10 ^ 19) (e : T n = T n') : n = n' := by
  have := hT.lt n n' h h' (by rw [e])
  have h2 := hT.lt n' n h' h (by rw [e])
  rw [e] at this h2
  have irr : ¬ (T n' < T n') := List.lt_irrefl _
  have a : ¬ (n < n') := fun z => irr (this.mpr z)
  have b : ¬ (n' < n) := fun z => irr (h2.mpr z)
  omega
theorem order_loop {CK : D} {T : Nat → List Nat} (hT : Ck CK T) {L : List Nat} (hL : ∀ n ∈ L, n < 10 ^ 19) (R : D) (hR : R = rw T L) : ∀ (m j : Nat) (x1 x2 x3 x4 x5 : Sl), j + 1 + m = L.length → ∃ y1 y2 y3 y4 y5, forD (bodyD (tgN 1) b__law_order_0) (rngD ((j + 1 : Nat) : Int) m) [.vl R, x1, x2, x3, x4, x5] = M.ret (.nx [.vl R, y1, y2, y3, y4, y5])
  | 0, j, x1, x2, x3, x4, x5, _ => ⟨x1, x2, x3, x4, x5, rfl⟩
  | m + 1, j, x1, x2, x3, x4, x5, e => by
    have h0 : j < L.length := by omega
    have h1 : j + 1 < L.length := by omega
    obtain ⟨n, hn⟩ : ∃ n, n = L[j] := ⟨_, rfl⟩
    obtain ⟨n', hn'⟩ : ∃ n', n' = L[j + 1] := ⟨_, rfl⟩
    have l1 := hL n (by rw [hn]; exact List.getElem_mem _)
    have l2 := hL n' (by rw [hn']; exact List.getElem_mem _)
    have t1 := hT.tm n l1
    have t2 := hT.tm n' l2
    have i1 : oIx R (.int (((j + 1 : Nat) : Int) - 1)) = some (it T n) := by
      rw [hR, show ((j + 1 : Nat) : Int) - 1 = (j : Int) by omega]
      refine ix_nat (by omega) ?_
      rw [Int.toNat_natCast, List.getElem?_map, List.getElem?_eq_getElem h0, hn]
      rfl
    have i2 : oIx R (.int ((j + 1 : Nat) : Int)) = some (it T n') := by
      rw [hR]
      refine ix_nat (by omega) ?_
      rw [Int.toNat_natCast, List.getElem?_map, List.getElem?_eq_getElem h1, hn']
      rfl
    have hq : (S (T n) == S (T n')) = decide ((n : Int) = (n' : Int)) := by
      by_cases z : n = n'
      · subst z
        simp
      · rw [decide_eq_false (by omega)]
        refine beq_eq_false_iff_ne.mpr fun w => z (T_inj hT l1 l2 (S_inj w))
    have e1 : oEq (tx (T n)) (tx (T n')) = some (.bool (decide ((n : Int) = (n' : Int)))) := by
      rw [← hq]
      exact o_eqS (tx_ok t1.sg) (tx_ok t2.sg)
    obtain ⟨y1, y2, y3, y4, y5, hI⟩ := order_loop hT hL R hR m (j + 1) (.vl (.int ((j + 1 : Nat) : Int))) (.vl (.int (n : Int))) (.vl (tx (T n))) (.vl (.int (n' : Int))) (.vl (tx (T n'))) (by omega)
    refine ⟨y1, y2, y3, y4, y5, ?_⟩
    rw [rngS]
    refine forD_cons (ev_body (δ' := [.vl R, .vl (.int ((j + 1 : Nat) : Int)), x2, x3, x4, x5]) rfl ?_) hI
    unfold b__law_order_0
    refine ev_seq (ev_asgT (d := it T n) (δ' := [.vl R, .vl (.int ((j + 1 : Nat) : Int)), .vl (.int (n : Int)), .vl (tx (T n)), x4, x5]) (ev_2 (ev_var rfl) (ev_2 (ev_var rfl) ev_c o_sub) i1) rfl) ?_
    refine ev_seq (ev_asgT (d := it T n') (δ' := [.vl R, .vl (.int ((j + 1 : Nat) : Int)), .vl (.int (n : Int)), .vl (tx (T n)), .vl (.int (n' : Int)), .vl (tx (T n'))]) (ev_2 (ev_var rfl) (ev_var rfl) i2) rfl) ?_
    refine ev_pass (b := false) (ev_b (ev_2 (ev_2 (ev_var rfl) (ev_var rfl) o_eq) (ev_2 (ev_var rfl) (ev_var rfl) e1) (ne_bool _))) rfl ?_
    have lx1 := o_lenX (l := T n) (by have := t1.len; omega)
    have lx2 := o_lenX (l := T n') (by have := t2.len; omega)
    have g1 := ev_b (δ := [.vl R, .vl (.int ((j + 1 : Nat) : Int)), .vl (.int (n : Int)), .vl (tx (T n)), .vl (.int (n' : Int)), .vl (tx (T n'))]) (ev_2 (f := dCB oLen (dCons (dVar 3) dNil)) (g := dCB oLen (dCons (dVar 5) dNil)) (h := oEq) (ev_cb (ev_cons (ev_var rfl) ev_nil) lx1) (ev_cb (ev_cons (ev_var rfl) ev_nil) lx2) (o_eq (i := ((T n).length : Int)) (j := ((T n').length : Int))))
    by_cases hl : ((T n).length : Int) = ((T n').length : Int)
    · rw [decide_eq_true hl] at g1
      have hlt := hT.lt n n' l1 l2 (by omega)
      have e2 : oLtS (tx (T n)) (tx (T n')) = some (.bool (decide ((n : Int) < (n' : Int)))) := by
        show some (PyData.bool (decide ((S (T n)).cps.toList < (S (T n')).cps.toList))) = _
        rw [L_S, L_S]
        congr 2
        exact decide_eq_decide.mpr (hlt.trans (by omega))
      exact ev_pass1 (b := false) (ev_and_t g1 (ev_b (ev_2 (ev_2 (x := .int (n : Int)) (y := .int (n' : Int)) (ev_var rfl) (ev_var rfl) rfl) (ev_2 (ev_var rfl) (ev_var rfl) e2) (ne_bool _)))) rfl
    · rw [decide_eq_false hl] at g1
      exact ev_pass1 (b := false) (ev_and_f g1) rfl
theorem order_ev {CK : D} {T : Nat → List Nat} (hT : Ck CK T) {L : List Nat} (h0 : L ≠ []) (hz : L.length ≤ 1000) (hL : ∀ n ∈ L, n < 10 ^ 19) : F__law_order [rw T L] = M.ret (.bool true) := by
  have hp := List.length_pos_iff.mpr h0
  have hln : oLen [rw T L] = some (.int ((L.length : Nat) : Int)) := by
    show some (PyData.int ((L.map (it T)).length : Int)) = _
    rw [List.length_map]
  generalize hR : rw T L = R at *
  obtain ⟨y1, y2, y3, y4, y5, hO⟩ := order_loop hT hL R hR.symm (L.length - 1) 0 .un .un .un .un .un (by omega)
  have hr := rng2N (a := 1) (b := L.length) (by omega) (by omega)
  refine ev_run ?_
  unfold g__law_order
  exact ev_seq (ev_forG (ev_rngS (xs := [.int 1, .int ((L.length : Nat) : Int)]) (ev_cons ev_c (ev_cons (ev_cb (ev_cons (ev_var rfl) ev_nil) hln) ev_nil)) hr) hO) (ev_ret ev_c)
theorem moment_ev (l : Nat) (c : Int) : ∃ n : Nat, n ≤ max (10 ^ 15) (l + 1) ∧ F__law_moment [.int (l : Int), .int c] = M.ret (.int (n : Int)) := by
  have hm : d2 oMod (dVar 1) (dC (.int 4)) (startD 2 [.int (l : Int), .int c]) = M.ret (.int (c % 4)) := ev_2 (ev_var rfl) ev_c (o_mod (by decide))
  by_cases h0 : c % 4 = 0
  · refine ⟨(c / 4 % 1000000000000000).toNat, by omega, ev_run ?_⟩
    unfold g__law_moment
    refine ev_seqIf (b := true) (ev_b (ev_2 hm ev_c (by rw [o_eq, decide_eq_true h0]))) (ite_T rfl (ev_seqR (ev_ret ?_)))
    rw [show (((c / 4 % 1000000000000000).toNat : Nat) : Int) = c / 4 % 1000000000000000 by omega]
    exact ev_2 (ev_2 (ev_var rfl) ev_c (o_div (bDiv_of (by decide) (by decide)))) (ev_2 ev_c ev_c o_pow15) (o_mod (by decide))
  · by_cases h1 : c % 4 = 1
    · refine ⟨(c / 4 % 1000000).toNat, by omega, ev_run ?_⟩
      unfold g__law_moment
      refine ev_pass (b := false) (ev_b (ev_2 hm ev_c (by rw [o_eq, decide_eq_false h0]))) rfl ?_
      refine ev_seqIf (b := true) (ev_b (ev_2 hm ev_c (by rw [o_eq, decide_eq_true h1]))) (ite_T rfl (ev_seqR (ev_ret ?_)))
      rw [show (((c / 4 % 1000000).toNat : Nat) : Int) = c / 4 % 1000000 by omega]
      exact ev_2 (ev_2 (ev_var rfl) ev_c (o_div (bDiv_of (by decide) (by decide)))) (ev_2 ev_c ev_c o_pow6) (o_mod (by decide))
    · refine ⟨(max 0 ((l : Int) + c % 4 * 2 - 5)).toNat, by omega, ev_run ?_⟩
      unfold g__law_moment
      refine ev_pass (b := false) (ev_b (ev_2 hm ev_c (by rw [o_eq, decide_eq_false h0]))) rfl ?_
      refine ev_pass (b := false) (ev_b (ev_2 hm ev_c (by rw [o_eq, decide_eq_false h1]))) rfl ?_
      rw [show (((max 0 ((l : Int) + c % 4 * 2 - 5)).toNat : Nat) : Int) = max 0 ((l : Int) + c % 4 * 2 - 5) by omega]
      exact ev_ret (ev_cb (ds := [.int 0, .int ((l : Int) + c % 4 * 2 - 5)]) (ev_cons ev_c (ev_cons (ev_2 (ev_2 (ev_var rfl) (ev_2 hm ev_c (o_mul (bMul_r (by decide) (by decide)))) o_add) ev_c o_sub) ev_nil)) rfl)
theorem last_ix (xs : List D) (x : D) : oIx (.list (xs ++ [x])) (.int (-1)) = some x := by
  show L2.atI (xs ++ [x]) (-1) = some x
  unfold L2.atI L2.ixN
  rw [if_neg (by omega), if_pos (by simp; omega)]
  show (xs ++ [x])[(-1 + ((xs ++ [x]).length : Int)).toNat]? = _
  rw [List.length_append, List.length_singleton, show (-1 + ((xs.length + 1 : Nat) : Int)).toNat = xs.length by omega]
  simp
/-! ### the store -/
def rO (T : Nat → List Nat) (L : List Nat) : Ob := .lst ((L.map (it T)).map Val.d)
/-- three clocks and what was held of each -/
structure K3 where
  a : D
  b : D
  c : D
  A : Nat → List Nat
  B : Nat → List Nat
  C : Nat → List Nat
structure K3.Ok (k : K3) : Prop where
  a2 : Is2 k.a
  b2 : Is2 k.b
  c2 : Is2 k.c
  a : Ck k.a k.A
  b : Ck k.b k.B
  c : Ck k.c k.C
def K3.cl (k : K3) : List D := [k.a, k.b, k.c]
def st (k : K3) (L M N : List Nat) : Sto := [.lst (k.cl.map Val.d), .lst [.h 2, .h 3, .h 4], rO k.A L, rO k.B M, rO k.C N]
theorem v_cl (k : K3) (L M N : List Nat) : v1 0 (st k L M N) (some (.h 0)) = .vl (.list k.cl) := v1_h (ds := k.cl) (Nat.le_refl _) rfl
theorem lv_row (T : Nat → List Nat) (R : List Nat) {μ : Sto} {j : Nat} (h : μ[j]? = some (rO T R)) : lv1 0 μ (.h j) = some (rw T R) := by
  show (if 0 ≤ j then (match μ[j]? with | some (.lst xs) => (dataOf xs).map PyData.list | _ => none) else none) = _
  rw [if_pos (Nat.zero_le _), h]
  show (dataOf ((R.map (it T)).map Val.d)).map PyData.list = _
  rw [dataOf_map]
  rfl
theorem v_held (k : K3) (L M N : List Nat) : v1 0 (st k L M N) (some (.h 1)) = .vl (.list [rw k.A L, rw k.B M, rw k.C N]) := by
  refine v1_of (lv2_h (xs := [.h 2, .h 3, .h 4]) (Nat.zero_le _) rfl ?_)
  have e1 := lv_row k.A L (μ := st k L M N) (j := 2) rfl
  have e2 := lv_row k.B M (μ := st k L M N) (j := 3) rfl
  have e3 := lv_row k.C N (μ := st k L M N) (j := 4) rfl
  unfold lv1s
  rw [e1]
  unfold lv1s
  rw [e2]
  unfold lv1s
  rw [e3]
  rfl
/-- a list of moments that can be held -/
def Lk (m : Nat) (L : List Nat) : Prop := L ≠ [] ∧ L.length ≤ m + 1 ∧ ∀ n ∈ L, n ≤ 10 ^ 15 + m
theorem Lk.up {m : Nat} {L : List Nat} (h : Lk m L) : Lk (m + 1) L := ⟨h.1, by have := h.2.1; omega, fun n hn => by have := h.2.2 n hn; omega⟩
theorem Lk.add {m n : Nat} {L : List Nat} (h : Lk m L) (hn : n ≤ 10 ^ 15 + m + 1) : Lk (m + 1) (L ++ [n]) := by
  refine ⟨by simp, by rw [List.length_append]; have := h.2.1; show _ + 1 ≤ _; omega, fun x hx => ?_⟩
  rcases List.mem_append.mp hx with hx | hx
  · have := h.2.2 x hx; omega
  · rw [List.mem_singleton.mp hx]; omega
/-- what a turn does with the clock that it takes -/
theorem turn_ev {CK : D} {T : Nat → List Nat} (hT : Ck CK T) {m : Nat} (hm : m ≤ 100) {R : List Nat} (hR : Lk m R) (c : Int) : ∃ n : Nat, n ≤ 10 ^ 15 + m + 1 ∧ ∃ l : Nat, oIx (rw T R) (.int (-1)) = some (it T l) ∧ F__law_moment [.int (l : Int), .int c] = M.ret (.int (n : Int)) := by
  rcases List.eq_nil_or_concat R with z | ⟨R0, l, rfl⟩
  · exact absurd z hR.1
  · obtain ⟨n, h1, h2⟩ := moment_ev l c
    have hl := hR.2.2 l (by simp)
    refine ⟨n, by omega, l, ?_, h2⟩
    show oIx (.list ((R0.concat l).map (it T))) (.int (-1)) = _
    rw [List.concat_eq_append, List.map_append]
    exact last_ix _ _
theorem o_neI (n : Int) : oNe (.int n) (.int n) = some (.bool false) := by rw [o_ne]; simp
theorem body_ev {k : K3} (hk : k.Ok) (NS : D) {m : Nat} (hm : m ≤ 100) {La Lb Lc : List Nat} (hL : Lk m La) (hM : Lk m Lb) (hN : Lk m Lc) (c : Int) (x4 x5 x6 x7 x8 : Option Val) (q : Nat) : ∃ La' Lb' Lc' y4 y5 y6 y7, Lk (m + 1) La' ∧ Lk (m + 1) Lb' ∧ Lk (m + 1) Lc' ∧ b_law_0 q [some (.d NS), some (.h 0), some (.h 1), some (.d (.int c)), x4, x5, x6, x7, x8] (st k La Lb Lc) = R.ret (.nx [some (.d NS), some (.h 0), some (.h 1), some (.d (.int c)), y4, y5, y6, y7, x8] (st k La' Lb' Lc')) := by
  have hw : c / 3 % 3 = 0 ∨ c / 3 % 3 = 1 ∨ c / 3 % 3 = 2 := by omega
  -- one clock and its row, wherever they stand
  have one : ∀ (w : Int) (CK : D) (T : Nat → List Nat) (Rr : List Nat) (j : Nat), c / 3 % 3 = w → Ck CK T → Lk m Rr → oIx (.list k.cl) (.int w) = some CK → oIx (.list [rw k.A La, rw k.B Lb, rw k.C Lc]) (.int w) = some (rw T Rr) → L2.atI [Val.h 2, .h 3, .h 4] w = some (.h j) → (st k La Lb Lc)[j]? = some (rO T Rr) → ∃ n : Nat, n ≤ 10 ^ 15 + m + 1 ∧ b_law_0 q [some (.d NS), some (.h 0), some (.h 1), some (.d (.int c)), x4, x5, x6, x7, x8] (st k La Lb Lc) = R.ret (.nx [some (.d NS), some (.h 0), some (.h 1), some (.d (.int c)), some (.d (.int w)), some (.d (.int (n : Int))), some (.d (tx (T n))), some (.d (.int (n : Int))), x8] ((st k La Lb Lc).set j (rO T (Rr ++ [n])))) := fun w CK T Rr j hw hT hR i1 i2 i3 i4 => by
    obtain ⟨n, n1, l, hl, hmo⟩ := turn_ev hT hm hR (c / 9)
    have t := hT.tm n (by omega)
    refine ⟨n, n1, ?_⟩
    unfold b_law_0
    refine es_seq (es_asg (es_pure (d := .int w) (by rw [← hw]; exact ev_2 (ev_2 (ev_var rfl) ev_c (o_div (bDiv_of (by decide) (by decide)))) ev_c (o_mod (by decide))))) ?_
    have vw : ∀ (e5 e6 e7 : Option Val), viewL 0 (st k La Lb Lc) [some (.d NS), some (.h 0), some (.h 1), some (.d (.int c)), some (.d (.int w)), e5, e6, e7, x8] = [.vl NS, .vl (.list k.cl), .vl (.list [rw k.A La, rw k.B Lb, rw k.C Lc]), .vl (.int c), .vl (.int w), v1 0 (st k La Lb Lc) e5, v1 0 (st k La Lb Lc) e6, v1 0 (st k La Lb Lc) e7, v1 0 (st k La Lb Lc) x8] := fun e5 e6 e7 => by
      show [.vl NS, v1 0 (st k La Lb Lc) (some (.h 0)), v1 0 (st k La Lb Lc) (some (.h 1)), .vl (.int c), .vl (.int w), v1 0 (st k La Lb Lc) e5, v1 0 (st k La Lb Lc) e6, v1 0 (st k La Lb Lc) e7, v1 0 (st k La Lb Lc) x8] = _
      rw [v_cl, v_held]
    refine es_seq (es_asg (es_lend (d := .int (n : Int)) (by
      show dCall _ _ (viewL 0 (st k La Lb Lc) [some (.d NS), some (.h 0), some (.h 1), some (.d (.int c)), some (.d (.int w)), x5, x6, x7, x8]) = _
      rw [vw]
      exact ev_call (ds := [.int (l : Int), .int (c / 9)]) (ev_cons (ev_2 (x := it T l) (ev_2 (ev_2 (ev_var rfl) (ev_var rfl) i2) (ev_1 ev_c rfl) hl) ev_c rfl) (ev_cons (ev_2 (ev_var rfl) ev_c (o_div (bDiv_of (by decide) (by decide)))) ev_nil)) hmo) rfl)) ?_
    refine es_seq (es_asg (es_lend (d := tx (T n)) (by
      show dEl _ _ (viewL 0 (st k La Lb Lc) [some (.d NS), some (.h 0), some (.h 1), some (.d (.int c)), some (.d (.int w)), some (.d (.int (n : Int))), x6, x7, x8]) = _
      rw [vw]
      exact t.sh (ev_2 (ev_var rfl) (ev_var rfl) i1) (ev_cons (ev_var rfl) ev_nil)) rfl)) ?_
    refine es_seq (es_asg (es_lend (d := .int (n : Int)) (by
      show dEl _ _ (viewL 0 (st k La Lb Lc) [some (.d NS), some (.h 0), some (.h 1), some (.d (.int c)), some (.d (.int w)), some (.d (.int (n : Int))), some (.d (tx (T n))), x7, x8]) = _
      rw [vw]
      exact t.rd (ev_2 (ev_var rfl) (ev_var rfl) i1) (ev_cons (ev_var rfl) ev_nil)) rfl)) ?_
    have hwh : F__law_whole [.int (n : Int)] = M.ret (.bool true) := rfl
    refine es_seq (δ' := [some (.d NS), some (.h 0), some (.h 1), some (.d (.int c)), some (.d (.int w)), some (.d (.int (n : Int))), some (.d (tx (T n))), some (.d (.int (n : Int))), x8]) (μ' := st k La Lb Lc) (es_if (b := false) (es_test (by
      show dOr _ _ (viewL 0 (st k La Lb Lc) [some (.d NS), some (.h 0), some (.h 1), some (.d (.int c)), some (.d (.int w)), some (.d (.int (n : Int))), some (.d (tx (T n))), some (.d (.int (n : Int))), x8]) = _
      rw [vw]
      exact ev_or_f (ev_not (b := true) (ev_b (ev_is (d := tx (T n)) (ev_var rfl)))) (ev_or_f (ev_not (b := true) (ev_b (ev_call (ev_cons (ev_var rfl) ev_nil) hwh))) (ev_b (ev_2 (ev_var rfl) (ev_var rfl) (o_neI _)))))) (by rw [if_neg Bool.false_ne_true]; rfl)) ?_
    have fin := es_drop (n := q) (es_app (δ := [some (.d NS), some (.h 0), some (.h 1), some (.d (.int c)), some (.d (.int w)), some (.d (.int (n : Int))), some (.d (tx (T n))), some (.d (.int (n : Int))), x8]) (μ := st k La Lb Lc) (k := j) (ys := (Rr.map (it T)).map Val.d) (xs := (Rr.map (it T)).map Val.d) (fo := sIx (sVar 2) (sVar 4)) (f := sPure (dTup (dCons (dVar 5) (dCons (dVar 6) dNil)))) (es_ix (k := 1) (i := w) (xs := [.h 2, .h 3, .h 4]) (es_var rfl) (es_var rfl) rfl i3) i4 (es_pure (d := it T n) (ev_tup (ev_cons (ev_var rfl) (ev_cons (ev_var rfl) ev_nil)) rfl)) i4 (small_of (by rw [List.length_map, List.length_map]; have := hR.2.1; omega)))
    have er : (Rr.map (it T)).map Val.d ++ [Val.d (it T n)] = ((Rr ++ [n]).map (it T)).map Val.d := by rw [List.map_append, List.map_append]; rfl
    rw [er] at fin
    exact fin
  rcases hw with hw | hw | hw
  · obtain ⟨n, n1, e⟩ := one 0 k.a k.A La 2 hw hk.a hL rfl rfl rfl rfl
    exact ⟨La ++ [n], Lb, Lc, _, _, _, _, hL.add n1, hM.up, hN.up, e⟩
  · obtain ⟨n, n1, e⟩ := one 1 k.b k.B Lb 3 hw hk.b hM rfl rfl rfl rfl
    exact ⟨La, Lb ++ [n], Lc, _, _, _, _, hL.up, hM.add n1, hN.up, e⟩
  · obtain ⟨n, n1, e⟩ := one 2 k.c k.C Lc 4 hw hk.c hN rfl rfl rfl rfl
    exact ⟨La, Lb, Lc ++ [n], _, _, _, _, hL.up, hM.up, hN.add n1, e⟩
theorem cells_loop {k : K3} (hk : k.Ok) (NS : D) (q : Nat) : ∀ (cs : List Int) (m : Nat) (La Lb Lc : List Nat) (x3 x4 x5 x6 x7 x8 : Option Val), m + cs.length ≤ 100 → Lk m La → Lk m Lb → Lk m Lc → ∃ La' Lb' Lc' y3 y4 y5 y6 y7, Lk (m + cs.length) La' ∧ Lk (m + cs.length) Lb' ∧ Lk (m + cs.length) Lc' ∧ forS (agN 3) (b_law_0 q) (cs.map PyData.int) [some (.d NS), some (.h 0), some (.h 1), x3, x4, x5, x6, x7, x8] (st k La Lb Lc) = R.ret (.nx [some (.d NS), some (.h 0), some (.h 1), y3, y4, y5, y6, y7, x8] (st k La' Lb' Lc'))
  | [], m, La, Lb, Lc, x3, x4, x5, x6, x7, x8, _, hL, hM, hN => ⟨La, Lb, Lc, x3, x4, x5, x6, x7, hL, hM, hN, rfl⟩
  | c :: cs, m, La, Lb, Lc, x3, x4, x5, x6, x7, x8, hm, hL, hM, hN => by
    rw [List.length_cons] at hm
    obtain ⟨L1, M1, N1, y4, y5, y6, y7, l1, m1, n1, e1⟩ := body_ev hk NS (by omega) hL hM hN c x4 x5 x6 x7 x8 q
    obtain ⟨L2, M2, N2, z3, z4, z5, z6, z7, l2, m2, n2, e2⟩ := cells_loop hk NS q cs (m + 1) L1 M1 N1 (some (.d (.int c))) y4 y5 y6 y7 x8 (by omega) l1 m1 n1
    refine ⟨L2, M2, N2, z3, z4, z5, z6, z7, by rw [List.length_cons, show m + (cs.length + 1) = m + 1 + cs.length by omega]; exact l2, by rw [List.length_cons, show m + (cs.length + 1) = m + 1 + cs.length by omega]; exact m2, by rw [List.length_cons, show m + (cs.length + 1) = m + 1 + cs.length by omega]; exact n2, ?_⟩
    exact forS_cons rfl e1 e2
end K14
open PySem PySem.Spec L2 DL CT TX NumText FM SL
namespace K14
theorem read_loop {k : K3} {La Lb Lc : List Nat} {CK : D} {T : Nat → List Nat} (hT : Ck CK T) (NS : D) (w : Int) (j q : Nat) (Rr : List Nat) (hj : (st k La Lb Lc)[j]? = some (rO T Rr)) : ∀ (ns : List Nat) (x3 x5 x6 x7 : Option Val), (∀ n ∈ ns, n < 10 ^ 19) → ∃ y5 y6, forTI j ((Rr.map (it T)).map Val.d) (agTup 2 (agCons (agN 5) (agCons (agN 6) agNil))) (b_law_1 q) (ns.map (it T)) [some (.d NS), some (.h 0), some (.h 1), x3, some (.d (.int w)), x5, x6, x7, some (.d CK)] (st k La Lb Lc) = R.ret (.nx [some (.d NS), some (.h 0), some (.h 1), x3, some (.d (.int w)), y5, y6, x7, some (.d CK)] (st k La Lb Lc))
  | [], x3, x5, x6, x7, _ => ⟨x5, x6, forTI_nil hj⟩
  | n :: ns, x3, x5, x6, x7, h => by
    obtain ⟨y5, y6, hI⟩ := read_loop hT NS w j q Rr hj ns x3 (some (.d (.int (n : Int)))) (some (.d (tx (T n)))) x7 fun x hx => h x (List.mem_cons_of_mem _ hx)
    have t := hT.tm n (h n List.mem_cons_self)
    refine ⟨y5, y6, ?_⟩
    refine forTI_cons (d := it T n) (δ1 := [some (.d NS), some (.h 0), some (.h 1), x3, some (.d (.int w)), some (.d (.int (n : Int))), some (.d (tx (T n))), x7, some (.d CK)]) hj rfl ?_ hI
    have vw : viewL 0 (st k La Lb Lc) [some (.d NS), some (.h 0), some (.h 1), x3, some (.d (.int w)), some (.d (.int (n : Int))), some (.d (tx (T n))), x7, some (.d CK)] = [.vl NS, .vl (.list k.cl), .vl (.list [rw k.A La, rw k.B Lb, rw k.C Lc]), v1 0 (st k La Lb Lc) x3, .vl (.int w), .vl (.int (n : Int)), .vl (tx (T n)), v1 0 (st k La Lb Lc) x7, .vl CK] := by
      show [.vl NS, v1 0 (st k La Lb Lc) (some (.h 0)), v1 0 (st k La Lb Lc) (some (.h 1)), v1 0 (st k La Lb Lc) x3, .vl (.int w), .vl (.int (n : Int)), .vl (tx (T n)), v1 0 (st k La Lb Lc) x7, .vl CK] = _
      rw [v_cl, v_held]
    unfold b_law_1
    refine es_if (b := false) (es_test (by
      rw [vw]
      exact ev_or_f (ev_b (ev_2 (x := tx (T n)) (t.sh (ev_var rfl) (ev_cons (ev_var rfl) ev_nil)) (ev_var rfl) (by rw [o_neS (tx_ok t.sg) (tx_ok t.sg)]; simp))) (ev_b (ev_2 (x := .int (n : Int)) (t.rd (ev_var rfl) (ev_cons (ev_var rfl) ev_nil)) (ev_var rfl) (o_neI _))))) ?_
    rw [if_neg Bool.false_ne_true]
    rfl
theorem clock_ev {k : K3} {La Lb Lc : List Nat} {CK : D} {T : Nat → List Nat} (h2 : Is2 CK) (hT : Ck CK T) (NS : D) (w : Int) (j q m : Nat) (hm : m ≤ 200) (Rr : List Nat) (hR : Lk m Rr) (i2 : oIx (.list [rw k.A La, rw k.B Lb, rw k.C Lc]) (.int w) = some (rw T Rr)) (i3 : L2.atI [Val.h 2, .h 3, .h 4] w = some (.h j)) (hj : (st k La Lb Lc)[j]? = some (rO T Rr)) (x3 x5 x6 x7 : Option Val) : ∃ y5 y6, b_law_2 q [some (.d NS), some (.h 0), some (.h 1), x3, some (.d (.int w)), x5, x6, x7, some (.d CK)] (st k La Lb Lc) = R.ret (.nx [some (.d NS), some (.h 0), some (.h 1), x3, some (.d (.int w)), y5, y6, x7, some (.d CK)] (st k La Lb Lc)) := by
  have hlt : ∀ n ∈ Rr, n < 10 ^ 19 := fun n hn => by have := hR.2.2 n hn; omega
  have ho := order_ev hT hR.1 (by have := hR.2.1; omega) hlt
  have hno := no_text_ev h2 w
  obtain ⟨y5, y6, hI⟩ := read_loop hT NS w j q Rr hj Rr x3 x5 x6 x7 hlt
  refine ⟨y5, y6, ?_⟩
  have vw : viewL 0 (st k La Lb Lc) [some (.d NS), some (.h 0), some (.h 1), x3, some (.d (.int w)), x5, x6, x7, some (.d CK)] = [.vl NS, .vl (.list k.cl), .vl (.list [rw k.A La, rw k.B Lb, rw k.C Lc]), v1 0 (st k La Lb Lc) x3, .vl (.int w), v1 0 (st k La Lb Lc) x5, v1 0 (st k La Lb Lc) x6, v1 0 (st k La Lb Lc) x7, .vl CK] := by
    show [.vl NS, v1 0 (st k La Lb Lc) (some (.h 0)), v1 0 (st k La Lb Lc) (some (.h 1)), v1 0 (st k La Lb Lc) x3, .vl (.int w), v1 0 (st k La Lb Lc) x5, v1 0 (st k La Lb Lc) x6, v1 0 (st k La Lb Lc) x7, .vl CK] = _
    rw [v_cl, v_held]
  unfold b_law_2
  refine es_seq (δ' := [some (.d NS), some (.h 0), some (.h 1), x3, some (.d (.int w)), x5, x6, x7, some (.d CK)]) (μ' := st k La Lb Lc) (es_if (b := false) (es_test (by
    rw [vw]
    exact ev_or_f (ev_not (b := true) (ev_b (isI_ev h2 (ev_var rfl)))) (ev_or_f (ev_not (b := true) (ev_b (ev_call (ev_cons (ev_2 (ev_var rfl) (ev_var rfl) i2) ev_nil) ho))) (ev_not (b := true) (ev_b (ev_call (ev_cons (ev_var rfl) (ev_cons (ev_var rfl) ev_nil)) hno)))))) (by rw [if_neg Bool.false_ne_true]; rfl)) ?_
  exact es_forTI (en := false) (k := j) (ds := Rr.map (it T)) (es_ix (k := 1) (i := w) (xs := [.h 2, .h 3, .h 4]) (es_var rfl) (es_var rfl) rfl i3) hj hI
theorem mk_ev {fa : DS → M (List D)} {δ : DS} {d : D} (h : fa δ = M.ret [d]) : dMk "Frames" "numbering" fa δ = M.ret (insD "Frames" [("numbering", d)]) := by
  unfold dMk
  rw [h]
  rfl
theorem first_ev {CK : D} {T : Nat → List Nat} (hT : Ck CK T) : nX (nLst (dCons (dTup (dCons (dC (.int 0)) (dCons (dEl (dMe "Thousandths" "show" (fun ds => noX (F_Thousandths_show ds)) (dVar 0) (dCons (dC (.int 0)) dNil)) (dMe "Frames" "show" (fun ds => noX (F_Frames_show ds)) (dVar 0) (dCons (dC (.int 0)) dNil))) dNil))) dNil)) [.vl CK] = M.ret [it T 0] := by
  have t := hT.tm 0 (by decide)
  have e : nLst (dCons (dTup (dCons (dC (.int 0)) (dCons (dEl (dMe "Thousandths" "show" (fun ds => noX (F_Thousandths_show ds)) (dVar 0) (dCons (dC (.int 0)) dNil)) (dMe "Frames" "show" (fun ds => noX (F_Frames_show ds)) (dVar 0) (dCons (dC (.int 0)) dNil))) dNil))) dNil) [.vl CK] = M.ret [it T 0] := ev_nLst (ev_cons (ev_tup (ev_cons ev_c (ev_cons (t.sh (ev_var rfl) (ev_cons ev_c ev_nil)) ev_nil)) rfl) ev_nil) rfl
  unfold nX
  rw [e]
  rfl
theorem law_true (ns : List Int) (hl : ns.length ≤ 63) : F_law [.list (ns.map PyData.int)] = M.ret (.bool true) := by
  obtain ⟨c0, hc0⟩ := cell_at_ev ns 0 (by decide)
  obtain ⟨c1, hc1⟩ := cell_at_ev ns 1 (by decide)
  obtain ⟨b, l, e, hn, hnum⟩ := numbering_ev c0
  obtain ⟨b', l', e', hn', hnum'⟩ := numbering_ev c1
  obtain ⟨Ta, hTa⟩ := is2_ck (CK := insD "Thousandths" []) (.inl rfl)
  obtain ⟨Tb, hTb⟩ := is2_ck (CK := insD "Frames" [("numbering", nb b l e)]) (.inr ⟨b, l, e, hn, rfl⟩)
  obtain ⟨Tc, hTc⟩ := is2_ck (CK := insD "Frames" [("numbering", nb b' l' e')]) (.inr ⟨b', l', e', hn', rfl⟩)
  obtain ⟨ca, hca⟩ : ∃ ca, ca = insD "Thousandths" [] := ⟨_, rfl⟩
  obtain ⟨cb, hcb⟩ : ∃ cb, cb = insD "Frames" [("numbering", nb b l e)] := ⟨_, rfl⟩
  obtain ⟨cc, hcc⟩ : ∃ cc, cc = insD "Frames" [("numbering", nb b' l' e')] := ⟨_, rfl⟩
  rw [← hca] at hTa
  rw [← hcb] at hTb
  rw [← hcc] at hTc
  obtain ⟨k, hk⟩ : ∃ k : K3, k = ⟨ca, cb, cc, Ta, Tb, Tc⟩ := ⟨_, rfl⟩
  have hko : k.Ok := by
    rw [hk]
    exact ⟨.inl hca, .inr ⟨b, l, e, hn, hcb⟩, .inr ⟨b', l', e', hn', hcc⟩, hTa, hTb, hTc⟩
  have hcut : ∃ is : List Int, cutD (ns.map PyData.int) (some 2) (some 42) = is.map PyData.int ∧ is.length ≤ ns.length := by
    unfold cutD
    refine ⟨((ns.drop _).take _), by rw [← List.map_drop, ← List.map_take], ?_⟩
    rw [List.length_take, List.length_drop]
    omega
  obtain ⟨is, his, hisl⟩ := hcut
  generalize hNS : PyData.list (ns.map PyData.int) = NS at *
  have cut1 : oCutS (some 2) (some 42) NS = some (.list (is.map PyData.int)) := by rw [← hNS, ← his]; rfl
  have l0 : Lk 0 [0] := ⟨by simp, by decide, fun n hn => by rw [List.mem_singleton.mp hn]; decide⟩
  obtain ⟨La, Lb, Lc, y3, y4, y5, y6, y7, h1, h2, h3, eL⟩ := cells_loop hko NS 0 is 0 [0] [0] [0] none none none none none none (by omega) l0 l0 l0
  have hm : 0 + is.length ≤ 200 := by omega
  have hka : k.a = ca ∧ k.b = cb ∧ k.c = cc ∧ k.A = Ta ∧ k.B = Tb ∧ k.C = Tc := by rw [hk]; exact ⟨rfl, rfl, rfl, rfl, rfl, rfl⟩
  obtain ⟨u5, u6, eA⟩ := clock_ev (k := k) (La := La) (Lb := Lb) (Lc := Lc) hko.a2 hko.a NS 0 2 0 _ hm La h1 rfl rfl rfl y3 y5 y6 y7
  obtain ⟨v5, v6, eB⟩ := clock_ev (k := k) (La := La) (Lb := Lb) (Lc := Lc) hko.b2 hko.b NS 1 3 0 _ hm Lb h2 rfl rfl rfl y3 u5 u6 y7
  obtain ⟨w5, w6, eC⟩ := clock_ev (k := k) (La := La) (Lb := Lb) (Lc := Lc) hko.c2 hko.c NS 2 4 0 _ hm Lc h3 rfl rfl rfl y3 v5 v6 y7
  have fa := first_ev hko.a
  have fb := first_ev hko.b
  have fc := first_ev hko.c
  have hcomp : compN (nLst (dCons (dTup (dCons (dC (.int 0)) (dCons (dEl (dMe "Thousandths" "show" (fun ds => noX (F_Thousandths_show ds)) (dVar 0) (dCons (dC (.int 0)) dNil)) (dMe "Frames" "show" (fun ds => noX (F_Frames_show ds)) (dVar 0) (dCons (dC (.int 0)) dNil))) dNil))) dNil)) k.cl = M.ret [[it k.A 0], [it k.B 0], [it k.C 0]] := by
    unfold K3.cl
    unfold compN
    rw [fa, thn_ret, if_pos (show flatDs [it k.A 0] = true from rfl)]
    unfold compN
    rw [fb, thn_ret, if_pos (show flatDs [it k.B 0] = true from rfl)]
    unfold compN
    rw [fc, thn_ret, if_pos (show flatDs [it k.C 0] = true from rfl)]
    rfl
  have main : ∃ μ, FS_law [.d NS] [] = R.ret (.d (.bool true), μ) := by
    refine ⟨st k La Lb Lc, ?_⟩
    unfold FS_law
    refine es_run ?_
    unfold g_law
    refine es_seq (es_asg (es_new (ds := [ca, cb]) (ev_nLst (ev_cons (by rw [hca]; exact ev_c) (ev_cons (by rw [hcb]; exact mk_ev (ev_cons (ev_call (ev_cons (ev_call (ev_cons (ev_var rfl) (ev_cons ev_c ev_nil)) hc0) ev_nil) hnum) ev_nil)) ev_nil)) rfl))) ?_
    refine es_seq (δ' := [some (.d NS), some (.h 0), none, none, none, none, none, none, none]) (μ' := [.lst (k.cl.map Val.d)]) ?_ ?_
    · have := es_drop (n := 0) (es_app (δ := [some (.d NS), some (.h 0), none, none, none, none, none, none, none]) (μ := [.lst [.d ca, .d cb]]) (μ' := [.lst [.d ca, .d cb]]) (k := 0) (xs := [.d ca, .d cb]) (ys := [.d ca, .d cb]) (fo := sVar 1) (f := sPure (dMk "Frames" "numbering" (dCons (dCall (fun ds => noX (F__law_numbering ds)) (dCons (dCall (fun ds => noX (F__law_cell_at ds)) (dCons (dVar 0) (dCons (dC (.int 1)) dNil))) dNil)) dNil))) (es_var rfl) rfl (es_pure (d := cc) (by rw [hcc]; exact mk_ev (ev_cons (ev_call (ev_cons (ev_call (ev_cons (ev_var rfl) (ev_cons ev_c ev_nil)) hc1) ev_nil) hnum') ev_nil))) rfl rfl)
      have ecl : k.cl.map Val.d = [.d ca, .d cb] ++ [.d cc] := by rw [hk]; rfl
      rw [ecl]
      exact this
    refine es_seq (δ' := [some (.d NS), some (.h 0), some (.h 1), none, none, none, none, none, none]) (μ' := st k [0] [0] [0]) ?_ ?_
    · have hv : viewL 0 [Ob.lst (k.cl.map Val.d)] [some (.d NS), some (.h 0), none, none, none, none, none, none, none] = [.vl NS, .vl (.list k.cl), .un, .un, .un, .un, .un, .un, .un] := by
        show [.vl NS, v1 0 [Ob.lst (k.cl.map Val.d)] (some (.h 0)), .un, .un, .un, .un, .un, .un, .un] = _
        rw [v1_h (ds := k.cl) (Nat.le_refl _) rfl]
      have := es_asg (n := 0) (i := 2) (es_compN (δ := [some (.d NS), some (.h 0), none, none, none, none, none, none, none]) (μ := [Ob.lst (k.cl.map Val.d)]) (fi := dAny (dVar 1)) (ds := k.cl) (by rw [hv]; exact ev_any (x := .list k.cl) (ev_var rfl) rfl) rfl hcomp)
      exact this
    refine es_seq (es_for (ds := is.map PyData.int) (ev_any (x := .list (is.map PyData.int)) (ev_cutS (ev_var rfl) (ev_part ev_c) (ev_part ev_c) cut1) rfl) eL) ?_
    refine es_seq (δ' := [some (.d NS), some (.h 0), some (.h 1), y3, some (.d (.int 2)), w5, w6, y7, some (.d k.c)]) (μ' := st k La Lb Lc) ?_ (es_ret (es_pure ev_c))
    refine es_forTI (en := true) (k := 0) (ds := k.cl) (es_var rfl) rfl ?_
    show forTI 0 (k.cl.map Val.d) _ (b_law_2 0) [.tuple [.int 0, k.a], .tuple [.int 1, k.b], .tuple [.int 2, k.c]] _ _ = _
    refine forTI_cons (δ1 := [some (.d NS), some (.h 0), some (.h 1), y3, some (.d (.int 0)), y5, y6, y7, some (.d k.a)]) rfl rfl eA ?_
    refine forTI_cons (δ1 := [some (.d NS), some (.h 0), some (.h 1), y3, some (.d (.int 1)), u5, u6, y7, some (.d k.b)]) rfl rfl eB ?_
    refine forTI_cons (δ1 := [some (.d NS), some (.h 0), some (.h 1), y3, some (.d (.int 2)), v5, v6, y7, some (.d k.c)]) rfl rfl eC ?_
    exact forTI_nil rfl
  obtain ⟨μ, main⟩ := main
  show asD FS_law [NS] = _
  unfold asD
  show (match FS_law [.d NS] [] with | some (.ok (.d x, _)) => M.ret x | _ => none) = _
  rw [main]
  rfl
end K14
namespace K14
open PySem PySem.Spec PyProof.Rows L2 DL CT SL
def top (i : Nat) : Stmt := PySem.Challenge.pw_cuetimer_k14_whole_clocks.main.body.getD i (.Pass ⟨0, 0, 0, 0⟩)
def mth (s : Stmt) (i : Nat) : Stmt := match s with
  | .ClassDef _ _ _ b _ _ _ _ _ _ _ => b.getD i (.Pass ⟨0, 0, 0, 0⟩)
  | s => s
section
variable {P : Program} {w : World} {K : PySem.W.Frag} {mg : Str → Option Value} {base : Heap}
theorem sc_show_parts : FnScope ["parts", "sign", "figures", "hours", "minutes", "seconds", "last"] ["parts", "sign", "figures"] (defScope (top 23)) := ⟨rfl, rfl, rfl, by decide +kernel, rfl, by decide +kernel, by decide +kernel⟩
theorem d_show_parts {f : Addr} {fd : FuncData} (F0 : Fun K "show_parts" "show_parts" (top 23) f fd) (hm : mg "show_parts" = some (.ref f)) (z_str : mg "str" = none) : Def P w K mg base 1 "show_parts" 3 F_show_parts := by
  have S := sc_show_parts
  refine def_of (N := ["parts", "sign", "figures", "hours", "minutes", "seconds", "last"]) (ps := ["parts", "sign", "figures"]) (k := 0) (g := g_show_parts) F0 S hm (F0.binds fun _ _ _ _ _ _ us hl => match us, hl with | [_, _, _], _ => rfl) fun cdv A outer s H E hr => ?_
  unfold g_show_parts
  exact (pds_cons (pd_set (i := 3) S.nd rfl (by first | exact Or.inl rfl | exact Or.inr rfl) (pd_meth PySem.F.slot_str_zfill PySem.F.type_str_zfill dmt_zfill (pd_callTy dcall_str rfl z_str PyProof.Rows.boot_str (pda_cons (pd_ix (pd_var (pv 0)) pd_int (fun _ _ => rfl)) pda_nil)) (pda_cons pd_int pda_nil)))
    (pds_cons (pd_set (i := 4) S.nd rfl (by first | exact Or.inl rfl | exact Or.inr rfl) (pd_meth PySem.F.slot_str_zfill PySem.F.type_str_zfill dmt_zfill (pd_callTy dcall_str rfl z_str PyProof.Rows.boot_str (pda_cons (pd_ix (pd_var (pv 0)) pd_int (fun _ _ => rfl)) pda_nil)) (pda_cons pd_int pda_nil)))
    (pds_cons (pd_set (i := 5) S.nd rfl (by first | exact Or.inl rfl | exact Or.inr rfl) (pd_meth PySem.F.slot_str_zfill PySem.F.type_str_zfill dmt_zfill (pd_callTy dcall_str rfl z_str PyProof.Rows.boot_str (pda_cons (pd_ix (pd_var (pv 0)) pd_int (fun _ _ => rfl)) pda_nil)) (pda_cons pd_int pda_nil)))
    (pds_cons (pd_set (i := 6) S.nd rfl (by first | exact Or.inl rfl | exact Or.inr rfl) (pd_meth PySem.F.slot_str_zfill PySem.F.type_str_zfill dmt_zfill (pd_callTy dcall_str rfl z_str PyProof.Rows.boot_str (pda_cons (pd_ix (pd_var (pv 0)) pd_int (fun _ _ => rfl)) pda_nil)) (pda_cons (pd_var (pv 2)) pda_nil)))
    (pds_one (pd_ret (pd_joined (PDJ.cons (pd_fv (pd_var (pv 3))) (PDJ.cons pd_str (PDJ.cons (pd_fv (pd_var (pv 4))) (PDJ.cons pd_str (PDJ.cons (pd_fv (pd_var (pv 5))) (PDJ.cons (pd_fv (pd_var (pv 1))) (PDJ.cons (pd_fv (pd_var (pv 6))) PDJ.nil))))))))))))))
theorem sc_show_moment : FnScope ["moment", "second", "minute"] ["moment"] (defScope (top 17)) := ⟨rfl, rfl, rfl, by decide +kernel, rfl, by decide +kernel, by decide +kernel⟩
theorem d_show_moment {f : Addr} {fd : FuncData} (F0 : Fun K "show_moment" "show_moment" (top 17) f fd) (hm : mg "show_moment" = some (.ref f)) (d_show_parts : Def P w K mg base 1 "show_parts" 3 F_show_parts) : Def P w K mg base 2 "show_moment" 1 F_show_moment := by
  have S := sc_show_moment
  refine def_of (N := ["moment", "second", "minute"]) (ps := ["moment"]) (k := 1) (g := g_show_moment) F0 S hm (F0.binds fun _ _ _ _ _ _ us hl => match us, hl with | [_], _ => rfl) fun cdv A outer s H E hr => ?_
  unfold g_show_moment
  exact (pds_cons (pd_set (i := 1) S.nd rfl (by first | exact Or.inl rfl | exact Or.inr rfl) (pd_op dop_div (pd_var (pv 0)) pd_int))
    (pds_cons (pd_set (i := 2) S.nd rfl (by first | exact Or.inl rfl | exact Or.inr rfl) (pd_op dop_div (pd_var (pv 1)) pd_int))
    (pds_one (pd_ret (pd_call d_show_parts (hr.mono (by decide)) rfl rfl (pda_cons (pd_tup (pda_cons (pd_op dop_div (pd_var (pv 2)) pd_int) (pda_cons (pd_op dop_mod (pd_var (pv 2)) pd_int) (pda_cons (pd_op dop_mod (pd_var (pv 1)) pd_int) (pda_cons (pd_op dop_mod (pd_var (pv 0)) pd_int) pda_nil))))) (pda_cons pd_str (pda_cons pd_int pda_nil))))))))
theorem sc_Thousandths_show : FnScope ["self", "moment"] ["self", "moment"] (defScope (mth (top 30) 0)) := ⟨rfl, rfl, rfl, by decide +kernel, rfl, by decide +kernel, by decide +kernel⟩
theorem d_Thousandths_show {f : Addr} {fd : FuncData} (F0 : Fun K "show" "Thousandths.show" (mth (top 30) 0) f fd) {C_Thousandths : Addr} (m_Thousandths : mg "Thousandths" = some (.ref C_Thousandths)) (nn_Thousandths : PySem.W.nsIn K mainGlobals "Thousandths" = some (some (.ref C_Thousandths))) (pg_Thousandths : PySem.W.plainGet K C_Thousandths Str.empty = true) (hd_Thousandths : PySem.W.hasDictIn K C_Thousandths = true) (po_Thousandths : PySem.W.plainOver K C_Thousandths = true) (sa_Thousandths : PySem.W.findIn K (.ref C_Thousandths) "__setattr__" = some (some (.builtin "object.__setattr__"))) (d_show_moment : Def P w K mg base 2 "show_moment" 1 F_show_moment) (hat : PySem.W.findIn K (.ref C_Thousandths) "show" = some (some (.ref f))) (hfn : PySem.W.isFn K (.ref f) = true) : DefM P w K mg base 3 "Thousandths" "show" 2 F_Thousandths_show := by
  have S := sc_Thousandths_show
  refine ⟨C_Thousandths, f, fd, ["self", "moment"], nn_Thousandths, ⟨pg_Thousandths, hd_Thousandths, po_Thousandths, sa_Thousandths⟩, ⟨hat, hfn, F0.kp⟩, fn_ofD (N := ["self", "moment"]) (ps := ["self", "moment"]) (k := 2) (g := g_Thousandths_show) F0 S (fun cdv A outer s H E hr => ?_), (F0.binds fun _ _ _ _ _ _ us hl => match us, hl with | [_, _], _ => rfl)⟩
  unfold g_Thousandths_show
  exact (pds_one (pd_ret (pd_call d_show_moment (hr.mono (by decide)) rfl rfl (pda_cons (pd_var (pv 1)) pda_nil))))
theorem sc_are_figures : FnScope ["text"] ["text"] (defScope (top 7)) := ⟨rfl, rfl, rfl, by decide +kernel, rfl, by decide +kernel, by decide +kernel⟩
theorem d_are_figures {f : Addr} {fd : FuncData} (F0 : Fun K "are_figures" "are_figures" (top 7) f fd) (hm : mg "are_figures" = some (.ref f)) {t_FIGURES : Tok} (m_FIGURES : mg "FIGURES" = some (.str "0123456789" t_FIGURES)) (z_all : mg "all" = none) : Def P w K mg base 1 "are_figures" 1 F_are_figures := by
  have S := sc_are_figures
  refine def_of (N := ["text"]) (ps := ["text"]) (k := 0) (g := g_are_figures) F0 S hm (F0.binds fun _ _ _ _ _ _ us hl => match us, hl with | [_], _ => rfl) fun cdv A outer s H E hr => ?_
  unfold g_are_figures
  exact (pds_one (pd_ret (pd_and (pd_cmp (dop_ne hr.units) (pd_var (pv 0)) pd_str (nomark _)) (pd_one (pd_callB (dcall_all rfl) rfl z_all PyProof.Rows.boot_all (pda_cons (pd_compG (fr := []) (tn := ["sign"]) rfl rfl (by decide +kernel) (by rfl) (fun _ _ h => h) (hhas_of (by rfl)) fr_nil (by decide +kernel) (pdi_any (pd_var (pv 0))) (fun C s3 H3 fp => (pdg_name (pg_name (i := 0) (show (["sign"] : List Str).Nodup from by decide +kernel) rfl (by first | exact Or.inl rfl | exact Or.inr rfl)))) (fun C s3 H3 fp => pdts_nil) (fun C s3 H3 fp => (pd_cmp dop_inS (pd_var (pv 0)) (pd_globS rfl m_FIGURES) rfl))) pda_nil))))))
theorem sc_has_figures : FnScope ["text", "figures"] ["text", "figures"] (defScope (top 27)) := ⟨rfl, rfl, rfl, by decide +kernel, rfl, by decide +kernel, by decide +kernel⟩
theorem d_has_figures {f : Addr} {fd : FuncData} (F0 : Fun K "has_figures" "has_figures" (top 27) f fd) (hm : mg "has_figures" = some (.ref f)) (d_are_figures : Def P w K mg base 1 "are_figures" 1 F_are_figures) (z_len : mg "len" = none) : Def P w K mg base 2 "has_figures" 2 F_has_figures := by
  have S := sc_has_figures
  refine def_of (N := ["text", "figures"]) (ps := ["text", "figures"]) (k := 1) (g := g_has_figures) F0 S hm (F0.binds fun _ _ _ _ _ _ us hl => match us, hl with | [_, _], _ => rfl) fun cdv A outer s H E hr => ?_
  unfold g_has_figures
  exact (pds_one (pd_ret (pd_and (pd_cmp (dop_eq hr.units) (pd_callB dcall_len rfl z_len PySem.boot_len (pda_cons (pd_var (pv 0)) pda_nil)) (pd_var (pv 1)) (nomark _)) (pd_one (pd_call d_are_figures (hr.mono (by decide)) rfl rfl (pda_cons (pd_var (pv 0)) pda_nil))))))
theorem sc_are_hours : FnScope ["text"] ["text"] (defScope (top 25)) := ⟨rfl, rfl, rfl, by decide +kernel, rfl, by decide +kernel, by decide +kernel⟩
theorem d_are_hours {f : Addr} {fd : FuncData} (F0 : Fun K "are_hours" "are_hours" (top 25) f fd) (hm : mg "are_hours" = some (.ref f)) (d_has_figures : Def P w K mg base 2 "has_figures" 2 F_has_figures) (d_are_figures : Def P w K mg base 1 "are_figures" 1 F_are_figures) (z_len : mg "len" = none) : Def P w K mg base 3 "are_hours" 1 F_are_hours := by
  have S := sc_are_hours
  refine def_of (N := ["text"]) (ps := ["text"]) (k := 2) (g := g_are_hours) F0 S hm (F0.binds fun _ _ _ _ _ _ us hl => match us, hl with | [_], _ => rfl) fun cdv A outer s H E hr => ?_
  unfold g_are_hours
  exact (pds_cons (pd_ifS (pdt_val (pd_call d_has_figures (hr.mono (by decide)) rfl rfl (pda_cons (pd_var (pv 0)) (pda_cons pd_int pda_nil)))) (pds_one (pd_ret pd_bl)) pds_nil)
    (pds_one (pd_ret (pd_and (pd_chain dop_leD dop_leD pd_int (pd_callB dcall_len rfl z_len PySem.boot_len (pda_cons (pd_var (pv 0)) pda_nil)) pd_int) (pd_and (pd_call d_are_figures (hr.mono (by decide)) rfl rfl (pda_cons (pd_var (pv 0)) pda_nil)) (pd_one (pd_cmp (dop_ne hr.units) (pd_ix (pd_var (pv 0)) pd_int (fun _ _ => rfl)) pd_str (nomark _))))))))
theorem sc_are_sixtieths : FnScope ["text"] ["text"] (defScope (top 26)) := ⟨rfl, rfl, rfl, by decide +kernel, rfl, by decide +kernel, by decide +kernel⟩
theorem d_are_sixtieths {f : Addr} {fd : FuncData} (F0 : Fun K "are_sixtieths" "are_sixtieths" (top 26) f fd) (hm : mg "are_sixtieths" = some (.ref f)) (d_has_figures : Def P w K mg base 2 "has_figures" 2 F_has_figures) (z_int : mg "int" = none) : Def P w K mg base 3 "are_sixtieths" 1 F_are_sixtieths := by
  have S := sc_are_sixtieths
  refine def_of (N := ["text"]) (ps := ["text"]) (k := 2) (g := g_are_sixtieths) F0 S hm (F0.binds fun _ _ _ _ _ _ us hl => match us, hl with | [_], _ => rfl) fun cdv A outer s H E hr => ?_
  unfold g_are_sixtieths
  exact (pds_one (pd_ret (pd_and (pd_call d_has_figures (hr.mono (by decide)) rfl rfl (pda_cons (pd_var (pv 0)) (pda_cons pd_int pda_nil))) (pd_one (pd_cmp dop_lt (pd_callTy dcall_intS rfl z_int PyProof.Rows.boot_int (pda_cons (pd_var (pv 0)) pda_nil)) pd_int (nomark _))))))
theorem sc_read_parts : FnScope ["text", "sign", "figures", "hours", "minutes", "seconds"] ["text", "sign", "figures"] (defScope (top 24)) := ⟨rfl, rfl, rfl, by decide +kernel, rfl, by decide +kernel, by decide +kernel⟩
theorem d_read_parts {f : Addr} {fd : FuncData} (F0 : Fun K "read_parts" "read_parts" (top 24) f fd) (hm : mg "read_parts" = some (.ref f)) {C_NoTime : Addr} (m_NoTime : mg "NoTime" = some (.ref C_NoTime)) (x_NoTime : PySem.W.excIn K C_NoTime [.type "ValueError", .type "Exception", .type "BaseException", .type "object"] "ValueError.__new__" = true) (d_are_hours : Def P w K mg base 3 "are_hours" 1 F_are_hours) (d_are_sixtieths : Def P w K mg base 3 "are_sixtieths" 1 F_are_sixtieths) (d_has_figures : Def P w K mg base 2 "has_figures" 2 F_has_figures) (z_isinstance : mg "isinstance" = none) (z_str : mg "str" = none) (z_int : mg "int" = none) : DefX P w K mg base 4 "read_parts" 3 F_read_parts := by
  have S := sc_read_parts
  refine defX_of (N := ["text", "sign", "figures", "hours", "minutes", "seconds"]) (ps := ["text", "sign", "figures"]) (k := 3) (g := g_read_parts) F0 S hm (F0.binds fun _ _ _ _ _ _ us hl => match us, hl with | [_, _, _], _ => rfl) fun cdv A outer s H E hr => ?_
  unfold g_read_parts
  exact (pds_cons (pd_ifS (pdt_not (pdt_val (pd_isinst rfl (kit_str _) rfl z_isinstance rfl z_str PyProof.Rows.boot_str (pd_var (pv 0))))) (pds_one (pd_raise raises_def (fun _ _ h => h) x_NoTime PySem.F.excBase_ValueError rfl rfl m_NoTime (pda_cons pd_str pda_nil))) pds_nil)
    (pds_cons (pd_set (i := 3) S.nd rfl (by first | exact Or.inl rfl | exact Or.inr rfl) (pd_meth PySem.F.slot_str_partition PySem.F.type_str_partition dmt_partition (pd_var (pv 0)) (pda_cons pd_str pda_nil)))
    (pds_cons (pd_set (i := 4) S.nd rfl (by first | exact Or.inl rfl | exact Or.inr rfl) (pd_meth PySem.F.slot_str_partition PySem.F.type_str_partition dmt_partition (pd_ix (pd_var (pv 3)) pd_int (fun _ _ => rfl)) (pda_cons pd_str pda_nil)))
    (pds_cons (pd_set (i := 5) S.nd rfl (by first | exact Or.inl rfl | exact Or.inr rfl) (pd_meth PySem.F.slot_str_partition PySem.F.type_str_partition dmt_partition (pd_ix (pd_var (pv 4)) pd_int (fun _ _ => rfl)) (pda_cons (pd_var (pv 1)) pda_nil)))
    (pds_cons (pd_ifS (pdt_not (PDW.t (pdw_and (pdt_val (pd_call d_are_hours (hr.mono (by decide)) rfl rfl (pda_cons (pd_ix (pd_var (pv 3)) pd_int (fun _ _ => rfl)) pda_nil))) (pdw_and (pdt_val (pd_call d_are_sixtieths (hr.mono (by decide)) rfl rfl (pda_cons (pd_ix (pd_var (pv 4)) pd_int (fun _ _ => rfl)) pda_nil))) (pdw_and1 (pdt_val (pd_call d_are_sixtieths (hr.mono (by decide)) rfl rfl (pda_cons (pd_ix (pd_var (pv 5)) pd_int (fun _ _ => rfl)) pda_nil)))))))) (pds_one (pd_raise raises_def (fun _ _ h => h) x_NoTime PySem.F.excBase_ValueError rfl rfl m_NoTime (pda_cons pd_str pda_nil))) pds_nil)
    (pds_cons (pd_ifS (pdt_not (pdt_val (pd_call d_has_figures (hr.mono (by decide)) rfl rfl (pda_cons (pd_ix (pd_var (pv 5)) pd_int (fun _ _ => rfl)) (pda_cons (pd_var (pv 2)) pda_nil))))) (pds_one (pd_raise raises_def (fun _ _ h => h) x_NoTime PySem.F.excBase_ValueError rfl rfl m_NoTime (pda_cons pd_str pda_nil))) pds_nil)
    (pds_one (pd_ret (pd_tup (pda_cons (pd_callTy dcall_intS rfl z_int PyProof.Rows.boot_int (pda_cons (pd_ix (pd_var (pv 3)) pd_int (fun _ _ => rfl)) pda_nil)) (pda_cons (pd_callTy dcall_intS rfl z_int PyProof.Rows.boot_int (pda_cons (pd_ix (pd_var (pv 4)) pd_int (fun _ _ => rfl)) pda_nil)) (pda_cons (pd_callTy dcall_intS rfl z_int PyProof.Rows.boot_int (pda_cons (pd_ix (pd_var (pv 5)) pd_int (fun _ _ => rfl)) pda_nil)) (pda_cons (pd_callTy dcall_intS rfl z_int PyProof.Rows.boot_int (pda_cons (pd_ix (pd_var (pv 5)) pd_int (fun _ _ => rfl)) pda_nil)) pda_nil)))))))))))))
theorem sc_read_moment : FnScope ["text", "parts", "second"] ["text"] (defScope (top 18)) := ⟨rfl, rfl, rfl, by decide +kernel, rfl, by decide +kernel, by decide +kernel⟩
theorem d_read_moment {f : Addr} {fd : FuncData} (F0 : Fun K "read_moment" "read_moment" (top 18) f fd) (hm : mg "read_moment" = some (.ref f)) (d_read_parts : DefX P w K mg base 4 "read_parts" 3 F_read_parts) : DefX P w K mg base 5 "read_moment" 1 F_read_moment := by
  have S := sc_read_moment
  refine defX_of (N := ["text", "parts", "second"]) (ps := ["text"]) (k := 4) (g := g_read_moment) F0 S hm (F0.binds fun _ _ _ _ _ _ us hl => match us, hl with | [_], _ => rfl) fun cdv A outer s H E hr => ?_
  unfold g_read_moment
  exact (pds_cons (pd_set (i := 1) S.nd rfl (by first | exact Or.inl rfl | exact Or.inr rfl) (pd_callX d_read_parts (hr.mono (by decide)) passes_def (fun _ _ h => h) rfl rfl (pda_cons (pd_var (pv 0)) (pda_cons pd_str (pda_cons pd_int pda_nil)))))
    (pds_cons (pd_set (i := 2) S.nd rfl (by first | exact Or.inl rfl | exact Or.inr rfl) (pd_op dop_add (pd_op dop_mul pd_int (pd_op dop_add (pd_op dop_mul pd_int (pd_ix (pd_var (pv 1)) pd_int (fun _ _ => rfl))) (pd_ix (pd_var (pv 1)) pd_int (fun _ _ => rfl)))) (pd_ix (pd_var (pv 1)) pd_int (fun _ _ => rfl))))
    (pds_one (pd_ret (pd_op dop_add (pd_op dop_mul pd_int (pd_var (pv 2))) (pd_ix (pd_var (pv 1)) pd_int (fun _ _ => rfl)))))))
theorem sc_Thousandths_read : FnScope ["self", "text"] ["self", "text"] (defScope (mth (top 30) 1)) := ⟨rfl, rfl, rfl, by decide +kernel, rfl, by decide +kernel, by decide +kernel⟩
theorem d_Thousandths_read {f : Addr} {fd : FuncData} (F0 : Fun K "read" "Thousandths.read" (mth (top 30) 1) f fd) {C_Thousandths : Addr} (m_Thousandths : mg "Thousandths" = some (.ref C_Thousandths)) (nn_Thousandths : PySem.W.nsIn K mainGlobals "Thousandths" = some (some (.ref C_Thousandths))) (pg_Thousandths : PySem.W.plainGet K C_Thousandths Str.empty = true) (hd_Thousandths : PySem.W.hasDictIn K C_Thousandths = true) (po_Thousandths : PySem.W.plainOver K C_Thousandths = true) (sa_Thousandths : PySem.W.findIn K (.ref C_Thousandths) "__setattr__" = some (some (.builtin "object.__setattr__"))) (d_read_moment : DefX P w K mg base 5 "read_moment" 1 F_read_moment) (hat : PySem.W.findIn K (.ref C_Thousandths) "read" = some (some (.ref f))) (hfn : PySem.W.isFn K (.ref f) = true) : DefMX P w K mg base 6 "Thousandths" "read" 2 F_Thousandths_read := by
  have S := sc_Thousandths_read
  refine ⟨C_Thousandths, f, fd, ["self", "text"], nn_Thousandths, ⟨pg_Thousandths, hd_Thousandths, po_Thousandths, sa_Thousandths⟩, ⟨hat, hfn, F0.kp⟩, fn_ofX (N := ["self", "text"]) (ps := ["self", "text"]) (k := 5) (g := g_Thousandths_read) F0 S (fun cdv A outer s H E hr => ?_), (F0.binds fun _ _ _ _ _ _ us hl => match us, hl with | [_, _], _ => rfl)⟩
  unfold g_Thousandths_read
  exact (pds_one (pd_ret (pd_callX d_read_moment (hr.mono (by decide)) passes_def (fun _ _ h => h) rfl rfl (pda_cons (pd_var (pv 1)) pda_nil))))
theorem sc_Frames_init : FnScope ["self", "numbering"] ["self", "numbering"] (defScope (mth (top 31) 0)) := ⟨rfl, rfl, rfl, by decide +kernel, rfl, by decide +kernel, by decide +kernel⟩
theorem d_Frames_init {f : Addr} {fd : FuncData} (F0 : Fun K "__init__" "Frames.__init__" (mth (top 31) 0) f fd) {C_Frames : Addr} (m_Frames : mg "Frames" = some (.ref C_Frames)) (nn_Frames : PySem.W.nsIn K mainGlobals "Frames" = some (some (.ref C_Frames))) (pg_Frames : PySem.W.plainGet K C_Frames Str.empty = true) (hd_Frames : PySem.W.hasDictIn K C_Frames = true) (po_Frames : PySem.W.plainOver K C_Frames = true) (sa_Frames : PySem.W.findIn K (.ref C_Frames) "__setattr__" = some (some (.builtin "object.__setattr__"))) (na_Frames_numbering : PySem.W.findIn K (.ref C_Frames) "numbering" = some none) (hat : PySem.W.findIn K (.ref C_Frames) "__init__" = some (some (.ref f))) (hfn : PySem.W.isFn K (.ref f) = true) (mk : PySem.W.makesIn K C_Frames = true) (kc : PySem.W.keepIn K (.ref C_Frames) = true) : MkI P w K mg base 1 "Frames" "numbering" := by
  have S := sc_Frames_init
  exact ⟨C_Frames, f, fd, ["self", "numbering"], nn_Frames, m_Frames, ⟨mk, hat, hfn, kc⟩, init_of (k := 0) F0 S rfl ⟨pg_Frames, hd_Frames, po_Frames, sa_Frames⟩ na_Frames_numbering (fun cdv A outer s H E => pss_one (ps_fld (pv 0) (pv 1) rfl)), (F0.binds fun _ _ _ _ _ _ us hl => match us, hl with | [_, _], _ => rfl)⟩
theorem sc_gaps_before_frame : FnScope ["numbering", "frame", "whole", "short", "gaps_in_round", "length", "gaps", "rest"] ["numbering", "frame"] (defScope (top 15)) := ⟨rfl, rfl, rfl, by decide +kernel, rfl, by decide +kernel, by decide +kernel⟩
theorem d_gaps_before_frame {f : Addr} {fd : FuncData} (F0 : Fun K "gaps_before_frame" "gaps_before_frame" (top 15) f fd) (hm : mg "gaps_before_frame" = some (.ref f)) : Def P w K mg base 1 "gaps_before_frame" 2 F_gaps_before_frame := by
  have S := sc_gaps_before_frame
  refine def_of (N := ["numbering", "frame", "whole", "short", "gaps_in_round", "length", "gaps", "rest"]) (ps := ["numbering", "frame"]) (k := 0) (g := g_gaps_before_frame) F0 S hm (F0.binds fun _ _ _ _ _ _ us hl => match us, hl with | [_, _], _ => rfl) fun cdv A outer s H E hr => ?_
  unfold g_gaps_before_frame
  exact (pds_cons (pd_set (i := 2) S.nd rfl (by first | exact Or.inl rfl | exact Or.inr rfl) (pd_op dop_mul pd_int (pd_ix (pd_var (pv 0)) pd_int (fun _ _ => rfl))))
    (pds_cons (pd_set (i := 3) S.nd rfl (by first | exact Or.inl rfl | exact Or.inr rfl) (pd_op dop_sub (pd_var (pv 2)) (pd_ix (pd_var (pv 0)) pd_int (fun _ _ => rfl))))
    (pds_cons (pd_set (i := 4) S.nd rfl (by first | exact Or.inl rfl | exact Or.inr rfl) (pd_op dop_sub (pd_ix (pd_var (pv 0)) pd_int (fun _ _ => rfl)) pd_int))
    (pds_cons (pd_set (i := 5) S.nd rfl (by first | exact Or.inl rfl | exact Or.inr rfl) (pd_op dop_add (pd_var (pv 2)) (pd_op dop_mul (pd_var (pv 4)) (pd_var (pv 3)))))
    (pds_cons (pd_set (i := 6) S.nd rfl (by first | exact Or.inl rfl | exact Or.inr rfl) (pd_op dop_mul (pd_op dop_div (pd_var (pv 1)) (pd_var (pv 5))) (pd_var (pv 4))))
    (pds_cons (pd_set (i := 7) S.nd rfl (by first | exact Or.inl rfl | exact Or.inr rfl) (pd_op dop_mod (pd_var (pv 1)) (pd_var (pv 5))))
    (pds_cons (pd_ifS (pdt_cmp dop_lt (pd_var (pv 7)) (pd_var (pv 2)) (nomark _)) (pds_one (pd_ret (pd_var (pv 6)))) pds_nil)
    (pds_one (pd_ret (pd_op dop_add (pd_op dop_add (pd_var (pv 6)) pd_int) (pd_op dop_div (pd_op dop_sub (pd_var (pv 7)) (pd_var (pv 2))) (pd_var (pv 3)))))))))))))
theorem sc_label_of : FnScope ["numbering", "frame", "base", "place", "second", "minute"] ["numbering", "frame"] (defScope (top 10)) := ⟨rfl, rfl, rfl, by decide +kernel, rfl, by decide +kernel, by decide +kernel⟩
theorem d_label_of {f : Addr} {fd : FuncData} (F0 : Fun K "label_of" "label_of" (top 10) f fd) (hm : mg "label_of" = some (.ref f)) (d_gaps_before_frame : Def P w K mg base 1 "gaps_before_frame" 2 F_gaps_before_frame) : Def P w K mg base 2 "label_of" 2 F_label_of := by
  have S := sc_label_of
  refine def_of (N := ["numbering", "frame", "base", "place", "second", "minute"]) (ps := ["numbering", "frame"]) (k := 1) (g := g_label_of) F0 S hm (F0.binds fun _ _ _ _ _ _ us hl => match us, hl with | [_, _], _ => rfl) fun cdv A outer s H E hr => ?_
  unfold g_label_of
  exact (pds_cons (pd_set (i := 2) S.nd rfl (by first | exact Or.inl rfl | exact Or.inr rfl) (pd_ix (pd_var (pv 0)) pd_int (fun _ _ => rfl)))
    (pds_cons (pd_set (i := 3) S.nd rfl (by first | exact Or.inl rfl | exact Or.inr rfl) (pd_op dop_add (pd_var (pv 1)) (pd_op dop_mul (pd_ix (pd_var (pv 0)) pd_int (fun _ _ => rfl)) (pd_call d_gaps_before_frame (hr.mono (by decide)) rfl rfl (pda_cons (pd_var (pv 0)) (pda_cons (pd_var (pv 1)) pda_nil))))))
    (pds_cons (pd_set (i := 4) S.nd rfl (by first | exact Or.inl rfl | exact Or.inr rfl) (pd_op dop_div (pd_var (pv 3)) (pd_var (pv 2))))
    (pds_cons (pd_set (i := 5) S.nd rfl (by first | exact Or.inl rfl | exact Or.inr rfl) (pd_op dop_div (pd_var (pv 4)) pd_int))
    (pds_one (pd_ret (pd_tup (pda_cons (pd_op dop_div (pd_var (pv 5)) pd_int) (pda_cons (pd_op dop_mod (pd_var (pv 5)) pd_int) (pda_cons (pd_op dop_mod (pd_var (pv 4)) pd_int) (pda_cons (pd_op dop_mod (pd_var (pv 3)) (pd_var (pv 2))) pda_nil)))))))))))
theorem sc_frame_sign : FnScope ["numbering"] ["numbering"] (defScope (top 21)) := ⟨rfl, rfl, rfl, by decide +kernel, rfl, by decide +kernel, by decide +kernel⟩
theorem d_frame_sign {f : Addr} {fd : FuncData} (F0 : Fun K "frame_sign" "frame_sign" (top 21) f fd) (hm : mg "frame_sign" = some (.ref f)) : Def P w K mg base 1 "frame_sign" 1 F_frame_sign := by
  have S := sc_frame_sign
  refine def_of (N := ["numbering"]) (ps := ["numbering"]) (k := 0) (g := g_frame_sign) F0 S hm (F0.binds fun _ _ _ _ _ _ us hl => match us, hl with | [_], _ => rfl) fun cdv A outer s H E hr => ?_
  unfold g_frame_sign
  exact (pds_one (pd_ret (pd_if (pdt_cmp dop_gt (pd_ix (pd_var (pv 0)) pd_int (fun _ _ => rfl)) pd_int (nomark _)) pd_str pd_str)))
theorem sc_frame_figures : FnScope ["numbering"] ["numbering"] (defScope (top 22)) := ⟨rfl, rfl, rfl, by decide +kernel, rfl, by decide +kernel, by decide +kernel⟩
theorem d_frame_figures {f : Addr} {fd : FuncData} (F0 : Fun K "frame_figures" "frame_figures" (top 22) f fd) (hm : mg "frame_figures" = some (.ref f)) (z_str : mg "str" = none) (z_len : mg "len" = none) (z_max : mg "max" = none) : Def P w K mg base 1 "frame_figures" 1 F_frame_figures := by
  have S := sc_frame_figures
  refine def_of (N := ["numbering"]) (ps := ["numbering"]) (k := 0) (g := g_frame_figures) F0 S hm (F0.binds fun _ _ _ _ _ _ us hl => match us, hl with | [_], _ => rfl) fun cdv A outer s H E hr => ?_
  unfold g_frame_figures
  exact (pds_one (pd_ret (pd_callB (dcall_max rfl) rfl z_max PyProof.Rows.boot_max (pda_cons pd_int (pda_cons (pd_callB dcall_len rfl z_len PySem.boot_len (pda_cons (pd_callTy dcall_str rfl z_str PyProof.Rows.boot_str (pda_cons (pd_op dop_sub (pd_ix (pd_var (pv 0)) pd_int (fun _ _ => rfl)) pd_int) pda_nil)) pda_nil)) pda_nil)))))
theorem sc_show_frame : FnScope ["numbering", "frame"] ["numbering", "frame"] (defScope (top 19)) := ⟨rfl, rfl, rfl, by decide +kernel, rfl, by decide +kernel, by decide +kernel⟩
theorem d_show_frame {f : Addr} {fd : FuncData} (F0 : Fun K "show_frame" "show_frame" (top 19) f fd) (hm : mg "show_frame" = some (.ref f)) (d_label_of : Def P w K mg base 2 "label_of" 2 F_label_of) (d_frame_sign : Def P w K mg base 1 "frame_sign" 1 F_frame_sign) (d_frame_figures : Def P w K mg base 1 "frame_figures" 1 F_frame_figures) (d_show_parts : Def P w K mg base 1 "show_parts" 3 F_show_parts) : Def P w K mg base 3 "show_frame" 2 F_show_frame := by
  have S := sc_show_frame
  refine def_of (N := ["numbering", "frame"]) (ps := ["numbering", "frame"]) (k := 2) (g := g_show_frame) F0 S hm (F0.binds fun _ _ _ _ _ _ us hl => match us, hl with | [_, _], _ => rfl) fun cdv A outer s H E hr => ?_
  unfold g_show_frame
  exact (pds_one (pd_ret (pd_call d_show_parts (hr.mono (by decide)) rfl rfl (pda_cons (pd_call d_label_of (hr.mono (by decide)) rfl rfl (pda_cons (pd_var (pv 0)) (pda_cons (pd_var (pv 1)) pda_nil))) (pda_cons (pd_call d_frame_sign (hr.mono (by decide)) rfl rfl (pda_cons (pd_var (pv 0)) pda_nil)) (pda_cons (pd_call d_frame_figures (hr.mono (by decide)) rfl rfl (pda_cons (pd_var (pv 0)) pda_nil)) pda_nil))))))
theorem sc_Frames_show : FnScope ["self", "moment"] ["self", "moment"] (defScope (mth (top 31) 1)) := ⟨rfl, rfl, rfl, by decide +kernel, rfl, by decide +kernel, by decide +kernel⟩
theorem d_Frames_show {f : Addr} {fd : FuncData} (F0 : Fun K "show" "Frames.show" (mth (top 31) 1) f fd) {C_Frames : Addr} (m_Frames : mg "Frames" = some (.ref C_Frames)) (nn_Frames : PySem.W.nsIn K mainGlobals "Frames" = some (some (.ref C_Frames))) (pg_Frames : PySem.W.plainGet K C_Frames Str.empty = true) (hd_Frames : PySem.W.hasDictIn K C_Frames = true) (po_Frames : PySem.W.plainOver K C_Frames = true) (sa_Frames : PySem.W.findIn K (.ref C_Frames) "__setattr__" = some (some (.builtin "object.__setattr__"))) (na_Frames_numbering : PySem.W.findIn K (.ref C_Frames) "numbering" = some none) (d_show_frame : Def P w K mg base 3 "show_frame" 2 F_show_frame) (hat : PySem.W.findIn K (.ref C_Frames) "show" = some (some (.ref f))) (hfn : PySem.W.isFn K (.ref f) = true) : DefM P w K mg base 4 "Frames" "show" 2 F_Frames_show := by
  have S := sc_Frames_show
  refine ⟨C_Frames, f, fd, ["self", "moment"], nn_Frames, ⟨pg_Frames, hd_Frames, po_Frames, sa_Frames⟩, ⟨hat, hfn, F0.kp⟩, fn_ofD (N := ["self", "moment"]) (ps := ["self", "moment"]) (k := 3) (g := g_Frames_show) F0 S (fun cdv A outer s H E hr => ?_), (F0.binds fun _ _ _ _ _ _ us hl => match us, hl with | [_, _], _ => rfl)⟩
  unfold g_Frames_show
  exact (pds_one (pd_ret (pd_call d_show_frame (hr.mono (by decide)) rfl rfl (pda_cons (pd_fld ⟨nn_Frames, ⟨pg_Frames, hd_Frames, po_Frames, sa_Frames⟩⟩ na_Frames_numbering (pd_var (pv 0))) (pda_cons (pd_var (pv 1)) pda_nil)))))
theorem sc_is_whole : FnScope ["thing"] ["thing"] (defScope (top 6)) := ⟨rfl, rfl, rfl, by decide +kernel, rfl, by decide +kernel, by decide +kernel⟩
theorem d_is_whole {f : Addr} {fd : FuncData} (F0 : Fun K "is_whole" "is_whole" (top 6) f fd) (hm : mg "is_whole" = some (.ref f)) (z_isinstance : mg "isinstance" = none) (z_int : mg "int" = none) (z_bool : mg "bool" = none) : Def P w K mg base 1 "is_whole" 1 F_is_whole := by
  have S := sc_is_whole
  refine def_of (N := ["thing"]) (ps := ["thing"]) (k := 0) (g := g_is_whole) F0 S hm (F0.binds fun _ _ _ _ _ _ us hl => match us, hl with | [_], _ => rfl) fun cdv A outer s H E hr => ?_
  unfold g_is_whole
  exact (pds_one (pd_ret (pd_and (pd_isinst rfl (kit_int _) rfl z_isinstance rfl z_int PyProof.Rows.boot_int (pd_var (pv 0))) (pd_one (pd_not (pd_isinst rfl (kit_bool _) rfl z_isinstance rfl z_bool PyProof.Rows.boot_bool (pd_var (pv 0))))))))
theorem sc_has_form : FnScope ["numbering", "thing"] ["numbering", "thing"] (defScope (top 12)) := ⟨rfl, rfl, rfl, by decide +kernel, rfl, by decide +kernel, by decide +kernel⟩
theorem d_has_form {f : Addr} {fd : FuncData} (F0 : Fun K "has_form" "has_form" (top 12) f fd) (hm : mg "has_form" = some (.ref f)) (d_is_whole : Def P w K mg base 1 "is_whole" 1 F_is_whole) (z_isinstance : mg "isinstance" = none) (z_tuple : mg "tuple" = none) (z_len : mg "len" = none) (z_all : mg "all" = none) : Def P w K mg base 2 "has_form" 2 F_has_form := by
  have S := sc_has_form
  refine def_of (N := ["numbering", "thing"]) (ps := ["numbering", "thing"]) (k := 1) (g := g_has_form) F0 S hm (F0.binds fun _ _ _ _ _ _ us hl => match us, hl with | [_, _], _ => rfl) fun cdv A outer s H E hr => ?_
  unfold g_has_form
  exact (pds_cons (pd_ifS (PDW.t (pdw_or (pdt_not (pdt_val (pd_isinst rfl (kit_tuple _) rfl z_isinstance rfl z_tuple PyProof.Rows.boot_tuple (pd_var (pv 1))))) (pdw_or1 (pdt_cmp (dop_ne hr.units) (pd_callB dcall_len rfl z_len PySem.boot_len (pda_cons (pd_var (pv 1)) pda_nil)) pd_int (nomark _))))) (pds_one (pd_ret pd_bl)) pds_nil)
    (pds_cons (pd_ifS (pdt_not (pdt_val (pd_callB (dcall_all rfl) rfl z_all PyProof.Rows.boot_all (pda_cons (pd_compG (fr := []) (tn := ["part"]) rfl rfl (by decide +kernel) (by rfl) (fun _ _ h => h) (hhas_of (by rfl)) fr_nil (by decide +kernel) (pdi_any (pd_var (pv 1))) (fun C s3 H3 fp => (pdg_name (pg_name (i := 0) (show (["part"] : List Str).Nodup from by decide +kernel) rfl (by first | exact Or.inl rfl | exact Or.inr rfl)))) (fun C s3 H3 fp => pdts_nil) (fun C s3 H3 fp => (pd_and (pd_call d_is_whole (hr.mono (by decide)) rfl rfl (pda_cons (pd_var (pv 0)) pda_nil)) (pd_one (pd_cmp dop_ge (pd_var (pv 0)) pd_int (nomark _)))))) pda_nil)))) (pds_one (pd_ret pd_bl)) pds_nil)
    (pds_one (pd_ret (pd_and (pd_cmp dop_lt (pd_ix (pd_var (pv 1)) pd_int (fun _ _ => rfl)) pd_int (nomark _)) (pd_and (pd_cmp dop_lt (pd_ix (pd_var (pv 1)) pd_int (fun _ _ => rfl)) pd_int (nomark _)) (pd_one (pd_cmp dop_lt (pd_ix (pd_var (pv 1)) pd_int (fun _ _ => rfl)) (pd_ix (pd_var (pv 0)) pd_int (fun _ _ => rfl)) (nomark _)))))))))
theorem sc_minute_of : FnScope ["label"] ["label"] (defScope (top 14)) := ⟨rfl, rfl, rfl, by decide +kernel, rfl, by decide +kernel, by decide +kernel⟩
theorem d_minute_of {f : Addr} {fd : FuncData} (F0 : Fun K "minute_of" "minute_of" (top 14) f fd) (hm : mg "minute_of" = some (.ref f)) : Def P w K mg base 1 "minute_of" 1 F_minute_of := by
  have S := sc_minute_of
  refine def_of (N := ["label"]) (ps := ["label"]) (k := 0) (g := g_minute_of) F0 S hm (F0.binds fun _ _ _ _ _ _ us hl => match us, hl with | [_], _ => rfl) fun cdv A outer s H E hr => ?_
  unfold g_minute_of
  exact (pds_one (pd_ret (pd_op dop_add (pd_op dop_mul pd_int (pd_ix (pd_var (pv 0)) pd_int (fun _ _ => rfl))) (pd_ix (pd_var (pv 0)) pd_int (fun _ _ => rfl)))))
theorem sc_is_left_out : FnScope ["numbering", "label"] ["numbering", "label"] (defScope (top 13)) := ⟨rfl, rfl, rfl, by decide +kernel, rfl, by decide +kernel, by decide +kernel⟩
theorem d_is_left_out {f : Addr} {fd : FuncData} (F0 : Fun K "is_left_out" "is_left_out" (top 13) f fd) (hm : mg "is_left_out" = some (.ref f)) (d_minute_of : Def P w K mg base 1 "minute_of" 1 F_minute_of) : Def P w K mg base 2 "is_left_out" 2 F_is_left_out := by
  have S := sc_is_left_out
  refine def_of (N := ["numbering", "label"]) (ps := ["numbering", "label"]) (k := 1) (g := g_is_left_out) F0 S hm (F0.binds fun _ _ _ _ _ _ us hl => match us, hl with | [_, _], _ => rfl) fun cdv A outer s H E hr => ?_
  unfold g_is_left_out
  exact (pds_cons (pd_ifS (pdt_cmp (dop_eq hr.units) (pd_op dop_mod (pd_call d_minute_of (hr.mono (by decide)) rfl rfl (pda_cons (pd_var (pv 1)) pda_nil)) (pd_ix (pd_var (pv 0)) pd_int (fun _ _ => rfl))) pd_int (nomark _)) (pds_one (pd_ret pd_bl)) pds_nil)
    (pds_one (pd_ret (pd_and (pd_cmp (dop_eq hr.units) (pd_ix (pd_var (pv 1)) pd_int (fun _ _ => rfl)) pd_int (nomark _)) (pd_one (pd_cmp dop_lt (pd_ix (pd_var (pv 1)) pd_int (fun _ _ => rfl)) (pd_ix (pd_var (pv 0)) pd_int (fun _ _ => rfl)) (nomark _)))))))
theorem sc_is_label : FnScope ["numbering", "thing"] ["numbering", "thing"] (defScope (top 9)) := ⟨rfl, rfl, rfl, by decide +kernel, rfl, by decide +kernel, by decide +kernel⟩
theorem d_is_label {f : Addr} {fd : FuncData} (F0 : Fun K "is_label" "is_label" (top 9) f fd) (hm : mg "is_label" = some (.ref f)) (d_has_form : Def P w K mg base 2 "has_form" 2 F_has_form) (d_is_left_out : Def P w K mg base 2 "is_left_out" 2 F_is_left_out) : Def P w K mg base 3 "is_label" 2 F_is_label := by
  have S := sc_is_label
  refine def_of (N := ["numbering", "thing"]) (ps := ["numbering", "thing"]) (k := 2) (g := g_is_label) F0 S hm (F0.binds fun _ _ _ _ _ _ us hl => match us, hl with | [_, _], _ => rfl) fun cdv A outer s H E hr => ?_
  unfold g_is_label
  exact (pds_one (pd_ret (pd_and (pd_call d_has_form (hr.mono (by decide)) rfl rfl (pda_cons (pd_var (pv 0)) (pda_cons (pd_var (pv 1)) pda_nil))) (pd_one (pd_not (pd_call d_is_left_out (hr.mono (by decide)) rfl rfl (pda_cons (pd_var (pv 0)) (pda_cons (pd_var (pv 1)) pda_nil))))))))
theorem sc_frame_of : FnScope ["numbering", "label", "minute", "place", "gaps"] ["numbering", "label"] (defScope (top 11)) := ⟨rfl, rfl, rfl, by decide +kernel, rfl, by decide +kernel, by decide +kernel⟩
theorem d_frame_of {f : Addr} {fd : FuncData} (F0 : Fun K "frame_of" "frame_of" (top 11) f fd) (hm : mg "frame_of" = some (.ref f)) (d_is_label : Def P w K mg base 3 "is_label" 2 F_is_label) (d_minute_of : Def P w K mg base 1 "minute_of" 1 F_minute_of) : Def P w K mg base 4 "frame_of" 2 F_frame_of := by
  have S := sc_frame_of
  refine def_of (N := ["numbering", "label", "minute", "place", "gaps"]) (ps := ["numbering", "label"]) (k := 3) (g := g_frame_of) F0 S hm (F0.binds fun _ _ _ _ _ _ us hl => match us, hl with | [_, _], _ => rfl) fun cdv A outer s H E hr => ?_
  unfold g_frame_of
  exact (pds_cons (pd_ifS (pdt_not (pdt_val (pd_call d_is_label (hr.mono (by decide)) rfl rfl (pda_cons (pd_var (pv 0)) (pda_cons (pd_var (pv 1)) pda_nil))))) (pds_one pd_never) pds_nil)
    (pds_cons (pd_set (i := 2) S.nd rfl (by first | exact Or.inl rfl | exact Or.inr rfl) (pd_call d_minute_of (hr.mono (by decide)) rfl rfl (pda_cons (pd_var (pv 1)) pda_nil)))
    (pds_cons (pd_set (i := 3) S.nd rfl (by first | exact Or.inl rfl | exact Or.inr rfl) (pd_op dop_add (pd_op dop_mul (pd_op dop_add (pd_op dop_mul pd_int (pd_var (pv 2))) (pd_ix (pd_var (pv 1)) pd_int (fun _ _ => rfl))) (pd_ix (pd_var (pv 0)) pd_int (fun _ _ => rfl))) (pd_ix (pd_var (pv 1)) pd_int (fun _ _ => rfl))))
    (pds_cons (pd_set (i := 4) S.nd rfl (by first | exact Or.inl rfl | exact Or.inr rfl) (pd_op dop_sub (pd_var (pv 2)) (pd_op dop_div (pd_var (pv 2)) (pd_ix (pd_var (pv 0)) pd_int (fun _ _ => rfl)))))
    (pds_one (pd_ret (pd_op dop_sub (pd_var (pv 3)) (pd_op dop_mul (pd_ix (pd_var (pv 0)) pd_int (fun _ _ => rfl)) (pd_var (pv 4))))))))))
theorem sc_read_frame : FnScope ["numbering", "text", "label"] ["numbering", "text"] (defScope (top 20)) := ⟨rfl, rfl, rfl, by decide +kernel, rfl, by decide +kernel, by decide +kernel⟩
theorem d_read_frame {f : Addr} {fd : FuncData} (F0 : Fun K "read_frame" "read_frame" (top 20) f fd) (hm : mg "read_frame" = some (.ref f)) {C_NoTime : Addr} (m_NoTime : mg "NoTime" = some (.ref C_NoTime)) (x_NoTime : PySem.W.excIn K C_NoTime [.type "ValueError", .type "Exception", .type "BaseException", .type "object"] "ValueError.__new__" = true) (d_frame_sign : Def P w K mg base 1 "frame_sign" 1 F_frame_sign) (d_frame_figures : Def P w K mg base 1 "frame_figures" 1 F_frame_figures) (d_read_parts : DefX P w K mg base 4 "read_parts" 3 F_read_parts) (d_is_label : Def P w K mg base 3 "is_label" 2 F_is_label) (d_frame_of : Def P w K mg base 4 "frame_of" 2 F_frame_of) : DefX P w K mg base 5 "read_frame" 2 F_read_frame := by
  have S := sc_read_frame
  refine defX_of (N := ["numbering", "text", "label"]) (ps := ["numbering", "text"]) (k := 4) (g := g_read_frame) F0 S hm (F0.binds fun _ _ _ _ _ _ us hl => match us, hl with | [_, _], _ => rfl) fun cdv A outer s H E hr => ?_
  unfold g_read_frame
  exact (pds_cons (pd_set (i := 2) S.nd rfl (by first | exact Or.inl rfl | exact Or.inr rfl) (pd_callX d_read_parts (hr.mono (by decide)) passes_def (fun _ _ h => h) rfl rfl (pda_cons (pd_var (pv 1)) (pda_cons (pd_call d_frame_sign (hr.mono (by decide)) rfl rfl (pda_cons (pd_var (pv 0)) pda_nil)) (pda_cons (pd_call d_frame_figures (hr.mono (by decide)) rfl rfl (pda_cons (pd_var (pv 0)) pda_nil)) pda_nil)))))
    (pds_cons (pd_ifS (pdt_not (pdt_val (pd_call d_is_label (hr.mono (by decide)) rfl rfl (pda_cons (pd_var (pv 0)) (pda_cons (pd_var (pv 2)) pda_nil))))) (pds_one (pd_raise raises_def (fun _ _ h => h) x_NoTime PySem.F.excBase_ValueError rfl rfl m_NoTime (pda_cons pd_str pda_nil))) pds_nil)
    (pds_one (pd_ret (pd_call d_frame_of (hr.mono (by decide)) rfl rfl (pda_cons (pd_var (pv 0)) (pda_cons (pd_var (pv 2)) pda_nil)))))))
theorem sc_Frames_read : FnScope ["self", "text"] ["self", "text"] (defScope (mth (top 31) 2)) := ⟨rfl, rfl, rfl, by decide +kernel, rfl, by decide +kernel, by decide +kernel⟩
theorem d_Frames_read {f : Addr} {fd : FuncData} (F0 : Fun K "read" "Frames.read" (mth (top 31) 2) f fd) {C_Frames : Addr} (m_Frames : mg "Frames" = some (.ref C_Frames)) (nn_Frames : PySem.W.nsIn K mainGlobals "Frames" = some (some (.ref C_Frames))) (pg_Frames : PySem.W.plainGet K C_Frames Str.empty = true) (hd_Frames : PySem.W.hasDictIn K C_Frames = true) (po_Frames : PySem.W.plainOver K C_Frames = true) (sa_Frames : PySem.W.findIn K (.ref C_Frames) "__setattr__" = some (some (.builtin "object.__setattr__"))) (na_Frames_numbering : PySem.W.findIn K (.ref C_Frames) "numbering" = some none) (d_read_frame : DefX P w K mg base 5 "read_frame" 2 F_read_frame) (hat : PySem.W.findIn K (.ref C_Frames) "read" = some (some (.ref f))) (hfn : PySem.W.isFn K (.ref f) = true) : DefMX P w K mg base 6 "Frames" "read" 2 F_Frames_read := by
  have S := sc_Frames_read
  refine ⟨C_Frames, f, fd, ["self", "text"], nn_Frames, ⟨pg_Frames, hd_Frames, po_Frames, sa_Frames⟩, ⟨hat, hfn, F0.kp⟩, fn_ofX (N := ["self", "text"]) (ps := ["self", "text"]) (k := 5) (g := g_Frames_read) F0 S (fun cdv A outer s H E hr => ?_), (F0.binds fun _ _ _ _ _ _ us hl => match us, hl with | [_, _], _ => rfl)⟩
  unfold g_Frames_read
  exact (pds_one (pd_ret (pd_callX d_read_frame (hr.mono (by decide)) passes_def (fun _ _ h => h) rfl rfl (pda_cons (pd_fld ⟨nn_Frames, ⟨pg_Frames, hd_Frames, po_Frames, sa_Frames⟩⟩ na_Frames_numbering (pd_var (pv 0))) (pda_cons (pd_var (pv 1)) pda_nil)))))
theorem sc__law_cell_at : FnScope ["_law_script", "_law_k"] ["_law_script", "_law_k"] (defScope (top 33)) := ⟨rfl, rfl, rfl, by decide +kernel, rfl, by decide +kernel, by decide +kernel⟩
theorem d__law_cell_at {f : Addr} {fd : FuncData} (F0 : Fun K "_law_cell_at" "_law_cell_at" (top 33) f fd) (hm : mg "_law_cell_at" = some (.ref f)) (z_len : mg "len" = none) : Def P w K mg base 1 "_law_cell_at" 2 F__law_cell_at := by
  have S := sc__law_cell_at
  refine def_of (N := ["_law_script", "_law_k"]) (ps := ["_law_script", "_law_k"]) (k := 0) (g := g__law_cell_at) F0 S hm (F0.binds fun _ _ _ _ _ _ us hl => match us, hl with | [_, _], _ => rfl) fun cdv A outer s H E hr => ?_
  unfold g__law_cell_at
  exact (pds_cons (pd_ifS (pdt_cmp dop_lt (pd_var (pv 1)) (pd_callB dcall_len rfl z_len PySem.boot_len (pda_cons (pd_var (pv 0)) pda_nil)) (nomark _)) (pds_one (pd_ret (pd_ix (pd_var (pv 0)) (pd_var (pv 1)) (fun _ _ => rfl)))) pds_nil)
    (pds_one (pd_ret pd_int)))
theorem sc__law_whole : FnScope ["_law_found"] ["_law_found"] (defScope (top 34)) := ⟨rfl, rfl, rfl, by decide +kernel, rfl, by decide +kernel, by decide +kernel⟩
theorem d__law_whole {f : Addr} {fd : FuncData} (F0 : Fun K "_law_whole" "_law_whole" (top 34) f fd) (hm : mg "_law_whole" = some (.ref f)) (z_isinstance : mg "isinstance" = none) (z_int : mg "int" = none) (z_bool : mg "bool" = none) : Def P w K mg base 1 "_law_whole" 1 F__law_whole := by
  have S := sc__law_whole
  refine def_of (N := ["_law_found"]) (ps := ["_law_found"]) (k := 0) (g := g__law_whole) F0 S hm (F0.binds fun _ _ _ _ _ _ us hl => match us, hl with | [_], _ => rfl) fun cdv A outer s H E hr => ?_
  unfold g__law_whole
  exact (pds_one (pd_ret (pd_and (pd_isinst rfl (kit_int _) rfl z_isinstance rfl z_int PyProof.Rows.boot_int (pd_var (pv 0))) (pd_one (pd_not (pd_isinst rfl (kit_bool _) rfl z_isinstance rfl z_bool PyProof.Rows.boot_bool (pd_var (pv 0))))))))
theorem sc__law_numbering : FnScope ["_law_cell", "_law_number", "_law_base", "_law_leave"] ["_law_cell"] (defScope (top 35)) := ⟨rfl, rfl, rfl, by decide +kernel, rfl, by decide +kernel, by decide +kernel⟩
theorem d__law_numbering {f : Addr} {fd : FuncData} (F0 : Fun K "_law_numbering" "_law_numbering" (top 35) f fd) (hm : mg "_law_numbering" = some (.ref f)) (z_min : mg "min" = none) : Def P w K mg base 1 "_law_numbering" 1 F__law_numbering := by
  have S := sc__law_numbering
  refine def_of (N := ["_law_cell", "_law_number", "_law_base", "_law_leave"]) (ps := ["_law_cell"]) (k := 0) (g := g__law_numbering) F0 S hm (F0.binds fun _ _ _ _ _ _ us hl => match us, hl with | [_], _ => rfl) fun cdv A outer s H E hr => ?_
  unfold g__law_numbering
  exact (pds_cons (pd_set (i := 1) S.nd rfl (by first | exact Or.inl rfl | exact Or.inr rfl) (pd_op dop_mod (pd_op dop_mul (pd_op dop_mod (pd_var (pv 0)) pd_int) pd_int) pd_int))
    (pds_cons (pd_set (i := 2) S.nd rfl (by first | exact Or.inl rfl | exact Or.inr rfl) (pd_ix (pd_lst (pda_cons pd_int (pda_cons pd_int (pda_cons pd_int (pda_cons pd_int (pda_cons pd_int (pda_cons pd_int (pda_cons pd_int (pda_cons pd_int pda_nil))))))))) (pd_op dop_mod (pd_var (pv 1)) pd_int) (fun _ _ => rfl)))
    (pds_cons (pd_ifS (pdt_cmp (dop_eq hr.units) (pd_op dop_mod (pd_op dop_div (pd_var (pv 1)) pd_int) pd_int) pd_int (nomark _)) (pds_one (pd_set (i := 2) S.nd rfl (by first | exact Or.inl rfl | exact Or.inr rfl) (pd_op dop_add pd_int (pd_op dop_mod (pd_op dop_div (pd_var (pv 1)) pd_int) pd_int)))) pds_nil)
    (pds_cons (pd_set (i := 3) S.nd rfl (by first | exact Or.inl rfl | exact Or.inr rfl) (pd_ix (pd_lst (pda_cons pd_int (pda_cons (pd_op dop_sub (pd_var (pv 2)) pd_int) (pda_cons (pd_callB (dcall_min rfl) rfl z_min PyProof.Rows.boot_min (pda_cons pd_int (pda_cons (pd_op dop_sub (pd_var (pv 2)) pd_int) pda_nil))) (pda_cons (pd_op dop_mod (pd_op dop_div (pd_var (pv 1)) pd_int) (pd_var (pv 2))) pda_nil))))) (pd_op dop_mod (pd_op dop_div (pd_var (pv 1)) pd_int) pd_int) (fun _ _ => rfl)))
    (pds_one (pd_ret (pd_tup (pda_cons (pd_var (pv 2)) (pda_cons (pd_var (pv 3)) (pda_cons (pd_ix (pd_lst (pda_cons pd_int (pda_cons pd_int (pda_cons pd_int (pda_cons pd_int (pda_cons (pd_op dop_add pd_int (pd_op dop_mod (pd_op dop_div (pd_var (pv 1)) pd_int) pd_int)) pda_nil)))))) (pd_op dop_mod (pd_op dop_div (pd_var (pv 1)) pd_int) pd_int) (fun _ _ => rfl)) pda_nil))))))))))
theorem sc__law_moment : FnScope ["_law_last", "_law_cell"] ["_law_last", "_law_cell"] (defScope (top 36)) := ⟨rfl, rfl, rfl, by decide +kernel, rfl, by decide +kernel, by decide +kernel⟩
theorem d__law_moment {f : Addr} {fd : FuncData} (F0 : Fun K "_law_moment" "_law_moment" (top 36) f fd) (hm : mg "_law_moment" = some (.ref f)) (z_max : mg "max" = none) : Def P w K mg base 1 "_law_moment" 2 F__law_moment := by
  have S := sc__law_moment
  refine def_of (N := ["_law_last", "_law_cell"]) (ps := ["_law_last", "_law_cell"]) (k := 0) (g := g__law_moment) F0 S hm (F0.binds fun _ _ _ _ _ _ us hl => match us, hl with | [_, _], _ => rfl) fun cdv A outer s H E hr => ?_
  unfold g__law_moment
  exact (pds_cons (pd_ifS (pdt_cmp (dop_eq hr.units) (pd_op dop_mod (pd_var (pv 1)) pd_int) pd_int (nomark _)) (pds_one (pd_ret (pd_op dop_mod (pd_op dop_div (pd_var (pv 1)) pd_int) (pd_op dop_pow pd_int pd_int)))) pds_nil)
    (pds_cons (pd_ifS (pdt_cmp (dop_eq hr.units) (pd_op dop_mod (pd_var (pv 1)) pd_int) pd_int (nomark _)) (pds_one (pd_ret (pd_op dop_mod (pd_op dop_div (pd_var (pv 1)) pd_int) (pd_op dop_pow pd_int pd_int)))) pds_nil)
    (pds_one (pd_ret (pd_callB (dcall_max rfl) rfl z_max PyProof.Rows.boot_max (pda_cons pd_int (pda_cons (pd_op dop_sub (pd_op dop_add (pd_var (pv 0)) (pd_op dop_mul (pd_op dop_mod (pd_var (pv 1)) pd_int) pd_int)) pd_int) pda_nil)))))))
theorem sc__law_order : FnScope ["_law_held", "_law_k", "_law_one", "_law_here", "_law_other", "_law_there"] ["_law_held"] (defScope (top 37)) := ⟨rfl, rfl, rfl, by decide +kernel, rfl, by decide +kernel, by decide +kernel⟩
theorem d__law_order {f : Addr} {fd : FuncData} (F0 : Fun K "_law_order" "_law_order" (top 37) f fd) (hm : mg "_law_order" = some (.ref f)) (z_len : mg "len" = none) (z_range : mg "range" = none) : Def P w K mg base 1 "_law_order" 1 F__law_order := by
  have S := sc__law_order
  refine def_of (N := ["_law_held", "_law_k", "_law_one", "_law_here", "_law_other", "_law_there"]) (ps := ["_law_held"]) (k := 0) (g := g__law_order) F0 S hm (F0.binds fun _ _ _ _ _ _ us hl => match us, hl with | [_], _ => rfl) fun cdv A outer s H E hr => ?_
  unfold g__law_order b__law_order_0
  exact (pds_cons (pd_forI PassesOwn.never rfl (pdi_rng2 rfl z_range (pda_cons pd_int (pda_cons (pd_callB dcall_len rfl z_len PySem.boot_len (pda_cons (pd_var (pv 0)) pda_nil)) pda_nil))) (pdg_name (pg_name (i := 1) S.nd rfl (by first | exact Or.inl rfl | exact Or.inr rfl))) (pds_cons (pd_asg (pd_ix (pd_var (pv 0)) (pd_op dop_sub (pd_var (pv 1)) pd_int) (fun _ _ => rfl)) (pdg_tup rfl (pdgs_cons (pdg_name (pg_name (i := 2) S.nd rfl (by first | exact Or.inl rfl | exact Or.inr rfl))) (pdgs_cons (pdg_name (pg_name (i := 3) S.nd rfl (by first | exact Or.inl rfl | exact Or.inr rfl))) pdgs_nil))))
    (pds_cons (pd_asg (pd_ix (pd_var (pv 0)) (pd_var (pv 1)) (fun _ _ => rfl)) (pdg_tup rfl (pdgs_cons (pdg_name (pg_name (i := 4) S.nd rfl (by first | exact Or.inl rfl | exact Or.inr rfl))) (pdgs_cons (pdg_name (pg_name (i := 5) S.nd rfl (by first | exact Or.inl rfl | exact Or.inr rfl))) pdgs_nil))))
    (pds_cons (pd_ifS (pdt_cmp (dop_ne hr.units) (pd_cmp (dop_eq hr.units) (pd_var (pv 2)) (pd_var (pv 4)) (nomark _)) (pd_cmp (dop_eq hr.units) (pd_var (pv 3)) (pd_var (pv 5)) (nomark _)) (nomark _)) (pds_one (pd_ret pd_bl)) pds_nil)
    (pds_one (pd_ifS (PDW.t (pdw_and (pdt_cmp (dop_eq hr.units) (pd_callB dcall_len rfl z_len PySem.boot_len (pda_cons (pd_var (pv 3)) pda_nil)) (pd_callB dcall_len rfl z_len PySem.boot_len (pda_cons (pd_var (pv 5)) pda_nil)) (nomark _)) (pdw_and1 (pdt_cmp (dop_ne hr.units) (pd_cmp dop_ltS (pd_var (pv 2)) (pd_var (pv 4)) (nomark _)) (pd_cmp dop_ltS (pd_var (pv 3)) (pd_var (pv 5)) (nomark _)) (nomark _))))) (pds_one (pd_ret pd_bl)) pds_nil))))))
    (pds_one (pd_ret pd_bl)))
theorem sc__law_no_text : FnScope ["_law_clock", "_law_thing", "_law_refused"] ["_law_clock", "_law_thing"] (defScope (top 38)) := ⟨rfl, rfl, rfl, by decide +kernel, rfl, by decide +kernel, by decide +kernel⟩
theorem d__law_no_text {f : Addr} {fd : FuncData} (F0 : Fun K "_law_no_text" "_law_no_text" (top 38) f fd) (hm : mg "_law_no_text" = some (.ref f)) {C_NoTime : Addr} (m_NoTime : mg "NoTime" = some (.ref C_NoTime)) (x_NoTime : PySem.W.excIn K C_NoTime [.type "ValueError", .type "Exception", .type "BaseException", .type "object"] "ValueError.__new__" = true) (d_Frames_read : DefMX P w K mg base 6 "Frames" "read" 2 F_Frames_read) (d_Thousandths_read : DefMX P w K mg base 6 "Thousandths" "read" 2 F_Thousandths_read) : Def P w K mg base 7 "_law_no_text" 2 F__law_no_text := by
  have S := sc__law_no_text
  refine def_of (N := ["_law_clock", "_law_thing", "_law_refused"]) (ps := ["_law_clock", "_law_thing"]) (k := 6) (g := g__law_no_text) F0 S hm (F0.binds fun _ _ _ _ _ _ us hl => match us, hl with | [_, _], _ => rfl) fun cdv A outer s H E hr => ?_
  unfold g__law_no_text
  exact (pds_cons (pd_set (i := 2) S.nd rfl (by first | exact Or.inl rfl | exact Or.inr rfl) pd_bl)
    (pds_cons (pd_try_no x_NoTime PySem.F.excBase_ValueError rfl rfl rfl m_NoTime (fun pn xe Ex hps => (pds_one (pd_expr (pd_el (meth_run d_Thousandths_read (hr.mono (by decide)) hps (fun _ _ h => h) rfl (pd_var (pv 0)) (pda_cons (pd_var (pv 1)) pda_nil)) (meth_run d_Frames_read (hr.mono (by decide)) hps (fun _ _ h => h) rfl (pd_var (pv 0)) (pda_cons (pd_var (pv 1)) pda_nil)))))) (fun pn ea => (pds_one (pd_set (i := 2) S.nd rfl (by first | exact Or.inl rfl | exact Or.inr rfl) pd_bl))))
    (pds_one (pd_ret (pd_var (pv 2))))))
theorem sc_law : FnScope ["_law_script", "_law_clocks", "_law_held", "_law_cell", "_law_which", "_law_moment_here", "_law_text", "_law_back", "_law_clock"] ["_law_script"] (defScope (top 39)) := ⟨rfl, rfl, rfl, by decide +kernel, rfl, by decide +kernel, by decide +kernel⟩
theorem fn_law {f : Addr} {fd : FuncData} (F0 : Fun K "law" "law" (top 39) f fd) {C_Thousandths : Addr} (m_Thousandths : mg "Thousandths" = some (.ref C_Thousandths)) {C_Frames : Addr} (m_Frames : mg "Frames" = some (.ref C_Frames)) {C_Clock : Addr} (m_Clock : mg "Clock" = some (.ref C_Clock)) (nn_Thousandths : PySem.W.nsIn K mainGlobals "Thousandths" = some (some (.ref C_Thousandths))) (mk_Thousandths : PySem.W.makesIn K C_Thousandths = true) (ii_Thousandths : PySem.W.findIn K (.ref C_Thousandths) "__init__" = some (some (.builtin "object.__init__"))) (so_Thousandths : PySem.W.subIn K (.ref C_Thousandths) (.type "object") = some true) (kc_Thousandths : PySem.W.keepIn K (.ref C_Thousandths) = true) (nn_Frames : PySem.W.nsIn K mainGlobals "Frames" = some (some (.ref C_Frames))) (pg_Frames : PySem.W.plainGet K C_Frames Str.empty = true) (hd_Frames : PySem.W.hasDictIn K C_Frames = true) (po_Frames : PySem.W.plainOver K C_Frames = true) (sa_Frames : PySem.W.findIn K (.ref C_Frames) "__setattr__" = some (some (.builtin "object.__setattr__"))) (cc_Frames : PySem.W.findIn K (.ref C_Frames) "__class__" = some (some (.builtin "object.__class__"))) (g4_ : PySem.W.specialIn K (.builtin "object.__class__") "__get__" = some (some (.builtin "getset_descriptor.__get__"))) (g5_ : PySem.W.takesIn K (.builtin "object.__class__") = some true) (mo_Frames : PySem.W.mroIn K C_Frames (.type "object") = some true) (ki_Frames_Clock : PySem.W.kitOne K (.ref C_Frames) (.ref C_Clock) = some true) (pg_Thousandths : PySem.W.plainGet K C_Thousandths Str.empty = true) (hd_Thousandths : PySem.W.hasDictIn K C_Thousandths = true) (po_Thousandths : PySem.W.plainOver K C_Thousandths = true) (sa_Thousandths : PySem.W.findIn K (.ref C_Thousandths) "__setattr__" = some (some (.builtin "object.__setattr__"))) (cc_Thousandths : PySem.W.findIn K (.ref C_Thousandths) "__class__" = some (some (.builtin "object.__class__"))) (mo_Thousandths : PySem.W.mroIn K C_Thousandths (.type "object") = some true) (ki_Thousandths_Clock : PySem.W.kitOne K (.ref C_Thousandths) (.ref C_Clock) = some true) (d_Frames_init : MkI P w K mg base 1 "Frames" "numbering") (d__law_cell_at : Def P w K mg base 1 "_law_cell_at" 2 F__law_cell_at) (d__law_numbering : Def P w K mg base 1 "_law_numbering" 1 F__law_numbering) (d_Frames_show : DefM P w K mg base 4 "Frames" "show" 2 F_Frames_show) (d_Thousandths_show : DefM P w K mg base 3 "Thousandths" "show" 2 F_Thousandths_show) (d__law_moment : Def P w K mg base 1 "_law_moment" 2 F__law_moment) (d_Frames_read : DefMX P w K mg base 6 "Frames" "read" 2 F_Frames_read) (d_Thousandths_read : DefMX P w K mg base 6 "Thousandths" "read" 2 F_Thousandths_read) (d__law_whole : Def P w K mg base 1 "_law_whole" 1 F__law_whole) (d__law_order : Def P w K mg base 1 "_law_order" 1 F__law_order) (d__law_no_text : Def P w K mg base 7 "_law_no_text" 2 F__law_no_text) (z_isinstance : mg "isinstance" = none) (z_str : mg "str" = none) (z_enumerate : mg "enumerate" = none) : FnOk P w K mg base CX0 8 f fd ["_law_script"] (spD K 1 F_law) := by
  have S := sc_law
  refine SL.fn_toD (SL.fn_ofS (N := ["_law_script", "_law_clocks", "_law_held", "_law_cell", "_law_which", "_law_moment_here", "_law_text", "_law_back", "_law_clock"]) (ps := ["_law_script"]) (k := 7) (g := g_law) F0 S fun cdv A outer s H E hr => ?_)
  unfold g_law b_law_2 b_law_1 b_law_0
  exact (sss_cons (ss_set (i := 1) S.nd rfl (by first | exact Or.inl rfl | exact Or.inr rfl) (sx_new (pdn_lst (pda_cons (pd_mk0 ⟨mk_Thousandths, ii_Thousandths, so_Thousandths, kc_Thousandths⟩ nn_Thousandths rfl m_Thousandths) (pda_cons (pd_mk1 d_Frames_init (hr.mono (by decide)) rfl (pda_cons (pd_call d__law_numbering (hr.mono (by decide)) rfl rfl (pda_cons (pd_call d__law_cell_at (hr.mono (by decide)) rfl rfl (pda_cons (pd_var (pv 0)) (pda_cons pd_int pda_nil))) pda_nil)) pda_nil)) pda_nil)))))
    (sss_cons (ss_expr (sx_app (sx_var (pv 1)) (sx_pure (pd_mk1 d_Frames_init (hr.mono (by decide)) rfl (pda_cons (pd_call d__law_numbering (hr.mono (by decide)) rfl rfl (pda_cons (pd_call d__law_cell_at (hr.mono (by decide)) rfl rfl (pda_cons (pd_var (pv 0)) (pda_cons pd_int pda_nil))) pda_nil)) pda_nil)))))
    (sss_cons (ss_compN (iy := 2) (x := "_law_clock") rfl rfl (by decide +kernel) (by rfl) (fun _ _ h => h) (hhas_of (by rfl)) (by decide +kernel) (pdi_any (pd_var (pv 1))) (fun C s3 H3 fp => (pdg_name (pg_name (i := 0) (show (["_law_clock"] : List Str).Nodup from by decide +kernel) rfl (by first | exact Or.inl rfl | exact Or.inr rfl)))) (fun C s3 H3 fp => pdts_nil) (fun C s3 H3 fp => (pdn_lst (pda_cons (pd_tup (pda_cons pd_int (pda_cons (pd_el (pd_methI d_Thousandths_show (hr.mono (by decide)) rfl (pd_var (pv 0)) (pda_cons pd_int pda_nil)) (pd_methI d_Frames_show (hr.mono (by decide)) rfl (pd_var (pv 0)) (pda_cons pd_int pda_nil))) pda_nil))) pda_nil))) S.nd rfl (by first | exact Or.inl rfl | exact Or.inr rfl))
    (sss_cons (ss_for PassesOwn.never rfl (pdi_any (pd_cutS (pd_var (pv 0)) (pdo_some pd_int) (pdo_some pd_int))) (sg_name (pg_name (i := 3) S.nd rfl (by first | exact Or.inl rfl | exact Or.inr rfl))) (sss_cons (ss_set (i := 4) S.nd rfl (by first | exact Or.inl rfl | exact Or.inr rfl) (sx_pure (pd_op dop_mod (pd_op dop_div (pd_var (pv 3)) pd_int) pd_int)))
    (sss_cons (ss_set (i := 5) S.nd rfl (by first | exact Or.inl rfl | exact Or.inr rfl) (sx_lend (pd_call d__law_moment (hr.mono (by decide)) rfl rfl (pda_cons (pd_ix (pd_ix (pd_ix (pd_var (pv 2)) (pd_var (pv 4)) (fun _ _ => rfl)) (pd_neg pd_int) (fun _ _ => rfl)) pd_int (fun _ _ => rfl)) (pda_cons (pd_op dop_div (pd_var (pv 3)) pd_int) pda_nil)))))
    (sss_cons (ss_set (i := 6) S.nd rfl (by first | exact Or.inl rfl | exact Or.inr rfl) (sx_lend (pd_el (pd_methI d_Thousandths_show (hr.mono (by decide)) rfl (pd_ix (pd_var (pv 1)) (pd_var (pv 4)) (fun _ _ => rfl)) (pda_cons (pd_var (pv 5)) pda_nil)) (pd_methI d_Frames_show (hr.mono (by decide)) rfl (pd_ix (pd_var (pv 1)) (pd_var (pv 4)) (fun _ _ => rfl)) (pda_cons (pd_var (pv 5)) pda_nil)))))
    (sss_cons (ss_set (i := 7) S.nd rfl (by first | exact Or.inl rfl | exact Or.inr rfl) (sx_lend (pd_el (pd_methN d_Thousandths_read (hr.mono (by decide)) rfl (pd_ix (pd_var (pv 1)) (pd_var (pv 4)) (fun _ _ => rfl)) (pda_cons (pd_var (pv 6)) pda_nil)) (pd_methN d_Frames_read (hr.mono (by decide)) rfl (pd_ix (pd_var (pv 1)) (pd_var (pv 4)) (fun _ _ => rfl)) (pda_cons (pd_var (pv 6)) pda_nil)))))
    (sss_cons (ss_if (st_test (PDW.t (pdw_or (pdt_not (pdt_val (pd_isinst rfl (kit_str _) rfl z_isinstance rfl z_str PyProof.Rows.boot_str (pd_var (pv 6))))) (pdw_or (pdt_not (pdt_val (pd_call d__law_whole (hr.mono (by decide)) rfl rfl (pda_cons (pd_var (pv 7)) pda_nil)))) (pdw_or1 (pdt_cmp (dop_ne hr.units) (pd_var (pv 7)) (pd_var (pv 5)) (nomark _))))))) (sss_one (ss_ret (sx_pure pd_bl))) sss_nil)
    (sss_one (ss_expr (sx_app (sx_ix (sx_var (pv 2)) (sx_var (pv 4)) (fun _ _ => rfl)) (sx_pure (pd_tup (pda_cons (pd_var (pv 5)) (pda_cons (pd_var (pv 6)) pda_nil)))))))))))))
    (sss_cons (ss_forTE PassesOwn.never rfl rfl z_enumerate (sx_var (pv 1)) (sg_tup rfl (sgs_cons (sg_name (pg_name (i := 4) S.nd rfl (by first | exact Or.inl rfl | exact Or.inr rfl))) (sgs_cons (sg_name (pg_name (i := 8) S.nd rfl (by first | exact Or.inl rfl | exact Or.inr rfl))) sgs_nil))) (sss_cons (ss_if (st_test (PDW.t (pdw_or (pdt_not (pdt_val (pd_el (pd_isI nn_Thousandths ⟨pg_Thousandths, hd_Thousandths, po_Thousandths, sa_Thousandths⟩ cc_Thousandths g4_ g5_ mo_Thousandths ki_Thousandths_Clock rfl z_isinstance (pe_glob rfl m_Clock rfl) (pd_var (pv 8))) (pd_isI nn_Frames ⟨pg_Frames, hd_Frames, po_Frames, sa_Frames⟩ cc_Frames g4_ g5_ mo_Frames ki_Frames_Clock rfl z_isinstance (pe_glob rfl m_Clock rfl) (pd_var (pv 8)))))) (pdw_or (pdt_not (pdt_val (pd_call d__law_order (hr.mono (by decide)) rfl rfl (pda_cons (pd_ix (pd_var (pv 2)) (pd_var (pv 4)) (fun _ _ => rfl)) pda_nil)))) (pdw_or1 (pdt_not (pdt_val (pd_call d__law_no_text (hr.mono (by decide)) rfl rfl (pda_cons (pd_var (pv 8)) (pda_cons (pd_var (pv 4)) pda_nil)))))))))) (sss_one (ss_ret (sx_pure pd_bl))) sss_nil)
    (sss_one (ss_forTD PassesOwn.never rfl (sx_ix (sx_var (pv 2)) (sx_var (pv 4)) (fun _ _ => rfl)) (sg_tup rfl (sgs_cons (sg_name (pg_name (i := 5) S.nd rfl (by first | exact Or.inl rfl | exact Or.inr rfl))) (sgs_cons (sg_name (pg_name (i := 6) S.nd rfl (by first | exact Or.inl rfl | exact Or.inr rfl))) sgs_nil))) (sss_one (ss_if (st_test (PDW.t (pdw_or (pdt_cmp (dop_ne hr.units) (pd_el (pd_methI d_Thousandths_show (hr.mono (by decide)) rfl (pd_var (pv 8)) (pda_cons (pd_var (pv 5)) pda_nil)) (pd_methI d_Frames_show (hr.mono (by decide)) rfl (pd_var (pv 8)) (pda_cons (pd_var (pv 5)) pda_nil))) (pd_var (pv 6)) (nomark _)) (pdw_or1 (pdt_cmp (dop_ne hr.units) (pd_el (pd_methN d_Thousandths_read (hr.mono (by decide)) rfl (pd_var (pv 8)) (pda_cons (pd_var (pv 6)) pda_nil)) (pd_methN d_Frames_read (hr.mono (by decide)) rfl (pd_var (pv 8)) (pda_cons (pd_var (pv 6)) pda_nil))) (pd_var (pv 5)) (nomark _)))))) (sss_one (ss_ret (sx_pure pd_bl))) sss_nil))))))
    (sss_one (ss_ret (sx_pure pd_bl))))))))
end
theorem all_mk {l : PySem.W.OpenLaw} {w : World} {K : PySem.W.Frag} {h : Heap} {mg : Str → Option Value} {fa f0 f1 f2 f3 f4 f5 f6 f7 f8 f9 f10 f11 f12 f13 f14 f15 f16 f17 f18 f19 f20 f21 f22 f23 f24 f25 f26 f27 f28 f29 f30 f31 : Addr} (X : K.In h) (G : h.Ns mainGlobals mg) (hfa : mg "law" = some (.ref fa))
    {od0 an0 od1 an1 od2 an2 od3 an3 od4 an4 od5 an5 od6 an6 od7 an7 od8 an8 od9 an9 od10 an10 od11 an11 od12 an12 od13 an13 od14 an14 od15 an15 od16 an16 od17 an17 od18 an18 od19 an19 od20 an20 od21 an21 od22 an22 od23 an23 od24 an24 od25 an25 od26 an26 od27 an27 od28 an28 od29 an29 od30 an30 od31 an31 : Option Addr} {sl0 sl1 sl2 sl3 sl4 sl5 sl6 sl7 sl8 sl9 sl10 sl11 sl12 sl13 sl14 sl15 sl16 sl17 sl18 sl19 sl20 sl21 sl22 sl23 sl24 sl25 sl26 sl27 sl28 sl29 sl30 sl31 : Array (Option Value)} {oc0 kV0 dc0 pm0 cd0 ct0 oc1 kV1 dc1 pm1 cd1 ct1 oc2 kV2 dc2 pm2 cd2 ct2 oc3 kV3 dc3 pm3 cd3 ct3 oc4 kV4 dc4 pm4 cd4 ct4 oc5 kV5 dc5 pm5 cd5 ct5 oc6 kV6 dc6 pm6 cd6 ct6 oc7 kV7 dc7 pm7 cd7 ct7 oc8 kV8 dc8 pm8 cd8 ct8 oc9 kV9 dc9 pm9 cd9 ct9 oc10 kV10 dc10 pm10 cd10 ct10 oc11 kV11 dc11 pm11 cd11 ct11 oc12 kV12 dc12 pm12 cd12 ct12 oc13 kV13 dc13 pm13 cd13 ct13 oc14 kV14 dc14 pm14 cd14 ct14 oc15 kV15 dc15 pm15 cd15 ct15 oc16 kV16 dc16 pm16 cd16 ct16 oc17 kV17 dc17 pm17 cd17 ct17 oc18 kV18 dc18 pm18 cd18 ct18 oc19 kV19 dc19 pm19 cd19 ct19 oc20 kV20 dc20 pm20 cd20 ct20 oc21 kV21 dc21 pm21 cd21 ct21 oc22 kV22 dc22 pm22 cd22 ct22 oc23 kV23 dc23 pm23 cd23 ct23 oc24 kV24 dc24 pm24 cd24 ct24 oc25 kV25 dc25 pm25 cd25 ct25 oc26 kV26 dc26 pm26 cd26 ct26 oc27 kV27 dc27 pm27 cd27 ct27 oc28 kV28 dc28 pm28 cd28 ct28 oc29 kV29 dc29 pm29 cd29 ct29 oc30 kV30 dc30 pm30 cd30 ct30 oc31 kV31 dc31 pm31 cd31 ct31 : Value}
    (a0 : PySem.W.nsIn K mainGlobals "show_parts" = some (some (.ref f0))) (l0 : K.lookup f0 = some ⟨oc0, od0, .func (PySem.W.fnOf "show_parts" "show_parts" (defArgs (top 23)) (defBody (top 23)) (defScope (top 23)) .none kV0 dc0 pm0 an0 cd0 ct0), sl0⟩) (c0 : PySem.W.codeIn K cd0 "show_parts" = true) (k0 : PySem.W.keepIn K (.ref f0) = true)
    (a1 : PySem.W.nsIn K mainGlobals "show_moment" = some (some (.ref f1))) (l1 : K.lookup f1 = some ⟨oc1, od1, .func (PySem.W.fnOf "show_moment" "show_moment" (defArgs (top 17)) (defBody (top 17)) (defScope (top 17)) .none kV1 dc1 pm1 an1 cd1 ct1), sl1⟩) (c1 : PySem.W.codeIn K cd1 "show_moment" = true) (k1 : PySem.W.keepIn K (.ref f1) = true)
    (a3 : PySem.W.nsIn K mainGlobals "are_figures" = some (some (.ref f3))) (l3 : K.lookup f3 = some ⟨oc3, od3, .func (PySem.W.fnOf "are_figures" "are_figures" (defArgs (top 7)) (defBody (top 7)) (defScope (top 7)) .none kV3 dc3 pm3 an3 cd3 ct3), sl3⟩) (c3 : PySem.W.codeIn K cd3 "are_figures" = true) (k3 : PySem.W.keepIn K (.ref f3) = true)
    (a4 : PySem.W.nsIn K mainGlobals "has_figures" = some (some (.ref f4))) (l4 : K.lookup f4 = some ⟨oc4, od4, .func (PySem.W.fnOf "has_figures" "has_figures" (defArgs (top 27)) (defBody (top 27)) (defScope (top 27)) .none kV4 dc4 pm4 an4 cd4 ct4), sl4⟩) (c4 : PySem.W.codeIn K cd4 "has_figures" = true) (k4 : PySem.W.keepIn K (.ref f4) = true)
    (a5 : PySem.W.nsIn K mainGlobals "are_hours" = some (some (.ref f5))) (l5 : K.lookup f5 = some ⟨oc5, od5, .func (PySem.W.fnOf "are_hours" "are_hours" (defArgs (top 25)) (defBody (top 25)) (defScope (top 25)) .none kV5 dc5 pm5 an5 cd5 ct5), sl5⟩) (c5 : PySem.W.codeIn K cd5 "are_hours" = true) (k5 : PySem.W.keepIn K (.ref f5) = true)
    (a6 : PySem.W.nsIn K mainGlobals "are_sixtieths" = some (some (.ref f6))) (l6 : K.lookup f6 = some ⟨oc6, od6, .func (PySem.W.fnOf "are_sixtieths" "are_sixtieths" (defArgs (top 26)) (defBody (top 26)) (defScope (top 26)) .none kV6 dc6 pm6 an6 cd6 ct6), sl6⟩) (c6 : PySem.W.codeIn K cd6 "are_sixtieths" = true) (k6 : PySem.W.keepIn K (.ref f6) = true)
    (a7 : PySem.W.nsIn K mainGlobals "read_parts" = some (some (.ref f7))) (l7 : K.lookup f7 = some ⟨oc7, od7, .func (PySem.W.fnOf "read_parts" "read_parts" (defArgs (top 24)) (defBody (top 24)) (defScope (top 24)) .none kV7 dc7 pm7 an7 cd7 ct7), sl7⟩) (c7 : PySem.W.codeIn K cd7 "read_parts" = true) (k7 : PySem.W.keepIn K (.ref f7) = true)
    (a8 : PySem.W.nsIn K mainGlobals "read_moment" = some (some (.ref f8))) (l8 : K.lookup f8 = some ⟨oc8, od8, .func (PySem.W.fnOf "read_moment" "read_moment" (defArgs (top 18)) (defBody (top 18)) (defScope (top 18)) .none kV8 dc8 pm8 an8 cd8 ct8), sl8⟩) (c8 : PySem.W.codeIn K cd8 "read_moment" = true) (k8 : PySem.W.keepIn K (.ref f8) = true)
    (a11 : PySem.W.nsIn K mainGlobals "gaps_before_frame" = some (some (.ref f11))) (l11 : K.lookup f11 = some ⟨oc11, od11, .func (PySem.W.fnOf "gaps_before_frame" "gaps_before_frame" (defArgs (top 15)) (defBody (top 15)) (defScope (top 15)) .none kV11 dc11 pm11 an11 cd11 ct11), sl11⟩) (c11 : PySem.W.codeIn K cd11 "gaps_before_frame" = true) (k11 : PySem.W.keepIn K (.ref f11) = true)
    (a12 : PySem.W.nsIn K mainGlobals "label_of" = some (some (.ref f12))) (l12 : K.lookup f12 = some ⟨oc12, od12, .func (PySem.W.fnOf "label_of" "label_of" (defArgs (top 10)) (defBody (top 10)) (defScope (top 10)) .none kV12 dc12 pm12 an12 cd12 ct12), sl12⟩) (c12 : PySem.W.codeIn K cd12 "label_of" = true) (k12 : PySem.W.keepIn K (.ref f12) = true)
    (a13 : PySem.W.nsIn K mainGlobals "frame_sign" = some (some (.ref f13))) (l13 : K.lookup f13 = some ⟨oc13, od13, .func (PySem.W.fnOf "frame_sign" "frame_sign" (defArgs (top 21)) (defBody (top 21)) (defScope (top 21)) .none kV13 dc13 pm13 an13 cd13 ct13), sl13⟩) (c13 : PySem.W.codeIn K cd13 "frame_sign" = true) (k13 : PySem.W.keepIn K (.ref f13) = true)
    (a14 : PySem.W.nsIn K mainGlobals "frame_figures" = some (some (.ref f14))) (l14 : K.lookup f14 = some ⟨oc14, od14, .func (PySem.W.fnOf "frame_figures" "frame_figures" (defArgs (top 22)) (defBody (top 22)) (defScope (top 22)) .none kV14 dc14 pm14 an14 cd14 ct14), sl14⟩) (c14 : PySem.W.codeIn K cd14 "frame_figures" = true) (k14 : PySem.W.keepIn K (.ref f14) = true)
    (a15 : PySem.W.nsIn K mainGlobals "show_frame" = some (some (.ref f15))) (l15 : K.lookup f15 = some ⟨oc15, od15, .func (PySem.W.fnOf "show_frame" "show_frame" (defArgs (top 19)) (defBody (top 19)) (defScope (top 19)) .none kV15 dc15 pm15 an15 cd15 ct15), sl15⟩) (c15 : PySem.W.codeIn K cd15 "show_frame" = true) (k15 : PySem.W.keepIn K (.ref f15) = true)
    (a17 : PySem.W.nsIn K mainGlobals "is_whole" = some (some (.ref f17))) (l17 : K.lookup f17 = some ⟨oc17, od17, .func (PySem.W.fnOf "is_whole" "is_whole" (defArgs (top 6)) (defBody (top 6)) (defScope (top 6)) .none kV17 dc17 pm17 an17 cd17 ct17), sl17⟩) (c17 : PySem.W.codeIn K cd17 "is_whole" = true) (k17 : PySem.W.keepIn K (.ref f17) = true)
    (a18 : PySem.W.nsIn K mainGlobals "has_form" = some (some (.ref f18))) (l18 : K.lookup f18 = some ⟨oc18, od18, .func (PySem.W.fnOf "has_form" "has_form" (defArgs (top 12)) (defBody (top 12)) (defScope (top 12)) .none kV18 dc18 pm18 an18 cd18 ct18), sl18⟩) (c18 : PySem.W.codeIn K cd18 "has_form" = true) (k18 : PySem.W.keepIn K (.ref f18) = true)
    (a19 : PySem.W.nsIn K mainGlobals "minute_of" = some (some (.ref f19))) (l19 : K.lookup f19 = some ⟨oc19, od19, .func (PySem.W.fnOf "minute_of" "minute_of" (defArgs (top 14)) (defBody (top 14)) (defScope (top 14)) .none kV19 dc19 pm19 an19 cd19 ct19), sl19⟩) (c19 : PySem.W.codeIn K cd19 "minute_of" = true) (k19 : PySem.W.keepIn K (.ref f19) = true)
    (a20 : PySem.W.nsIn K mainGlobals "is_left_out" = some (some (.ref f20))) (l20 : K.lookup f20 = some ⟨oc20, od20, .func (PySem.W.fnOf "is_left_out" "is_left_out" (defArgs (top 13)) (defBody (top 13)) (defScope (top 13)) .none kV20 dc20 pm20 an20 cd20 ct20), sl20⟩) (c20 : PySem.W.codeIn K cd20 "is_left_out" = true) (k20 : PySem.W.keepIn K (.ref f20) = true)
    (a21 : PySem.W.nsIn K mainGlobals "is_label" = some (some (.ref f21))) (l21 : K.lookup f21 = some ⟨oc21, od21, .func (PySem.W.fnOf "is_label" "is_label" (defArgs (top 9)) (defBody (top 9)) (defScope (top 9)) .none kV21 dc21 pm21 an21 cd21 ct21), sl21⟩) (c21 : PySem.W.codeIn K cd21 "is_label" = true) (k21 : PySem.W.keepIn K (.ref f21) = true)
    (a22 : PySem.W.nsIn K mainGlobals "frame_of" = some (some (.ref f22))) (l22 : K.lookup f22 = some ⟨oc22, od22, .func (PySem.W.fnOf "frame_of" "frame_of" (defArgs (top 11)) (defBody (top 11)) (defScope (top 11)) .none kV22 dc22 pm22 an22 cd22 ct22), sl22⟩) (c22 : PySem.W.codeIn K cd22 "frame_of" = true) (k22 : PySem.W.keepIn K (.ref f22) = true)
    (a23 : PySem.W.nsIn K mainGlobals "read_frame" = some (some (.ref f23))) (l23 : K.lookup f23 = some ⟨oc23, od23, .func (PySem.W.fnOf "read_frame" "read_frame" (defArgs (top 20)) (defBody (top 20)) (defScope (top 20)) .none kV23 dc23 pm23 an23 cd23 ct23), sl23⟩) (c23 : PySem.W.codeIn K cd23 "read_frame" = true) (k23 : PySem.W.keepIn K (.ref f23) = true)
    (a25 : PySem.W.nsIn K mainGlobals "_law_cell_at" = some (some (.ref f25))) (l25 : K.lookup f25 = some ⟨oc25, od25, .func (PySem.W.fnOf "_law_cell_at" "_law_cell_at" (defArgs (top 33)) (defBody (top 33)) (defScope (top 33)) .none kV25 dc25 pm25 an25 cd25 ct25), sl25⟩) (c25 : PySem.W.codeIn K cd25 "_law_cell_at" = true) (k25 : PySem.W.keepIn K (.ref f25) = true)
    (a26 : PySem.W.nsIn K mainGlobals "_law_whole" = some (some (.ref f26))) (l26 : K.lookup f26 = some ⟨oc26, od26, .func (PySem.W.fnOf "_law_whole" "_law_whole" (defArgs (top 34)) (defBody (top 34)) (defScope (top 34)) .none kV26 dc26 pm26 an26 cd26 ct26), sl26⟩) (c26 : PySem.W.codeIn K cd26 "_law_whole" = true) (k26 : PySem.W.keepIn K (.ref f26) = true)
    (a27 : PySem.W.nsIn K mainGlobals "_law_numbering" = some (some (.ref f27))) (l27 : K.lookup f27 = some ⟨oc27, od27, .func (PySem.W.fnOf "_law_numbering" "_law_numbering" (defArgs (top 35)) (defBody (top 35)) (defScope (top 35)) .none kV27 dc27 pm27 an27 cd27 ct27), sl27⟩) (c27 : PySem.W.codeIn K cd27 "_law_numbering" = true) (k27 : PySem.W.keepIn K (.ref f27) = true)
    (a28 : PySem.W.nsIn K mainGlobals "_law_moment" = some (some (.ref f28))) (l28 : K.lookup f28 = some ⟨oc28, od28, .func (PySem.W.fnOf "_law_moment" "_law_moment" (defArgs (top 36)) (defBody (top 36)) (defScope (top 36)) .none kV28 dc28 pm28 an28 cd28 ct28), sl28⟩) (c28 : PySem.W.codeIn K cd28 "_law_moment" = true) (k28 : PySem.W.keepIn K (.ref f28) = true)
    (a29 : PySem.W.nsIn K mainGlobals "_law_order" = some (some (.ref f29))) (l29 : K.lookup f29 = some ⟨oc29, od29, .func (PySem.W.fnOf "_law_order" "_law_order" (defArgs (top 37)) (defBody (top 37)) (defScope (top 37)) .none kV29 dc29 pm29 an29 cd29 ct29), sl29⟩) (c29 : PySem.W.codeIn K cd29 "_law_order" = true) (k29 : PySem.W.keepIn K (.ref f29) = true)
    (a30 : PySem.W.nsIn K mainGlobals "_law_no_text" = some (some (.ref f30))) (l30 : K.lookup f30 = some ⟨oc30, od30, .func (PySem.W.fnOf "_law_no_text" "_law_no_text" (defArgs (top 38)) (defBody (top 38)) (defScope (top 38)) .none kV30 dc30 pm30 an30 cd30 ct30), sl30⟩) (c30 : PySem.W.codeIn K cd30 "_law_no_text" = true) (k30 : PySem.W.keepIn K (.ref f30) = true)
    (a31 : PySem.W.nsIn K mainGlobals "law" = some (some (.ref f31))) (l31 : K.lookup f31 = some ⟨oc31, od31, .func (PySem.W.fnOf "law" "law" (defArgs (top 39)) (defBody (top 39)) (defScope (top 39)) .none kV31 dc31 pm31 an31 cd31 ct31), sl31⟩) (c31 : PySem.W.codeIn K cd31 "law" = true) (k31 : PySem.W.keepIn K (.ref f31) = true)
    (z_str : PySem.W.nsIn K mainGlobals "str" = some none)
    (z_all : PySem.W.nsIn K mainGlobals "all" = some none)
    (z_len : PySem.W.nsIn K mainGlobals "len" = some none)
    (z_int : PySem.W.nsIn K mainGlobals "int" = some none)
    (z_isinstance : PySem.W.nsIn K mainGlobals "isinstance" = some none)
    (z_max : PySem.W.nsIn K mainGlobals "max" = some none)
    (z_bool : PySem.W.nsIn K mainGlobals "bool" = some none)
    (z_tuple : PySem.W.nsIn K mainGlobals "tuple" = some none)
    (z_min : PySem.W.nsIn K mainGlobals "min" = some none)
    (z_range : PySem.W.nsIn K mainGlobals "range" = some none)
    (z_enumerate : PySem.W.nsIn K mainGlobals "enumerate" = some none)
    {C_Thousandths : Addr} (n_Thousandths : PySem.W.nsIn K mainGlobals "Thousandths" = some (some (.ref C_Thousandths)))
    {C_NoTime : Addr} (n_NoTime : PySem.W.nsIn K mainGlobals "NoTime" = some (some (.ref C_NoTime)))
    {C_Frames : Addr} (n_Frames : PySem.W.nsIn K mainGlobals "Frames" = some (some (.ref C_Frames)))
    {C_Clock : Addr} (n_Clock : PySem.W.nsIn K mainGlobals "Clock" = some (some (.ref C_Clock)))
    (a2 : PySem.W.findIn K (.ref C_Thousandths) "show" = some (some (.ref f2))) (l2 : K.lookup f2 = some ⟨oc2, od2, .func (PySem.W.fnOf "show" "Thousandths.show" (defArgs (mth (top 30) 0)) (defBody (mth (top 30) 0)) (defScope (mth (top 30) 0)) .none kV2 dc2 pm2 an2 cd2 ct2), sl2⟩) (c2 : PySem.W.codeIn K cd2 "Thousandths.show" = true) (k2 : PySem.W.keepIn K (.ref f2) = true) (i2 : PySem.W.isFn K (.ref f2) = true)
    (a9 : PySem.W.findIn K (.ref C_Thousandths) "read" = some (some (.ref f9))) (l9 : K.lookup f9 = some ⟨oc9, od9, .func (PySem.W.fnOf "read" "Thousandths.read" (defArgs (mth (top 30) 1)) (defBody (mth (top 30) 1)) (defScope (mth (top 30) 1)) .none kV9 dc9 pm9 an9 cd9 ct9), sl9⟩) (c9 : PySem.W.codeIn K cd9 "Thousandths.read" = true) (k9 : PySem.W.keepIn K (.ref f9) = true) (i9 : PySem.W.isFn K (.ref f9) = true)
    (a10 : PySem.W.findIn K (.ref C_Frames) "__init__" = some (some (.ref f10))) (l10 : K.lookup f10 = some ⟨oc10, od10, .func (PySem.W.fnOf "__init__" "Frames.__init__" (defArgs (mth (top 31) 0)) (defBody (mth (top 31) 0)) (defScope (mth (top 31) 0)) .none kV10 dc10 pm10 an10 cd10 ct10), sl10⟩) (c10 : PySem.W.codeIn K cd10 "Frames.__init__" = true) (k10 : PySem.W.keepIn K (.ref f10) = true) (i10 : PySem.W.isFn K (.ref f10) = true)
    (mk10 : PySem.W.makesIn K C_Frames = true) (kc10 : PySem.W.keepIn K (.ref C_Frames) = true)
    (a16 : PySem.W.findIn K (.ref C_Frames) "show" = some (some (.ref f16))) (l16 : K.lookup f16 = some ⟨oc16, od16, .func (PySem.W.fnOf "show" "Frames.show" (defArgs (mth (top 31) 1)) (defBody (mth (top 31) 1)) (defScope (mth (top 31) 1)) .none kV16 dc16 pm16 an16 cd16 ct16), sl16⟩) (c16 : PySem.W.codeIn K cd16 "Frames.show" = true) (k16 : PySem.W.keepIn K (.ref f16) = true) (i16 : PySem.W.isFn K (.ref f16) = true)
    (a24 : PySem.W.findIn K (.ref C_Frames) "read" = some (some (.ref f24))) (l24 : K.lookup f24 = some ⟨oc24, od24, .func (PySem.W.fnOf "read" "Frames.read" (defArgs (mth (top 31) 2)) (defBody (mth (top 31) 2)) (defScope (mth (top 31) 2)) .none kV24 dc24 pm24 an24 cd24 ct24), sl24⟩) (c24 : PySem.W.codeIn K cd24 "Frames.read" = true) (k24 : PySem.W.keepIn K (.ref f24) = true) (i24 : PySem.W.isFn K (.ref f24) = true)
    {t_FIGURES : Tok} (n_FIGURES : PySem.W.nsIn K mainGlobals "FIGURES" = some (some (.str "0123456789" t_FIGURES)))
    (nn_Thousandths : PySem.W.nsIn K mainGlobals "Thousandths" = some (some (.ref C_Thousandths)))
    (pg_Thousandths : PySem.W.plainGet K C_Thousandths Str.empty = true)
    (hd_Thousandths : PySem.W.hasDictIn K C_Thousandths = true)
    (po_Thousandths : PySem.W.plainOver K C_Thousandths = true)
    (sa_Thousandths : PySem.W.findIn K (.ref C_Thousandths) "__setattr__" = some (some (.builtin "object.__setattr__")))
    (x_NoTime : PySem.W.excIn K C_NoTime [.type "ValueError", .type "Exception", .type "BaseException", .type "object"] "ValueError.__new__" = true)
    (nn_Frames : PySem.W.nsIn K mainGlobals "Frames" = some (some (.ref C_Frames)))
    (pg_Frames : PySem.W.plainGet K C_Frames Str.empty = true)
    (hd_Frames : PySem.W.hasDictIn K C_Frames = true)
    (po_Frames : PySem.W.plainOver K C_Frames = true)
    (sa_Frames : PySem.W.findIn K (.ref C_Frames) "__setattr__" = some (some (.builtin "object.__setattr__")))
    (na_Frames_numbering : PySem.W.findIn K (.ref C_Frames) "numbering" = some none)
    (mk_Thousandths : PySem.W.makesIn K C_Thousandths = true)
    (ii_Thousandths : PySem.W.findIn K (.ref C_Thousandths) "__init__" = some (some (.builtin "object.__init__")))
    (so_Thousandths : PySem.W.subIn K (.ref C_Thousandths) (.type "object") = some true)
    (kc_Thousandths : PySem.W.keepIn K (.ref C_Thousandths) = true)
    (cc_Frames : PySem.W.findIn K (.ref C_Frames) "__class__" = some (some (.builtin "object.__class__")))
    (g4_ : PySem.W.specialIn K (.builtin "object.__class__") "__get__" = some (some (.builtin "getset_descriptor.__get__")))
    (g5_ : PySem.W.takesIn K (.builtin "object.__class__") = some true)
    (mo_Frames : PySem.W.mroIn K C_Frames (.type "object") = some true)
    (ki_Frames_Clock : PySem.W.kitOne K (.ref C_Frames) (.ref C_Clock) = some true)
    (cc_Thousandths : PySem.W.findIn K (.ref C_Thousandths) "__class__" = some (some (.builtin "object.__class__")))
    (mo_Thousandths : PySem.W.mroIn K C_Thousandths (.type "object") = some true)
    (ki_Thousandths_Clock : PySem.W.kitOne K (.ref C_Thousandths) (.ref C_Clock) = some true) :
    ∃ fd : FuncData, (∀ (s : Shared) (v : Value), BindsTo s fd ⟨[v], []⟩ [("_law_script", v)]) ∧ ∀ base : Heap, K.In base → base.Ns mainGlobals mg → FnOk l.prog w K mg base CX0 8 fa fd ["_law_script"] (spD K 1 F_law) := by
  have e := hfa.symm.trans (PySem.W.mg_of X G a31)
  cases e
  have zz_str := PySem.W.mg_none_of X G z_str
  have zz_all := PySem.W.mg_none_of X G z_all
  have zz_len := PySem.W.mg_none_of X G z_len
  have zz_int := PySem.W.mg_none_of X G z_int
  have zz_isinstance := PySem.W.mg_none_of X G z_isinstance
  have zz_max := PySem.W.mg_none_of X G z_max
  have zz_bool := PySem.W.mg_none_of X G z_bool
  have zz_tuple := PySem.W.mg_none_of X G z_tuple
  have zz_min := PySem.W.mg_none_of X G z_min
  have zz_range := PySem.W.mg_none_of X G z_range
  have zz_enumerate := PySem.W.mg_none_of X G z_enumerate
  refine ⟨PySem.W.fnOf "law" "law" (defArgs (top 39)) (defBody (top 39)) (defScope (top 39)) .none kV31 dc31 pm31 an31 cd31 ct31, fun s v => .of_eq rfl, fun base _ _ => ?_⟩
  have m_Thousandths := PySem.W.mg_of X G n_Thousandths
  have m_NoTime := PySem.W.mg_of X G n_NoTime
  have m_Frames := PySem.W.mg_of X G n_Frames
  have m_Clock := PySem.W.mg_of X G n_Clock
  have m_FIGURES := PySem.W.mg_of X G n_FIGURES
  have D0 : Def l.prog w K mg base 1 "show_parts" 3 F_show_parts := d_show_parts (fun_mk l0 c0 k0) (PySem.W.mg_of X G a0) zz_str
  have D1 : Def l.prog w K mg base 2 "show_moment" 1 F_show_moment := d_show_moment (fun_mk l1 c1 k1) (PySem.W.mg_of X G a1) D0
  have D2 : DefM l.prog w K mg base 3 "Thousandths" "show" 2 F_Thousandths_show := d_Thousandths_show (fun_mk l2 c2 k2) m_Thousandths nn_Thousandths pg_Thousandths hd_Thousandths po_Thousandths sa_Thousandths D1 a2 i2
  have D3 : Def l.prog w K mg base 1 "are_figures" 1 F_are_figures := d_are_figures (fun_mk l3 c3 k3) (PySem.W.mg_of X G a3) m_FIGURES zz_all
  have D4 : Def l.prog w K mg base 2 "has_figures" 2 F_has_figures := d_has_figures (fun_mk l4 c4 k4) (PySem.W.mg_of X G a4) D3 zz_len
  have D5 : Def l.prog w K mg base 3 "are_hours" 1 F_are_hours := d_are_hours (fun_mk l5 c5 k5) (PySem.W.mg_of X G a5) D4 D3 zz_len
  have D6 : Def l.prog w K mg base 3 "are_sixtieths" 1 F_are_sixtieths := d_are_sixtieths (fun_mk l6 c6 k6) (PySem.W.mg_of X G a6) D4 zz_int
  have D7 : DefX l.prog w K mg base 4 "read_parts" 3 F_read_parts := d_read_parts (fun_mk l7 c7 k7) (PySem.W.mg_of X G a7) m_NoTime x_NoTime D5 D6 D4 zz_isinstance zz_str zz_int
  have D8 : DefX l.prog w K mg base 5 "read_moment" 1 F_read_moment := d_read_moment (fun_mk l8 c8 k8) (PySem.W.mg_of X G a8) D7
  have D9 : DefMX l.prog w K mg base 6 "Thousandths" "read" 2 F_Thousandths_read := d_Thousandths_read (fun_mk l9 c9 k9) m_Thousandths nn_Thousandths pg_Thousandths hd_Thousandths po_Thousandths sa_Thousandths D8 a9 i9
  have D10 : MkI l.prog w K mg base 1 "Frames" "numbering" := d_Frames_init (fun_mk l10 c10 k10) m_Frames nn_Frames pg_Frames hd_Frames po_Frames sa_Frames na_Frames_numbering a10 i10 mk10 kc10
  have D11 : Def l.prog w K mg base 1 "gaps_before_frame" 2 F_gaps_before_frame := d_gaps_before_frame (fun_mk l11 c11 k11) (PySem.W.mg_of X G a11)
  have D12 : Def l.prog w K mg base 2 "label_of" 2 F_label_of := d_label_of (fun_mk l12 c12 k12) (PySem.W.mg_of X G a12) D11
  have D13 : Def l.prog w K mg base 1 "frame_sign" 1 F_frame_sign := d_frame_sign (fun_mk l13 c13 k13) (PySem.W.mg_of X G a13)
  have D14 : Def l.prog w K mg base 1 "frame_figures" 1 F_frame_figures := d_frame_figures (fun_mk l14 c14 k14) (PySem.W.mg_of X G a14) zz_str zz_len zz_max
  have D15 : Def l.prog w K mg base 3 "show_frame" 2 F_show_frame := d_show_frame (fun_mk l15 c15 k15) (PySem.W.mg_of X G a15) D12 D13 D14 D0
  have D16 : DefM l.prog w K mg base 4 "Frames" "show" 2 F_Frames_show := d_Frames_show (fun_mk l16 c16 k16) m_Frames nn_Frames pg_Frames hd_Frames po_Frames sa_Frames na_Frames_numbering D15 a16 i16
  have D17 : Def l.prog w K mg base 1 "is_whole" 1 F_is_whole := d_is_whole (fun_mk l17 c17 k17) (PySem.W.mg_of X G a17) zz_isinstance zz_int zz_bool
  have D18 : Def l.prog w K mg base 2 "has_form" 2 F_has_form := d_has_form (fun_mk l18 c18 k18) (PySem.W.mg_of X G a18) D17 zz_isinstance zz_tuple zz_len zz_all
  have D19 : Def l.prog w K mg base 1 "minute_of" 1 F_minute_of := d_minute_of (fun_mk l19 c19 k19) (PySem.W.mg_of X G a19)
  have D20 : Def l.prog w K mg base 2 "is_left_out" 2 F_is_left_out := d_is_left_out (fun_mk l20 c20 k20) (PySem.W.mg_of X G a20) D19
  have D21 : Def l.prog w K mg base 3 "is_label" 2 F_is_label := d_is_label (fun_mk l21 c21 k21) (PySem.W.mg_of X G a21) D18 D20
  have D22 : Def l.prog w K mg base 4 "frame_of" 2 F_frame_of := d_frame_of (fun_mk l22 c22 k22) (PySem.W.mg_of X G a22) D21 D19
  have D23 : DefX l.prog w K mg base 5 "read_frame" 2 F_read_frame := d_read_frame (fun_mk l23 c23 k23) (PySem.W.mg_of X G a23) m_NoTime x_NoTime D13 D14 D7 D21 D22
  have D24 : DefMX l.prog w K mg base 6 "Frames" "read" 2 F_Frames_read := d_Frames_read (fun_mk l24 c24 k24) m_Frames nn_Frames pg_Frames hd_Frames po_Frames sa_Frames na_Frames_numbering D23 a24 i24
  have D25 : Def l.prog w K mg base 1 "_law_cell_at" 2 F__law_cell_at := d__law_cell_at (fun_mk l25 c25 k25) (PySem.W.mg_of X G a25) zz_len
  have D26 : Def l.prog w K mg base 1 "_law_whole" 1 F__law_whole := d__law_whole (fun_mk l26 c26 k26) (PySem.W.mg_of X G a26) zz_isinstance zz_int zz_bool
  have D27 : Def l.prog w K mg base 1 "_law_numbering" 1 F__law_numbering := d__law_numbering (fun_mk l27 c27 k27) (PySem.W.mg_of X G a27) zz_min
  have D28 : Def l.prog w K mg base 1 "_law_moment" 2 F__law_moment := d__law_moment (fun_mk l28 c28 k28) (PySem.W.mg_of X G a28) zz_max
  have D29 : Def l.prog w K mg base 1 "_law_order" 1 F__law_order := d__law_order (fun_mk l29 c29 k29) (PySem.W.mg_of X G a29) zz_len zz_range
  have D30 : Def l.prog w K mg base 7 "_law_no_text" 2 F__law_no_text := d__law_no_text (fun_mk l30 c30 k30) (PySem.W.mg_of X G a30) m_NoTime x_NoTime D24 D9
  exact fn_law (fun_mk l31 c31 k31) m_Thousandths m_Frames m_Clock nn_Thousandths mk_Thousandths ii_Thousandths so_Thousandths kc_Thousandths nn_Frames pg_Frames hd_Frames po_Frames sa_Frames cc_Frames g4_ g5_ mo_Frames ki_Frames_Clock pg_Thousandths hd_Thousandths po_Thousandths sa_Thousandths cc_Thousandths mo_Thousandths ki_Thousandths_Clock D10 D25 D27 D16 D2 D28 D24 D9 D26 D29 D30 zz_isinstance zz_str zz_enumerate
end K14
def PySem.W.Fast.tw4339412700265595939 : Nat := 0
def PySem.W.Fast.tw9408546183514538350 : Nat := 0
def PySem.W.Fast.tw2863328131437761894 : Nat := 0
def PySem.W.Fast.tw6948434500890784460 : Nat := 0
def PySem.W.Fast.tw3602974383729139437 : Nat := 0
def PySem.W.Fast.tw7284115284898312886 : Nat := 0
def PySem.W.Fast.tw11507767479917417226 : Nat := 0
def PySem.W.Fast.tw3393915855070478513 : Nat := 0
def PySem.W.Fast.tw217347284510090962 : Nat := 0
def PySem.W.Fast.tw12001978750201053845 : Nat := 0
def PySem.W.Fast.tw10366276219128523414 : Nat := 0
open PySem PySem.W PyProof.Rows
set_option maxRecDepth 100000 in
set_option maxHeartbeats 0 in
theorem PySem.Challenge.cw_cuetimer_k14_whole_clocks_holds : PySem.Challenge.rw_cuetimer_k14_whole_clocks.Holds := by
  w_on; o_law; k_head; (case hw => w_witness2)
  k_fill
  refine DL.walk (l := PySem.Challenge.rw_cuetimer_k14_whole_clocks) (k := 8) (F := K14.F_law) (x := "_law_script") rfl rfl K14.law_true ⟨rfl, by decide, by decide⟩ (fun w h Y => PySem.W.kIn_of Y) ?T
  case T =>
    intro w mg fa h KX G hmg
    refine' K14.all_mk KX G hmg ?a0 ?l0 ?c0 ?k0 ?a1 ?l1 ?c1 ?k1 ?a3 ?l3 ?c3 ?k3 ?a4 ?l4 ?c4 ?k4 ?a5 ?l5 ?c5 ?k5 ?a6 ?l6 ?c6 ?k6 ?a7 ?l7 ?c7 ?k7 ?a8 ?l8 ?c8 ?k8 ?a11 ?l11 ?c11 ?k11 ?a12 ?l12 ?c12 ?k12 ?a13 ?l13 ?c13 ?k13 ?a14 ?l14 ?c14 ?k14 ?a15 ?l15 ?c15 ?k15 ?a17 ?l17 ?c17 ?k17 ?a18 ?l18 ?c18 ?k18 ?a19 ?l19 ?c19 ?k19 ?a20 ?l20 ?c20 ?k20 ?a21 ?l21 ?c21 ?k21 ?a22 ?l22 ?c22 ?k22 ?a23 ?l23 ?c23 ?k23 ?a25 ?l25 ?c25 ?k25 ?a26 ?l26 ?c26 ?k26 ?a27 ?l27 ?c27 ?k27 ?a28 ?l28 ?c28 ?k28 ?a29 ?l29 ?c29 ?k29 ?a30 ?l30 ?c30 ?k30 ?a31 ?l31 ?c31 ?k31 ?z_str ?z_all ?z_len ?z_int ?z_isinstance ?z_max ?z_bool ?z_tuple ?z_min ?z_range ?z_enumerate ?n_Thousandths ?n_NoTime ?n_Frames ?n_Clock ?a2 ?l2 ?c2 ?k2 ?i2 ?a9 ?l9 ?c9 ?k9 ?i9 ?a10 ?l10 ?c10 ?k10 ?i10 ?mk10 ?kc10 ?a16 ?l16 ?c16 ?k16 ?i16 ?a24 ?l24 ?c24 ?k24 ?i24 ?n_FIGURES ?nn_Thousandths ?pg_Thousandths ?hd_Thousandths ?po_Thousandths ?sa_Thousandths ?x_NoTime ?nn_Frames ?pg_Frames ?hd_Frames ?po_Frames ?sa_Frames ?na_Frames_numbering ?mk_Thousandths ?ii_Thousandths ?so_Thousandths ?kc_Thousandths ?cc_Frames ?g4_ ?g5_ ?mo_Frames ?ki_Frames_Clock ?cc_Thousandths ?mo_Thousandths ?ki_Thousandths_Clock
    (case a0 => k_is)
    (case l0 => k_is)
    (case c0 => k_is)
    (case k0 => k_is)
    (case a1 => k_is)
    (case l1 => k_is)
    (case c1 => k_is)
    (case k1 => k_is)
    (case a3 => k_is)
    (case l3 => k_is)
    (case c3 => k_is)
    (case k3 => k_is)
    (case a4 => k_is)
    (case l4 => k_is)
    (case c4 => k_is)
    (case k4 => k_is)
    (case a5 => k_is)
    (case l5 => k_is)
    (case c5 => k_is)
    (case k5 => k_is)
    (case a6 => k_is)
    (case l6 => k_is)
    (case c6 => k_is)
    (case k6 => k_is)
    (case a7 => k_is)
    (case l7 => k_is)
    (case c7 => k_is)
    (case k7 => k_is)
    (case a8 => k_is)
    (case l8 => k_is)
    (case c8 => k_is)
    (case k8 => k_is)
    (case a11 => k_is)
    (case l11 => k_is)
    (case c11 => k_is)
    (case k11 => k_is)
    (case a12 => k_is)
    (case l12 => k_is)
    (case c12 => k_is)
    (case k12 => k_is)
    (case a13 => k_is)
    (case l13 => k_is)
    (case c13 => k_is)
    (case k13 => k_is)
    (case a14 => k_is)
    (case l14 => k_is)
    (case c14 => k_is)
    (case k14 => k_is)
    (case a15 => k_is)
    (case l15 => k_is)
    (case c15 => k_is)
    (case k15 => k_is)
    (case a17 => k_is)
    (case l17 => k_is)
    (case c17 => k_is)
    (case k17 => k_is)
    (case a18 => k_is)
    (case l18 => k_is)
    (case c18 => k_is)
    (case k18 => k_is)
    (case a19 => k_is)
    (case l19 => k_is)
    (case c19 => k_is)
    (case k19 => k_is)
    (case a20 => k_is)
    (case l20 => k_is)
    (case c20 => k_is)
    (case k20 => k_is)
    (case a21 => k_is)
    (case l21 => k_is)
    (case c21 => k_is)
    (case k21 => k_is)
    (case a22 => k_is)
    (case l22 => k_is)
    (case c22 => k_is)
    (case k22 => k_is)
    (case a23 => k_is)
    (case l23 => k_is)
    (case c23 => k_is)
    (case k23 => k_is)
    (case a25 => k_is)
    (case l25 => k_is)
    (case c25 => k_is)
    (case k25 => k_is)
    (case a26 => k_is)
    (case l26 => k_is)
    (case c26 => k_is)
    (case k26 => k_is)
    (case a27 => k_is)
    (case l27 => k_is)
    (case c27 => k_is)
    (case k27 => k_is)
    (case a28 => k_is)
    (case l28 => k_is)
    (case c28 => k_is)
    (case k28 => k_is)
    (case a29 => k_is)
    (case l29 => k_is)
    (case c29 => k_is)
    (case k29 => k_is)
    (case a30 => k_is)
    (case l30 => k_is)
    (case c30 => k_is)
    (case k30 => k_is)
    (case a31 => k_is)
    (case l31 => k_is)
    (case c31 => k_is)
    (case k31 => k_is)
    (case z_str => k_is)
    (case z_all => k_is)
    (case z_len => k_is)
    (case z_int => k_is)
    (case z_isinstance => k_is)
    (case z_max => k_is)
    (case z_bool => k_is)
    (case z_tuple => k_is)
    (case z_min => k_is)
    (case z_range => k_is)
    (case z_enumerate => k_is)
    (case n_Thousandths => k_is)
    (case n_NoTime => k_is)
    (case n_Frames => k_is)
    (case n_Clock => k_is)
    (case a2 => k_is)
    (case l2 => k_is)
    (case c2 => k_is)
    (case k2 => k_is)
    (case i2 => k_is)
    (case a9 => k_is)
    (case l9 => k_is)
    (case c9 => k_is)
    (case k9 => k_is)
    (case i9 => k_is)
    (case a10 => k_is)
    (case l10 => k_is)
    (case c10 => k_is)
    (case k10 => k_is)
    (case i10 => k_is)
    (case mk10 => k_is)
    (case kc10 => k_is)
    (case a16 => k_is)
    (case l16 => k_is)
    (case c16 => k_is)
    (case k16 => k_is)
    (case i16 => k_is)
    (case a24 => k_is)
    (case l24 => k_is)
    (case c24 => k_is)
    (case k24 => k_is)
    (case i24 => k_is)
    (case n_FIGURES => k_is)
    (case nn_Thousandths => k_is)
    (case pg_Thousandths => k_is)
    (case hd_Thousandths => k_is)
    (case po_Thousandths => k_is)
    (case sa_Thousandths => k_is)
    (case x_NoTime => k_exc)
    (case nn_Frames => k_is)
    (case pg_Frames => k_is)
    (case hd_Frames => k_is)
    (case po_Frames => k_is)
    (case sa_Frames => k_is)
    (case na_Frames_numbering => k_is)
    (case mk_Thousandths => k_is)
    (case ii_Thousandths => k_is)
    (case so_Thousandths => k_is)
    (case kc_Thousandths => k_is)
    (case cc_Frames => k_is)
    (case g4_ => k_is)
    (case g5_ => k_is)
    (case mo_Frames => k_is)
    (case ki_Frames_Clock => kit_is)
    (case cc_Thousandths => k_is)
    (case mo_Thousandths => k_is)
    (case ki_Thousandths_Clock => kit_is)
#print axioms PySem.Challenge.cw_cuetimer_k14_whole_clocks_holds
