import PyProof.Rows.All
import Wide.All
import OpenK.AllK
import Wide.FinOn
import Lean
import PyProof.EqAt
import PyProof.EqKinds
import PyProof.TupleCall
import KE.KLam
import KE.KNestM
import KE.KSortKey
import KE.KRevIter
import PySem.Challenge.RW_cuetimer_k15_what_is_a_cue
set_option Elab.async false
set_option linter.all false
set_option maxRecDepth 100000
set_option maxHeartbeats 4000000
namespace L2
open PySem PySem.Spec PyProof.Rows

abbrev Key := Sum Int Str
def keyIs : Key → Value → Bool
  | .inl k, v => Value.isInt k v
  | .inr x, v => Value.isStrOf x v
def keyH (w : World) : Key → Int
  | .inl k => hashInt k
  | .inr x => hashStr w x
theorem keyIs_shape : ∀ {k : Key} {v : Value}, keyIs k v = true → (∃ i t, k = Sum.inl i ∧ v = Value.int i t) ∨ (∃ x t, k = Sum.inr x ∧ v = Value.str x t)
  | .inl i, v, h => by
    obtain ⟨t, e⟩ := Value.isInt_shape (k := i) (v := v) h
    exact .inl ⟨i, t, rfl, e⟩
  | .inr x, v, h => by
    obtain ⟨t, e⟩ := Value.isStrOf_shape (x := x) (v := v) h
    exact .inr ⟨x, t, rfl, e⟩
theorem key_ll (a b : Int) : decide ((Sum.inl a : Key) = Sum.inl b) = (a == b) := by
  by_cases e : a = b
  · subst e; simp
  · have h : ¬ (Sum.inl a : Key) = Sum.inl b := fun q => e (Sum.inl.inj q)
    rw [decide_eq_false h]
    exact (beq_eq_false_iff_ne.mpr e).symm
theorem key_rr (a b : Str) : decide ((Sum.inr a : Key) = Sum.inr b) = decide (a = b) := by
  by_cases e : a = b
  · subst e; simp
  · have h : ¬ (Sum.inr a : Key) = Sum.inr b := fun q => e (Sum.inr.inj q)
    rw [decide_eq_false h, decide_eq_false e]
theorem key_lr (a : Int) (b : Str) : decide ((Sum.inl a : Key) = Sum.inr b) = false := decide_eq_false (fun q => nomatch q)
theorem key_rl (a : Str) (b : Int) : decide ((Sum.inr a : Key) = Sum.inl b) = false := decide_eq_false (fun q => nomatch q)

def mixKind (prog : Program) (w : World) : PySem.KeyKind prog w Key where
  is := keyIs
  hash := keyH w
  inj := fun v a b ha hb => by
    rcases keyIs_shape ha with ⟨i, t, rfl, rfl⟩ | ⟨x, t, rfl, rfl⟩
    · rcases keyIs_shape hb with ⟨j, u, rfl, e⟩ | ⟨y, u, rfl, e⟩
      · injection e with e1 _; rw [e1]
      · exact nomatch e
    · rcases keyIs_shape hb with ⟨j, u, rfl, e⟩ | ⟨y, u, rfl, e⟩
      · exact nomatch e
      · injection e with e1 _; rw [e1]
  byValue := fun k v h => by
    rcases keyIs_shape h with ⟨i, t, rfl, rfl⟩ | ⟨x, t, rfl, rfl⟩ <;> rfl
  pyHash := fun hv h => by
    rcases keyIs_shape hv with ⟨i, t, rfl, rfl⟩ | ⟨x, t, rfl, rfl⟩
    · exact wpAny_pyHash_int h
    · exact wpAny_pyHash_str h
  eqBool := fun hu hv h => by
    rcases keyIs_shape hu with ⟨i, t, rfl, rfl⟩ | ⟨x, t, rfl, rfl⟩
    · rcases keyIs_shape hv with ⟨j, u, rfl, rfl⟩ | ⟨y, u, rfl, rfl⟩
      · rw [key_ll] at h; exact wpAny_eqBool_int h
      · rw [key_lr] at h; exact SeqAt.EqAt.int_str i t y u _ _ _ _ h
    · rcases keyIs_shape hv with ⟨j, u, rfl, rfl⟩ | ⟨y, u, rfl, rfl⟩
      · rw [key_rl] at h; exact SeqAt.EqAt.str_int x t j u _ _ _ _ h
      · rw [key_rr] at h; exact wpAny_eqBool_str h
  «strs» := fun k x t v h => by
    rcases keyIs_shape h with ⟨i, u, rfl, e⟩ | ⟨y, u, rfl, e⟩
    · exact nomatch e
    · injection e with e1 _
      subst e1
      cases v <;> rfl

end L2

namespace L2
open PySem PySem.Spec PyProof.Rows

inductive V where
  | non | bl (b : Bool) | int (i : Int) | str (x : Str) | byt (b : Array UInt8) | flt (b : UInt64) | ref (a : Addr) | ty (n : String)
  deriving DecidableEq

def RelV : V → Value → Prop
  | .non, u => u = Value.none
  | .bl b, u => u = Value.bool b
  | .int i, u => ∃ t, u = Value.int i t
  | .str x, u => ∃ t, u = Value.str x t
  | .byt b, u => ∃ t, u = Value.bytes b t
  | .flt b, u => ∃ t, u = Value.float b t
  | .ref a, u => u = Value.ref a
  | .ty n, u => u = Value.type n

abbrev Vals : List V → List Value → Prop := Paired RelV
theorem Vals.length {xs : List V} {us : List Value} (r : Vals xs us) : xs.length = us.length := Paired.length r
theorem Vals.get : ∀ {xs : List V} {us : List Value} {i : Nat} {x : V}, Vals xs us → xs[i]? = some x → ∃ u, us[i]? = some u ∧ RelV x u
  | _, _, _, _, .nil, e => by simp at e
  | _, _, 0, _, .cons r _, e => by simp at e; subst e; exact ⟨_, rfl, r⟩
  | _, _, i + 1, x, .cons _ t, e => by
    obtain ⟨u, h1, h2⟩ := Vals.get (i := i) (x := x) t (by simpa using e)
    exact ⟨u, by simpa using h1, h2⟩
theorem Vals.append : ∀ {xs ys : List V} {us ws : List Value}, Vals xs us → Vals ys ws → Vals (xs ++ ys) (us ++ ws)
  | _, _, _, _, .nil, s => s
  | _, _, _, _, .cons r t, s => .cons r (Vals.append t s)
theorem Vals.take : ∀ {xs : List V} {us : List Value} (n : Nat), Vals xs us → Vals (xs.take n) (us.take n)
  | _, _, 0, _ => .nil
  | _, _, _ + 1, .nil => .nil
  | _, _, n + 1, .cons r t => .cons r (Vals.take n t)
theorem Vals.drop : ∀ {xs : List V} {us : List Value} (n : Nat), Vals xs us → Vals (xs.drop n) (us.drop n)
  | _, _, 0, r => r
  | _, _, _ + 1, .nil => .nil
  | _, _, n + 1, .cons _ t => Vals.drop n t
def RelO : Option V → Option Value → Prop
  | some v, some u => RelV v u
  | none, none => True
  | _, _ => False
def KV {κ : Type} : List (κ × V) → List (κ × Value) → Prop := Paired fun (p : κ × V) (q : κ × Value) => p.1 = q.1 ∧ RelV p.2 q.2

def kV : Key → V
  | .inl i => .int i
  | .inr x => .str x

inductive HO where
  /-- a list -/
  | lst (xs : List V)
  /-- a tuple (never changes) -/
  | tup (xs : List V)
  /-- a dict whose keys are ints and texts; one whose keys are tuples of ints and texts (the empty one is both) -/
  | dK (kvs : List (Key × V)) | dT (kvs : List (List Key × V))
  /-- a set of ints: its members, its size -/
  | set (S : Int → Bool) (n : Nat)
  /-- an instance of the class at C, its dict at dx, its attributes -/
  | ins (C dx : Addr) (fs : List (Str × V))
  /-- the dict of the instance at x -/
  | own (x : Addr)
  /-- the dict of an exception -/
  | xd (fs : List (Str × V))
  /-- a bound method, f of x -/
  | met (f x : Addr)
  /-- a range object lo, lo + 1, .. below hi -/
  | rng (lo hi : Int)
  /-- a thing that is known to the object (the script; a dict while a loop walks it): read, never written while it is so -/
  | frz (o : Obj) (u : HO)
  /-- a code object's table -/
  | tbl (ps : Array Value)
  /-- any other thing, by what is true of its one object (a def of one's own: SetO a S n := HO.ext fun h => ..) -/
  | ext (φ : Heap → Prop)

abbrev Hp := Addr → Option HO
def upd (H : Hp) (a : Addr) (o : HO) : Hp := fun b => if b = a then some o else H b
theorem upd_same {H : Hp} {a : Addr} {o : HO} : upd H a o a = some o := by unfold upd; rw [if_pos rfl]
theorem upd_ne {H : Hp} {a b : Addr} {o : HO} (h : b ≠ a) : upd H a o b = H b := by unfold upd; rw [if_neg h]
theorem ne_of {H : Hp} {a b : Addr} {o u : HO} (h : H a = some o) (h' : H b = some u) (d : o ≠ u) : a ≠ b := by
  intro e; subst e; rw [h] at h'; exact d (Option.some.inj h')
theorem ne_of_none {H : Hp} {a b : Addr} {o : HO} (h : H a = some o) (h' : H b = none) : a ≠ b := by
  intro e; subst e; rw [h] at h'; cases h'

section
variable (P : Program) (w : World)
def ObjOk (H : Hp) (h : Heap) (a : Addr) : HO → Prop
  | .lst xs => xs.length ≤ sizeLine ∧ ∃ (its : List Value) (n : Nat), Vals xs its ∧ h.get? a = some { cls := .type "list", data := .seq its.toArray n }
  | .tup xs => xs.length ≤ sizeLine ∧ ∃ its : List Value, Vals xs its ∧ IsTup h a its.toArray
  | .dK kvs => kvs.length ≤ sizeLine ∧ (a == sysModules) = false ∧ ∃ vs, KV kvs vs ∧ h.DictOf (mixKind P w) a vs
  | .dT kvs => kvs.length ≤ sizeLine ∧ (a == sysModules) = false ∧ ∃ xs : List (List Key × Addr × Value),
      Paired (fun (p : List Key × V) (q : List Key × Addr × Value) => p.1 = q.1 ∧ H q.2.1 = some (.tup (p.1.map kV)) ∧ RelV p.2 q.2.2) kvs xs ∧
      ∃ o es ep, h.get? a = some o ∧ o.ExactDict ∧ o.data = .dict es ep ∧ es.toList = xs.map (entryOfKey (tupleKind (mixKind P w))) ∧ (xs.map (·.1)).Nodup
  | .set S n => h.SetOf (intKind P w) a S n
  | .ins C dx fs => H dx = some (.own a) ∧ fs.length ≤ 1000 ∧ dx ≠ a ∧ h.get? a = some (PySem.W.instObj C dx) ∧
      ∃ mA, h.Ns1 dx mA ∧ (∀ f, RelO (fs.lookup f) (mA f)) ∧ PySem.Within mA (fs.map (·.1))
  | .own _ => ∃ o, h.get? a = some o
  | .xd fs => ∃ mA, h.Ns1 a mA ∧ ∀ f, RelO (fs.lookup f) (mA f)
  | .rng lo hi => ∃ t u v, h.get? a = some { cls := .type "range", data := .fields #[.int lo t, .int hi u, .int 1 v] }
  | .frz o u => h.get? a = some o ∧ ObjOk H h a u
  | .tbl ps => h.get? a = some { cls := .none, data := .fields ps }
  | .met f x => h.get? a = some (PySem.W.methodObj (.ref f) (.ref x))
  | .ext φ => φ h ∧ (∃ o, h.get? a = some o) ∧ ∀ h1 h2 : Heap, φ h1 → (∀ o, h1.get? a = some o → h2.get? a = some o) → φ h2
def HOk (H : Hp) (h : Heap) : Prop := ∀ a o, H a = some o → ObjOk P w H h a o
end

section
variable {P : Program} {w : World} {H H' : Hp} {h h' : Heap} {a : Addr} {o : HO}
theorem ObjOk.lt (x : ObjOk P w H h a o) : a < h.objs.size := by
  cases o with
  | lst xs => obtain ⟨_, _, _, _, e⟩ := x; exact Heap.lt_size e
  | tup xs => obtain ⟨_, _, _, p⟩ := x; exact p.lt
  | dK kvs => obtain ⟨_, _, _, _, o, _, _, e, _⟩ := x; exact Heap.lt_size e
  | dT kvs => obtain ⟨_, _, _, _, o, _, _, e, _⟩ := x; exact Heap.lt_size e
  | set S n => obtain ⟨o, _, _, _, e, _⟩ := x; exact Heap.lt_size e
  | ins C dx fs => obtain ⟨_, _, _, e, _⟩ := x; exact Heap.lt_size e
  | own y => obtain ⟨_, e⟩ := x; exact Heap.lt_size e
  | xd fs => obtain ⟨_, ⟨_, _, _, e, _⟩, _⟩ := x; exact Heap.lt_size e
  | rng lo hi => obtain ⟨_, _, _, e⟩ := x; exact Heap.lt_size e
  | frz ob u => obtain ⟨e, _⟩ := x; exact Heap.lt_size e
  | tbl ps => exact Heap.lt_size (show h.get? a = some _ from x)
  | met f y => exact Heap.lt_size (show h.get? a = some _ from x)
  | ext φ => obtain ⟨_, ⟨_, e⟩, _⟩ := x; exact Heap.lt_size e
theorem Paired.mapP {α β : Type} {F G : α → β → Prop} : ∀ {l₁ : List α} {l₂ : List β}, Paired F l₁ l₂ → (∀ a b, F a b → G a b) → Paired G l₁ l₂
  | _, _, .nil, _ => .nil
  | _, _, .cons r t, f => .cons (f _ _ r) (Paired.mapP t f)
theorem ObjOk.stay (x : ObjOk P w H h a o) (k : ∀ b u, (b = a ∨ H b = some (.own a)) → h.get? b = some u → h'.get? b = some u)
    (ho : ∀ b, H b = some (.own a) → H' b = some (.own a)) (ht : ∀ b xs, H b = some (.tup xs) → H' b = some (.tup xs)) : ObjOk P w H' h' a o := by
  induction o with
  | lst xs => obtain ⟨z, its, n, r, e⟩ := x; exact ⟨z, its, n, r, k _ _ (.inl rfl) e⟩
  | tup xs => obtain ⟨z, its, r, ob, e, c⟩ := x; exact ⟨z, its, r, ob, k _ _ (.inl rfl) e, c⟩
  | dK kvs => obtain ⟨z, y, vs, r, ob, es, ep, e, c⟩ := x; exact ⟨z, y, vs, r, ob, es, ep, k _ _ (.inl rfl) e, c⟩
  | dT kvs =>
    obtain ⟨z, y, xs, r, ob, es, ep, e, c⟩ := x
    exact ⟨z, y, xs, Paired.mapP r fun p q z => ⟨z.1, ht _ _ z.2.1, z.2.2⟩, ob, es, ep, k _ _ (.inl rfl) e, c⟩
  | set S n => obtain ⟨ob, es, ep, t, e, c⟩ := x; exact ⟨ob, es, ep, t, k _ _ (.inl rfl) e, c⟩
  | ins C dx fs =>
    obtain ⟨d, z, ne, e, mA, ⟨od, es, ep, e2, c⟩, r⟩ := x
    exact ⟨ho _ d, z, ne, k _ _ (.inl rfl) e, mA, ⟨od, es, ep, k _ _ (.inr d) e2, c⟩, r⟩
  | own y => obtain ⟨ob, e⟩ := x; exact ⟨ob, k _ _ (.inl rfl) e⟩
  | xd fs => obtain ⟨mA, ⟨od, es, ep, e, c⟩, r⟩ := x; exact ⟨mA, ⟨od, es, ep, k _ _ (.inl rfl) e, c⟩, r⟩
  | rng lo hi => obtain ⟨t, u, v, e⟩ := x; exact ⟨t, u, v, k _ _ (.inl rfl) e⟩
  | frz ob u ih => obtain ⟨e, q⟩ := x; exact ⟨k _ _ (.inl rfl) e, ih q⟩
  | tbl ps =>
    have e : h.get? a = some { cls := .none, data := .fields ps } := x
    show h'.get? a = some { cls := .none, data := .fields ps }
    exact k a _ (.inl rfl) e
  | met f y =>
    have e : h.get? a = some (PySem.W.methodObj (.ref f) (.ref y)) := x
    show h'.get? a = some (PySem.W.methodObj (.ref f) (.ref y))
    exact k a _ (.inl rfl) e
  | ext φ => obtain ⟨p, ⟨o, e⟩, st⟩ := x; exact ⟨st _ _ p fun o q => k _ _ (.inl rfl) q, ⟨o, k _ _ (.inl rfl) e⟩, st⟩
theorem HOk.lt (x : HOk P w H h) (e : H a = some o) : a < h.objs.size := (x a o e).lt
theorem HOk.fresh (x : HOk P w H h) (e : h.objs.size ≤ a) : H a = none := by
  cases q : H a with
  | none => rfl
  | some u => exact absurd (Nat.lt_of_lt_of_le (x.lt q) e) (Nat.lt_irrefl _)
theorem HOk.kept (x : HOk P w H h) (k : ∀ b u, h.get? b = some u → h'.get? b = some u) : HOk P w H h' := fun a o e =>
  (x a o e).stay (fun b u _ q => k b u q) (fun _ q => q) fun _ _ q => q
theorem HOk.laid (x : HOk P w H h) (k : ∀ b u, h.get? b = some u → h'.get? b = some u) (hp : h.objs.size ≤ a) (new : ObjOk P w (upd H a o) h' a o) : HOk P w (upd H a o) h' := fun b u e => by
  have hn := x.fresh hp
  by_cases hb : b = a
  · subst hb; rw [upd_same] at e; cases e; exact new
  · rw [upd_ne hb] at e
    exact (x b u e).stay (fun c v _ q => k c v q) (fun c q => by rw [upd_ne (ne_of_none q hn)]; exact q) fun c xs q => by rw [upd_ne (ne_of_none q hn)]; exact q
end

def Rd (H : Hp) (a : Addr) (u : HO) : Prop := H a = some u ∨ ∃ o, H a = some (.frz o u)
theorem Rd.ok {P : Program} {w : World} {H : Hp} {h : Heap} {a : Addr} {u : HO} (r : Rd H a u) (x : HOk P w H h) : ObjOk P w H h a u := by
  rcases r with r | ⟨o, r⟩
  · exact x a u r
  · obtain ⟨_, q⟩ := x a _ r
    exact q
def Mut : Option HO → Prop
  | some (.lst _) => True
  | some (.dK _) => True
  | some (.dT _) => True
  | some (.set _ _) => True
  | some (.ins _ _ _) => True
  | some (.ext _) => True
  | _ => False
section
variable {P : Program} {w : World} {H : Hp} {h h' : Heap} {x e : Addr} {o' : HO}
theorem HOk.write (ok : HOk P w H h) (mu : Mut (H x)) (he : e = x ∨ H e = some (.own x)) (k : ∀ b u, b ≠ e → h.get? b = some u → h'.get? b = some u) (heo : ∃ u, h'.get? e = some u)
    (new : ObjOk P w (upd H x o') h' x o') : HOk P w (upd H x o') h' := fun b u q => by
  have nown : ∀ c y, H c = some (.own y) → c ≠ x := fun c y r z => by subst z; rw [r] at mu; exact mu
  have ntup : ∀ c xs, H c = some (.tup xs) → c ≠ x := fun c xs r z => by subst z; rw [r] at mu; exact mu
  by_cases hb : b = x
  · subst hb; rw [upd_same] at q; cases q; exact new
  · rw [upd_ne hb] at q
    by_cases hbe : b = e
    · have q' : H b = some (.own x) := by
        rcases he with z | z
        · exact absurd (hbe.trans z) hb
        · rw [hbe]; exact z
      rw [q] at q'; cases q'
      obtain ⟨v, hv⟩ := heo
      exact ⟨v, by rw [hbe]; exact hv⟩
    · refine (ok b u q).stay (fun c v hc r => k c v ?_ r) (fun c r => by rw [upd_ne (nown c b r)]; exact r) fun c xs r => by rw [upd_ne (ntup c xs r)]; exact r
      rcases hc with rfl | hc
      · exact hbe
      · rintro rfl
        rcases he with z | z
        · exact nown c b hc z
        · rw [hc] at z; cases z; exact hb rfl
end

structure Un (fs ex : List Addr) (H H' : Hp) (h h' : Heap) : Prop where
  keep : ∀ b o, h.get? b = some o → H b = none → b ∉ fs → b ∉ ex → h'.get? b = some o
  slot : ∀ b o, h.get? b = some o → H b = none → b ∈ fs → b ∉ ex → ∃ sl, h'.get? b = some { o with slots := sl }
  free : ∀ b o, h.get? b = some o → H b = none → b ∉ ex → H' b = none
  there : ∀ b o, h.get? b = some o → b ∉ ex → ∃ o', h'.get? b = some o'
  tups : ∀ b xs, H b = some (.tup xs) → H' b = some (.tup xs)
  frzs : ∀ b o u, H b = some (.frz o u) → H' b = some (.frz o u)
  tbls : ∀ b ps, H b = some (.tbl ps) → ∃ more, H' b = some (.tbl (ps ++ more))
section
variable {fs fs' ex ex' : List Addr} {H H1 H2 : Hp} {h h1 h2 h' : Heap} {a x e : Addr} {o : HO}
theorem Un.any (u : Un fs ex H H1 h h1) {b : Addr} {ob : Obj} (q : h.get? b = some ob) (n : H b = none) (hx : b ∉ ex) : ∃ sl, h1.get? b = some { ob with slots := sl } := by
  by_cases hb : b ∈ fs
  · exact u.slot b ob q n hb hx
  · exact ⟨ob.slots, u.keep b ob q n hb hx⟩
theorem Un.kept (k : ∀ b u, h.get? b = some u → h'.get? b = some u) : Un fs ex H H h h' :=
  ⟨fun b ob q _ _ _ => k b ob q, fun b ob q _ _ _ => ⟨ob.slots, k b ob q⟩, fun _ _ _ n _ => n, fun b ob q _ => ⟨ob, k b ob q⟩, fun _ _ q => q, fun _ _ _ q => q, fun _ ps q => ⟨#[], by rw [q]; simp⟩⟩
theorem Un.refl : Un fs ex H H h h := Un.kept fun _ _ q => q
theorem Un.laid (k : ∀ b u, h.get? b = some u → h'.get? b = some u) (hp : h.objs.size ≤ a) (hn : H a = none) : Un fs ex H (upd H a o) h h' where
  keep := fun b u q _ _ _ => k b u q
  slot := fun b u q _ _ _ => ⟨u.slots, k b u q⟩
  free := fun b u q n _ => by rw [upd_ne (Nat.ne_of_lt (Nat.lt_of_lt_of_le (Heap.lt_size q) hp))]; exact n
  there := fun b u q _ => ⟨u, k b u q⟩
  tups := fun b xs q => by rw [upd_ne (ne_of_none q hn)]; exact q
  frzs := fun b u xs q => by rw [upd_ne (ne_of_none q hn)]; exact q
  tbls := fun b ps q => ⟨#[], by rw [upd_ne (ne_of_none q hn), q]; simp⟩
theorem Un.write (mu : Mut (H x)) (he : e = x ∨ H e = some (.own x)) (k : ∀ b u, b ≠ e → h.get? b = some u → h'.get? b = some u) (heo : ∃ u, h'.get? e = some u) : Un fs ex H (upd H x o) h h' := by
  have hx : ∀ b, H b = none → b ≠ x := fun b n z => by subst z; rw [n] at mu; exact mu
  have hb : ∀ b, H b = none → b ≠ e := fun b n z => by
    subst z
    rcases he with r | r
    · exact hx b n r
    · rw [n] at r; cases r
  have hm : ∀ b u, H b = some u → ¬ Mut (some u) → b ≠ x := fun b u q nm z => by subst z; rw [q] at mu; exact nm mu
  refine ⟨fun b u q n _ _ => k b u (hb b n) q, fun b u q n _ _ => ⟨u.slots, k b u (hb b n) q⟩, fun b u q n _ => by rw [upd_ne (hx b n)]; exact n, fun b u q _ => ?_,
    fun b xs q => by rw [upd_ne (hm b _ q fun z => z)]; exact q, fun b u xs q => by rw [upd_ne (hm b _ q fun z => z)]; exact q, fun b ps q => ⟨#[], by rw [upd_ne (hm b _ q fun z => z), q]; simp⟩⟩
  by_cases hbe : b = e
  · subst hbe; exact heo
  · exact ⟨u, k b u hbe q⟩
end

def trk (h : Heap) (H : Hp) : List Addr := (List.range h.objs.size).filter fun a => (H a).isSome
def hidT (h : Heap) (H : Hp) : Heap := PySem.W.hideAll h (trk h H)
theorem hidT_size (h : Heap) (H : Hp) : (hidT h H).objs.size = h.objs.size := PySem.W.hideAll_size _ _
theorem hidT_get {h : Heap} {H : Hp} {b : Addr} {o : Obj} (e : h.get? b = some o) (n : H b = none) : (hidT h H).get? b = some o :=
  PySem.W.hideAll_get _ e fun hm => by
    have q : (H b).isSome = true := (List.mem_filter.mp hm).2
    rw [n] at q; simp at q
theorem of_hidT {h : Heap} {H : Hp} {b : Addr} {o : Obj} (e : (hidT h H).get? b = some o) : h.get? b = some o ∧ H b = none := by
  have e' : h.get? b = some o := PySem.W.of_hideAll (trk h H) e
  refine ⟨e', ?_⟩
  cases q : H b with
  | none => rfl
  | some x =>
    have hm : b ∈ trk h H := List.mem_filter.mpr ⟨List.mem_range.mpr (Heap.lt_size e'), by simp [q]⟩
    have z : (hidT h H).get? b = none := PySem.W.hideAll_none (trk h H) hm
    rw [z] at e; cases e

def allNews (g h : Heap) (L : Addr) : List (Addr × Obj) := (List.range h.objs.size).filterMap fun a => if a = L ∨ (g.get? a).isSome = true then none else (h.get? a).map fun o => (a, o)
theorem mem_allNews {g h : Heap} {L a : Addr} {o : Obj} (h1 : a ≠ L) (h2 : g.get? a = none) (h3 : h.get? a = some o) : (a, o) ∈ allNews g h L :=
  List.mem_filterMap.mpr ⟨a, List.mem_range.mpr (Heap.lt_size h3), by simp [h1, h2, h3]⟩
theorem of_mem_allNews {g h : Heap} {L : Addr} {p : Addr × Obj} (hp : p ∈ allNews g h L) : p.1 ≠ L ∧ g.get? p.1 = none ∧ h.get? p.1 = some p.2 := by
  obtain ⟨b, _, e⟩ := List.mem_filterMap.mp hp
  split at e
  · cases e
  · rename_i hn
    cases q : h.get? b with
    | none => rw [q] at e; simp at e
    | some u =>
      rw [q] at e
      simp only [Option.map_some, Option.some.injEq] at e
      subst e
      refine ⟨fun z => hn (.inl z), ?_, q⟩
      show g.get? b = none
      cases r : g.get? b with
      | none => rfl
      | some v => exact (hn (.inr (by simp [r]))).elim
def rest (g h : Heap) (L d : Addr) : List (Addr × Obj) := (allNews g h L).filter fun p => decide (p.1 ≠ d)
theorem news_all {g h : Heap} {L : Addr} : News g L h (allNews g h L) := fun p hp => let ⟨a, b, c⟩ := of_mem_allNews hp; ⟨c, a, b⟩
end L2

namespace L2
open PySem PySem.Spec PyProof.Rows

structure Mod (K : PySem.W.Frag) (mg : Str → Option Value) (base : Heap) : Prop where
  kin : K.In base
  glob : base.Ns mainGlobals mg
  blt : ∃ mb, base.Ns builtinsNs mb ∧ ∀ x : Str, x ≠ "__name__" → mb x = bootBuiltins x
  nolimit : base.NoLimit

structure Cx where
  prog : Program
  w : World
  K : PySem.W.Frag
  mg : Str → Option Value
  base : Heap
  A : Around
  N : List Str
  s₀ : Shared
  H₀ : Hp
  env : Env
  outer : List Env
  stack : List Env
  ex : List Addr
  fn : Str → Bool
  calm : Bool
  pn : List (Addr × Obj)
  xe : Value → Shared → Prop
def frs (l : List Env) : List Addr := l.filterMap (·.frame)
abbrev Cx.fs (X : Cx) : List Addr := frs X.outer

def Vis (sc : Scope) (x : Str) : Prop := sc.names.lookup x = some .local ∨ sc.names.lookup x = some .cell ∨ sc.names.lookup x = some .free
def Loc (sc : Scope) (x : Str) : Prop := sc.names.lookup x = some .local ∨ sc.names.lookup x = some .cell
def Look (env : Env) (h : Heap) (m : Str → Option Value) (x : Str) (u : Value) : Prop :=
  (env.kindOf x = some .local ∧ m x = some u) ∨ ((env.kindOf x = some .cell ∨ env.kindOf x = some .free) ∧ ∃ c, env.cells.lookup x = some c ∧ h.IsCell c (some u))

structure Cx.Ok (X : Cx) : Prop where
  mod : Mod X.K X.mg X.base
  kind : X.env.scope.kind = .function
  glob : X.env.globals = mainGlobals
  blt : X.env.builtins = builtinsNs
  above : X.s₀.heap.objs.size ≤ X.env.locals
  inj : ∀ x y c, X.env.cells.lookup x = some c → X.env.cells.lookup y = some c → x = y
  has : ∀ x, (X.env.kindOf x = some .cell ∨ X.env.kindOf x = some .free) → ∃ c, X.env.cells.lookup x = some c
  cab : ∀ x c, X.fn x = true → X.env.cells.lookup x = some c → X.s₀.heap.objs.size ≤ c
  hd : X.calm = true → X.A.handled = none
  frames : X.A.frames = some X.stack
  stk : X.stack = X.outer ∨ (X.stack = X.env :: X.outer ∧ X.env.frame = some X.env.locals)
  exf : ∀ b ∈ X.ex, b ≠ X.env.locals ∧ ∀ x c, X.env.cells.lookup x = some c → c ≠ b
  bs : ∀ b o, X.base.get? b = some o → X.s₀.heap.get? b = some o ∧ X.H₀ b = none
  bsz : X.base.objs.size ≤ X.s₀.heap.objs.size
  noex : ∀ b o, X.base.get? b = some o → b ∉ X.ex
  exfs : ∀ b ∈ X.ex, b ∉ X.fs
  funs : X.s₀.heap.FunFrames X.base X.outer
  frf : ∀ b ∈ X.fs, X.H₀ b = none

structure Inv (X : Cx) (pins : List (Addr × Obj)) (σ : List (Option V)) (H : Hp) (s : Shared) : Prop where
  ok : X.Ok
  os : s.os = X.s₀.os
  bare : AllBare s.gens
  base : Un X.fs X.ex X.H₀ H X.s₀.heap s.heap
  loc : ∃ m, s.heap.Ns X.env.locals m ∧ ∀ (i : Nat) (x : Str) (v : V), X.N[i]? = some x → σ[i]? = some (some v) → Vis X.env.scope x → ∃ u, RelV v u ∧ Look X.env s.heap m x u
  cell : ∀ x c, X.env.cells.lookup x = some c → ∃ v, s.heap.IsCell c v
  free : H X.env.locals = none
  freeC : ∀ x c, X.env.cells.lookup x = some c → H c = none
  pin : ∀ p ∈ X.pn ++ pins, s.heap.get? p.1 = some p.2 ∧ H p.1 = none ∧ p.1 ≠ X.env.locals ∧ p.1 ∉ X.fs ∧ ∀ v, p.2.data ≠ .cell v
  hok : HOk X.prog X.w H s.heap
  len : σ.length = X.N.length

section
variable {X : Cx} {pins : List (Addr × Obj)} {σ : List (Option V)} {H H' : Hp} {s : Shared} {h' : Heap}

theorem Cx.Ok.nofr (ok : X.Ok) {b : Addr} {o : Obj} (e : X.base.get? b = some o) : b ∉ X.fs := fun hb => by
  have := (ok.funs.mem hb).1
  rw [e] at this; cases this
theorem Inv.bs (I : Inv X pins σ H s) : ∀ b o, X.base.get? b = some o → s.heap.get? b = some o ∧ H b = none := fun b o e =>
  ⟨I.base.keep b o (I.ok.bs b o e).1 (I.ok.bs b o e).2 (I.ok.nofr e) (I.ok.noex b o e), I.base.free b o (I.ok.bs b o e).1 (I.ok.bs b o e).2 (I.ok.noex b o e)⟩
theorem Inv.bk (I : Inv X pins σ H s) : ∀ b o, X.base.get? b = some o → s.heap.get? b = some o := fun b o e => (I.bs b o e).1
theorem Inv.mod (I : Inv X pins σ H s) : Mod X.K X.mg X.base := I.ok.mod
theorem Inv.kIn (I : Inv X pins σ H s) : X.K.In s.heap := I.ok.mod.kin.keeps I.bk
theorem Inv.fr (I : Inv X pins σ H s) : ∃ m, Fr X.base X.env.locals s.heap m :=
  let ⟨m, hn, _⟩ := I.loc
  ⟨m, hn, I.bk, Nat.le_trans I.ok.bsz I.ok.above⟩
theorem Inv.lt (I : Inv X pins σ H s) : X.env.locals < s.heap.objs.size := let ⟨_, hn, _⟩ := I.loc; hn.lt
theorem Inv.sz (I : Inv X pins σ H s) : X.s₀.heap.objs.size ≤ s.heap.objs.size := Nat.le_trans I.ok.above (Nat.le_of_lt I.lt)
theorem Inv.nofs (I : Inv X pins σ H s) {a : Addr} (h : s.heap.objs.size ≤ a) : a ∉ X.fs := fun hb => by
  obtain ⟨_, o, ho, _⟩ := I.ok.funs.mem hb
  exact absurd (Nat.lt_of_lt_of_le (Heap.lt_size ho) (Nat.le_trans I.sz h)) (Nat.lt_irrefl _)
theorem Inv.cne (I : Inv X pins σ H s) : ∀ x c, X.env.cells.lookup x = some c → c ≠ X.env.locals := fun x c e z => by
  obtain ⟨v, o, ho, hd⟩ := I.cell x c e
  obtain ⟨m, ⟨o', es, ep, ho', hd', _⟩, _⟩ := I.loc
  rw [z, ho'] at ho; cases ho; rw [hd'] at hd; cases hd
theorem Inv.funs (I : Inv X pins σ H s) : s.heap.FunFrames X.base X.outer := by
  have all : ∀ (l : List Env), (∀ b ∈ frs l, b ∈ X.fs) → X.s₀.heap.FunFrames X.base l → s.heap.FunFrames X.base l := by
    intro l
    induction l with
    | nil => intro _ _; trivial
    | cons env r ih =>
      intro hs hl
      obtain ⟨hk, ⟨L, o, hf, hn, ho, hd⟩, hr⟩ := hl
      have hL : L ∈ X.fs := hs L (by unfold frs; rw [List.filterMap_cons, hf]; exact List.mem_cons_self)
      obtain ⟨sl, e⟩ := I.base.slot L o ho (I.ok.frf L hL) hL fun z => I.ok.exfs L z hL
      exact ⟨hk, ⟨L, _, hf, hn, e, hd⟩, ih (fun b hb => hs b (by unfold frs; rw [List.filterMap_cons, hf]; exact List.mem_cons_of_mem _ hb)) hr⟩
  exact all X.outer (fun _ hb => hb) I.ok.funs

theorem Inv.stack (I : Inv X pins σ H s) : s.heap.FunFrames X.base X.stack := by
  rcases I.ok.stk with e | ⟨e, hf⟩
  · rw [e]; exact I.funs
  · rw [e]
    obtain ⟨m, hn, _⟩ := I.loc
    refine .cons (by rw [I.ok.kind]; decide) hf hn ?_ I.funs
    exact Heap.get?_none_of_le (Nat.le_trans I.ok.bsz I.ok.above)
theorem Inv.stkSub (I : Inv X pins σ H s) : ∀ b ∈ frs X.stack, b ∈ X.env.locals :: X.fs := fun b hb => by
  rcases I.ok.stk with e | ⟨e, hf⟩
  · rw [e] at hb; exact List.mem_cons_of_mem _ hb
  · rw [e] at hb
    unfold frs at hb
    rw [List.filterMap_cons, hf] at hb
    exact hb
theorem Inv.stkFree (I : Inv X pins σ H s) : ∀ b ∈ frs X.stack, H b = none := fun b hb => by
  rcases List.mem_cons.mp (I.stkSub b hb) with e | hb
  · rw [e]; exact I.free
  · obtain ⟨_, o, ho, _⟩ := I.ok.funs.mem hb
    exact I.base.free b o ho (I.ok.frf b hb) fun z => I.ok.exfs b z hb

theorem Inv.step {g' : Array GenState} {t' : Nat} {d' : Drawn} {ch : List Addr} (I : Inv X pins σ H s)
    (hch : ∀ b ∈ ch, (b ∈ X.ex ∨ X.s₀.heap.objs.size ≤ b) ∧ b ≠ X.env.locals ∧ (∀ x c, X.env.cells.lookup x = some c → c ≠ b) ∧ ∀ p ∈ X.pn ++ pins, p.1 ≠ b)
    (keep : ∀ b o, b ≠ X.env.locals → b ∉ X.fs → b ∉ ch → s.heap.get? b = some o → H b = none → h'.get? b = some o)
    (slot : ∀ b o, b ≠ X.env.locals → b ∈ X.fs → b ∉ ch → s.heap.get? b = some o → H b = none → ∃ sl, h'.get? b = some { o with slots := sl }) (free : ∀ b o, b ∉ ch → s.heap.get? b = some o → H b = none → H' b = none)
    (there : ∀ b o, b ∉ ch → s.heap.get? b = some o → ∃ o', h'.get? b = some o')
    (tups : ∀ b xs, H b = some (.tup xs) → H' b = some (.tup xs)) (frzs : ∀ b o u, H b = some (.frz o u) → H' b = some (.frz o u)) (tbls : ∀ b ps, H b = some (.tbl ps) → ∃ more, H' b = some (.tbl (ps ++ more)))
    (ns : ∀ m, s.heap.Ns X.env.locals m → h'.Ns X.env.locals m) (hok : HOk X.prog X.w H' h') (hg : AllBare g') :
    Inv X pins σ H' { s with heap := h', gens := g', drawn := d', toks := t' } := by
  have neL : ∀ b o, X.s₀.heap.get? b = some o → b ≠ X.env.locals := fun b o e => Nat.ne_of_lt (Nat.lt_of_lt_of_le (Heap.lt_size e) I.ok.above)
  have neC : ∀ b o, X.s₀.heap.get? b = some o → b ∉ X.ex → b ∉ ch := fun b o e hx hb => by
    rcases (hch b hb).1 with z | z
    · exact hx z
    · exact absurd (Nat.lt_of_lt_of_le (Heap.lt_size e) z) (Nat.lt_irrefl _)
  have cellK : ∀ x c, X.env.cells.lookup x = some c → ∀ v, s.heap.IsCell c v → h'.IsCell c v := fun x c e v ⟨o, ho, hd⟩ => by
    have nch : c ∉ ch := fun z => (hch c z).2.2.1 x c e rfl
    by_cases hc : c ∈ X.fs
    · obtain ⟨sl, q⟩ := slot c o (I.cne x c e) hc nch ho (I.freeC x c e)
      exact ⟨_, q, hd⟩
    · exact ⟨o, keep c o (I.cne x c e) hc nch ho (I.freeC x c e), hd⟩
  refine ⟨I.ok, I.os, hg, ⟨fun b o e n hb hx => ?_, fun b o e n hb hx => ?_, fun b o e n hx => ?_, fun b o e hx => ?_, fun b xs e => tups b xs (I.base.tups b xs e), fun b o xs e => frzs b o xs (I.base.frzs b o xs e), fun b ps e => ?_⟩, ?_, fun x c e => ?_, ?_, fun x c e => ?_, fun p hp => ?_, hok, I.len⟩
  · exact keep b o (neL b o e) hb (neC b o e hx) (I.base.keep b o e n hb hx) (I.base.free b o e n hx)
  · obtain ⟨sl, e1⟩ := I.base.slot b o e n hb hx
    obtain ⟨sl', e2⟩ := slot b _ (neL b o e) hb (neC b o e hx) e1 (I.base.free b o e n hx)
    exact ⟨sl', e2⟩
  · obtain ⟨o', e1⟩ := I.base.there b o e hx
    exact free b o' (neC b o e hx) e1 (I.base.free b o e n hx)
  · obtain ⟨o', e1⟩ := I.base.there b o e hx
    exact there b o' (neC b o e hx) e1
  · obtain ⟨m1, e1⟩ := I.base.tbls b ps e
    obtain ⟨m2, e2⟩ := tbls b _ e1
    exact ⟨m1 ++ m2, by rw [e2, Array.append_assoc]⟩
  · obtain ⟨m, hn, hl⟩ := I.loc
    refine ⟨m, ns m hn, fun i x v e1 e2 e3 => ?_⟩
    obtain ⟨u, r, l⟩ := hl i x v e1 e2 e3
    refine ⟨u, r, ?_⟩
    rcases l with l | ⟨k, c, e, z⟩
    · exact .inl l
    · exact .inr ⟨k, c, e, cellK x c e _ z⟩
  · obtain ⟨v, z⟩ := I.cell x c e
    exact ⟨v, cellK x c e v z⟩
  · obtain ⟨m, ⟨o, _, _, ho, _⟩, _⟩ := I.loc
    exact free _ o (fun z => (hch _ z).2.1 rfl) ho I.free
  · obtain ⟨v, o, ho, hd⟩ := I.cell x c e
    exact free c o (fun z => (hch c z).2.2.1 x c e rfl) ho (I.freeC x c e)
  · obtain ⟨e, n, ne, nf, d⟩ := I.pin p hp
    have nch : p.1 ∉ ch := fun z => (hch p.1 z).2.2.2 p hp rfl
    exact ⟨keep p.1 p.2 ne nf nch e n, free p.1 p.2 nch e n, ne, nf, d⟩
theorem Inv.un {t' : Nat} (I : Inv X pins σ H s) (u : Un X.fs [] H H' s.heap h') (hok : HOk X.prog X.w H' h') : Inv X pins σ H' { s with heap := h', toks := t' } := by
  obtain ⟨m, ⟨o, es, ep, ho, r⟩, _⟩ := id I.loc
  obtain ⟨sl, hL⟩ := u.any ho I.free (by simp)
  exact I.step (g' := s.gens) (d' := s.drawn) (ch := []) (fun _ z => nomatch z) (fun b o _ hb _ e n => u.keep b o e n hb (by simp)) (fun b o _ hb _ e n => u.slot b o e n hb (by simp)) (fun b o _ e n => u.free b o e n (by simp)) (fun b o _ e => u.there b o e (by simp)) u.tups u.frzs u.tbls (fun m' hm => by
    obtain ⟨o', es', ep', ho', r'⟩ := hm
    rw [ho] at ho'; cases ho'
    exact ⟨_, es', ep', hL, r'⟩) hok I.bare
theorem Inv.call {g' : Array GenState} {t' : Nat} {d' : Drawn} {ch : List Addr} (I : Inv X pins σ H s) (u : Un (frs X.stack) ch H H' s.heap h') (hok : HOk X.prog X.w H' h') (hg : AllBare g')
    (hch : ∀ b ∈ ch, (b ∈ X.ex ∨ X.s₀.heap.objs.size ≤ b) ∧ b ≠ X.env.locals ∧ (∀ x c, X.env.cells.lookup x = some c → c ≠ b) ∧ ∀ p ∈ X.pn ++ pins, p.1 ≠ b) :
    Inv X pins σ H' { s with heap := h', gens := g', drawn := d', toks := t' } := by
  obtain ⟨m, ⟨o, es, ep, ho, r⟩, _⟩ := id I.loc
  obtain ⟨sl, hL⟩ := u.any ho I.free fun z => (hch _ z).2.1 rfl
  exact I.step (ch := ch) hch (fun b o hL hb hc e n => u.keep b o e n (fun z => (List.mem_cons.mp (I.stkSub b z)).elim hL hb) hc) (fun b o _ _ hc e n => u.any e n hc) (fun b o hc e n => u.free b o e n hc) (fun b o hc e => u.there b o e hc) u.tups u.frzs u.tbls (fun m' hm => by
    obtain ⟨o', es', ep', ho', r'⟩ := hm
    rw [ho] at ho'; cases ho'
    exact ⟨_, es', ep', hL, r'⟩) hok hg
theorem Inv.turned {t' : Nat} {it : Addr} (I : Inv X pins σ H s) (k : ∀ b o, b ≠ it → s.heap.get? b = some o → h'.get? b = some o) (hn : H it = none) (hL : it ≠ X.env.locals)
    (h1 : it ∈ X.ex ∨ X.s₀.heap.objs.size ≤ it) (h2 : ∀ x c, X.env.cells.lookup x = some c → c ≠ it) (h3 : ∀ p ∈ X.pn ++ pins, p.1 ≠ it) : Inv X pins σ H { s with heap := h', toks := t' } := by
  have nit : ∀ b u, H b = some u → b ≠ it := fun b u e z => by rw [z, hn] at e; cases e
  refine I.step (g' := s.gens) (d' := s.drawn) (ch := [it]) (fun b hb => ?_) (fun b o _ _ hc e _ => k b o (fun z => hc (by simp [z])) e) (fun b o _ _ hc e _ => ⟨o.slots, k b o (fun z => hc (by simp [z])) e⟩) (fun _ _ _ _ n => n)
    (fun b o hc e => ⟨o, k b o (fun z => hc (by simp [z])) e⟩) (fun _ _ e => e) (fun _ _ _ e => e) (fun b ps e => ⟨#[], by rw [e]; simp⟩) (fun m hm => ?_) (fun b u e => ?_) I.bare
  · have e : b = it := by simpa using hb
    subst e
    exact ⟨h1, hL, h2, h3⟩
  · obtain ⟨o, es, ep, ho, r⟩ := hm
    exact ⟨o, es, ep, k _ o (Ne.symm hL) ho, r⟩
  · refine (I.hok b u e).stay (fun c v hc q => k c v ?_ q) (fun _ q => q) fun _ _ q => q
    rcases hc with z | z
    · rw [z]; exact nit b u e
    · exact nit c _ z
theorem Inv.tok (I : Inv X pins σ H s) (t : Nat) : Inv X pins σ H { s with toks := t } := I.un (h' := s.heap) (t' := t) Un.refl I.hok
theorem Inv.kept {t' : Nat} (I : Inv X pins σ H s) (k : ∀ b u, s.heap.get? b = some u → h'.get? b = some u) : Inv X pins σ H { s with heap := h', toks := t' } := I.un (Un.kept k) (I.hok.kept k)
theorem Inv.laid {a : Addr} {o : HO} {t' : Nat} (I : Inv X pins σ H s) (k : ∀ b u, s.heap.get? b = some u → h'.get? b = some u) (hp : s.heap.objs.size ≤ a) (new : ObjOk X.prog X.w (upd H a o) h' a o) :
    Inv X pins σ (upd H a o) { s with heap := h', toks := t' } := I.un (Un.laid k hp (I.hok.fresh hp)) (I.hok.laid k hp new)
theorem Inv.write {x e : Addr} {o : HO} {t' : Nat} (I : Inv X pins σ H s) (mu : Mut (H x)) (he : e = x ∨ H e = some (.own x)) (k : ∀ b u, b ≠ e → s.heap.get? b = some u → h'.get? b = some u) (heo : ∃ u, h'.get? e = some u)
    (new : ObjOk X.prog X.w (upd H x o) h' x o) : Inv X pins σ (upd H x o) { s with heap := h', toks := t' } := I.un (Un.write mu he k heo) (I.hok.write mu he k heo new)
theorem Inv.pins_of {pins' : List (Addr × Obj)} (I : Inv X pins σ H s) (h : ∀ p ∈ pins', s.heap.get? p.1 = some p.2 ∧ H p.1 = none ∧ p.1 ≠ X.env.locals ∧ p.1 ∉ X.fs ∧ ∀ v, p.2.data ≠ .cell v) : Inv X pins' σ H s :=
  ⟨I.ok, I.os, I.bare, I.base, I.loc, I.cell, I.free, I.freeC, fun p hp => (List.mem_append.mp hp).elim (fun z => I.pin p (List.mem_append_left _ z)) (h p), I.hok, I.len⟩

theorem nodup_ix {N : List Str} (hN : N.Nodup) {i j : Nat} {x : Str} (a : N[i]? = some x) (b : N[j]? = some x) : i = j := by
  obtain ⟨h1, e1⟩ := List.getElem?_eq_some_iff.mp a
  obtain ⟨h2, e2⟩ := List.getElem?_eq_some_iff.mp b
  exact (List.getElem_inj hN).mp (e1.trans e2.symm)

theorem store_ok2 {M : Model} {A : Around} {E : Value → Shared → Prop} {i : Nat} {x : Str} {v : V} {u : Value} {Q : Unit → Shared → Prop} (I : Inv X pins σ H s) (hN : X.N.Nodup) (hi : X.N[i]? = some x) (hx : Loc X.env.scope x) (r : RelV v u)
    (h : ∀ s', Inv X pins (σ.set i (some v)) H s' → (∃ a, Heap.SameBut a s.heap s'.heap ∧ (a = X.env.locals ∨ X.env.cells.lookup x = some a)) → Q () s') (hf : X.fn x = true ∨ X.env.scope.names.lookup x = some .local := by first | exact .inl rfl | exact .inr rfl | assumption) : wpAny M A (storeName X.env x u) Q E s := by
  obtain ⟨m, hn, hl⟩ := id I.loc
  have hcls : (X.env.scope.kind == .class || (X.env.scope.kind == .module && X.env.locals != X.env.globals)) = false := by rw [I.ok.kind]; rfl
  have hiσ : i < σ.length := by rw [I.len]; exact (List.getElem?_eq_some_iff.mp hi).1
  have cne := I.cne
  have tracked : ∀ {a : Addr} {h' : Heap}, (∃ o, s.heap.get? a = some o ∧ H a = none) → Heap.SameBut a s.heap h' → HOk X.prog X.w H h' := fun {a h'} ha hs b ob e => by
    obtain ⟨_, _, hfree⟩ := ha
    refine (I.hok b ob e).stay (fun c w' hc q => (hs.2 c ?_).trans q) (fun _ q => q) fun _ _ q => q
    rintro rfl
    rcases hc with rfl | hc
    · rw [hfree] at e; cases e
    · rw [hfree] at hc; cases hc
  rcases hx with hk | hk
  · refine wpAny_storeName_local hk hn (fun h' hn' hs => ?_) hcls
    obtain ⟨oL, _, _, hoL, _⟩ := id hn
    refine h _ ⟨I.ok, I.os, I.bare, ⟨fun b o e n hb hx => ?_, fun b o e n hb hx => ?_, I.base.free, fun b o e hx => ?_, I.base.tups, I.base.frzs, I.base.tbls⟩, ⟨_, hn', fun j y v' e1 e2 e3 => ?_⟩, fun y c e => ?_, I.free, I.freeC, fun p hp => ?_, tracked ⟨oL, hoL, I.free⟩ hs, by simpa using I.len⟩ ⟨_, hs, .inl rfl⟩
    · exact (hs.2 b (Nat.ne_of_lt (Nat.lt_of_lt_of_le (Heap.lt_size e) I.ok.above))).trans (I.base.keep b o e n hb hx)
    · obtain ⟨sl, e1⟩ := I.base.slot b o e n hb hx
      exact ⟨sl, (hs.2 b (Nat.ne_of_lt (Nat.lt_of_lt_of_le (Heap.lt_size e) I.ok.above))).trans e1⟩
    · obtain ⟨o', e1⟩ := I.base.there b o e hx
      exact ⟨o', (hs.2 b (Nat.ne_of_lt (Nat.lt_of_lt_of_le (Heap.lt_size e) I.ok.above))).trans e1⟩
    · by_cases hj : j = i
      · subst hj
        rw [hi] at e1; cases e1
        rw [List.getElem?_set_self hiσ] at e2
        cases e2
        exact ⟨u, r, .inl ⟨hk, by simp⟩⟩
      · rw [List.getElem?_set_ne (Ne.symm hj)] at e2
        obtain ⟨u', r', q⟩ := hl j y v' e1 e2 e3
        refine ⟨u', r', ?_⟩
        rcases q with ⟨k, e⟩ | ⟨k, c, e, z⟩
        · refine .inl ⟨k, ?_⟩
          have : y ≠ x := fun e => hj (nodup_ix hN e1 (e ▸ hi))
          simp [this, e]
        · exact .inr ⟨k, c, e, z.sameBut hs (cne y c e)⟩
    · obtain ⟨w', z⟩ := I.cell y c e
      exact ⟨w', z.sameBut hs (cne y c e)⟩
    · obtain ⟨e, n, ne, nf, d⟩ := I.pin p hp
      exact ⟨(hs.2 p.1 ne).trans e, n, ne, nf, d⟩
  · have hfn : X.fn x = true := by
      rcases hf with z | z
      · exact z
      · rw [z] at hk; cases hk
    obtain ⟨c, hc⟩ := I.ok.has x (.inl hk)
    obtain ⟨w', z⟩ := I.cell x c hc
    refine wpAny_storeName_cell I.ok.kind hk hc z (fun h' hc' hs => ?_)
    obtain ⟨oc, hoc, hocd⟩ := id z
    refine h { s with heap := h' } ⟨I.ok, I.os, I.bare, ⟨fun b o e n hb hx => ?_, fun b o e n hb hx => ?_, I.base.free, fun b o e hx => ?_, I.base.tups, I.base.frzs, I.base.tbls⟩, ⟨m, hn.sameBut hs (Ne.symm (cne x c hc)), fun j y v' e1 e2 e3 => ?_⟩, fun y c' e => ?_, I.free, I.freeC, fun p hp => ?_, tracked ⟨oc, hoc, I.freeC x c hc⟩ hs, by simpa using I.len⟩ ⟨c, hs, .inr hc⟩
    · exact (hs.2 b (Nat.ne_of_lt (Nat.lt_of_lt_of_le (Heap.lt_size e) (I.ok.cab x c hfn hc)))).trans (I.base.keep b o e n hb hx)
    · obtain ⟨sl, e1⟩ := I.base.slot b o e n hb hx
      exact ⟨sl, (hs.2 b (Nat.ne_of_lt (Nat.lt_of_lt_of_le (Heap.lt_size e) (I.ok.cab x c hfn hc)))).trans e1⟩
    · obtain ⟨o', e1⟩ := I.base.there b o e hx
      exact ⟨o', (hs.2 b (Nat.ne_of_lt (Nat.lt_of_lt_of_le (Heap.lt_size e) (I.ok.cab x c hfn hc)))).trans e1⟩
    · by_cases hj : j = i
      · subst hj
        rw [hi] at e1; cases e1
        rw [List.getElem?_set_self hiσ] at e2
        cases e2
        exact ⟨u, r, .inr ⟨.inl hk, c, hc, hc'⟩⟩
      · rw [List.getElem?_set_ne (Ne.symm hj)] at e2
        obtain ⟨u', r', q⟩ := hl j y v' e1 e2 e3
        refine ⟨u', r', ?_⟩
        rcases q with q | ⟨k, c', e, z'⟩
        · exact .inl q
        · refine .inr ⟨k, c', e, z'.sameBut hs ?_⟩
          rintro rfl
          exact hj (nodup_ix hN e1 (I.ok.inj _ _ _ e hc ▸ hi))
    · by_cases hcc : c' = c
      · subst hcc; exact ⟨_, hc'⟩
      · obtain ⟨w2, z2⟩ := I.cell y c' e
        exact ⟨w2, z2.sameBut hs hcc⟩
    · obtain ⟨e, n, ne, nf, d⟩ := I.pin p hp
      refine ⟨(hs.2 p.1 ?_).trans e, n, ne, nf, d⟩
      intro q
      rw [q, hoc] at e
      have q' : oc = p.2 := Option.some.inj e
      exact d w' (by rw [← q']; exact hocd)
theorem store_ok {M : Model} {A : Around} {E : Value → Shared → Prop} {i : Nat} {x : Str} {v : V} {u : Value} {Q : Unit → Shared → Prop} (I : Inv X pins σ H s) (hN : X.N.Nodup) (hi : X.N[i]? = some x) (hx : Loc X.env.scope x) (r : RelV v u)
    (h : ∀ s', Inv X pins (σ.set i (some v)) H s' → Q () s') (hf : X.fn x = true ∨ X.env.scope.names.lookup x = some .local := by first | exact .inl rfl | exact .inr rfl | assumption) : wpAny M A (storeName X.env x u) Q E s :=
  store_ok2 I hN hi hx r (fun s' I' _ => h s' I') hf
theorem Inv.call' {s' : Shared} {ch : List Addr} (I : Inv X pins σ H s) (ho : s'.os = s.os) (u : Un (frs X.stack) ch H H' s.heap s'.heap) (hok : HOk X.prog X.w H' s'.heap) (hg : AllBare s'.gens)
    (hch : ∀ b ∈ ch, (b ∈ X.ex ∨ X.s₀.heap.objs.size ≤ b) ∧ b ≠ X.env.locals ∧ (∀ x c, X.env.cells.lookup x = some c → c ≠ b) ∧ ∀ p ∈ X.pn ++ pins, p.1 ≠ b) : Inv X pins σ H' s' := by
  obtain ⟨h', g', d', t', o'⟩ := s'
  have e : o' = s.os := ho
  subst e
  exact I.call (g' := g') (t' := t') (d' := d') u hok hg hch
end

abbrev XK := Value → Option Addr → Hp → Prop
abbrev St := List (Option V)
abbrev VK := V → Hp → Prop
abbrev TE := St → Hp → VK → Prop
abbrev TT := St → Hp → (Bool → Hp → Prop) → Prop
abbrev TA := St → Hp → (List V → Hp → Prop) → Prop
structure Ends where
  nx : St → Hp → Prop
  rt : VK
  bk : St → Hp → Prop := fun _ _ => False
  ct : St → Hp → Prop := fun _ _ => False
abbrev TS := Ends → St → Hp → Prop

def EP (X : Cx) (pins : List (Addr × Obj)) (σ : St) (Q : VK) (u : Value) (s' : Shared) : Prop := ∃ v H', Inv X pins σ H' s' ∧ RelV v u ∧ Q v H'
def TP (X : Cx) (pins : List (Addr × Obj)) (σ : St) (Q : Bool → Hp → Prop) (b : Bool) (s' : Shared) : Prop := ∃ H', Inv X pins σ H' s' ∧ Q b H'
def AP (X : Cx) (pins : List (Addr × Obj)) (σ : St) (Q : List V → Hp → Prop) (us : List Value) (s' : Shared) : Prop := ∃ vs H', Inv X pins σ H' s' ∧ Vals vs us ∧ Q vs H'
def SP (X : Cx) (pins : List (Addr × Obj)) (D : Ends) (f : Flow) (s' : Shared) : Prop :=
  match f with
  | .next => ∃ σ' H', Inv X pins σ' H' s' ∧ D.nx σ' H'
  | .brk => ∃ σ' H', Inv X pins σ' H' s' ∧ D.bk σ' H'
  | .cont => ∃ σ' H', Inv X pins σ' H' s' ∧ D.ct σ' H'
  | .ret u => ∃ v σ' H', Inv X pins σ' H' s' ∧ RelV v u ∧ D.rt v H'

def PE (X : Cx) (e : Expr) (t : TE) : Prop :=
  ∀ (pins : List (Addr × Obj)) (s : Shared) (σ : St) (H : Hp) (Q : VK), Inv X pins σ H s → t σ H Q → wpAny (model X.prog X.w) X.A (eval e X.env) (EP X pins σ Q) X.xe s
def PT (X : Cx) (e : Expr) (t : TT) : Prop :=
  ∀ (pins : List (Addr × Obj)) (s : Shared) (σ : St) (H : Hp) (Q : Bool → Hp → Prop), Inv X pins σ H s → t σ H Q → wpAny (model X.prog X.w) X.A (isTrue e X.env (eval e X.env)) (TP X pins σ Q) X.xe s
def PW (X : Cx) (e : Expr) (t : TT) : Prop :=
  ∀ (whole : Sem Value) (pins : List (Addr × Obj)) (s : Shared) (σ : St) (H : Hp) (Q : Bool → Hp → Prop), Inv X pins σ H s → t σ H Q → wpAny (model X.prog X.w) X.A (isTrue e X.env whole) (TP X pins σ Q) X.xe s
theorem PW.pt {X : Cx} {e : Expr} {t : TT} (h : PW X e t) : PT X e t := h _
def PA (X : Cx) (es : List Expr) (t : TA) : Prop :=
  ∀ (pos : Pos) (pins : List (Addr × Obj)) (s : Shared) (σ : St) (H : Hp) (Q : List V → Hp → Prop), Inv X pins σ H s → t σ H Q → wpAny (model X.prog X.w) X.A (spliced (backTo pos (starEach es X.env))) (AP X pins σ Q) X.xe s
def PS (X : Cx) (st : Stmt) (t : TS) : Prop :=
  ∀ (pins : List (Addr × Obj)) (s : Shared) (σ : St) (H : Hp) (D : Ends), Inv X pins σ H s → t D σ H → wpAny (model X.prog X.w) X.A (exec st X.env) (SP X pins D) X.xe s
def PSs (X : Cx) (st : List Stmt) (t : TS) : Prop :=
  ∀ (pins : List (Addr × Obj)) (s : Shared) (σ : St) (H : Hp) (D : Ends), Inv X pins σ H s → t D σ H → wpAny (model X.prog X.w) X.A (execs st X.env) (SP X pins D) X.xe s
theorem thn {α : Type} {t : Sem α} {Q Q' : α → Shared → Prop} {M : Model} {A : Around} {E : Value → Shared → Prop} {s : Shared} (h : wpAny M A t Q E s) (hQ : ∀ a s, Q a s → Q' a s) : wpAny M A t Q' E s := wpAny_mono h hQ fun _ _ x => x
end L2

namespace L2
open PySem PySem.Spec PyProof.Rows
section
variable {X : Cx}

def tVar (i : Nat) : TE := fun σ H Q => ∃ v, σ[i]? = some (some v) ∧ Q v H
def tC (v : V) : TE := fun _ H Q => Q v H
theorem pe_var {i : Nat} {x : Str} {pos : Pos} (hN : X.N[i]? = some x) (hv : Vis X.env.scope x) (hd : (x == ("__debug__" : Str)) = false := by decide) (hcd : (x == ("__classdict__" : Str)) = false := by decide) : PE X (.Name x pos) (tVar i) := by
  intro pins s σ H Q I h
  obtain ⟨v, e, h⟩ := h
  obtain ⟨m, hn, hl⟩ := I.loc
  obtain ⟨u, r, l⟩ := hl i x v hN e hv
  have fin : EP X pins σ Q u s := ⟨v, H, I, r, h⟩
  rcases l with ⟨hk, hm⟩ | ⟨hk, c, hc, hcell⟩
  · exact wpAny_Name (wpAny_loadName_local I.ok.kind hk hn hm fin) hd
  · rcases hk with hk | hk
    · exact wpAny_Name (wpAny_loadName_cell I.ok.kind hk hc hcell fin) hd
    · exact wpAny_Name (wpAny_loadName_free I.ok.kind hk hc hcell fin hcd) hd
theorem pe_int {i j pos} : PE X (.Constant (.int i) j pos) (tC (.int i)) := fun _ _ _ H _ I h => wpAny_Constant_int ⟨.int i, H, I.tok _, ⟨_, rfl⟩, h⟩
theorem pe_bl {b j pos} : PE X (.Constant (.bool b) j pos) (tC (.bl b)) := fun _ _ _ H _ I h => Constant_bool ⟨.bl b, H, I, rfl, h⟩
theorem pe_non {j pos} : PE X (.Constant .none j pos) (tC .non) := fun _ _ _ H _ I h => Constant_none ⟨.non, H, I, rfl, h⟩
theorem pe_str {x j pos} : PE X (.Constant (.str x) j pos) (tC (.str x)) := fun _ _ _ H _ I h => Calls.Constant_str ⟨.str x, H, I.tok _, ⟨_, rfl⟩, h⟩

def Gl (X : Cx) (x : Str) : Prop := X.env.kindOf x = some .globalImplicit
theorem ld_glob {E : Value → Shared → Prop} {pins : List (Addr × Obj)} {s : Shared} {σ : St} {H : Hp} {x : Str} {u : Value} {pos : Pos} {Q : Value → Shared → Prop} (I : Inv X pins σ H s) (hg : Gl X x) (hm : X.mg x = some u) (h : Q u s)
    (hd : (x == ("__debug__" : Str)) = false := by decide) : wpAny (model X.prog X.w) X.A (eval (.Name x pos) X.env) Q E s :=
  Calls.Name_function_global I.ok.kind hg (Calls.loadGlobal_global (by rw [I.ok.glob]; exact I.mod.glob.keeps I.bk) hm h) hd
theorem ld_blt {E : Value → Shared → Prop} {pins : List (Addr × Obj)} {s : Shared} {σ : St} {H : Hp} {x : Str} {u : Value} {pos : Pos} {Q : Value → Shared → Prop} (I : Inv X pins σ H s) (hg : Gl X x) (hm : X.mg x = none) (hv : bootBuiltins x = some u) (h : Q u s)
    (hn : x ≠ "__name__" := by decide) (hd : (x == ("__debug__" : Str)) = false := by decide) : wpAny (model X.prog X.w) X.A (eval (.Name x pos) X.env) Q E s := by
  obtain ⟨mb, h1, h2⟩ := I.mod.blt
  exact Calls.Name_function_global I.ok.kind hg (Calls.loadGlobal_builtin (by rw [I.ok.glob]; exact I.mod.glob.keeps I.bk) hm (by rw [I.ok.blt]; exact h1.keeps I.bk) ((h2 x hn).trans hv) h) hd
theorem pe_glob {x : Str} {v : V} {u : Value} {pos : Pos} (hg : Gl X x) (hm : X.mg x = some u) (r : RelV v u) (hd : (x == ("__debug__" : Str)) = false := by decide) : PE X (.Name x pos) (tC v) :=
  fun _ _ _ H _ I h => ld_glob I hg hm ⟨v, H, I, r, h⟩ hd
theorem pe_bltn {x : Str} {v : V} {u : Value} {pos : Pos} (hg : Gl X x) (hm : X.mg x = none) (hv : bootBuiltins x = some u) (r : RelV v u) (hn : x ≠ "__name__" := by decide) (hd : (x == ("__debug__" : Str)) = false := by decide) : PE X (.Name x pos) (tC v) :=
  fun _ _ _ H _ I h => ld_blt I hg hm hv ⟨v, H, I, r, h⟩ hn hd

variable {a b : Expr} {ta tb : TE} {pos : Pos}
def tB (t : TE) : TT := fun σ H Q => t σ H fun x H1 => ∃ c, x = .bl c ∧ Q c H1
theorem pt_val {e : Expr} {t : TE} (h : PE X e t) (he : ∀ whole, isTrue e X.env whole = (do let v ← whole; standAt e.pos; holding [v] (truthy v)) := by intro _; rfl) : PT X e (tB t) := by
  intro pins s σ H Q I hw
  refine isTrue_plain (thn (h pins s σ H _ I hw) fun v s1 ⟨x, H1, I1, r1, q1⟩ => ?_) (he _)
  obtain ⟨d, rfl, q⟩ := q1
  cases r1
  exact wpAny_truthy_bool ⟨H1, I1, q⟩

variable {tA tB' : TT} {rest : List Expr}
def tOr (t u : TT) : TT := fun σ H Q => t σ H fun c H1 => if c = true then Q true H1 else u σ H1 Q
def tNot (t : TT) : TT := fun σ H Q => t σ H fun c H1 => Q (!c) H1
theorem pw_or1 (ha : PT X a tA) : PW X (.BoolOp .Or [a] pos) tA := by
  intro wh pins s σ H Q I h
  refine isTrue_or (thn (ha pins s σ H Q I h) fun c s1 e => ?_)
  cases c with
  | false => exact isTrue_or_nil e
  | true => exact e
theorem pw_or (ha : PT X a tA) (hb : PW X (.BoolOp .Or (b :: rest) pos) tB') : PW X (.BoolOp .Or (a :: b :: rest) pos) (tOr tA tB') := by
  intro wh pins s σ H Q I h
  refine isTrue_or (thn (ha pins s σ H _ I h) fun c s1 ⟨H1, I1, q1⟩ => ?_)
  cases c with
  | true => exact ⟨H1, I1, q1⟩
  | false => exact hb wh pins s1 σ H1 Q I1 q1
theorem pt_not (ha : PT X a tA) : PT X (.UnaryOp .Not a pos) (tNot tA) := by
  intro pins s σ H Q I h
  exact isTrue_not (ha pins s σ H (fun c H1 => Q (!c) H1) I h)
def tAndV (ta tb : TE) : TE := fun σ H Q => ta σ H fun x H1 => ∃ c, x = .bl c ∧ if c = true then tb σ H1 Q else Q (.bl false) H1
def tNotV (ta : TE) : TE := fun σ H Q => ta σ H fun x H1 => ∃ c, x = .bl c ∧ Q (.bl (!c)) H1
theorem pe_one {op} {t : TE} (h : PE X a t) : PE X (.BoolOp op [a] pos) t := fun pins s σ H Q I hw => BoolOp_one (h pins s σ H Q I hw)
theorem pe_and (ha : PE X a ta) (hb : PE X (.BoolOp .And (b :: rest) pos) tb) : PE X (.BoolOp .And (a :: b :: rest) pos) (tAndV ta tb) := by
  intro pins s σ H Q I h
  refine BoolOp_and (thn (ha pins s σ H _ I h) fun v s1 ⟨x, H1, I1, r1, q1⟩ => ?_)
  obtain ⟨c, rfl, q1⟩ := q1
  cases r1
  refine wpAny_truthy_bool ?_
  cases c with
  | true => exact hb pins s1 σ H1 Q I1 q1
  | false => exact ⟨.bl false, H1, I1, rfl, q1⟩
theorem pe_not (ha : PE X a ta) : PE X (.UnaryOp .Not a pos) (tNotV ta) := by
  intro pins s σ H Q I h
  refine UnaryOp_ (thn (ha pins s σ H _ I h) fun v s1 ⟨x, H1, I1, r1, q1⟩ => ?_)
  obtain ⟨c, rfl, q1⟩ := q1
  cases r1
  exact not_of (wpAny_truthy_bool ⟨.bl (!c), H1, I1, rfl, q1⟩)
end
end L2

namespace L2
open PySem PySem.Spec PyProof.Rows

def SqL (K : PySem.W.Frag) (H : Hp) (a : Addr) (xs : List V) : Prop :=
  Rd H a (.lst xs) ∨
    ∃ (o : Obj) (its : Array Value) (n : Nat), K.lookup a = some o ∧ o.cls = .type "list" ∧ o.dict = none ∧ o.data = .seq its n ∧ its.size ≤ sizeLine ∧ Vals xs its.toList
def SqT (K : PySem.W.Frag) (H : Hp) (a : Addr) (xs : List V) : Prop :=
  Rd H a (.tup xs) ∨
    ∃ (o : Obj) (its : Array Value) (n : Nat), K.lookup a = some o ∧ o.cls = .type "tuple" ∧ o.data = .seq its n ∧ its.size ≤ sizeLine ∧ Vals xs its.toList
def absV : Value → Option V
  | .none => some .non
  | .bool b => some (.bl b)
  | .int i _ => some (.int i)
  | .str x _ => some (.str x)
  | .bytes b _ => some (.byt b)
  | .float b _ => some (.flt b)
  | .ref a => some (.ref a)
  | .type n => some (.ty n)
  | _ => none
theorem RelV.abs {x : V} {u : Value} (r : RelV x u) : absV u = some x := by
  cases x with
  | non => cases r; rfl
  | bl _ => cases r; rfl
  | int _ => obtain ⟨t, rfl⟩ := r; rfl
  | str _ => obtain ⟨t, rfl⟩ := r; rfl
  | byt _ => obtain ⟨t, rfl⟩ := r; rfl
  | flt _ => obtain ⟨t, rfl⟩ := r; rfl
  | ref _ => cases r; rfl
  | ty _ => cases r; rfl
theorem RelV.inj {x y : V} {u : Value} (r : RelV x u) (q : RelV y u) : x = y := Option.some.inj (r.abs.symm.trans q.abs)
theorem Vals.inj : ∀ {xs ys : List V} {us : List Value}, Vals xs us → Vals ys us → xs = ys
  | _, _, _, .nil, .nil => rfl
  | _, _, _, .cons r t, .cons r' t' => by rw [r.inj r', Vals.inj t t']
section
variable {X : Cx} {pins : List (Addr × Obj)} {σ : St} {H : Hp} {s : Shared} {a : Addr} {xs ys : List V}
theorem SqT.of {K : PySem.W.Frag} (h : H a = some (.tup xs)) : SqT K H a xs := .inl (.inl h)
theorem Inv.list (I : Inv X pins σ H s) (h : SqL X.K H a xs) : ∃ its : List Value, Vals xs its ∧ PlainL s.heap a its.toArray ∧ xs.length ≤ sizeLine := by
  rcases h with h | ⟨o, its, n, hk, hc, hd, hs, hz, r⟩
  · obtain ⟨z, its, n, r, e⟩ := h.ok I.hok
    exact ⟨its, r, ⟨_, n, e, rfl, rfl, rfl⟩, z⟩
  · refine ⟨its.toList, r, ⟨o, n, I.kIn a o hk, hc, hd, by simpa using hs⟩, ?_⟩
    have e := r.length
    simp only [Array.length_toList] at e
    omega
theorem Inv.tuple (I : Inv X pins σ H s) (h : SqT X.K H a xs) : ∃ its : List Value, Vals xs its ∧ IsTup s.heap a its.toArray ∧ xs.length ≤ sizeLine := by
  rcases h with h | ⟨o, its, n, hk, hc, hs, hz, r⟩
  · obtain ⟨z, its, r, p⟩ := h.ok I.hok
    exact ⟨its, r, p, z⟩
  · refine ⟨its.toList, r, ⟨o, I.kIn a o hk, hc, n, by simpa using hs⟩, ?_⟩
    have e := r.length
    simp only [Array.length_toList] at e
    omega
theorem Inv.list_inj (I : Inv X pins σ H s) (h : SqL X.K H a xs) (h' : SqL X.K H a ys) : xs = ys := by
  obtain ⟨its, r, ⟨o, n, e, _, _, d⟩, _⟩ := I.list h
  obtain ⟨its', r', ⟨o', n', e', _, _, d'⟩, _⟩ := I.list h'
  rw [e] at e'; cases e'
  rw [d] at d'
  injection d' with d1 _
  have : its = its' := by simpa using congrArg Array.toList d1
  subst this
  exact r.inj r'
theorem Inv.tuple_inj (I : Inv X pins σ H s) (h : SqT X.K H a xs) (h' : SqT X.K H a ys) : xs = ys := by
  obtain ⟨its, r, ⟨o, e, _, n, d⟩, _⟩ := I.tuple h
  obtain ⟨its', r', ⟨o', e', _, n', d'⟩, _⟩ := I.tuple h'
  rw [e] at e'; cases e'
  rw [d] at d'
  injection d' with d1 _
  have : its = its' := by simpa using congrArg Array.toList d1
  subst this
  exact r.inj r'
end

abbrev Cx.wish (X : Cx) (E : Value → Shared → Prop) : Cx := { X with xe := E }
abbrev Cx.nox (X : Cx) : Cx := X.wish fun _ _ => False
theorem Cx.Ok.wish {X : Cx} (ok : X.Ok) (E : Value → Shared → Prop) : (X.wish E).Ok :=
  ⟨ok.mod, ok.kind, ok.glob, ok.blt, ok.above, ok.inj, ok.has, ok.cab, ok.hd, ok.frames, ok.stk, ok.exf, ok.bs, ok.bsz, ok.noex, ok.exfs, ok.funs, ok.frf⟩
theorem Cx.Ok.unwish {X : Cx} {E : Value → Shared → Prop} (ok : (X.wish E).Ok) : X.Ok :=
  ⟨ok.mod, ok.kind, ok.glob, ok.blt, ok.above, ok.inj, ok.has, ok.cab, ok.hd, ok.frames, ok.stk, ok.exf, ok.bs, ok.bsz, ok.noex, ok.exfs, ok.funs, ok.frf⟩
section
variable {X : Cx} {pins : List (Addr × Obj)} {σ : St} {H : Hp} {s : Shared} {E : Value → Shared → Prop}
theorem Inv.wish (I : Inv X pins σ H s) (E : Value → Shared → Prop) : Inv (X.wish E) pins σ H s := ⟨I.ok.wish E, I.os, I.bare, I.base, I.loc, I.cell, I.free, I.freeC, I.pin, I.hok, I.len⟩
theorem Inv.unwish (I : Inv (X.wish E) pins σ H s) : Inv X pins σ H s := ⟨I.ok.unwish, I.os, I.bare, I.base, I.loc, I.cell, I.free, I.freeC, I.pin, I.hok, I.len⟩
theorem SP.unwish {D : Ends} {f : Flow} {s' : Shared} (h : SP (X.wish E) pins D f s') : SP X pins D f s' := by
  cases f with
  | next => obtain ⟨σ', H', I, q⟩ := h; exact ⟨σ', H', I.unwish, q⟩
  | brk => obtain ⟨σ', H', I, q⟩ := h; exact ⟨σ', H', I.unwish, q⟩
  | cont => obtain ⟨σ', H', I, q⟩ := h; exact ⟨σ', H', I.unwish, q⟩
  | ret u => obtain ⟨v, σ', H', I, r, q⟩ := h; exact ⟨v, σ', H', I.unwish, r, q⟩
theorem PSs.nox {st : List Stmt} {t : TS} (h : PSs X.nox st t) : PSs X st t := fun pins s σ H D I hw =>
  wpAny_mono (h pins s σ H D (I.wish _) hw) (fun _ _ q => q.unwish) fun _ _ z => False.elim z
end

section
variable {X : Cx} {st : Stmt} {rest : List Stmt} {t u : TS} {e : Expr} {te : TE} {pos : Pos}
def tNext : TS := fun D σ H => D.nx σ H
def tSeq (t u : TS) : TS := fun D σ H => t { D with nx := u D } σ H
theorem pss_nil : PSs X [] tNext := fun _ _ σ H _ I h => wpAny_execs_nil ⟨σ, H, I, h⟩
theorem pss_cons (h1 : PS X st t) (h2 : PSs X rest u) : PSs X (st :: rest) (tSeq t u) := by
  intro pins s σ H D I h
  refine wpAny_execs_cons (thn (h1 pins s σ H { D with nx := u D } I h) fun f s1 q => ?_)
  cases f with
  | next =>
    obtain ⟨σ', H', I', q⟩ := q
    exact h2 pins s1 σ' H' D I' q
  | ret v => exact q
  | brk => exact q
  | cont => exact q
theorem pss_one (h1 : PS X st t) : PSs X [st] t := by
  intro pins s σ H D I h
  refine wpAny_execs_cons (thn (h1 pins s σ H D I h) fun f s1 q => ?_)
  cases f with
  | next => exact wpAny_execs_nil q
  | ret v => exact q
  | brk => exact q
  | cont => exact q
theorem Inv.quiet {pins : List (Addr × Obj)} {σ : St} {H : Hp} {s : Shared} (I : Inv X pins σ H s) : interactive X.env = false := by simp [interactive, I.ok.kind]
def tDrop (te : TE) : TS := fun D σ H => te σ H fun _ H1 => D.nx σ H1
theorem ps_expr (he : PE X e te) (hs : swapsWith e none pos.line X.env = pure false := by rfl) : PS X (.Expr e pos) (tDrop te) := by
  intro pins s σ H D I h
  exact wpAny_Expr_any (thn (he pins s σ H _ I h) fun v s1 ⟨x, H1, I1, r1, q1⟩ => ⟨σ, H1, I1, q1⟩) I.quiet hs
def tRet (te : TE) : TS := fun D σ H => te σ H D.rt
theorem ps_ret (he : PE X e te) : PS X (.Return (some e) pos) (tRet te) := by
  intro pins s σ H D I h
  exact wpAny_Return_some (thn (he pins s σ H _ I h) fun v s1 ⟨x, H1, I1, r1, q1⟩ => ⟨x, σ, H1, I1, r1, q1⟩)
def tIfS (c : TT) (t u : TS) : TS := fun D σ H => c σ H fun b H1 => if b = true then t D σ H1 else u D σ H1
theorem ps_if {c : Expr} {a b : List Stmt} {tc : TT} (hc : PT X c tc) (ha : PSs X a t) (hb : PSs X b u) : PS X (.If c a b pos) (tIfS tc t u) := by
  intro pins s σ H D I h
  refine wpAny_If (thn (hc pins s σ H _ I h) fun d s1 ⟨H1, I1, q1⟩ => ?_)
  cases d with
  | true => exact ha pins s1 σ H1 D I1 q1
  | false => exact hb pins s1 σ H1 D I1 q1
end

abbrev TG := V → St → Hp → (St → Hp → Prop) → Prop
abbrev TGs := List V → St → Hp → (St → Hp → Prop) → Prop
def PG (X : Cx) (target : Expr) (t : TG) : Prop :=
  ∀ (pins : List (Addr × Obj)) (s : Shared) (σ : St) (H : Hp) (v : V) (u : Value) (Q : St → Hp → Prop), Inv X pins σ H s → RelV v u → t v σ H Q →
    wpAny (model X.prog X.w) X.A (assign target X.env u) (fun _ s' => ∃ σ' H', Inv X pins σ' H' s' ∧ Q σ' H') X.xe s
def PGs (X : Cx) (ts : List Expr) (t : TGs) : Prop :=
  ∀ (pins : List (Addr × Obj)) (s : Shared) (σ : St) (H : Hp) (vs : List V) (us : List Value) (Q : St → Hp → Prop), Inv X pins σ H s → Vals vs us → t vs σ H Q →
    wpAny (model X.prog X.w) X.A (assignInOrder ((assignEach ts X.env).map (·.2)) us) (fun _ s' => ∃ σ' H', Inv X pins σ' H' s' ∧ Q σ' H') X.xe s
section
variable {X : Cx} {pos : Pos}
def gName (i : Nat) : TG := fun v σ H Q => Q (σ.set i (some v)) H
theorem pg_name {i : Nat} {x : Str} (hN : X.N.Nodup) (hi : X.N[i]? = some x) (hx : Loc X.env.scope x) (hf : X.fn x = true ∨ X.env.scope.names.lookup x = some .local := by first | exact .inl rfl | exact .inr rfl | assumption) : PG X (.Name x pos) (gName i) := by
  intro pins s σ H v u Q I r h
  exact wpAny_assign_Name (store_ok I hN hi hx r (fun s' I' => ⟨_, H, I', h⟩) hf)
def gNil : TGs := fun vs σ H Q => vs = [] ∧ Q σ H
def gCons (t : TG) (u : TGs) : TGs := fun vs σ H Q => ∃ v r, vs = v :: r ∧ t v σ H fun σ' H' => u r σ' H' Q
theorem pgs_nil : PGs X [] gNil := by
  intro pins s σ H vs us Q I r h
  obtain ⟨e, h⟩ := h
  subst e
  cases r
  exact assignInOrder_nil ⟨σ, H, I, h⟩
theorem pgs_cons {e : Expr} {es : List Expr} {t : TG} {u : TGs} (h1 : PG X e t) (h2 : PGs X es u)
    (hs : (assignEach (e :: es) X.env).map (·.2) = assign e X.env :: (assignEach es X.env).map (·.2) := by rfl) : PGs X (e :: es) (gCons t u) := by
  intro pins s σ H vs us Q I r h
  obtain ⟨v, vr, e1, h⟩ := h
  subst e1
  cases r with
  | cons r rr =>
    rw [hs]
    refine assignInOrder_cons (thn (h1 pins s σ H _ _ _ I r h) fun _ s1 ⟨σ1, H1, I1, q1⟩ => ?_)
    exact h2 pins s1 σ1 H1 _ _ Q I1 rr q1
def gTup (K : PySem.W.Frag) (n : Nat) (t : TGs) : TG := fun v σ H Q => ∃ a xs, v = .ref a ∧ SqT K H a xs ∧ xs.length = n ∧ t xs σ H Q
theorem pg_tup {es : List Expr} {k : Nat} {t : TGs} {n : Nat} (hc : X.calm = true) (h : PGs X es t)
    (hn : (assignEach es X.env).length = n := by rfl) (hst : (assignEach es X.env).findIdx? (·.1) = none := by rfl) : PG X (.Tuple es k pos) (gTup X.K n t) := by
  intro pins s σ H v u Q I r hw
  obtain ⟨a, xs, e1, hq, hl, hw⟩ := hw
  subst e1
  cases r
  obtain ⟨its, rv, ht, hz⟩ := I.tuple hq
  refine assign_Tuple_tuple (I.ok.hd hc) ht (by simp [hn, ← hl, rv.length]) hst fun h' hx => ?_
  have I1 : Inv X pins σ H { s with heap := h' } := I.kept (t' := s.toks) fun b o e => hx b o (Nat.ne_of_lt (Heap.lt_size e)) e
  exact h pins _ σ H xs _ Q I1 (by simpa using rv) hw
def tAsg (te : TE) (g : TG) : TS := fun D σ H => te σ H fun x H1 => g x σ H1 D.nx
theorem ps_asg {tg e : Expr} {te : TE} {g : TG} (he : PE X e te) (hg : PG X tg g) (hs : swapsWithSole [tg] e pos.line X.env = pure false := by rfl) (hw : swappedStores [tg] e X.env = pure none := by rfl)
    (h1 : (assignEach [tg] X.env).map (·.2) = [assign tg X.env] := by rfl) : PS X (.Assign [tg] e pos) (tAsg te g) := by
  intro pins s σ H D I h
  refine wpAny_Assign_stores (thn (he pins s σ H _ I h) fun v s1 ⟨x, H1, I1, r1, q1⟩ => ?_) hs hw
  rw [h1]
  exact thn (hg pins s1 σ H1 x v _ I1 r1 q1) fun _ s2 q => q
theorem ps_set {i : Nat} {x : Str} {e : Expr} {te : TE} {pos' : Pos} (hN : X.N.Nodup) (hi : X.N[i]? = some x) (hx : Loc X.env.scope x) (he : PE X e te) (hs : swapsWith e (some (.Name x pos')) pos.line X.env = pure false := by rfl) (hf : X.fn x = true ∨ X.env.scope.names.lookup x = some .local := by first | exact .inl rfl | exact .inr rfl | assumption) :
    PS X (.Assign [.Name x pos'] e pos) (tAsg te (gName i)) := by
  intro pins s σ H D I h
  refine wpAny_Assign_Name (thn (he pins s σ H _ I h) fun v s1 ⟨y, H1, I1, r1, q1⟩ => ?_) hs
  exact store_ok I1 hN hi hx r1 (fun s2 I2 => ⟨_, H1, I2, q1⟩) hf
end

section
variable {X : Cx} {pos : Pos}
end

structure It where
  go : Nat → Hp → Prop
  yld : Nat → Hp → V → Hp → Prop
  stop : Nat → Hp → Prop
def FpOk (X : Cx) (pins : List (Addr × Obj)) (H : Hp) (b : Addr) : Prop :=
  H b = none ∧ b ≠ X.env.locals ∧ b ∉ X.fs ∧ (b ∈ X.ex ∨ X.s₀.heap.objs.size ≤ b) ∧ (∀ x c, X.env.cells.lookup x = some c → c ≠ b) ∧ ∀ p ∈ X.pn ++ pins, p.1 ≠ b
theorem Inv.fpOk {X : Cx} {pins : List (Addr × Obj)} {σ : St} {H H' : Hp} {s : Shared} {b : Addr} (I : Inv X pins σ H s) (hb : s.heap.objs.size ≤ b) (hn : H' b = none) : FpOk X pins H' b := by
  refine ⟨hn, Nat.ne_of_gt (Nat.lt_of_lt_of_le I.lt hb), I.nofs hb, .inr (Nat.le_trans I.sz hb), fun x c e z => ?_, fun p hp z => ?_⟩
  · obtain ⟨v, q⟩ := I.cell x c e
    exact absurd (Nat.lt_of_lt_of_le q.lt (by rw [z]; exact hb)) (Nat.lt_irrefl _)
  · exact absurd (Nat.lt_of_lt_of_le (Heap.lt_size (I.pin p hp).1) (by rw [z]; exact hb)) (Nat.lt_irrefl _)
structure Turn (P : Program) (w : World) (K : PySem.W.Frag) (tg : Expr) (J : It) (fp : List Addr) (it : Addr) (tn : Nat → Heap → Prop) : Prop where
  mem : it ∈ fp
  obj : ∀ i h, tn i h → ∀ b ∈ fp, ∃ o, h.get? b = some o ∧ ∀ v, o.data ≠ .cell v
  keep : ∀ i h h', tn i h → (∀ b ∈ fp, ∀ o, h.get? b = some o → h'.get? b = some o) → tn i h'
  item : ∀ (X : Cx), X.prog = P → X.w = w → X.K = K → X.calm = true → ∀ (i : Nat) (pins : List (Addr × Obj)) (s : Shared) (σ : St) (H : Hp) (E : Value → Shared → Prop), Inv X pins σ H s → (∀ b ∈ fp, FpOk X pins H b) → tn i s.heap → J.go i H →
    wpAny (model P w) X.A (pyNext (.ref it)) (fun r s1 => ∃ u, r = some u ∧
      wpAny (model P w) X.A (letOwnedTupleGo tg (.ref it) u) (fun _ s2 => ∃ x H', Inv X pins σ H' s2 ∧ RelV x u ∧ J.yld i H x H' ∧ tn (i + 1) s2.heap ∧ ∀ b ∈ fp, H' b = none) E s1) E s
  done : ∀ (X : Cx), X.prog = P → X.w = w → X.K = K → X.calm = true → ∀ (i : Nat) (pins : List (Addr × Obj)) (s : Shared) (σ : St) (H : Hp) (E : Value → Shared → Prop), Inv X pins σ H s → (∀ b ∈ fp, FpOk X pins H b) → tn i s.heap → J.stop i H →
    wpAny (model P w) X.A (pyNext (.ref it)) (fun r s1 => r = none ∧ Inv X pins σ H s1) E s
  self : ∀ (A : Around) (i : Nat) (s : Shared) (Q : Value → Shared → Prop) (E : Value → Shared → Prop), tn i s.heap → Q (.ref it) s → wpAny (model P w) A (pyIter (.ref it)) Q E s
abbrev TI := St → Hp → (It → Hp → Prop) → Prop
def PIE (X : Cx) (pins : List (Addr × Obj)) (σ : St) (tg : Expr) (R : It → Hp → Prop) (itv : Value) (s2 : Shared) : Prop :=
  ∃ (it : Addr) (fp : List Addr) (tn : Nat → Heap → Prop) (J : It) (H' : Hp), itv = .ref it ∧ Inv X pins σ H' s2 ∧ Turn X.prog X.w X.K tg J fp it tn ∧ tn 0 s2.heap ∧ (∀ b ∈ fp, FpOk X pins H' b) ∧ R J H'
def PI (X : Cx) (tg iter : Expr) (wi : TI) : Prop :=
  ∀ (pins : List (Addr × Obj)) (s : Shared) (σ : St) (H : Hp) (R : It → Hp → Prop), Inv X pins σ H s → wi σ H R →
    wpAny (model X.prog X.w) X.A (eval iter X.env) (fun v s1 => wpAny (model X.prog X.w) X.A (pyIter v) (PIE X pins σ tg R) X.xe s1) X.xe s

theorem go_of {M : Model} {A : Around} {E : Value → Shared → Prop} {s : Shared} {tg : Expr} {it : Addr} {u : Value} {o : Obj} {n : String} {vs : Array Value} {Q : Unit → Shared → Prop} (ho : s.heap.get? it = some o) (hc : o.cls = .type n) (hd : o.data = .fields vs)
    (hn : ["enumerate", "zip", "dict_itemiterator", "dict_reverseitemiterator", "odict_iterator", "itertools.zip_longest", "itertools.pairwise"].contains n = false) (hQ : Q () s) : wpAny M A (letOwnedTupleGo tg (.ref it) u) Q E s := by
  unfold letOwnedTupleGo
  cases tg <;> first
    | exact wpAny_pure hQ
    | (cases u <;> first
        | exact wpAny_pure hQ
        | (refine wpAny_bind (wpAny_load ho ?_)
           rw [hc, hd]
           show wpAny M A (if (["enumerate", "zip", "dict_itemiterator", "dict_reverseitemiterator", "odict_iterator", "itertools.zip_longest", "itertools.pairwise"].contains n && vs[0]? == some (rawInt _)) = true then _ else _) Q E s
           rw [if_neg (by intro h; rw [hn, Bool.false_and] at h; cases h)]
           exact wpAny_pure hQ))

def Itl (K : PySem.W.Frag) (a : Addr) : It :=
  ⟨fun i H => ∃ xs x, SqL K H a xs ∧ xs[i]? = some x, fun i H x H' => H' = H ∧ ∀ xs, SqL K H a xs → xs[i]? = some x, fun i H => ∃ xs, SqL K H a xs ∧ xs.length ≤ i⟩
def Itt (K : PySem.W.Frag) (a : Addr) : It :=
  ⟨fun i H => ∃ xs x, SqT K H a xs ∧ xs[i]? = some x, fun i H x H' => H' = H ∧ ∀ xs, SqT K H a xs → xs[i]? = some x, fun i H => ∃ xs, SqT K H a xs ∧ xs.length ≤ i⟩
def Itr (lo : Int) (n : Nat) : It := ⟨fun i _ => i < n, fun i H x H' => H' = H ∧ x = .int (lo + i), fun i _ => n ≤ i⟩
theorem turn_list {P : Program} {w : World} {K : PySem.W.Frag} {tg : Expr} (a it : Addr) : Turn P w K tg (Itl K a) [it] it (fun i h => h.IsListIter it a i) where
  mem := by simp
  obj := fun i h st b hb => by
    have e : b = it := by simpa using hb
    subst e
    obtain ⟨o, e, c, d⟩ := st
    exact ⟨o, e, fun v z => by rw [d] at z; cases z⟩
  keep := fun i h h' st k => st.at fun o e => k it (by simp) o e
  item := by
    intro X hP hw hK hc i pins s σ H E I hf st hg
    subst hP hw hK
    obtain ⟨xs, x, hq, hx⟩ := hg
    obtain ⟨its, rv, p, hz⟩ := I.list hq
    obtain ⟨u, hu, ru⟩ := rv.get hx
    obtain ⟨f0, f1, f2, f3, f4, f5⟩ := hf it (by simp)
    refine wpAny_pyNext_list_item st p.isList (x := u) (by simpa using hu) fun h' st' sb => ?_
    have I1 : Inv X pins σ H { s with heap := h' } := I.turned (t' := s.toks) (fun b o hb e => (sb.2 b hb).trans e) f0 f1 f3 f4 f5
    obtain ⟨o, e, c, d⟩ := id st'
    exact ⟨u, rfl, go_of (s := { s with heap := h' }) e c d (by decide) ⟨x, H, I1, ru, ⟨rfl, fun ys hy => by rw [I.list_inj hy hq]; exact hx⟩, st', fun b hb => (hf b hb).1⟩⟩
  done := by
    intro X hP hw hK hc i pins s σ H E I hf st hg
    subst hP hw hK
    obtain ⟨xs, hq, hx⟩ := hg
    obtain ⟨its, rv, p, hz⟩ := I.list hq
    obtain ⟨f0, f1, f2, f3, f4, f5⟩ := hf it (by simp)
    have hl := rv.length
    exact wpAny_pyNext_list_end (I.ok.hd hc) st p.isList (by simp; omega) fun h' eb => ⟨rfl, I.turned (t' := s.toks) (fun b o hb e => eb b o hb e) f0 f1 f3 f4 f5⟩
  self := fun _ _ _ _ _ st h => wpAny_pyIter_listiter st h
theorem turn_tuple {P : Program} {w : World} {K : PySem.W.Frag} {tg : Expr} (a it : Addr) : Turn P w K tg (Itt K a) [it] it (fun i h => h.IsTupleIter it a i) where
  mem := by simp
  obj := fun i h st b hb => by
    have e : b = it := by simpa using hb
    subst e
    obtain ⟨o, e, c, d⟩ := st
    exact ⟨o, e, fun v z => by rw [d] at z; cases z⟩
  keep := fun i h h' st k => st.at fun o e => k it (by simp) o e
  item := by
    intro X hP hw hK hc i pins s σ H E I hf st hg
    subst hP hw hK
    obtain ⟨xs, x, hq, hx⟩ := hg
    obtain ⟨its, rv, p, hz⟩ := I.tuple hq
    obtain ⟨u, hu, ru⟩ := rv.get hx
    obtain ⟨f0, f1, f2, f3, f4, f5⟩ := hf it (by simp)
    refine wpAny_pyNext_tuple_item st (show s.heap.IsTuple a its.toArray from p) (x := u) (by simpa using hu) fun h' st' sb => ?_
    have I1 : Inv X pins σ H { s with heap := h' } := I.turned (t' := s.toks) (fun b o hb e => (sb.2 b hb).trans e) f0 f1 f3 f4 f5
    obtain ⟨o, e, c, d⟩ := id st'
    exact ⟨u, rfl, go_of (s := { s with heap := h' }) e c d (by decide) ⟨x, H, I1, ru, ⟨rfl, fun ys hy => by rw [I.tuple_inj hy hq]; exact hx⟩, st', fun b hb => (hf b hb).1⟩⟩
  done := by
    intro X hP hw hK hc i pins s σ H E I hf st hg
    subst hP hw hK
    obtain ⟨xs, hq, hx⟩ := hg
    obtain ⟨its, rv, p, hz⟩ := I.tuple hq
    obtain ⟨f0, f1, f2, f3, f4, f5⟩ := hf it (by simp)
    have hl := rv.length
    exact wpAny_pyNext_tuple_end (I.ok.hd hc) st (show s.heap.IsTuple a its.toArray from p) (by simp; omega) fun h' eb => ⟨rfl, I.turned (t' := s.toks) (fun b o hb e => eb b o hb e) f0 f1 f3 f4 f5⟩
  self := fun _ _ _ _ _ st h => wpAny_pyIter_tupleiter st h
theorem turn_range {P : Program} {w : World} {K : PySem.W.Frag} {tg : Expr} (it : Addr) (lo : Int) (n : Nat) : Turn P w K tg (Itr lo n) [it] it (fun i h => IsRangeIter h it (lo + (i : Nat) * 1) ((n : Int) - (i : Nat)) 1) where
  mem := by simp
  obj := fun i h st b hb => by
    have e : b = it := by simpa using hb
    subst e
    exact ⟨_, st, fun v z => by
      have z' : Data.fields _ = Data.cell v := z
      cases z'⟩
  keep := fun i h h' st k => k it (by simp) _ st
  item := by
    intro X hP hw hK hc i pins s σ H E I hf st hg
    subst hP hw hK
    obtain ⟨f0, f1, f2, f3, f4, f5⟩ := hf it (by simp)
    have W := Walks.range (prog := X.prog) (w := X.w) (I.ok.hd hc) it lo 1 n
    refine W.item i s _ _ hg st fun v h' tk hv st' kk => ?_
    obtain ⟨t, rfl⟩ := hv
    have I1 : Inv X pins σ H { s with heap := h', toks := tk } := I.turned (fun b o hb e => kk b o (by simpa using hb) e) f0 f1 f3 f4 f5
    refine ⟨_, rfl, go_of (s := { s with heap := h', toks := tk }) (n := "range_iterator") st' rfl rfl (by decide) ⟨.int (lo + i), H, I1, ⟨t, ?_⟩, ⟨rfl, rfl⟩, st', fun b hb => (hf b hb).1⟩⟩
    rw [Int.mul_one]
  done := by
    intro X hP hw hK hc i pins s σ H E I hf st hg
    subst hP hw hK
    obtain ⟨f0, f1, f2, f3, f4, f5⟩ := hf it (by simp)
    exact wpAny_pyNext_range_end (I.ok.hd hc) st (by have : n ≤ i := hg; omega) fun h' eb => ⟨rfl, I.turned (t' := s.toks) (fun b o hb e => eb b o hb e) f0 f1 f3 f4 f5⟩
  self := fun _ _ _ _ _ st h => wpAny_pyIter_rangeiter st h
end L2

namespace L2
open PySem PySem.Spec PyProof.Rows
section
variable {X : Cx} {tg : Expr}
theorem range_it {pins : List (Addr × Obj)} {σ : St} {H : Hp} {s : Shared} {R : It → Hp → Prop} {E : Value → Shared → Prop} {lo hi : Int} {t u v : Tok} {tk : Nat} (I : Inv X pins σ H s) (h1 : -(2 ^ 62) ≤ lo) (h2 : lo < 2 ^ 62) (h3 : -(2 ^ 62) ≤ hi) (h4 : hi < 2 ^ 62)
    (q : R (Itr lo (hi - lo).toNat) H) : wpAny (model X.prog X.w) X.A (pyIter (.ref s.heap.objs.size)) (PIE X pins σ tg R) E { s with heap := s.heap.push { cls := .type "range", data := .fields #[.int lo t, .int hi u, .int 1 v] }, toks := tk } := by
  refine wpAny_pyIter_range (IsRange.new ..) (small_one h1 h2 h3 h4) ?_
  have I1 : Inv X pins σ H { s with heap := s.heap.push { cls := .type "range", data := .fields #[.int lo t, .int hi u, .int 1 v] }, toks := tk } := I.kept fun b o e => Heap.get?_push_of_some _ e
  refine ⟨(s.heap.push { cls := .type "range", data := .fields #[.int lo t, .int hi u, .int 1 v] }).objs.size, [(s.heap.push { cls := .type "range", data := .fields #[.int lo t, .int hi u, .int 1 v] }).objs.size], _, _, H, rfl,
    I1.kept (t' := tk) fun b o e => Heap.get?_push_of_some _ e, turn_range _ lo (hi - lo).toNat, ?_, fun b hb => ?_, q⟩
  · have e1 : lo + ((0 : Nat) : Int) * 1 = lo := by simp
    have e2 : (((hi - lo).toNat : Nat) : Int) - ((0 : Nat) : Int) = Builtin.Range.rangeSize lo hi 1 := by rw [rangeSize_one]; split <;> omega
    show IsRangeIter _ _ (lo + ((0 : Nat) : Int) * 1) ((((hi - lo).toNat : Nat) : Int) - ((0 : Nat) : Int)) 1
    rw [e1, e2]
    exact Heap.get?_push_size _ rfl
  · have e : b = (s.heap.push { cls := .type "range", data := .fields #[.int lo t, .int hi u, .int 1 v] }).objs.size := by simpa using hb
    subst e
    exact I1.fpOk (Nat.le_refl _) (I1.hok.fresh (Nat.le_refl _))
def iRng1 (ta : TA) : TI := fun σ H R => ta σ H fun vs H1 => ∃ j : Int, vs = [.int j] ∧ -(2 ^ 62) ≤ j ∧ j < 2 ^ 62 ∧ R (Itr 0 j.toNat) H1
theorem pi_range1 {a : Expr} {ta : TA} {p pos : Pos} (hg : Gl X "range") (hm : X.mg "range" = none) (ha : PA X [a] ta) (hs : starEach [a] X.env = [(false, eval a X.env)] := by rfl) : PI X tg (.Call (.Name "range" p) [a] [] pos) (iRng1 ta) := by
  intro pins s σ H R I h
  refine Call_ (ld_blt I hg hm boot_range (PyProof.Rows.callWith_type1 (thn (ha pos pins s σ H _ I h) fun us s1 ⟨vs, H1, I1, r1, q1⟩ => ?_) hs rfl))
  obtain ⟨j, e, q1, q2, q⟩ := q1
  subst e
  cases r1 with
  | cons r rr =>
    cases rr
    obtain ⟨t, rfl⟩ := r
    exact call_range_1 (range_it I1 (by omega) (by omega) q1 q2 (by simpa using q))
def tFor (wi : TI) (g : TG) (tb : TS) : TS := fun D σ H => wi σ H fun J H1 => ∃ W : Nat → Nat → St → Hp → Prop, (∃ m, W 0 m σ H1) ∧ ∀ i m σ H, W i m σ H →
  (J.stop i H ∧ D.nx σ H) ∨ (J.go i H ∧ ∃ N : St → Hp → Prop, (∀ σ' H', N σ' H' → ∃ m', m' < m ∧ W (i + 1) m' σ' H') ∧ ∀ x H', J.yld i H x H' → g x σ H' fun σ2 H2 => tb { D with nx := N, ct := N, bk := D.nx } σ2 H2)
def pinsAt (fp : List Addr) (h : Heap) : List (Addr × Obj) := fp.filterMap fun b => (h.get? b).map fun o => (b, o)
theorem mem_pinsAt {fp : List Addr} {h : Heap} {b : Addr} {o : Obj} (hb : b ∈ fp) (e : h.get? b = some o) : (b, o) ∈ pinsAt fp h := List.mem_filterMap.mpr ⟨b, hb, by rw [e]; rfl⟩
theorem of_pinsAt {fp : List Addr} {h : Heap} {p : Addr × Obj} (hp : p ∈ pinsAt fp h) : p.1 ∈ fp ∧ h.get? p.1 = some p.2 := by
  obtain ⟨b, hb, e⟩ := List.mem_filterMap.mp hp
  cases q : h.get? b with
  | none => rw [q] at e; cases e
  | some o =>
    rw [q] at e
    have e' : (b, o) = p := Option.some.inj e
    subst e'
    exact ⟨hb, q⟩
theorem Inv.pinned {pins : List (Addr × Obj)} {σ : St} {H : Hp} {s : Shared} {fp : List Addr} (I : Inv X pins σ H s) (hf : ∀ b ∈ fp, FpOk X pins H b) (ho : ∀ b ∈ fp, ∃ o, s.heap.get? b = some o ∧ ∀ v, o.data ≠ .cell v) : Inv X (pins ++ pinsAt fp s.heap) σ H s :=
  I.pins_of fun p hp => (List.mem_append.mp hp).elim (fun z => I.pin p (List.mem_append_right _ z)) fun z => by
    obtain ⟨hb, e⟩ := of_pinsAt z
    obtain ⟨f0, f1, f2, _⟩ := hf p.1 hb
    obtain ⟨o, e', d⟩ := ho p.1 hb
    rw [e] at e'; cases e'
    exact ⟨e, f0, f1, f2, d⟩
theorem Inv.unpinned {pins pl : List (Addr × Obj)} {σ : St} {H : Hp} {s : Shared} (I : Inv X (pins ++ pl) σ H s) : Inv X pins σ H s := I.pins_of fun p hp => I.pin p (List.mem_append_right _ (List.mem_append_left _ hp))
theorem ps_for {iter : Expr} {body : List Stmt} {wi : TI} {g : TG} {tb : TS} {pos : Pos} (hp : PassesOwn (model X.prog X.w) X.A X.env X.xe) (hc : X.calm = true) (hi : PI X tg iter wi) (hg : PG X tg g) (hb : PSs X body tb)
    (hs : ∀ x, foldedSetIterable iter X.env x = pure x := by intro _; rfl) : PS X (.For tg iter body [] pos) (tFor wi g tb) := by
  intro pins s σ H D I h
  refine wpAny_For (thn (hi pins s σ H _ I h) fun v s1 h1 => thn h1 fun itv s2 h2 => ?_) hs
  obtain ⟨it, fp, tn, J, H2, e, I2, T, st2, f2, W, ⟨m0, w0⟩, turn⟩ := h2
  subst e
  have stat : ∀ {H' : Hp}, (∀ b ∈ fp, H' b = none) → ∀ b ∈ fp, FpOk X pins H' b := fun hn b hb => ⟨hn b hb, (f2 b hb).2⟩
  refine codeAny_forLoop_any (fun n s' => ∃ i σ' H', Inv X pins σ' H' s' ∧ tn i s'.heap ∧ (∀ b ∈ fp, H' b = none) ∧ W i n σ' H') ?_ m0 ⟨0, σ, H2, I2, st2, fun b hb => (f2 b hb).1, w0⟩
  rintro n s3 ⟨i, σ3, H3, I3, st3, fr3, w3⟩
  rcases turn i n σ3 H3 w3 with ⟨stop, qn⟩ | ⟨go, N, hN, step⟩
  · refine wpAny_passesOwn hp (thn (T.done X rfl rfl rfl hc i pins s3 σ3 H3 X.xe I3 (stat fr3) st3 stop) fun r s4 ⟨hr, I4⟩ => ?_)
    subst hr
    exact wpAny_execs_nil ⟨σ3, H3, I4, qn⟩
  · refine wpAny_passesOwn hp (thn (T.item X rfl rfl rfl hc i pins s3 σ3 H3 X.xe I3 (stat fr3) st3 go) fun r s4 ⟨u, hr, h4⟩ => ?_)
    subst hr
    refine wpAny_passesOwn hp (thn h4 fun _ s5 ⟨x, H5, I5, r5, y5, st5, fr5⟩ => ?_)
    have I5' := I5.pinned (stat fr5) (T.obj _ _ st5)
    refine wpAny_passesOwn hp (thn (hg _ s5 σ3 H5 x u _ I5' r5 (step x H5 y5)) fun _ s6 ⟨σ6, H6, I6, q6⟩ => ?_)
    refine wpAny_passesOwn hp (thn (hb _ s6 σ6 H6 _ I6 q6) fun f s7 q7 => ?_)
    have again : ∀ {σ7 : St} {H7 : Hp}, Inv X (pins ++ pinsAt fp s5.heap) σ7 H7 s7 → N σ7 H7 → ∃ m, m < n ∧ ∃ i σ' H', Inv X pins σ' H' s7 ∧ tn i s7.heap ∧ (∀ b ∈ fp, H' b = none) ∧ W i m σ' H' := fun {σ7 H7} I7 n7 => by
      obtain ⟨m', hm, w7⟩ := hN σ7 H7 n7
      refine ⟨m', hm, i + 1, σ7, H7, I7.unpinned, T.keep _ _ _ st5 fun b hb o e => (I7.pin (b, o) (List.mem_append_right _ (List.mem_append_right _ (mem_pinsAt hb e)))).1, fun b hb => ?_, w7⟩
      obtain ⟨o, e, d⟩ := T.obj _ _ st5 b hb
      exact (I7.pin (b, o) (List.mem_append_right _ (List.mem_append_right _ (mem_pinsAt hb e)))).2.1
    cases f with
    | next => obtain ⟨σ7, H7, I7, n7⟩ := q7; exact again I7 n7
    | cont => obtain ⟨σ7, H7, I7, n7⟩ := q7; exact again I7 n7
    | brk => obtain ⟨σ7, H7, I7, q7⟩ := q7; exact ⟨σ7, H7, I7.unpinned, q7⟩
    | ret v => obtain ⟨x7, σ7, H7, I7, r7, q7⟩ := q7; exact ⟨x7, σ7, H7, I7.unpinned, r7, q7⟩
end

end L2

namespace L2
open PySem PySem.Spec PyProof.Rows

abbrev R2 := V → V → Hp → VK → Prop
def OpR (X : Cx) (f : Value → Value → Sem Value) (r : R2) : Prop :=
  ∀ (pins : List (Addr × Obj)) (s : Shared) (σ : St) (H : Hp) (x y : V) (v u : Value) (Q : VK), Inv X pins σ H s → RelV x v → RelV y u → r x y H Q →
    wpAny (model X.prog X.w) X.A (f v u) (EP X pins σ Q) X.xe s
def UnR (X : Cx) (f : Value → Sem Value) (r : V → Hp → VK → Prop) : Prop :=
  ∀ (pins : List (Addr × Obj)) (s : Shared) (σ : St) (H : Hp) (x : V) (v : Value) (Q : VK), Inv X pins σ H s → RelV x v → r x H Q →
    wpAny (model X.prog X.w) X.A (f v) (EP X pins σ Q) X.xe s
def CallR (X : Cx) (f : Value) (r : List V → Hp → VK → Prop) : Prop :=
  ∀ (pins : List (Addr × Obj)) (s : Shared) (σ : St) (H : Hp) (xs : List V) (us : List Value) (Q : VK), Inv X pins σ H s → Vals xs us → r xs H Q →
    wpAny (model X.prog X.w) X.A (call f us) (EP X pins σ Q) X.xe s
def tOp (r : R2) (ta tb : TE) : TE := fun σ H Q => ta σ H fun x H1 => tb σ H1 fun y H2 => r x y H2 Q
def tUn (r : V → Hp → VK → Prop) (ta : TE) : TE := fun σ H Q => ta σ H fun x H1 => r x H1 Q
def rI (C : Int → Int → Prop) (g : Int → Int → V) : R2 := fun x y H Q => ∃ i j, x = .int i ∧ y = .int j ∧ C i j ∧ Q (g i j) H
def rI0 (g : Int → Int → V) : R2 := fun x y H Q => ∃ i j, x = .int i ∧ y = .int j ∧ Q (g i j) H
def rU (g : Int → V) : V → Hp → VK → Prop := fun x H Q => ∃ i, x = .int i ∧ Q (g i) H

section
variable {X : Cx} {a b c : Expr} {ta tb tc : TE} {pos : Pos}

theorem binT (ha : PE X a ta) (hb : PE X b tb) {pins : List (Addr × Obj)} {s : Shared} {σ : St} {H : Hp} {R : V → V → Hp → Prop} (I : Inv X pins σ H s)
    (h : ta σ H fun x H1 => tb σ H1 fun y H2 => R x y H2) {Q : Value → Shared → Prop} {f : Value → Value → Sem Value}
    (hf : ∀ v u s2 x y H2, Inv X pins σ H2 s2 → RelV x v → RelV y u → R x y H2 → wpAny (model X.prog X.w) X.A (f v u) Q X.xe s2) :
    wpAny (model X.prog X.w) X.A (eval a X.env) (fun v s₁ => wpAny (model X.prog X.w) X.A (eval b X.env) (fun u s₂ => wpAny (model X.prog X.w) X.A (f v u) Q X.xe s₂) X.xe s₁) X.xe s := by
  refine thn (ha pins s σ H _ I h) fun v s1 ⟨x, H1, I1, r1, q1⟩ => ?_
  refine thn (hb pins s1 σ H1 _ I1 q1) fun u s2 ⟨y, H2, I2, r2, q2⟩ => ?_
  exact hf v u s2 x y H2 I2 r1 r2 q2

theorem pe_op {op : Operator} {r : R2} (ho : OpR X (binaryOp op) r) (ha : PE X a ta) (hb : PE X b tb) : PE X (.BinOp a op b pos) (tOp r ta tb) := by
  intro pins s σ H Q I h
  exact wpAny_BinOp (binT ha hb I h fun v u s2 x y H2 I2 rx ry q => ho pins s2 σ H2 x y v u Q I2 rx ry q)
theorem pe_un {op : UnaryOp} {r : V → Hp → VK → Prop} (ho : UnR X (unaryOp op) r) (ha : PE X a ta) : PE X (.UnaryOp op a pos) (tUn r ta) := by
  intro pins s σ H Q I h
  exact UnaryOp_ (thn (ha pins s σ H _ I h) fun v s1 ⟨x, H1, I1, r1, q1⟩ => ho pins s1 σ H1 x v Q I1 r1 q1)
theorem opI {f : Value → Value → Sem Value} {C : Int → Int → Prop} {g : Int → Int → Int}
    (rule : ∀ (i j : Int) (t u : Tok) (s : Shared) (Q : Value → Shared → Prop) (E : Value → Shared → Prop), C i j → Q (.int (g i j) s.toks) { s with toks := s.toks + 1 } → wpAny (model X.prog X.w) X.A (f (.int i t) (.int j u)) Q E s) :
    OpR X f (rI C fun i j => .int (g i j)) := by
  intro pins s σ H x y v u Q I rx ry h
  obtain ⟨i, j, rfl, rfl, hc, q⟩ := h
  obtain ⟨t, rfl⟩ := rx
  obtain ⟨t', rfl⟩ := ry
  exact rule i j t t' s _ _ hc ⟨.int (g i j), H, I.tok _, ⟨_, rfl⟩, q⟩
theorem opI0 {f : Value → Value → Sem Value} {g : Int → Int → Int}
    (rule : ∀ (i j : Int) (t u : Tok) (s : Shared) (Q : Value → Shared → Prop) (E : Value → Shared → Prop), Q (.int (g i j) s.toks) { s with toks := s.toks + 1 } → wpAny (model X.prog X.w) X.A (f (.int i t) (.int j u)) Q E s) :
    OpR X f (rI0 fun i j => .int (g i j)) := by
  intro pins s σ H x y v u Q I rx ry h
  obtain ⟨i, j, rfl, rfl, q⟩ := h
  obtain ⟨t, rfl⟩ := rx
  obtain ⟨t', rfl⟩ := ry
  exact rule i j t t' s _ _ ⟨.int (g i j), H, I.tok _, ⟨_, rfl⟩, q⟩
theorem opB0 {f : Value → Value → Sem Value} {g : Int → Int → Bool}
    (rule : ∀ (i j : Int) (t u : Tok) (s : Shared) (Q : Value → Shared → Prop) (E : Value → Shared → Prop), Q (.bool (g i j)) s → wpAny (model X.prog X.w) X.A (f (.int i t) (.int j u)) Q E s) :
    OpR X f (rI0 fun i j => .bl (g i j)) := by
  intro pins s σ H x y v u Q I rx ry h
  obtain ⟨i, j, rfl, rfl, q⟩ := h
  obtain ⟨t, rfl⟩ := rx
  obtain ⟨t', rfl⟩ := ry
  exact rule i j t t' s _ _ ⟨.bl (g i j), H, I, rfl, q⟩

def CPow (i j : Int) : Prop := 0 ≤ j ∧ j ≤ 1000000 ∧ i.natAbs < 2 ^ 64
def CMul (i j : Int) : Prop := (-(2 ^ 64) < i ∧ i < 2 ^ 64) ∨ (-(2 ^ 64) < j ∧ j < 2 ^ 64)
theorem CMul.ok {i j : Int} (h : CMul i j) : IntMulOk i j := by
  rcases h with ⟨h1, h2⟩ | ⟨h1, h2⟩
  · exact .of_left (intBits_le_64 h1 h2)
  · exact .of_right (intBits_le_64 h1 h2)
theorem op_add : OpR X (binaryOp .Add) (rI0 fun i j => .int (i + j)) := opI0 fun _ _ _ _ _ _ _ q => add_int q
theorem op_sub : OpR X (binaryOp .Sub) (rI0 fun i j => .int (i - j)) := opI0 fun _ _ _ _ _ _ _ q => sub_int q
theorem op_mul : OpR X (binaryOp .Mult) (rI CMul fun i j => .int (i * j)) := opI fun _ _ _ _ _ _ _ hc q => mul_int q hc.ok
theorem op_mod : OpR X (binaryOp .Mod) (rI (fun _ j => 0 < j) fun i j => .int (i % j)) := opI fun i j _ _ _ _ _ hc q => by
  have h1 : (0 : Int) < j := hc
  exact mod_int' (by omega) (by rw [Int.fmod_eq_emod_of_nonneg i (by omega)]; exact q)
theorem op_pow : OpR X (binaryOp .Pow) (rI CPow fun i j => .int (i ^ j.toNat)) := opI fun _ _ _ _ _ _ _ hc q => pow_int_small hc.1 hc.2.1 hc.2.2 q
theorem unI {f : Value → Sem Value} {g : Int → Int}
    (rule : ∀ (i : Int) (t : Tok) (s : Shared) (Q : Value → Shared → Prop) (E : Value → Shared → Prop), Q (.int (g i) s.toks) { s with toks := s.toks + 1 } → wpAny (model X.prog X.w) X.A (f (.int i t)) Q E s) :
    UnR X f (rU fun i => .int (g i)) := by
  intro pins s σ H x v Q I rx h
  obtain ⟨i, rfl, q⟩ := h
  obtain ⟨t, rfl⟩ := rx
  exact rule i t s _ _ ⟨.int (g i), H, I.tok _, ⟨_, rfl⟩, q⟩
theorem un_neg : UnR X (unaryOp .USub) (rU fun i => .int (-i)) := unI fun _ _ _ _ _ q => neg_int q
end

section
variable {X : Cx} {a b c : Expr} {ta tb tc : TE} {pos : Pos}
theorem fin_bl {pins : List (Addr × Obj)} {σ : St} {H : Hp} {s : Shared} {Q : VK} {k k' : Bool} (I : Inv X pins σ H s) (q : Q (.bl k) H) (e : k = k') : EP X pins σ Q (.bool k') s := by
  subst e
  exact ⟨.bl k, H, I, rfl, q⟩
theorem op_lt : OpR X (compareOp .Lt) (rI0 fun i j => .bl (decide (i < j))) := opB0 fun _ _ _ _ _ _ _ q => lt_int q
theorem op_le : OpR X (compareOp .LtE) (rI0 fun i j => .bl (decide (i ≤ j))) := opB0 fun _ _ _ _ _ _ _ q => le_int q
theorem op_isN : OpR X (compareOp .Is) (fun x y H Q => y = .non ∧ Q (.bl (decide (x = .non))) H) := by
  intro pins s σ H x y v u Q I rx ry h
  obtain ⟨rfl, q⟩ := h
  cases ry
  refine is_none_gen (fin_bl I q ?_)
  cases x <;> first
    | (cases rx; rfl)
    | (obtain ⟨t, rfl⟩ := rx; rfl)
theorem op_notN : OpR X (compareOp .IsNot) (fun x y H Q => y = .non ∧ Q (.bl (!decide (x = .non))) H) := by
  intro pins s σ H x y v u Q I rx ry h
  obtain ⟨rfl, q⟩ := h
  cases ry
  refine isnot_none_gen (fin_bl I q ?_)
  cases x <;> first
    | (cases rx; rfl)
    | (obtain ⟨t, rfl⟩ := rx; rfl)

theorem OpR.or {f : Value → Value → Sem Value} {r r' : R2} (h : OpR X f r) (h' : OpR X f r') : OpR X f (fun x y H Q => r x y H Q ∨ r' x y H Q) := by
  intro pins s σ H x y v u Q I rx ry q
  rcases q with q | q
  · exact h pins s σ H x y v u Q I rx ry q
  · exact h' pins s σ H x y v u Q I rx ry q

theorem nomark (b : Expr) {op : CmpOp} (h : op ≠ .In := by decide) (h2 : op ≠ .NotIn := by decide) : behindInMarks op b = false := by
  have e1 : (op == CmpOp.In) = false := by cases op <;> first | rfl | exact absurd rfl h
  have e2 : (op == CmpOp.NotIn) = false := by cases op <;> first | rfl | exact absurd rfl h2
  cases b <;> simp [behindInMarks, e1, e2]
theorem pe_cmpR {op : CmpOp} {r : R2} (ho : OpR X (compareOp op) r) (ha : PE X a ta) (hb : PE X b tb) (hm : behindInMarks op b = false) : PE X (.Compare a [op] [b] pos) (tOp r ta tb) := by
  intro pins s σ H Q I h
  exact wpAny_Compare1 (binT ha hb I h fun v u s2 x y H2 I2 rx ry q => ho pins s2 σ H2 x y v u Q I2 rx ry q) hm
def tTest (t : TE) : TT := fun σ H Q => t σ H fun x H' => ∃ k, x = .bl k ∧ Q k H'
theorem pt_cmpR {op : CmpOp} {r : R2} (ho : OpR X (compareOp op) r) (ha : PE X a ta) (hb : PE X b tb) (hm : behindInMarks op b = false) : PT X (.Compare a [op] [b] pos) (tTest (tOp r ta tb)) := by
  intro pins s σ H Q I h
  refine wpAny_isTrue_Compare1 (thn (ha pins s σ H _ I h) fun v s1 ⟨x, H1, I1, r1, q1⟩ => thn (hb pins s1 σ H1 _ I1 q1) fun u s2 ⟨y, H2, I2, r2, q2⟩ =>
    thn (ho pins s2 σ H2 x y v u _ I2 r1 r2 q2) fun c s3 ⟨z, H3, I3, r3, k, e, q3⟩ => ?_) hm
  subst e
  cases r3
  exact wpAny_truthy_bool ⟨H3, I3, q3⟩
def tChain (r r' : R2) (ta tb tc : TE) : TE := fun σ H Q => ta σ H fun x H1 => tb σ H1 fun y H2 => r x y H2 fun z H3 => ∃ k, z = .bl k ∧
  (if k = true then tc σ H3 fun w' H4 => r' y w' H4 Q else Q (.bl false) H3)
theorem pe_chain {op op' : CmpOp} {r r' : R2} (ho : OpR X (compareOp op) r) (ho' : OpR X (compareOp op') r') (ha : PE X a ta) (hb : PE X b tb) (hc : PE X c tc)
    (hm : lastMarks [op, op'] [b, c] = false := by with_unfolding_all rfl) : PE X (.Compare a [op, op'] [b, c] pos) (tChain r r' ta tb tc) := by
  intro pins s σ H Q I h
  refine Compare_chain (thn (ha pins s σ H _ I h) fun v s1 ⟨x, H1, I1, r1, q1⟩ => chain_link (thn (hb pins s1 σ H1 _ I1 q1) fun u s2 ⟨y, H2, I2, r2, q2⟩ =>
    thn (ho pins s2 σ H2 x y v u _ I2 r1 r2 q2) fun d s3 ⟨z, H3, I3, r3, k, e, q3⟩ => ?_)) hm
  subst e
  cases r3
  refine wpAny_truthy_bool ?_
  cases k with
  | false => exact ite_ff ⟨.bl false, H3, I3, rfl, q3⟩
  | true => exact ite_tt (chain_last (thn (hc pins s3 σ H3 _ I3 q3) fun w' s4 ⟨z', H4, I4, r4, q4⟩ => ho' pins s4 σ H4 y z' u w' Q I4 r2 r4 q4))
theorem pt_chain {op op' : CmpOp} {r r' : R2} (ho : OpR X (compareOp op) r) (ho' : OpR X (compareOp op') r') (ha : PE X a ta) (hb : PE X b tb) (hc : PE X c tc)
    (hm : lastMarks [op, op'] [b, c] = false := by with_unfolding_all rfl) : PT X (.Compare a [op, op'] [b, c] pos) (tTest (tChain r r' ta tb tc)) := by
  intro pins s σ H Q I h
  refine isTrue_chain (thn (ha pins s σ H _ I h) fun v s1 ⟨x, H1, I1, r1, q1⟩ => test_link (thn (hb pins s1 σ H1 _ I1 q1) fun u s2 ⟨y, H2, I2, r2, q2⟩ =>
    thn (ho pins s2 σ H2 x y v u _ I2 r1 r2 q2) fun d s3 ⟨z, H3, I3, r3, k, e, q3⟩ => ?_)) hm
  subst e
  cases r3
  refine wpAny_truthy_bool ?_
  cases k with
  | false =>
    obtain ⟨k', e', q'⟩ := q3
    cases e'
    exact ite_ff ⟨H3, I3, q'⟩
  | true =>
    refine ite_tt (test_last (thn (hc pins s3 σ H3 _ I3 q3) fun w' s4 ⟨z', H4, I4, r4, q4⟩ => thn (ho' pins s4 σ H4 y z' u w' _ I4 r2 r4 q4) fun d' s5 ⟨z2, H5, I5, r5, k2, e2, q5⟩ => ?_))
    subst e2
    cases r5
    exact wpAny_truthy_bool ⟨H5, I5, q5⟩

theorem line63 : (sizeLine : Nat) < 2 ^ 63 := by rw [sizeLine_eq]; decide
theorem op_add_str : OpR X (binaryOp .Add) (fun x y H Q => ∃ i j, x = .str i ∧ y = .str j ∧ i.length + j.length ≤ sizeLine ∧ Q (.str (i ++ j)) H) := by
  intro pins s σ H x y v u Q I rx ry h
  obtain ⟨i, j, rfl, rfl, hz, q⟩ := h
  obtain ⟨t, rfl⟩ := rx
  obtain ⟨t', rfl⟩ := ry
  exact add_str (fun t' tk => ⟨.str (i ++ j), H, I.tok _, ⟨_, rfl⟩, q⟩) hz
theorem vals1 {x : V} {us : List Value} (r : Vals [x] us) : ∃ u, us = [u] ∧ RelV x u := by
  cases r with
  | cons r1 r2 => cases r2; exact ⟨_, rfl, r1⟩
theorem vals2 {x y : V} {us : List Value} (r : Vals [x, y] us) : ∃ u w', us = [u, w'] ∧ RelV x u ∧ RelV y w' := by
  cases r with
  | cons r1 r2 =>
    cases r2 with
    | cons r3 r4 => cases r4; exact ⟨_, _, rfl, r1, r3⟩
theorem call_int1 : CallR X (.type "int") (fun xs H Q => (∃ i, xs = [.int i] ∧ Q (.int i) H) ∨ ∃ k, xs = [.bl k] ∧ Q (.int (if k then 1 else 0)) H) := by
  intro pins s σ H xs us Q I r h
  rcases h with ⟨i, rfl, q⟩ | ⟨k, rfl, q⟩
  · obtain ⟨u, rfl, t, rfl⟩ := vals1 r
    exact call_int_int ⟨.int i, H, I, ⟨_, rfl⟩, q⟩
  · obtain ⟨u, rfl, r1⟩ := vals1 r
    cases r1
    exact call_int_bool ⟨.int (if k then 1 else 0), H, I.tok _, ⟨_, rfl⟩, q⟩
theorem call_str_int : CallR X (.type "str") (fun xs H Q => ∃ i, xs = [.int i] ∧ i.natAbs.log2 < 1920 ∧ Q (.str (toString i)) H) := by
  intro pins s σ H xs us Q I r h
  obtain ⟨i, rfl, hz, q⟩ := h
  obtain ⟨u, rfl, t, rfl⟩ := vals1 r
  exact PySem.P.str_of_int hz ⟨.str _, H, I.tok _, ⟨_, rfl⟩, q⟩
theorem call_ord : CallR X (.builtin "ord") (fun xs H Q => ∃ x, xs = [.str x] ∧ x.length = 1 ∧ Q (.int (x.cps.getD 0 0 : Nat)) H) := by
  intro pins s σ H xs us Q I r h
  obtain ⟨x, rfl, hz, q⟩ := h
  obtain ⟨u, rfl, t, rfl⟩ := vals1 r
  exact ord_of_one hz ⟨.int _, H, I.tok _, ⟨_, rfl⟩, q⟩
end
end L2

namespace L2
open PySem PySem.Spec PyProof.Rows

section
variable {prog : Program} {w : World} {A : Around} {E : Value → Shared → Prop} {s : Shared} {K : PySem.W.Frag} {x dx C f : Addr} {mA : Str → Option Value} {name : Str} {v : Value}

end

section
variable {P : Program} {w : World} {H H' : Hp} {h h' : Heap} {a C dx : Addr} {fs fs' : List (Str × V)}
end

section
variable {X : Cx} {pins : List (Addr × Obj)} {σ : St} {H : Hp} {s : Shared} {a C dx : Addr} {fs : List (Str × V)} {f : Str} {v : V} {A : Around} {E : Value → Shared → Prop}

end

section
variable {X : Cx} {o e value : Expr} {f : Str} {pos pos' tpos : Pos} {ta tv : TE}
end

section
variable {X : Cx} {pins : List (Addr × Obj)} {σ : St} {H : Hp} {s : Shared} {A : Around} {E : Value → Shared → Prop} {Q : Value → Shared → Prop} {c : Value} {b : Bool}
end
end L2

namespace L2
open PySem PySem.Spec PyProof.Rows

structure Room (k : Nat) (A : Around) : Prop where
  hd : A.handled = none
  dp : A.depth + 3 * k + 5 < recursionLimit
  un : A.units + 16 * k + 200 < cLine
theorem Room.mono {j k : Nat} {A : Around} (r : Room k A) (h : j ≤ k) : Room j A := ⟨r.hd, by have := r.dp; omega, by have := r.un; omega⟩
theorem Room.deeper {k : Nat} {A : Around} (r : Room (k + 1) A) (env : Env) : Room k (A.deeper env) :=
  ⟨r.hd, by have := r.dp; show A.depth + 1 + 3 * k + 5 < _; omega, by have := r.un; show A.units + 3 + 16 * k + 200 < _; omega⟩
theorem Room.depth {k : Nat} {A : Around} (r : Room k A) : A.depth < recursionLimit := by have := r.dp; omega
theorem Room.units {k : Nat} {A : Around} (r : Room k A) : A.units + 64 < cLine := by have := r.un; omega
def tNil : TA := fun _ H Q => Q [] H
def tCons (ta : TE) (tr : TA) : TA := fun σ H Q => ta σ H fun x H1 => tr σ H1 fun xs H2 => Q (x :: xs) H2
section
variable {X : Cx} {e : Expr} {es : List Expr} {te : TE} {t : TA} {pos : Pos}
theorem pa_nil : PA X [] tNil := fun _ _ _ _ H Q I h => Calls.spliced_nil ⟨[], H, I, .nil, h⟩
theorem pa_cons (ha : PE X e te) (hr : PA X es t) (hs : starEach (e :: es) X.env = (false, eval e X.env) :: starEach es X.env := by rfl) : PA X (e :: es) (tCons te t) := by
  intro pos pins s σ H Q I h
  rw [hs]
  show wpAny _ _ (spliced ((false, eval e X.env) :: backTo pos (starEach es X.env))) _ _ s
  refine Calls.spliced_cons (thn (ha pins s σ H _ I h) fun u s1 ⟨x, H1, I1, r1, q1⟩ => ?_)
  exact thn (hr pos pins s1 σ H1 _ I1 q1) fun us s2 ⟨xs, H2, I2, r2, q2⟩ => ⟨x :: xs, H2, I2, .cons r1 r2, q2⟩

def tTup (t : TA) : TE := fun σ H Q => t σ H fun xs H1 => xs.length ≤ sizeLine ∧ ∀ p, H1 p = none → Q (.ref p) (upd H1 p (.tup xs))
def tLst (t : TA) : TE := fun σ H Q => t σ H fun xs H1 => xs.length ≤ sizeLine ∧ ∀ p, H1 p = none → Q (.ref p) (upd H1 p (.lst xs))
theorem pe_tup {x1} (h : PA X es t) : PE X (.Tuple es x1 pos) (tTup t) := by
  intro pins s σ H Q I hq
  refine wpAny_Tuple_spliced (thn (h pos pins s σ H _ I hq) fun us s1 ⟨xs, H1, I1, r, z, q⟩ => ⟨by rw [← r.length]; exact z, ?_⟩)
  have hf : H1 s1.heap.objs.size = none := I1.hok.fresh (Nat.le_refl _)
  refine ⟨.ref s1.heap.objs.size, upd H1 s1.heap.objs.size (.tup xs), I1.laid (t' := s1.toks) (fun b u e => Heap.get?_push_of_some _ e) (Nat.le_refl _) ?_, rfl, q _ hf⟩
  exact ⟨z, us, r, ⟨_, Heap.get?_push_size _ rfl, rfl, _, rfl⟩⟩
theorem pe_lst (h : PA X es t) : PE X (.List es pos) (tLst t) := by
  intro pins s σ H Q I hq
  refine wpAny_List_spliced (thn (h pos pins s σ H _ I hq) fun us s1 ⟨xs, H1, I1, r, z, q⟩ => ⟨by rw [← r.length]; exact z, ?_⟩)
  have hf : H1 s1.heap.objs.size = none := I1.hok.fresh (Nat.le_refl _)
  refine ⟨.ref s1.heap.objs.size, upd H1 s1.heap.objs.size (.lst xs), I1.laid (t' := s1.toks) (fun b u e => Heap.get?_push_of_some _ e) (Nat.le_refl _) ?_, rfl, q _ hf⟩
  exact ⟨z, us, 0, r, Heap.get?_push_size _ rfl⟩
end

abbrev Sp := List V → Hp → VK → XK → Prop
abbrev CXT := List Env → Hp → Shared → XK → Value → Shared → Prop

structure Env0 (P : Program) (w : World) (K : PySem.W.Frag) (mg : Str → Option Value) (base : Heap) (A : Around) (outer : List Env) (s : Shared) (H : Hp) : Prop where
  frames : A.frames = some outer
  mod : Mod K mg base
  bs : ∀ b o, base.get? b = some o → s.heap.get? b = some o ∧ H b = none
  bsz : base.objs.size ≤ s.heap.objs.size
  funs : s.heap.FunFrames base outer
  frf : ∀ b ∈ frs outer, H b = none
  hok : HOk P w H s.heap
  bare : AllBare s.gens
def CE (outer : List Env) (P : Program) (w : World) (H : Hp) (s : Shared) (Q : VK) (u : Value) (s' : Shared) : Prop :=
  ∃ v H', s'.os = s.os ∧ AllBare s'.gens ∧ Un (frs outer) [] H H' s.heap s'.heap ∧ HOk P w H' s'.heap ∧ RelV v u ∧ Q v H'
def CR (CX : CXT) (outer : List Env) (P : Program) (w : World) (H : Hp) (s : Shared) (Q : VK) (E : XK) (r : Result) (s' : Shared) : Prop :=
  match r with
  | .ok (.ret u) => CE outer P w H s Q u s'
  | .ok _ => False
  | .error e => CX outer H s E e s'
structure FnOk (P : Program) (w : World) (K : PySem.W.Frag) (mg : Str → Option Value) (base : Heap) (CX : CXT) (k : Nat) (f : Addr) (fd : FuncData) (ps : List Str) (sp : Sp) : Prop where
  len : ∀ vs H Q E, sp vs H Q E → vs.length = ps.length
  run : ∀ (A : Around) (outer : List Env) (s : Shared) (H : Hp) (args : Args) (us : List Value) (vs : List V) (Q : VK) (E : XK), Room k A → Env0 P w K mg base A outer s H → BindsTo s fd args (ps.zip us) → Vals vs us → sp vs H Q E →
    codeAny (model P w) A (.call (.ref f) args) (CR CX outer P w H s Q E) s
section
variable {X : Cx} {pins : List (Addr × Obj)} {σ : St} {H : Hp} {s s' : Shared}
theorem Inv.env0 (I : Inv X pins σ H s) : Env0 X.prog X.w X.K X.mg X.base X.A X.stack s H :=
  ⟨I.ok.frames, I.ok.mod, I.bs, Nat.le_trans I.ok.bsz I.sz, I.stack, I.stkFree, I.hok, I.bare⟩
theorem Inv.after {Q : VK} {u : Value} (I : Inv X pins σ H s) (h : CE X.stack X.prog X.w H s Q u s') : EP X pins σ Q u s' := by
  obtain ⟨v, H', os, bare, un, hok, r, q⟩ := h
  obtain ⟨hh, g, d, t, os'⟩ := s'
  obtain rfl : os' = s.os := os
  exact ⟨v, H', I.call (h' := hh) (g' := g) (d' := d) (t' := t) (ch := []) un hok bare (fun b z => absurd z (by simp)), r, q⟩
end

def tCall (sp : Sp) (dvs : List V) (E : XK) (t : TA) : TE := fun σ H Q => t σ H fun vs H1 => sp (vs ++ dvs) H1 Q E
def Binds (K : PySem.W.Frag) (fd : FuncData) (ps : List Str) (ds : List Value) : Prop :=
  ∀ (s : Shared) (us : List Value), K.In s.heap → (us ++ ds).length = ps.length → BindsTo s fd ⟨us, []⟩ (ps.zip (us ++ ds))
theorem Binds.all {K : PySem.W.Frag} {fd : FuncData} {ps : List Str} (h : ∀ us : List Value, us.length = ps.length → bindArgs fd ⟨us, []⟩ = pure (ps.zip us)) : Binds K fd ps [] := fun s us _ hl => by
  rw [List.append_nil] at hl ⊢
  exact .of_eq (h us hl)

def Passes (CX : CXT) (X : Cx) (E : XK) : Prop := ∀ (pins : List (Addr × Obj)) (σ : St) (H : Hp) (s : Shared) (e : Value) (s' : Shared), Inv X pins σ H s → CX X.stack H s E e s' → X.xe e s'

section
variable {X : Cx} {CX : CXT} {k : Nat} {f C : Addr} {fd : FuncData} {ps : List Str} {sp : Sp} {dvs : List V} {ds : List Value} {E : XK} {x m : Str} {p pos apos : Pos} {e o : Expr} {es : List Expr} {ta : TE} {t : TA}

theorem run_fn {pins : List (Addr × Obj)} {σ : St} {H : Hp} {s : Shared} {Q : VK} {us : List Value} {vs : List V} (F : FnOk X.prog X.w X.K X.mg X.base CX k f fd ps sp) (hr : Room k X.A) (hb : Binds X.K fd ps ds) (hd : Vals dvs ds) (hx : Passes CX X E)
    (I : Inv X pins σ H s) (r : Vals vs us) (h : sp (vs ++ dvs) H Q E) : wpAny (model X.prog X.w) X.A (call (.ref f) us) (EP X pins σ Q) X.xe s := by
  have r2 : Vals (vs ++ dvs) (us ++ ds) := r.append hd
  have hl : (us ++ ds).length = ps.length := by rw [← r2.length]; exact F.len _ _ _ _ h
  refine wpAny_call (codeAny_mono (F.run X.A X.stack s H ⟨us, []⟩ (us ++ ds) (vs ++ dvs) Q E hr I.env0 (hb s us I.kIn hl) r2 h) fun r s' hq => ?_)
  cases r with
  | error e => exact hx pins σ H s e s' I hq
  | ok fl =>
    cases fl with
    | ret u => exact I.after hq
    | next => exact False.elim hq
    | brk => exact False.elim hq
    | cont => exact False.elim hq

theorem pe_call (F : FnOk X.prog X.w X.K X.mg X.base CX k f fd ps sp) (hr : Room k X.A) (hg : Gl X x) (hm : X.mg x = some (.ref f)) (hk : PySem.W.keepIn X.K (.ref f) = true) (hb : Binds X.K fd ps ds) (hd : Vals dvs ds) (hx : Passes CX X E)
    (ha : PA X (e :: es) t) (hdb : (x == ("__debug__" : Str)) = false := by decide) (he : starEach (e :: es) X.env = (false, eval e X.env) :: starEach es X.env := by rfl) (hpl : (backTo pos (starEach es X.env)).any (·.1) = false := by rfl) :
    PE X (.Call (.Name x p) (e :: es) [] pos) (tCall sp dvs E t) := by
  intro pins s σ H Q I h
  refine wpAny_Call_Name_kw (ld_glob I hg hm ?_ hdb)
  refine PySem.W.callWith_K (h₀ := X.base) I.ok.mod.kin hk (thn (ha pos pins s σ H _ I h) fun us s1 ⟨vs, H1, I1, r, q⟩ => ⟨I1.kIn, ?_⟩) he hpl
  exact run_fn F hr hb hd hx I1 r q
end

section
variable {X : Cx} {CX : CXT} {k : Nat} {f C : Addr} {fd : FuncData} {ps ks : List Str} {sp : Sp} {E : XK} {x m : Str} {p pos apos kpos : Pos} {e o : Expr} {es : List Expr} {kws : List Keyword} {te ta : TE} {t tk : TA} {nm : Option Str}
variable {g : List Value → List Value → List Value} {gV : List V → List V → List V}
end

structure FnScope (N P : List Str) (sc : Scope) : Prop where
  kind : sc.kind = .function
  co : sc.isCoroutine = false
  gen : sc.isGenerator = false
  nd : N.Nodup
  pre : N.take P.length = P
  par : ∀ x ∈ P, sc.names.lookup x = some .local ∨ sc.names.lookup x = some .cell
  nofree : ∀ y ∈ sc.names, y.2 ≠ .free

theorem bindL_out {kindOf : Str → Option NameKind} {x : Str} : ∀ {binds : List (Str × Value)} {m : Str → Option Value}, (∀ v, (x, v) ∉ binds) → bindL kindOf binds m x = m x
  | [], _, _ => rfl
  | (n, v) :: r, m, h => by
    unfold bindL
    rw [bindL_out fun w hw => h w (List.mem_cons_of_mem _ hw)]
    split
    · have : x ≠ n := by rintro rfl; exact h v List.mem_cons_self
      simp [this]
    · rfl
theorem bindC_out {kindOf : Str → Option NameKind} {x : Str} : ∀ {binds : List (Str × Value)} {m : Str → Option Value}, (∀ v, (x, v) ∉ binds) → bindC kindOf binds m x = m x
  | [], _, _ => rfl
  | (n, v) :: r, m, h => by
    unfold bindC
    rw [bindC_out fun w hw => h w (List.mem_cons_of_mem _ hw)]
    split
    · rfl
    · have : x ≠ n := by rintro rfl; exact h v List.mem_cons_self
      simp [this]
theorem bindL_get {kindOf : Str → Option NameKind} {x : Str} {v : Value} : ∀ {P : List Str} {vs : List Value} {i : Nat} {m : Str → Option Value}, P.Nodup → P[i]? = some x → vs[i]? = some v → kindOf x = some .local →
    bindL kindOf (P.zip vs) m x = some v
  | [], _, _, _, _, h, _, _ => by simp at h
  | _ :: _, [], _, _, _, _, h, _ => by simp at h
  | p :: P, w :: vs, 0, m, nd, h1, h2, hk => by
    simp at h1 h2; subst h1; subst h2
    show bindL kindOf ((p, w) :: P.zip vs) m p = _
    unfold bindL
    rw [bindL_out fun v hv => (List.nodup_cons.mp nd).1 (List.of_mem_zip hv).1, if_pos hk]
    simp
  | p :: P, w :: vs, i + 1, m, nd, h1, h2, hk => by
    show bindL kindOf ((p, w) :: P.zip vs) m x = _
    unfold bindL
    exact bindL_get (i := i) (List.nodup_cons.mp nd).2 (by simpa using h1) (by simpa using h2) hk
theorem bindC_get {kindOf : Str → Option NameKind} {x : Str} {v : Value} : ∀ {P : List Str} {vs : List Value} {i : Nat} {m : Str → Option Value}, P.Nodup → P[i]? = some x → vs[i]? = some v → kindOf x ≠ some .local →
    bindC kindOf (P.zip vs) m x = some v
  | [], _, _, _, _, h, _, _ => by simp at h
  | _ :: _, [], _, _, _, _, h, _ => by simp at h
  | p :: P, w :: vs, 0, m, nd, h1, h2, hk => by
    simp at h1 h2; subst h1; subst h2
    show bindC kindOf ((p, w) :: P.zip vs) m p = _
    unfold bindC
    rw [bindC_out fun v hv => (List.nodup_cons.mp nd).1 (List.of_mem_zip hv).1, if_neg hk]
    simp
  | p :: P, w :: vs, i + 1, m, nd, h1, h2, hk => by
    show bindC kindOf ((p, w) :: P.zip vs) m x = _
    unfold bindC
    exact bindC_get (i := i) (List.nodup_cons.mp nd).2 (by simpa using h1) (by simpa using h2) hk

def start (N : List Str) (vs : List V) : St := vs.map some ++ List.replicate (N.length - vs.length) none

def cxOf (CX : CXT) (P : Program) (w : World) (K : PySem.W.Frag) (mg : Str → Option Value) (base : Heap) (N : List Str) (qual : Str) (scope : Scope) (f : Addr) (cd : Value) (A : Around) (outer : List Env) (s : Shared) (H : Hp) (E : XK) : Cx where
  prog := P
  w := w
  K := K
  mg := mg
  base := base
  A := A.deeper (envOfC qual scope s.heap.objs.size f cd)
  N := N
  s₀ := s
  H₀ := H
  env := envOfC qual scope s.heap.objs.size f cd
  outer := outer
  stack := envOfC qual scope s.heap.objs.size f cd :: outer
  ex := []
  calm := true
  fn := fun _ => true
  pn := []
  xe := fun e s' => wpAny (model P w) (A.deeper (envOfC qual scope s.heap.objs.size f cd)) (leaving (envOfC qual scope s.heap.objs.size f cd) e) (fun _ s'' => CX outer H s E e s'') (fun e' s'' => CX outer H s E e' s'') s'

theorem cell_has {sc : Scope} {n : Nat} {x : Str} (h : sc.names.lookup x = some .cell) : ∃ c, (cellsFrom n sc.names []).lookup x = some c := by
  have q := PySem.W.cellsFrom_some sc.names n [] (.inl h)
  exact Option.isSome_iff_exists.mp q

theorem inv_start {CX : CXT} {P : Program} {w : World} {K : PySem.W.Frag} {mg : Str → Option Value} {base : Heap} {N ps : List Str} {qual : Str} {scope : Scope} {f : Addr} {cd : Value} {A : Around} {outer : List Env} {s s1 : Shared} {H : Hp} {E : XK} {us : List Value} {vs : List V}
    (S : FnScope N ps scope) (hd : A.handled = none) (e0 : Env0 P w K mg base A outer s H) (hl : vs.length = ps.length) (r : Vals vs us)
    (x : InCallC s s.heap.objs.size (bindL (envOfC qual scope s.heap.objs.size f cd).kindOf (ps.zip us) fun _ => none) (cellsFrom (s.heap.objs.size + 1) scope.names []) (bindC (envOfC qual scope s.heap.objs.size f cd).kindOf (ps.zip us) fun _ => none) s1) :
    Inv (cxOf CX P w K mg base N qual scope f cd A outer s H E) [] (start N vs) H s1 := by
  have hpl : ps.length ≤ N.length := by have := congrArg List.length S.pre; rw [List.length_take] at this; omega
  obtain ⟨h1, tk, rfl, hk⟩ := x.done
  have noA : ∀ b : Addr, b ∉ (cxOf CX P w K mg base N qual scope f cd A outer s H E).ex := fun b z => absurd (show b ∈ ([] : List Addr) from z) (by simp)
  refine ⟨⟨e0.mod, S.kind, rfl, rfl, Nat.le_refl _, fun y z c h1 h2 => ?_, fun y hy => ?_, fun y c _ h => ?_, fun _ => hd, Around.frames_deeper e0.frames, .inr ⟨rfl, rfl⟩, fun b z => absurd z (noA b), e0.bs, e0.bsz, fun b _ _ => noA b, fun b z => absurd z (noA b), e0.funs, e0.frf⟩,
    rfl, e0.bare, Un.kept hk, ⟨_, x.toInCall.ns, fun i y v h1 h2 h3 => ?_⟩, fun y c h => ⟨_, x.cell y c h⟩, e0.hok.fresh (Nat.le_refl _), fun y c h => ?_, fun p hp => absurd (show p ∈ ([] : List (Addr × Obj)) from hp) (by simp), e0.hok.kept hk, ?_⟩
  · exact name_of_addr x.apart (PySem.mem_of_lookup h1) (PySem.mem_of_lookup h2)
  · have hy : scope.names.lookup y = some .cell ∨ scope.names.lookup y = some .free := hy
    rcases hy with hy | hy
    · exact cell_has hy
    · exact absurd rfl (S.nofree _ (PySem.mem_of_lookup hy))
  · exact Nat.le_of_lt (x.above y c (PySem.mem_of_lookup h))
  · have hi : i < vs.length := by
      unfold start at h2
      by_cases hi : i < vs.length
      · exact hi
      · rw [List.getElem?_append_right (by simpa using hi)] at h2
        rw [List.getElem?_replicate] at h2
        split at h2 <;> cases h2
    have ha : vs[i]? = some v := by
      unfold start at h2
      rw [List.getElem?_append_left (by simpa using hi), List.getElem?_map] at h2
      cases e : vs[i]? with
      | none => rw [e] at h2; cases h2
      | some a => rw [e] at h2; cases h2; rfl
    obtain ⟨u, hu, rv⟩ := r.get ha
    have hp : ps[i]? = some y := by
      rw [← S.pre, List.getElem?_take_of_lt (by omega)]; exact h1
    have ndP : ps.Nodup := by rw [← S.pre]; exact S.nd.sublist (List.take_sublist _ _)
    refine ⟨u, rv, ?_⟩
    rcases S.par y (List.mem_of_getElem? hp) with k | k
    · exact .inl ⟨k, bindL_get ndP hp hu k⟩
    · obtain ⟨c, e⟩ := cell_has (n := s.heap.objs.size + 1) k
      refine .inr ⟨.inl k, c, e, ?_⟩
      have q := x.cell y c e
      rw [bindC_get ndP hp hu (by show scope.names.lookup y ≠ _; rw [k]; decide)] at q
      exact q
  · exact e0.hok.fresh (Nat.le_of_lt (x.above y c (PySem.mem_of_lookup h)))
  · unfold start
    show _ = N.length
    rw [List.length_append, List.length_map, List.length_replicate]
    omega

theorem fn_of {CX : CXT} {P : Program} {w : World} {K : PySem.W.Frag} {mg : Str → Option Value} {base : Heap} {k : Nat} {f : Addr} {name qual : Str} {params : Arguments} {body : List Stmt} {scope : Scope} {dV kV doc pm cdv ct oc : Value} {an od : Option Addr}
    {osl : Array (Option Value)} {N ps : List Str} {sp : Sp} (lk : K.lookup f = some ⟨oc, od, .func (PySem.W.fnOf name qual params body scope dV kV doc pm an cdv ct), osl⟩) (hcd : PySem.W.codeIn K cdv qual = true) (S : FnScope N ps scope)
    (len : ∀ vs H Q E, sp vs H Q E → vs.length = ps.length)
    (hbody : ∀ (A : Around) (outer : List Env) (s : Shared) (H : Hp) (vs : List V) (Q : VK) (E : XK), Room k (A.deeper (envOfC qual scope s.heap.objs.size f cdv)) → sp vs H Q E →
      ∃ t, PSs (cxOf CX P w K mg base N qual scope f cdv A outer s H E) body t ∧ t { nx := fun _ H' => Q .non H', rt := Q } (start N vs) H) :
    FnOk P w K mg base CX (k + 1) f (PySem.W.fnOf name qual params body scope dV kV doc pm an cdv ct) ps sp := by
  refine ⟨len, fun A outer s H args us vs Q E hr e0 hb r hsp => ?_⟩
  have hl := len _ _ _ _ hsp
  have KX : K.In s.heap := e0.mod.kin.keeps fun b o e => (e0.bs b o e).1
  have lim : s.heap.NoLimit := e0.mod.nolimit.keeps fun b o e => (e0.bs b o e).1
  have hkind : ∀ y ∈ ps.zip us, scope.names.lookup y.1 = some .local ∨ (scope.names.lookup y.1 = some .cell ∧ ((cellsFrom (s.heap.objs.size + 1) scope.names []).lookup y.1).isSome = true) := fun ⟨n, v⟩ hy => by
    rcases S.par n (List.of_mem_zip hy).1 with q | q
    · exact .inl q
    · exact .inr ⟨q, PySem.W.cellsFrom_some _ _ _ (.inl q)⟩
  refine codeAny_call_function hr.depth (KX _ _ lk) rfl S.co S.gen rfl (PySem.W.codeRec_of KX hcd) (hb _ _ _ _ ?_)
  refine wpAny_newFunctionEnv_cells S.kind hkind fun env he s1 x => ?_
  subst he
  refine ⟨lim.keeps x.toInCall.keep, codeAny_func ?_⟩
  obtain ⟨t, ht, hq⟩ := hbody A outer s H vs Q E (hr.deeper _) hsp
  have I : Inv (cxOf CX P w K mg base N qual scope f cdv A outer s H E) [] (start N vs) H s1 := inv_start S hr.hd e0 hl r x
  refine wpAny_mono (ht [] s1 (start N vs) H _ I hq) (fun fl s' hs => ?_) fun e s' hs => hs
  have fin : ∀ {σ' : St} {H' : Hp} {v : V} {u : Value}, Inv (cxOf CX P w K mg base N qual scope f cdv A outer s H E) [] σ' H' s' → RelV v u → Q v H' → CE outer P w H s Q u s' :=
    fun {σ' H' v u} J rv q => ⟨v, H', J.os, J.bare, J.base, J.hok, rv, q⟩
  cases fl with
  | ret u =>
    obtain ⟨v, σ', H', J, rv, q⟩ := hs
    exact fin J rv q
  | next =>
    obtain ⟨σ', H', J, q⟩ := hs
    exact fin (v := V.non) (u := Value.none) J rfl q
  | brk =>
    obtain ⟨_, _, _, q⟩ := hs
    exact False.elim q
  | cont =>
    obtain ⟨_, _, _, q⟩ := hs
    exact False.elim q
end L2

namespace L2
open PySem PySem.Spec PyProof.Rows
section
variable {X : Cx} {x : Str} {p pos : Pos} {e : Expr} {es : List Expr} {t : TA} {id T : String} {r : List V → Hp → VK → Prop}

def tCB (r : List V → Hp → VK → Prop) (t : TA) : TE := fun σ H Q => t σ H fun vs H1 => r vs H1 Q
theorem pe_callB (hc : CallR X (.builtin id) r) (hg : Gl X x) (hm : X.mg x = none) (hv : bootBuiltins x = some (.builtin id)) (ha : PA X (e :: es) t) (hn : x ≠ "__name__" := by decide) (hdb : (x == ("__debug__" : Str)) = false := by decide)
    (he : starEach (e :: es) X.env = (false, eval e X.env) :: starEach es X.env := by rfl) (hpl : (backTo pos (starEach es X.env)).any (·.1) = false := by rfl) : PE X (.Call (.Name x p) (e :: es) [] pos) (tCB r t) := by
  intro pins s σ H Q I h
  refine wpAny_Call_Name_kw (ld_blt I hg hm hv ?_ hn hdb)
  exact PyProof.Rows.callWith_builtin1 (thn (ha pos pins s σ H _ I h) fun us s1 ⟨vs, H1, I1, r1, q1⟩ => hc pins s1 σ H1 vs us Q I1 r1 q1) he hpl
theorem pe_callTy (hc : CallR X (.type T) r) (hg : Gl X x) (hm : X.mg x = none) (hv : bootBuiltins x = some (.type T)) (ha : PA X (e :: es) t) (hn : x ≠ "__name__" := by decide) (hdb : (x == ("__debug__" : Str)) = false := by decide)
    (he : starEach (e :: es) X.env = (false, eval e X.env) :: starEach es X.env := by rfl) (hpl : (backTo pos (starEach es X.env)).any (·.1) = false := by rfl) : PE X (.Call (.Name x p) (e :: es) [] pos) (tCB r t) := by
  intro pins s σ H Q I h
  refine wpAny_Call_Name_kw (ld_blt I hg hm hv ?_ hn hdb)
  exact PyProof.Rows.callWith_type1 (thn (ha pos pins s σ H _ I h) fun us s1 ⟨vs, H1, I1, r1, q1⟩ => hc pins s1 σ H1 vs us Q I1 r1 q1) he hpl
end
end L2

namespace HT
open PySem PyProof.Rows

section
open PySem.SeqAt
open PySem.AutoSeq1 (wpAny_loadPart')
open PySem.MeetsSeq PySem.MeetsSeq2 PySem.MeetsSeq3

end

section
variable {prog : Program} {w : World} {A : Around} {E : Value → Shared → Prop} {s : Shared}

theorem cat_tup {t b : Addr} {vs ws : List Value} {Q : Value → Shared → Prop} (ht : IsTup s.heap t vs.toArray) (hb : IsTup s.heap b ws.toArray) (hv : vs ≠ [])
    (h1 : ws = [] → Q (.ref t) s) (h2 : ws ≠ [] → Q (.ref s.heap.objs.size) { s with heap := s.heap.push { cls := .type "tuple", data := .seq (vs ++ ws).toArray } })
    (hsz : vs.length + ws.length ≤ sizeLine) : wpAny (model prog w) A (binaryOp .Add (.ref t) (.ref b)) Q E s := by
  obtain ⟨⟨cls, dd, data, sl⟩, ho, hc, n, hd⟩ := id ht
  obtain ⟨⟨cls2, dd2, data2, sl2⟩, ho2, hc2, n2, hd2⟩ := id hb
  simp only at hc hd hc2 hd2
  subst hc hd hc2 hd2
  have e : vs.toArray ++ ws.toArray = (vs ++ ws).toArray := by simp
  by_cases hw : ws = []
  · exact concat_meets ⟨_, ho, rfl⟩ ⟨_, ho2, rfl⟩ noFill_tuple_add seq_tuple_add PySem.F.slot_tuple_add PySem.F.entry_tuple_add (PySem.F.args_tuple_add_2 _ _)
      (tuple_addW1 t b vs.toArray ws.toArray n n2 dd dd2 sl sl2 (by simpa using hv) (by simp [hw])) ⟨ho, ho2, h1 hw⟩
  · refine concat_meets ⟨_, ho, rfl⟩ ⟨_, ho2, rfl⟩ noFill_tuple_add seq_tuple_add PySem.F.slot_tuple_add PySem.F.entry_tuple_add (PySem.F.args_tuple_add_2 _ _)
      (tuple_addW2 t b vs.toArray ws.toArray n n2 dd dd2 sl sl2 (by simpa using hv) (by simpa using hw) (by rw [List.size_toArray, List.size_toArray]; exact hsz)) ⟨ho, ho2, ?_⟩
    rw [e]
    exact h2 hw

def sIx (n d : Nat) : Option Int → Nat
  | none => d
  | some v => if v < 0 then (v + (n : Int)).toNat else min v.toNat n
theorem sIx_none (n d : Nat) : sIx n d none = d := rfl
theorem sIx_nat (n d k : Nat) : sIx n d (some (k : Int)) = min k n := by
  show (if (k : Int) < 0 then ((k : Int) + (n : Int)).toNat else min (k : Int).toNat n) = min k n
  rw [if_neg (by omega), Int.toNat_natCast]
theorem sIx_le (n d : Nat) (hd : d ≤ n) (o : Option Int) : sIx n d o ≤ n := by
  cases o with
  | none => exact hd
  | some v =>
    show (if v < 0 then (v + (n : Int)).toNat else min v.toNat n) ≤ n
    by_cases hv : v < 0
    · rw [if_pos hv]; omega
    · rw [if_neg hv]; exact Nat.min_le_right _ _
theorem clip_eq (v : Int) (n d : Nat) : (if v < 0 then max (v + (n : Int)) 0 else min v (n : Int)) = ((sIx n d (some v) : Nat) : Int) := by
  show (if v < 0 then max (v + (n : Int)) 0 else min v (n : Int)) = (((if v < 0 then (v + (n : Int)).toNat else min v.toNat n) : Nat) : Int)
  by_cases hv : v < 0
  · simp only [if_pos hv]; omega
  · simp only [if_neg hv]; omega
theorem adjust_gen (lo hi : Option Int) (n : Nat) : Builtin.Slice.sliceAdjust lo hi 1 (n : Int) = (((sIx n 0 lo : Nat) : Int), ((sIx n n hi : Nat) : Int)) := by
  have h1 : ¬ ((1 : Int) < 0) := by omega
  unfold Builtin.Slice.sliceAdjust
  simp only [h1, if_false]
  refine Prod.ext ?_ ?_
  · cases lo with
    | none => rfl
    | some v => exact clip_eq v n 0
  · cases hi with
    | none => rfl
    | some v => exact clip_eq v n n
theorem places_gen (i j : Nat) : Builtin.Slice.slicePlaces (i : Int) (j : Int) 1 = j - i := by
  unfold Builtin.Slice.slicePlaces
  have h1 : (1 : Int) > 0 := by omega
  simp only [h1, if_true, Int.ediv_one]
  split <;> omega
theorem slicePart_ {v : Value} {o : Option Int} {Q : Option Int → Shared → Prop} (p : IsPart v o) (h : Q o s) : wpAny (model prog w) A (Builtin.Slice.slicePartIndex v) Q E s := by
  cases p with
  | none => exact slicePart_none h
  | int i t => exact slicePart_int h
theorem sliceApplied_gen {sl : Addr} {vl vu : Value} {lo hi : Option Int} {n : Nat} {Q : Int × Int × Nat → Shared → Prop} (hs : s.heap.IsSliceOf sl vl vu .none) (pl : IsPart vl lo) (pu : IsPart vu hi)
    (h : Q (((sIx n 0 lo : Nat) : Int), 1, sIx n n hi - sIx n 0 lo) s) : wpAny (model prog w) A (Builtin.Slice.sliceApplied (.ref sl) (pure (n : Int))) Q E s := by
  obtain ⟨os, hos, hcs, hds⟩ := id hs
  unfold Builtin.Slice.sliceApplied Builtin.Slice.sliceFields
  refine wpAny_bind (wpAny_bind (wpAny_field hos hds (x := vl) rfl (wpAny_bind (wpAny_field hos hds (x := vu) rfl (wpAny_bind (wpAny_field hos hds (x := .none) rfl (wpAny_pure ?_)))))))
  refine wpAny_bind (slicePart_none ?_)
  show wpAny _ _ (if ((1 : Int) == 0) = true then _ else _) _ _ s
  rw [if_neg (by decide)]
  refine wpAny_bind (slicePart_ pl (wpAny_bind (slicePart_ pu (wpAny_bind (wpAny_pure ?_)))))
  show wpAny _ _ (match Builtin.Slice.sliceAdjust lo hi 1 (n : Int) with | (lo, hi) => pure (lo, (1 : Int), Builtin.Slice.slicePlaces lo hi 1)) _ _ s
  rw [adjust_gen lo hi n]
  show wpAny _ _ (pure (((sIx n 0 lo : Nat) : Int), (1 : Int), Builtin.Slice.slicePlaces ((sIx n 0 lo : Nat) : Int) ((sIx n n hi : Nat) : Int) 1)) _ _ s
  rw [places_gen]
  exact wpAny_pure h
theorem pick_gen (xs : Array Value) (i k : Nat) : ((List.range k).filterMap fun (m : Nat) => xs[((i : Int) + (m : Int) * 1).toNat]?).toArray = ((xs.toList.drop i).take k).toArray := by
  have e : (fun (m : Nat) => xs[((i : Int) + (m : Int) * 1).toNat]?) = fun m => xs[i + m]? := by
    funext m
    have : ((i : Int) + (m : Int) * 1).toNat = i + m := by omega
    rw [this]
  rw [e]
  have := pick_run xs i k
  rw [List.filterMap_map] at this
  have e2 : ((fun x => xs[x]?) ∘ fun x => i + x) = fun m => xs[i + m]? := rfl
  rw [e2] at this
  rw [this]

theorem getItem_tuple_cut {t sl : Addr} {items : Array Value} {vl vu : Value} {lo hi : Option Int} {Q : Value → Shared → Prop} (ht : IsTup s.heap t items) (hs : s.heap.IsSliceOf sl vl vu .none) (pl : IsPart vl lo) (pu : IsPart vu hi)
    (hw : ¬ (sIx items.size 0 lo = 0 ∧ sIx items.size items.size hi = items.size))
    (h : Q (.ref s.heap.objs.size) { s with heap := s.heap.push { cls := .type "tuple", data := .seq ((items.toList.drop (sIx items.size 0 lo)).take (sIx items.size items.size hi - sIx items.size 0 lo)).toArray } })
    (hsz : items.size ≤ sizeLine) : wpAny (model prog w) A (getItem (.ref t) (.ref sl)) Q E s := by
  have htake : sizeOk (.seq ((items.toList.drop (sIx items.size 0 lo)).take (sIx items.size items.size hi - sIx items.size 0 lo)).toArray) := by
    show ((items.toList.drop (sIx items.size 0 lo)).take (sIx items.size items.size hi - sIx items.size 0 lo)).toArray.size ≤ sizeLine
    rw [List.size_toArray, List.length_take, List.length_drop, Array.length_toList]
    omega
  have hj : sIx items.size items.size hi ≤ items.size := sIx_le _ _ (Nat.le_refl _) hi
  obtain ⟨os, hos, hcs, hds⟩ := id hs
  have hTs : s.TypeIs (.ref sl) "slice" := ⟨os, hos, hcs⟩
  unfold getItem
  try with_reducible refine wpAny_holding ?_
  first | refine wpAny_bind (wpAny_pure ?_) | skip
  refine wpAny_bind (wpAny_sequenceKey ht.typeIs (by decide) ?_)
  refine wpAny_bind (wpAny_callSpecial?_slot (name := Str.ofString "__getitem__") ht.typeIs PyProof.Rows.slot_tuple_getitem
    (wpAny_call_entry PyProof.Rows.slot_tuple_getitem ht.typeIs entry_tuple_getitem ?_ (args_tuple_getitem _ _)))
  show wpAny _ _ (Builtin.Tuple.tupleItemsOf (.ref t) >>= _) _ _ s
  refine wpAny_bind (tupleItemsOf_ ht ?_)
  refine wpAny_bind (wpAny_typeOf hTs ?_)
  rw [if_pos (by decide)]
  refine wpAny_bind (sliceApplied_gen hs pl pu ?_)
  have hno : ¬ ((((sIx items.size 0 lo : Nat) : Int) == 0 && (1 : Int) == 1 && (sIx items.size items.size hi - sIx items.size 0 lo) == items.size) = true) := by
    intro q
    rw [Bool.and_eq_true, Bool.and_eq_true] at q
    have q1 : ((sIx items.size 0 lo : Nat) : Int) = 0 := eq_of_beq q.1.1
    have q2 : sIx items.size items.size hi - sIx items.size 0 lo = items.size := eq_of_beq q.2
    exact hw ⟨by omega, by omega⟩
  show wpAny _ _ (if (((sIx items.size 0 lo : Nat) : Int) == 0 && (1 : Int) == 1 && (sIx items.size items.size hi - sIx items.size 0 lo) == items.size) = true then _ else _) _ _ s
  rw [if_neg hno, pick_gen]
  first
    | exact wpAny_bind (m := Builtin.Tuple.tupleExact _) (wpAny_newObj_type (wpAny_pure ⟨_, rfl, wpAny_pure h⟩) htake)
    | exact wpAny_bind (m := Builtin.Tuple.tupleExact _) (wpAny_newObj_type (wpAny_bind (wpAny_pure (wpAny_pure ⟨_, rfl, wpAny_pure h⟩))) htake)
    | exact wpAny_bind (wpAny_bind (m := Builtin.Tuple.tupleExact _) (wpAny_newObj_type (wpAny_pure (wpAny_pure ⟨_, rfl, wpAny_pure h⟩)) htake))
    | exact wpAny_bind (wpAny_bind (m := Builtin.Tuple.tupleExact _) (wpAny_newObj_type (wpAny_pure ⟨_, rfl, wpAny_pure h⟩) htake))
end
end HT

namespace L2
open PySem PySem.Spec PyProof.Rows

abbrev TO := St → Hp → (Option Int → Hp → Prop) → Prop
def PO (X : Cx) (e : Option Expr) (t : TO) : Prop :=
  ∀ (pins : List (Addr × Obj)) (s : Shared) (σ : St) (H : Hp) (Q : Option Int → Hp → Prop), Inv X pins σ H s → t σ H Q →
    wpAny (model X.prog X.w) X.A (evalPart e X.env) (fun u s' => ∃ o H', Inv X pins σ H' s' ∧ IsPart u o ∧ Q o H') X.xe s
def tNoPart : TO := fun _ H Q => Q none H
def tPart (t : TE) : TO := fun σ H Q => t σ H fun x H1 => ∃ i, x = .int i ∧ Q (some i) H1

section
variable {X : Cx} {e : Expr} {te : TE} {lo hi : Option Expr} {tl th : TO} {pos p2 : Pos}

theorem po_none : PO X none tNoPart := by
  intro pins s σ H Q I h
  rw [evalPart_none]
  exact wpAny_pure ⟨none, H, I, .none, h⟩
theorem po_some (h : PE X e te) : PO X (some e) (tPart te) := by
  intro pins s σ H Q I hw
  rw [evalPart_some]
  refine thn (h pins s σ H _ I hw) fun u s1 ⟨x, H1, I1, r1, q1⟩ => ?_
  obtain ⟨i, rfl, q⟩ := q1
  obtain ⟨t, rfl⟩ := r1
  exact ⟨some i, H1, I1, .int i t, q⟩

def SlR (X : Cx) (r : V → Option Int → Option Int → Hp → VK → Prop) : Prop :=
  ∀ (pins : List (Addr × Obj)) (s : Shared) (σ : St) (H : Hp) (x : V) (v vl vu : Value) (lo hi : Option Int) (sl : Addr) (Q : VK), Inv X pins σ H s → RelV x v → s.heap.IsSliceOf sl vl vu .none → IsPart vl lo → IsPart vu hi → r x lo hi H Q →
    ∃ T id, typeLookup (.type T) "__getitem__" = pure (some (.builtin id)) ∧ s.TypeIs v T ∧ wpAny (model X.prog X.w) X.A (getItem v (.ref sl)) (EP X pins σ Q) X.xe s
theorem SlR.or {r r' : V → Option Int → Option Int → Hp → VK → Prop} (h : SlR X r) (h' : SlR X r') : SlR X (fun x lo hi H Q => r x lo hi H Q ∨ r' x lo hi H Q) := by
  intro pins s σ H x v vl vu lo hi sl Q I rx hs pl pu q
  rcases q with q | q
  · exact h pins s σ H x v vl vu lo hi sl Q I rx hs pl pu q
  · exact h' pins s σ H x v vl vu lo hi sl Q I rx hs pl pu q
def tSl (r : V → Option Int → Option Int → Hp → VK → Prop) (te : TE) (tl th : TO) : TE := fun σ H Q => te σ H fun x H1 => tl σ H1 fun l H2 => th σ H2 fun u H3 => r x l u H3 Q
theorem pe_slice {r : V → Option Int → Option Int → Hp → VK → Prop} (hr : SlR X r) (he : PE X e te) (hl : PO X lo tl) (hu : PO X hi th) : PE X (.Subscript e (.Slice lo hi none p2) pos) (tSl r te tl th) := by
  intro pins s σ H Q I h
  refine Subscript_ (thn (he pins s σ H _ I h) fun v s1 ⟨x, H1, I1, r1, q1⟩ => ?_)
  refine wpAny_Slice (thn (hl pins s1 σ H1 _ I1 q1) fun vl s2 ⟨l, H2, I2, pl, q2⟩ => thn (hu pins s2 σ H2 _ I2 q2) fun vu s3 ⟨u, H3, I3, pu, q3⟩ => ?_)
  rw [evalPart_none]
  refine wpAny_pure ?_
  have I4 : Inv X pins σ H3 { s3 with heap := s3.heap.push { cls := .type "slice", data := .fields #[vl, vu, .none] } } := I3.kept (t' := s3.toks) fun b ob q => Heap.get?_push_of_some _ q
  obtain ⟨T, id, hT, ht, hg⟩ := hr pins { s3 with heap := s3.heap.push { cls := .type "slice", data := .fields #[vl, vu, .none] } } σ H3 x v vl vu l u s3.heap.objs.size Q I4 r1 (Heap.IsSliceOf.new ..) pl pu q3
  show wpAny (model X.prog X.w) X.A (subscriptTail e (.Slice lo hi none p2) v (.ref s3.heap.objs.size)) (EP X pins σ Q) X.xe { s3 with heap := s3.heap.push { cls := .type "slice", data := .fields #[vl, vu, .none] } }
  exact tail_any (ops := [.ref s3.heap.objs.size, v]) ht hT hg (by with_unfolding_all rfl)

def cutV (xs : List V) (lo hi : Option Int) : List V := (xs.drop (HT.sIx xs.length 0 lo)).take (HT.sIx xs.length xs.length hi - HT.sIx xs.length 0 lo)
theorem cutV_length (xs : List V) (lo hi : Option Int) : (cutV xs lo hi).length ≤ xs.length := by
  unfold cutV
  rw [List.length_take, List.length_drop]
  omega
def rSlT (K : PySem.W.Frag) : V → Option Int → Option Int → Hp → VK → Prop := fun x lo hi H Q => ∃ a xs, x = .ref a ∧ SqT K H a xs ∧
  ¬ (HT.sIx xs.length 0 lo = 0 ∧ HT.sIx xs.length xs.length hi = xs.length) ∧ ∀ p, H p = none → Q (.ref p) (upd H p (.tup (cutV xs lo hi)))
theorem sl_tup : SlR X (rSlT X.K) := by
  intro pins s σ H x v vl vu lo hi sl Q I rx hs pl pu h
  obtain ⟨a, xs, rfl, hx, hw, q⟩ := h
  cases rx
  obtain ⟨its, r, ht, hz⟩ := I.tuple hx
  have hlen : its.toArray.size = xs.length := by rw [List.size_toArray]; exact r.length.symm
  refine ⟨"tuple", _, PyProof.Rows.slot_tuple_getitem.lookup, ht.typeIs, ?_⟩
  refine HT.getItem_tuple_cut ht hs pl pu (by rw [hlen]; exact hw) ?_ (by rw [hlen]; exact hz)
  rw [hlen]
  refine ⟨.ref s.heap.objs.size, _, I.laid (t' := s.toks) (o := .tup (cutV xs lo hi)) (fun b ob q => Heap.get?_push_of_some _ q) (Nat.le_refl _) ?_, rfl, q _ (I.hok.fresh (Nat.le_refl _))⟩
  exact ⟨Nat.le_trans (cutV_length xs lo hi) hz, _, (r.drop (HT.sIx xs.length 0 lo)).take (HT.sIx xs.length xs.length hi - HT.sIx xs.length 0 lo), IsTup.new _ _⟩

def rCatT (K : PySem.W.Frag) : R2 := fun x y H Q => ∃ a b xs ys, x = .ref a ∧ y = .ref b ∧ SqT K H a xs ∧ SqT K H b ys ∧ xs ≠ [] ∧ xs.length + ys.length ≤ sizeLine ∧
  (ys = [] → Q (.ref a) H) ∧ (ys ≠ [] → ∀ p, H p = none → Q (.ref p) (upd H p (.tup (xs ++ ys))))
theorem Vals.nil_iff {xs : List V} {us : List Value} (r : Vals xs us) : us = [] ↔ xs = [] := by
  cases r with
  | nil => simp
  | cons _ _ => simp
theorem op_catT : OpR X (binaryOp .Add) (rCatT X.K) := by
  intro pins s σ H x y v u Q I rx ry h
  obtain ⟨a, b, xs, ys, rfl, rfl, ha, hb, hx, hz, q1, q2⟩ := h
  cases rx
  cases ry
  obtain ⟨its, r1, p1, _⟩ := I.tuple ha
  obtain ⟨its2, r2, p2, _⟩ := I.tuple hb
  refine HT.cat_tup p1 p2 (fun z => hx (r1.nil_iff.mp z)) (fun z => ⟨.ref a, H, I, rfl, q1 (r2.nil_iff.mp z)⟩) (fun z => ?_) (by rw [← r1.length, ← r2.length]; exact hz)
  refine ⟨.ref s.heap.objs.size, _, I.laid (t' := s.toks) (o := .tup (xs ++ ys)) (fun b ob q => Heap.get?_push_of_some _ q) (Nat.le_refl _) ?_, rfl, q2 (fun w => z (r2.nil_iff.mpr w)) _ (I.hok.fresh (Nat.le_refl _))⟩
  exact ⟨by rw [List.length_append]; exact hz, _, r1.append r2, IsTup.new _ _⟩
end
end L2

namespace L2
open PySem PySem.Spec PyProof.Rows

def ixN (n : Nat) (i : Int) : Option Nat := if 0 ≤ i then (if i < n then some i.toNat else none) else if -(n : Int) ≤ i then some (i + n).toNat else none
def atI {α : Type} (xs : List α) (i : Int) : Option α := (ixN xs.length i).bind fun j => xs[j]?
theorem ixN_seq {n : Nat} {i : Int} {j : Nat} (h : ixN n i = some j) : seqIndex? i n = some j ∧ j < n ∧ -(n : Int) ≤ i ∧ i < n := by
  unfold ixN at h
  by_cases h0 : 0 ≤ i
  · rw [if_pos h0] at h
    by_cases h1 : i < n
    · rw [if_pos h1] at h
      have e : i.toNat = j := Option.some.inj h
      exact ⟨by rw [seqIndex_of h0 h1, e], by omega, by omega, h1⟩
    · rw [if_neg h1] at h; cases h
  · rw [if_neg h0] at h
    by_cases h1 : -(n : Int) ≤ i
    · rw [if_pos h1] at h
      have e : (i + n).toNat = j := Option.some.inj h
      exact ⟨by rw [seqIndex_neg (by omega) h1, e], by omega, h1, by omega⟩
    · rw [if_neg h1] at h; cases h
theorem atI_get {α : Type} {xs : List α} {i : Int} {v : α} (h : atI xs i = some v) : ∃ j, seqIndex? i xs.length = some j ∧ xs[j]? = some v ∧ j < xs.length ∧ -(xs.length : Int) ≤ i ∧ i < xs.length := by
  unfold atI at h
  cases e : ixN xs.length i with
  | none => rw [e] at h; cases h
  | some j =>
    rw [e] at h
    obtain ⟨h1, h2, h3, h4⟩ := ixN_seq e
    exact ⟨j, h1, h, h2, h3, h4⟩
theorem atI_nat {α : Type} {xs : List α} {j : Nat} {v : α} (h : xs[j]? = some v) : atI xs (j : Int) = some v := by
  have hj : j < xs.length := (List.getElem?_eq_some_iff.mp h).1
  have e : ixN xs.length (j : Int) = some j := by
    unfold ixN
    rw [if_pos (by omega), if_pos (by omega)]; simp
  unfold atI; rw [e]; exact h
def PlainIx (b : Expr) : Prop := ∀ o i, subscripted b false o i = operate [o, i] (getItem o i)
def IxR (X : Cx) (r : R2) : Prop :=
  ∀ (value slice : Expr) (pins : List (Addr × Obj)) (s : Shared) (σ : St) (H : Hp) (x y : V) (v u : Value) (Q : VK), Inv X pins σ H s → RelV x v → RelV y u → r x y H Q →
    subscripted slice false v u = operate [v, u] (getItem v u) → wpAny (model X.prog X.w) X.A (subscriptTail value slice v u) (EP X pins σ Q) X.xe s
def MtR (X : Cx) (id : String) (r : V → List V → Hp → VK → Prop) : Prop :=
  ∀ (pins : List (Addr × Obj)) (s : Shared) (σ : St) (H : Hp) (x : V) (xs : List V) (v : Value) (us : List Value) (Q : VK), Inv X pins σ H s → RelV x v → Vals xs us → r x xs H Q →
    wpAny (model X.prog X.w) X.A (call (.builtin id) (v :: us)) (EP X pins σ Q) X.xe s
section
variable {X : Cx} {a b : Expr} {ta tb : TE} {pos : Pos}
theorem IxR.or {r r' : R2} (h : IxR X r) (h' : IxR X r') : IxR X (fun x y H Q => r x y H Q ∨ r' x y H Q) := by
  intro value slice pins s σ H x y v u Q I rx ry q hs
  rcases q with q | q
  · exact h value slice pins s σ H x y v u Q I rx ry q hs
  · exact h' value slice pins s σ H x y v u Q I rx ry q hs
theorem pe_ix {r : R2} (hr : IxR X r) (ha : PE X a ta) (hb : PE X b tb) (hs : PlainIx b) : PE X (.Subscript a b pos) (tOp r ta tb) := by
  intro pins s σ H Q I h
  exact Subscript_ (binT ha hb I h fun v u s2 x y H2 I2 rx ry q => hr a b pins s2 σ H2 x y v u Q I2 rx ry q (hs _ _))

def rIxL (K : PySem.W.Frag) : R2 := fun x y H Q => ∃ p xs i v, x = .ref p ∧ y = .int i ∧ SqL K H p xs ∧ atI xs i = some v ∧ Q v H
def rIxT (K : PySem.W.Frag) : R2 := fun x y H Q => ∃ p xs i v, x = .ref p ∧ y = .int i ∧ SqT K H p xs ∧ atI xs i = some v ∧ Q v H
def rIxS : R2 := fun x y H Q => ∃ z i c, x = .str z ∧ y = .int i ∧ z.length ≤ sizeLine ∧ atI z.cps.toList i = some c ∧ Q (.str ⟨#[c]⟩) H
theorem ix_list : IxR X (rIxL X.K) := by
  intro value slice pins s σ H x y v u Q I rx ry h hs
  obtain ⟨p, xs, i, z, rfl, rfl, hq, he, q⟩ := h
  cases rx
  obtain ⟨t, rfl⟩ := ry
  obtain ⟨its, r, pl, hz⟩ := I.list hq
  obtain ⟨j, h1, h2, h3, h4, h5⟩ := atI_get he
  obtain ⟨w, ew, rw'⟩ := r.get h2
  have hl := r.length
  have hn := line63
  have fin : EP X pins σ Q w s := ⟨z, H, I, rw', q⟩
  by_cases h0 : 0 ≤ i
  · have hj : i.toNat = j := by
      rw [seqIndex_of h0 h5] at h1
      exact Option.some.inj h1
    exact item_listR pl.isList h0 (by omega) (by rw [hj]; simpa using ew) fin hs
  · have hj : (i + (its.toArray.size : Int)).toNat = j := by
      rw [seqIndex_neg (by omega) h4] at h1
      rw [List.size_toArray, ← hl]
      exact Option.some.inj h1
    exact subscriptTail_builtinR (x := w) pl.isList.typeIs slot_list_getitem.lookup
      (wpAny_getItem_list_neg (Q := fun r s' => r = w ∧ EP X pins σ Q r s') pl.isList (by omega) (by rw [List.size_toArray] <;> omega) (by omega) (by rw [hj]; simpa using ew) ⟨rfl, fin⟩) hs
theorem ix_tup : IxR X (rIxT X.K) := by
  intro value slice pins s σ H x y v u Q I rx ry h hs
  obtain ⟨p, xs, i, z, rfl, rfl, hq, he, q⟩ := h
  cases rx
  obtain ⟨t, rfl⟩ := ry
  obtain ⟨its, r, pl, hz⟩ := I.tuple hq
  obtain ⟨j, h1, h2, h3, h4, h5⟩ := atI_get he
  obtain ⟨w, ew, rw'⟩ := r.get h2
  have hl := r.length
  have hn := line63
  have fin : EP X pins σ Q w s := ⟨z, H, I, rw', q⟩
  exact subscriptTail_builtinR (x := w) pl.typeIs slot_tuple_getitem.lookup
    (getItem_tuple (j := j) (Q := fun r s' => r = w ∧ EP X pins σ Q r s') pl (by omega) (by omega) (by rw [List.size_toArray, ← hl]; exact h1) (by simpa using ew) ⟨rfl, fin⟩) hs
theorem ix_str : IxR X rIxS := by
  intro value slice pins s σ H x y v u Q I rx ry h hs
  obtain ⟨z, i, c, rfl, rfl, hz, he, q⟩ := h
  obtain ⟨t, rfl⟩ := rx
  obtain ⟨t', rfl⟩ := ry
  obtain ⟨j, h1, h2, h3, h4, h5⟩ := atI_get he
  have hl : z.cps.toList.length = z.length := by simp [Str.length]
  rw [hl] at h1 h4 h5
  have hn := line63
  exact tail_any (typeIs_str s z t) slot_str_getitem.lookup (getItem_str (c := c) (by
    have e1 : decide (i < -(2 ^ 63 : Int)) = false := decide_eq_false (by omega)
    have e2 : decide (i ≥ 2 ^ 63) = false := decide_eq_false (by omega)
    rw [e1, e2, Bool.or_false]) (by rw [h1]; simpa using h2) ⟨.str ⟨#[c]⟩, H, I.tok _, ⟨_, rfl⟩, q⟩) hs
def rIx (K : PySem.W.Frag) : R2 := fun x y H Q => rIxL K x y H Q ∨ rIxT K x y H Q ∨ rIxS x y H Q
theorem ix_seq : IxR X (rIx X.K) := ix_list.or (ix_tup.or ix_str)

theorem slice_bounds (lo hi : Option Int) (n : Nat) : (sliceBounds lo hi none n).1 = ((HT.sIx n 0 lo : Nat) : Int) ∧ (sliceBounds lo hi none n).2.1 = ((HT.sIx n n hi : Nat) : Int) ∧ (sliceBounds lo hi none n).2.2 = 1 := by
  refine ⟨?_, ?_, rfl⟩
  · cases lo with
    | none => simp [sliceBounds, HT.sIx]
    | some i =>
      simp only [sliceBounds, HT.sIx, Option.getD_none, show (1 : Int) > 0 by decide, if_true]
      by_cases h : i < 0
      · simp only [h, if_true] <;> omega
      · simp only [h, if_false] <;> omega
  · cases hi with
    | none => simp [sliceBounds, HT.sIx]
    | some i =>
      simp only [sliceBounds, HT.sIx, Option.getD_none, show (1 : Int) > 0 by decide, if_true]
      by_cases h : i < 0
      · simp only [h, if_true] <;> omega
      · simp only [h, if_false] <;> omega
theorem slicePick_cut (its : List Value) (lo hi : Option Int) : slicePick its.toArray lo hi none = ((its.drop (HT.sIx its.length 0 lo)).take (HT.sIx its.length its.length hi - HT.sIx its.length 0 lo)).toArray := by
  obtain ⟨h1, h2, h3⟩ := slice_bounds lo hi its.toArray.size
  unfold slicePick
  rw [h1, h2, h3]
  simp only [sliceRange_one, pick_run, List.size_toArray] <;> rfl
def rSlL (K : PySem.W.Frag) : V → Option Int → Option Int → Hp → VK → Prop := fun x lo hi H Q => ∃ a xs, x = .ref a ∧ SqL K H a xs ∧ ∀ p, H p = none → Q (.ref p) (upd H p (.lst (cutV xs lo hi)))
theorem sl_list : SlR X (rSlL X.K) := by
  intro pins s σ H x v vl vu lo hi sl Q I rx hs pl pu h
  obtain ⟨a, xs, rfl, hx, q⟩ := h
  cases rx
  obtain ⟨its, r, ht, hz⟩ := I.list hx
  have hlen := r.length
  refine ⟨"list", _, slot_list_getitem.lookup, ht.isList.typeIs, ?_⟩
  refine wpAny_getItem_list_slice ht.isList hs pl pu .none (by simp) ?_ (by rw [List.size_toArray] <;> omega)
  rw [slicePick_cut, ← hlen]
  refine ⟨.ref s.heap.objs.size, _, I.laid (t' := s.toks) (o := .lst (cutV xs lo hi)) (fun b ob q => Heap.get?_push_of_some _ q) (Nat.le_refl _) ?_, rfl, q _ (I.hok.fresh (Nat.le_refl _))⟩
  exact ⟨Nat.le_trans (cutV_length xs lo hi) hz, _, 0, (r.drop (HT.sIx xs.length 0 lo)).take (HT.sIx xs.length xs.length hi - HT.sIx xs.length 0 lo), Heap.get?_push_size _ rfl⟩

theorem call_len_seq : CallR X (.builtin "len") (fun xs H Q => ∃ p ys, xs = [.ref p] ∧ (SqL X.K H p ys ∨ SqT X.K H p ys) ∧ Q (.int ys.length) H) := by
  intro pins s σ H xs us Q I r h
  obtain ⟨p, ys, rfl, hq, q⟩ := h
  obtain ⟨u, rfl, rx⟩ := vals1 r
  cases rx
  have hn := line63
  rcases hq with hq | hq
  · obtain ⟨its, r', pl, hz⟩ := I.list hq
    have hlen := r'.length
    exact Calls.call_len_list pl.isList (by simp only [List.size_toArray] <;> omega) ⟨.int ys.length, H, I.tok _, ⟨s.toks + 1, by rw [List.size_toArray, hlen]⟩, q⟩
  · obtain ⟨its, r', pl, hz⟩ := I.tuple hq
    have hlen := r'.length
    exact len_tuple pl (by simp only [List.size_toArray] <;> omega) ⟨.int ys.length, H, I.tok _, ⟨s.toks + 1, by rw [List.size_toArray, hlen]⟩, q⟩
theorem call_len_str : CallR X (.builtin "len") (fun xs H Q => ∃ z, xs = [.str z] ∧ z.length ≤ sizeLine ∧ Q (.int z.length) H) := by
  intro pins s σ H xs us Q I r h
  obtain ⟨z, rfl, hz, q⟩ := h
  obtain ⟨u, rfl, t, rfl⟩ := vals1 r
  have hn := line63
  exact len_str (by omega) ⟨.int z.length, H, I.tok _, ⟨_, rfl⟩, q⟩
theorem CallR.or {f : Value} {r r' : List V → Hp → VK → Prop} (h : CallR X f r) (h' : CallR X f r') : CallR X f (fun xs H Q => r xs H Q ∨ r' xs H Q) := by
  intro pins s σ H xs us Q I rs q
  rcases q with q | q
  · exact h pins s σ H xs us Q I rs q
  · exact h' pins s σ H xs us Q I rs q
theorem call_list_of : CallR X (.type "list") (fun xs H Q => ∃ p ys, xs = [.ref p] ∧ (SqL X.K H p ys ∨ SqT X.K H p ys) ∧ ∀ l, H l = none → Q (.ref l) (upd H l (.lst ys))) := by
  intro pins s σ H xs us Q I r h
  obtain ⟨p, ys, rfl, hq, q⟩ := h
  obtain ⟨u, rfl, rx⟩ := vals1 r
  cases rx
  have fin : ∀ (its : List Value), Vals ys its → ys.length ≤ sizeLine → ∀ (h' : Heap) (c' : Nat), (∀ b o', s.heap.get? b = some o' → h'.get? b = some o') →
      h'.get? s.heap.objs.size = some { cls := .type "list", dict := none, data := .seq its.toArray c', slots := #[] } → EP X pins σ Q (.ref s.heap.objs.size) { s with heap := h' } := fun its r' hz h' c' kp e =>
    ⟨.ref s.heap.objs.size, _, I.laid (t' := s.toks) kp (Nat.le_refl _) (show ObjOk X.prog X.w _ h' _ (.lst ys) from ⟨hz, its, c', r', e⟩), rfl, q _ (I.hok.fresh (Nat.le_refl _))⟩
  rcases hq with hq | hq
  · obtain ⟨its, r', pl, hz⟩ := I.list hq
    have hlen := r'.length
    obtain ⟨o, ho, hc, n, hd⟩ := pl.isList
    exact call_list_seq p (.inl rfl) ho hc hd (fun h' c' kp e => fin its r' hz h' c' kp e) (by simp only [List.size_toArray] <;> omega)
  · obtain ⟨its, r', pl, hz⟩ := I.tuple hq
    have hlen := r'.length
    obtain ⟨o, ho, hc, n, hd⟩ := pl
    exact call_list_seq p (.inr rfl) ho hc hd (fun h' c' kp e => fin its r' hz h' c' kp e) (by simp only [List.size_toArray] <;> omega)
theorem call_tuple_of : CallR X (.type "tuple") (fun xs H Q => ∃ p ys, xs = [.ref p] ∧ ((SqL X.K H p ys ∧ ∀ l, H l = none → Q (.ref l) (upd H l (.tup ys))) ∨ (SqT X.K H p ys ∧ Q (.ref p) H))) := by
  intro pins s σ H xs us Q I r h
  obtain ⟨p, ys, rfl, h⟩ := h
  obtain ⟨u, rfl, rx⟩ := vals1 r
  cases rx
  rcases h with ⟨hq, q⟩ | ⟨hq, q⟩
  · obtain ⟨its, r', pl, hz⟩ := I.list hq
    have hlen := r'.length
    refine call_tuple_list pl.isList (fun h' kp => ?_) (by simp only [List.size_toArray] <;> omega)
    have I1 : Inv X pins σ H { s with heap := h' } := I.kept (t' := s.toks) kp
    have I2 : Inv X pins σ (upd H h'.objs.size (.tup ys)) { s with heap := h'.push { cls := .type "tuple", data := .seq its.toArray } } :=
      I1.laid (t' := s.toks) (fun b o e => Heap.get?_push_of_some _ e) (Nat.le_refl _) (show ObjOk X.prog X.w _ _ _ (.tup ys) from ⟨hz, its, r', IsTup.new _ _⟩)
    exact ⟨.ref h'.objs.size, _, I2, rfl, q _ (I1.hok.fresh (Nat.le_refl _))⟩
  · obtain ⟨its, r', pl, hz⟩ := I.tuple hq
    exact call_tuple_same pl ⟨.ref p, H, I, rfl, q⟩

def tyV (K : PySem.W.Frag) (T : String) (x : V) (H : Hp) : Prop := match x with
  | .str _ => T = "str"
  | .int _ => T = "int"
  | .ref p => (T = "list" ∧ ∃ xs, SqL K H p xs) ∨ (T = "tuple" ∧ ∃ o, K.lookup p = some o ∧ o.cls = .type "tuple" ∧ o.dict = none) ∨
      (T = "dict" ∧ ((∃ kvs, H p = some (.dK kvs)) ∨ ∃ kvs, H p = some (.dT kvs))) ∨ (T = "set" ∧ ∃ S n, H p = some (.set S n))
  | _ => False
theorem tyV_is {pins : List (Addr × Obj)} {σ : St} {H : Hp} {s : Shared} {T : String} {x : V} {v : Value} (I : Inv X pins σ H s) (r : RelV x v) (ty : tyV X.K T x H) :
    s.TypeIs v T ∧ ∀ a, v = .ref a → ∃ ob, s.heap.get? a = some ob ∧ ob.dict = none := by
  cases x with
  | str z =>
    obtain ⟨t, rfl⟩ := r
    cases (show T = "str" from ty)
    exact ⟨typeIs_str s z t, fun _ e => nomatch e⟩
  | int i =>
    obtain ⟨t, rfl⟩ := r
    cases (show T = "int" from ty)
    exact ⟨typeIs_int s i t, fun _ e => nomatch e⟩
  | ref p =>
    cases r
    rcases ty with ⟨rfl, xs, hq⟩ | ⟨rfl, o, hk, hc, hd⟩ | ⟨rfl, hk⟩ | ⟨rfl, S, n, hk⟩
    · obtain ⟨its, _, pl, _⟩ := I.list hq
      refine ⟨pl.isList.typeIs, fun a e => ?_⟩
      cases e
      obtain ⟨o, n, e, c, hd, _⟩ := pl
      exact ⟨o, e, hd⟩
    · refine ⟨⟨o, I.kIn p o hk, hc⟩, fun a e => ?_⟩
      cases e
      exact ⟨o, I.kIn _ o hk, hd⟩
    · have z : ∃ o, s.heap.get? p = some o ∧ o.ExactDict := by
        rcases hk with ⟨kvs, hk⟩ | ⟨kvs, hk⟩
        · obtain ⟨_, _, _, _, o, _, _, e, ex, _⟩ := I.hok p _ hk
          exact ⟨o, e, ex⟩
        · obtain ⟨_, _, _, _, o, _, _, e, ex, _⟩ := I.hok p _ hk
          exact ⟨o, e, ex⟩
      obtain ⟨o, e, ex⟩ := z
      refine ⟨⟨o, e, ex.1⟩, fun a e2 => ?_⟩
      cases e2
      exact ⟨o, e, ex.2.1⟩
    · obtain ⟨o, _, _, _, e, ex, _⟩ := I.hok p _ hk
      refine ⟨⟨o, e, ex.1⟩, fun a e2 => ?_⟩
      cases e2
      exact ⟨o, e, ex.2.1⟩
  | _ => exact False.elim ty
def tBM (K : PySem.W.Frag) (T : String) (r : V → List V → Hp → VK → Prop) (to : TE) (t : TA) : TE := fun σ H Q => to σ H fun x H1 => tyV K T x H1 ∧ t σ H1 fun xs H2 => r x xs H2 Q
variable {o e : Expr} {es : List Expr} {to : TE} {t : TA} {name : Str} {apos cpos : Pos} {T id : String} {r : V → List V → Hp → VK → Prop}
theorem pe_bm (pa : PlainAttrs T) (slot : Slot T name id) (hty : typeOf (.builtin id) = pure (.type "method_descriptor")) (hm : MtR X id r) (ho : PE X o to) (ha : PA X (e :: es) t)
    (hbase : attributeBase o name X.env (eval o X.env) = eval o X.env := by rfl)
    (hfew : ((backTo cpos (starEach (e :: es) X.env)).all (fun x => !x.1) && (backToKw cpos (keywordEach [] X.env)).all (fun x => x.1.isSome)
      && decide ((e :: es).length + ([] : List Keyword).length + (if ([] : List Keyword).isEmpty then 0 else 1) < 30)) = true := by rfl)
    (hline : (apos.endLine == cpos.line) = true := by rfl) (hs : starEach (e :: es) X.env = (false, eval e X.env) :: starEach es X.env := by rfl) (hplain : (backTo cpos (starEach es X.env)).any (·.1) = false := by rfl) :
    PE X (.Call (.Attribute o name apos) (e :: es) [] cpos) (tBM X.K T r to t) := by
  intro pins s σ H Q I h
  refine wpAny_Call_method_late hbase hfew hline rfl (thn (ho pins s σ H _ I h) fun v s1 ⟨x, H1, I1, r1, ty, q1⟩ => ?_)
  obtain ⟨h1, h2⟩ := tyV_is I1 r1 ty
  refine ⟨T, id, pa, slot, hty, h1, h2, ?_⟩
  have hA := ha cpos pins s1 σ H1 _ I1 q1
  rw [hs] at hA ⊢
  refine Calls.callWith_builtin (by show (false || (backTo cpos (starEach es X.env)).any (·.1)) = false; rw [hplain] <;> rfl) (Calls.evalArgs_plain ?_)
  exact thn hA fun us s2 ⟨vs, H2, I2, r2, q2⟩ => hm pins s2 σ H2 x vs v us Q I2 r1 r2 q2
/- xs.append(e), list.index on a module's tuple .. are MtR facts of 06m -/
end
end L2

namespace L2
open PySem PySem.Spec PyProof.Rows

def MtM (X : Cx) (id : String) (r : V → List V → Hp → VK → Prop) : Prop :=
  ∀ (pins : List (Addr × Obj)) (s : Shared) (σ : St) (H : Hp) (x : V) (xs : List V) (v : Value) (us : List Value) (Q : VK), Inv X pins σ H s → RelV x v → Vals xs us → r x xs H Q →
    wpAny (model X.prog X.w) X.A (call (.builtin id) (v :: us)) (EP X pins σ Q) X.xe s

theorem Vals.one : ∀ {x : V} {us : List Value}, Vals [x] us → ∃ u, us = [u] ∧ RelV x u
  | _, _, .cons r .nil => ⟨_, rfl, r⟩
section
variable {X : Cx} {pins : List (Addr × Obj)} {σ : St} {H : Hp} {s : Shared} {l b : Addr} {xs ys zs : List V}

theorem Inv.lset {its its' : List Value} {n : Nat} {f : Array Value → Array Value} {t' : Nat} (I : Inv X pins σ H s) (hH : H l = some (.lst xs))
    (e : s.heap.get? l = some { cls := .type "list", data := .seq its.toArray n }) (hf : f its.toArray = its'.toArray) (hv : Vals ys its') (hz : ys.length ≤ sizeLine) :
    Inv X pins σ (upd H l (.lst ys)) { s with heap := s.heap.update l (Obj.mapSeq f), toks := t' } := by
  have q := PySem.IsL.update e f
  rw [hf] at q
  refine I.write (x := l) (e := l) (by rw [hH]; exact trivial) (.inl rfl) (fun b' u hb hu => (Heap.get?_update_other s.heap (Obj.mapSeq f) (Ne.symm hb)).trans hu) ⟨_, q⟩ ?_
  exact ⟨hz, its', _, hv, q⟩
theorem Inv.lnew {its : List Value} {t' : Nat} (I : Inv X pins σ H s) (hv : Vals ys its) (hz : ys.length ≤ sizeLine) :
    Inv X pins σ (upd H s.heap.objs.size (.lst ys)) { s with heap := s.heap.push { cls := .type "list", data := .seq its.toArray }, toks := t' } :=
  I.laid (fun _ _ q => Heap.get?_push_of_some _ q) (Nat.le_refl _) ⟨hz, its, 0, hv, Heap.get?_push_size _ rfl⟩
theorem Inv.fresh (I : Inv X pins σ H s) : H s.heap.objs.size = none := I.hok.fresh (Nat.le_refl _)
theorem Inv.lstM (I : Inv X pins σ H s) (hH : H l = some (.lst xs)) : xs.length ≤ sizeLine ∧ ∃ (its : List Value) (n : Nat), Vals xs its ∧ xs.length = its.length ∧ s.heap.get? l = some { cls := .type "list", data := .seq its.toArray n } := by
  obtain ⟨z, its, n, r, e⟩ := I.hok l _ hH
  exact ⟨z, its, n, r, r.length, e⟩

end

section
variable {X : Cx}

def rAppend : V → List V → Hp → VK → Prop := fun x vs H Q => ∃ l xs y, x = .ref l ∧ vs = [y] ∧ H l = some (.lst xs) ∧ xs.length < sizeLine ∧ Q .non (upd H l (.lst (xs ++ [y])))
theorem mt_append : MtM X "list.append" rAppend := by
  intro pins s σ H x vs v us Q I rx rv h
  obtain ⟨l, xs, y, rfl, rfl, hH, hz, q⟩ := h
  cases rx
  obtain ⟨u, rfl, ru⟩ := rv.one
  obtain ⟨z, its, n, r, hl, e⟩ := I.lstM hH
  refine call_meets F.slot_list_append ⟨_, e, rfl⟩ F.entry_list_append (F.args_list_append_2 _ _) (PySem.list_append l its.toArray n u (by rw [List.size_toArray]; omega)) ⟨e, ?_⟩
  refine ⟨.non, _, I.lset (its' := its ++ [u]) hH e (by simp) (r.append (.cons ru .nil)) ?_, rfl, q⟩
  rw [List.length_append, List.length_singleton]
  omega

end

section
variable {prog : Program} {w : World} {A : Around} {E : Value → Shared → Prop} {s : Shared}
end

section
variable {X : Cx}
end
end L2

namespace Att
open PySem PySem.W PySem.Calls PyProof.Rows

theorem ints_of_wellAll {P : Params} {h : Heap} : ∀ (ns : List Int) (vs : List Value), WellAll P h vs (ns.map WData.int) → IntsAre vs ns := by
  intro ns
  induction ns with
  | nil =>
    intro vs w
    rw [List.map_nil] at w
    cases w
    exact .nil
  | cons n ns ih =>
    intro vs w
    rw [List.map_cons] at w
    cases w with
    | cons a b =>
      cases a
      exact .cons _ _ (ih _ b)

theorem script_of {l : OpenLaw} {n : Nat} (hn : l.most = some n) {P : Params} {h : Heap} {args : List WData} {vals : List Value}
    (hpre : l.row.toRowW.claim.pre args = true) (hwl : WellAll P h vals args) :
    ∃ a vs ns, vals = [Value.ref a] ∧ args = [WData.list (ns.map WData.int)] ∧ h.get? a = some { cls := .type "list", data := .seq vs.toArray } ∧ IntsAre vs ns ∧ ns.length ≤ n := by
  have hsh : WShape.hasAll [] args [.list .int] = true := (pre_splitW hpre).1
  have hc : l.pre.holds [] { args := args } = true := (pre_splitW hpre).2
  obtain ⟨d, r, rfl, h1, h2⟩ := hasAllW_cons hsh
  obtain rfl := hasAllW_nil h2
  obtain ⟨xs, rfl, h3⟩ := hasW_list h1
  obtain ⟨ns, rfl⟩ := items_int h3
  have hlen : ns.length ≤ n := by
    unfold OpenLaw.pre at hc
    have h4 : (WTm.not (.lt (.lit (.int (n : Int))) (.len (.arg 0)))).holds [] { args := [.list (ns.map .int)] } = true := by
      have h4 := (holds_andW hc).1
      rw [hn] at h4
      exact h4
    have h5 := condW_of h4 (w_not (w_lt w_lit (w_len_list (w_arg rfl))))
    rw [List.length_map] at h5
    refine Nat.le_of_not_lt fun q => ?_
    have q' : (n : Int) < ((ns.length : Nat) : Int) := by omega
    first
      | (rw [decide_eq_true q'] at h5; exact absurd h5 (by decide))
      | (simp at h5; omega)
  cases hwl with
  | cons w1 w2 =>
    cases w2
    cases w1 with
    | list ho hall => exact ⟨_, _, ns, rfl, rfl, ho, ints_of_wellAll ns _ hall, hlen⟩

theorem post_true (l : OpenLaw) (args : List WData) : l.row.toRowW.claim.post args (.bool true) args = true :=
  postW_of (r := l.row.toRowW) (X := (true == true))
    (show WShape.has [] (.bool true) .bool = true by first | rfl | decide | simp [WShape.has, WShape.arms, WShape.armsAll])
    (show (WTm.eq .res (.lit (.bool true))).value [] { args := args, res := some (.bool true), after := args } = some (.bool (true == true)) from w_eq_bool (w_res rfl) w_lit) rfl

theorem attach_call {l : OpenLaw} {n : Nat} {q : Program} {loose : List Str} {XP : (Str → Option Value) → Heap → Prop} {YP : World → Heap → Prop} {d : DefRec}
    (hn : l.most = some n) (hdf : d.params.defaults = [])
    (call : ∀ (w : World) (s₀ s₁ : Shared) (mg mb : Str → Option Value) (fa : Addr) (o : Obj) (pm cd doc : Value) (a : Addr) (vs : List Value) (ns : List Int),
      Ground q loose [] XP w s₀ mg mb s₁.heap → YP w s₁.heap →
      s₁.heap.get? fa = some o → o.data = .func (docDef d.name d.params d.body d.scope pm cd doc) → s₁.heap.CodeRec cd d.name → mg d.name = some (.ref fa) →
      s₁.heap.get? a = some { cls := .type "list", data := .seq vs.toArray } → IntsAre vs ns → ns.length ≤ n → s₁.gens = #[] →
      codeAny (model l.prog w) callerA (.call (.ref fa) ⟨[.ref a], []⟩) (fun r s' => r = .ok (.ret (.bool true)) ∧ OldK s₁.heap s'.heap ∧ s'.os = s₁.os ∧ AllBare s'.gens) s₁) :
    WalkO q loose XP YP l.row.toRowW d [] (fun f vs => PySem.call f vs) := by
  intro w s₀ s₁ mg mb G Y fa o pm cd doc dV kV ho hd hcd hD hmg hg args vals as hpre hlay hrd hwl hlo
  obtain rfl : dV = .none := Dflts.none hD hdf
  obtain rfl : kV = .none := Dflts.noKw hD
  obtain ⟨a, vs, ns, rfl, rfl, hobj, hints, hlen⟩ := script_of hn hpre hwl
  refine enter_call (codeAny_mono (call w s₀ s₁ mg mb fa o pm cd doc a vs ns G Y ho (fd_plain hd) hcd hmg hobj hints hlen hg) fun r s' hq => ?_)
  obtain ⟨rfl, h2, h3, h4⟩ := hq
  exact ⟨.inl ⟨.bool true, .bool true, [], rfl, fun _ => rfl, .bool true, post_true l _, fun _ => ⟨List.Pairwise.nil, fun _ hm => (nomatch hm)⟩⟩, h2, h3, h4⟩

section
variable {prog : Program} {w : World} {A : Around} {E : Value → Shared → Prop} {s : Shared} {K : Frag}

end
end Att

namespace L2
open PySem PySem.Spec PyProof.Rows

theorem vals_ints : ∀ {vs : List Value} {ns : List Int}, IntsAre vs ns → Vals (ns.map V.int) vs
  | _, _, .nil => .nil
  | _, _, .cons n t h => .cons ⟨t, rfl⟩ (vals_ints h)

def Only (H : Hp) : Prop := ∀ b, H b = none ∨ ∃ o xs, H b = some (.frz o (.lst xs))

theorem law_call {P : Program} {w : World} {K : PySem.W.Frag} {mg mb : Str → Option Value} {CX : CXT} {k : Nat} {fa a : Addr} {fd : FuncData} {x : Str} {sp : Sp} {s₁ : Shared} {vs : List Value} {ns : List Int}
    (KX : K.In s₁.heap) (hns : s₁.heap.Ns mainGlobals mg) (hb : s₁.heap.Ns builtinsNs mb) (hbb : ∀ x : Str, x ≠ "__name__" → mb x = bootBuiltins x) (hlim : s₁.heap.NoLimit) (hg : s₁.gens = #[])
    (ha : s₁.heap.get? a = some { cls := .type "list", data := .seq vs.toArray }) (hi : IntsAre vs ns) (hl : ns.length ≤ sizeLine) (hr : Room k callerA)
    (F : ∀ base : Heap, K.In base → base.Ns mainGlobals mg → FnOk P w K mg base CX k fa fd [x] sp) (hbind : ∀ (s : Shared) (u : Value), BindsTo s fd ⟨[u], []⟩ [(x, u)])
    (hsp : ∀ H : Hp, Only H → SqL K H a (ns.map V.int) → sp [.ref a] H (fun v _ => v = .bl true) fun _ _ _ => False)
    (hCX : ∀ H e s', CX [] H s₁ (fun _ _ _ => False) e s' → False) :
    codeAny (model P w) callerA (.call (.ref fa) ⟨[.ref a], []⟩) (fun r s' => r = .ok (.ret (.bool true)) ∧ OldK s₁.heap s'.heap ∧ s'.os = s₁.os ∧ AllBare s'.gens) s₁ := by
  have rv := vals_ints hi
  have lenV := hi.length
  have core : ∀ H : Hp, Only H → SqL K H a (ns.map V.int) → HOk P w H s₁.heap → (∀ b, H b ≠ none → b = a) → (H a ≠ none → K.lookup a = none) →
      codeAny (model P w) callerA (.call (.ref fa) ⟨[.ref a], []⟩) (fun r s' => r = .ok (.ret (.bool true)) ∧ OldK s₁.heap s'.heap ∧ s'.os = s₁.os ∧ AllBare s'.gens) s₁ := by
    intro H hO hS hok hA hK
    have base_of : ∀ {b : Addr} {o : Obj}, s₁.heap.get? b = some o → H b = none → (hidT s₁.heap H).get? b = some o := fun e n => hidT_get e n
    have noA : ∀ {b : Addr} {o : Obj} {es : Array DictEntry} {ep : Nat}, s₁.heap.get? b = some o → o.data = .dict es ep → H b = none := fun {b o es ep} e d => by
      cases q : H b with
      | none => rfl
      | some u =>
        have e' : b = a := hA b (by rw [q]; simp)
        subst e'
        rw [ha] at e; cases e
        have d' : Data.seq vs.toArray _ = Data.dict es ep := d
        cases d'
    have nsK : ∀ {b : Addr} {m : Str → Option Value}, s₁.heap.Ns b m → (hidT s₁.heap H).Ns b m := fun {b m} ⟨o, es, ep, e, d, r⟩ => ⟨o, es, ep, base_of e (noA e d), d, r⟩
    have hKb : K.In (hidT s₁.heap H) := fun b o e => base_of (KX b o e) (by
      cases q : H b with
      | none => rfl
      | some u =>
        have e' : b = a := hA b (by rw [q]; simp)
        subst e'
        rw [hK (by rw [q]; simp)] at e; cases e)
    have hM : Mod K mg (hidT s₁.heap H) := ⟨hKb, nsK hns, ⟨mb, nsK hb, hbb⟩, let ⟨mc, h1, h2⟩ := hlim; ⟨mc, nsK h1, h2⟩⟩
    have e0 : Env0 P w K mg (hidT s₁.heap H) callerA [] s₁ H := ⟨rfl, hM, fun b o e => of_hidT e, Nat.le_of_eq (hidT_size _ _), trivial, fun b hb => absurd (show b ∈ ([] : List Addr) from hb) (by simp), hok, .of_eq hg⟩
    refine codeAny_mono ((F _ hKb (nsK hns)).run callerA [] s₁ H ⟨[.ref a], []⟩ [.ref a] [.ref a] _ _ hr e0 (hbind s₁ (.ref a)) (.cons rfl .nil) (hsp H hO hS)) fun r s' h => ?_
    cases r with
    | error e => exact (hCX H e s' h).elim
    | ok fl =>
      cases fl with
      | next => exact False.elim h
      | brk => exact False.elim h
      | cont => exact False.elim h
      | ret u =>
        obtain ⟨v, H', os, bare, un, hok', r', q⟩ := h
        have q' : v = .bl true := q
        subst q'
        obtain rfl : u = Value.bool true := r'
        refine ⟨rfl, OldK.of_keep fun b o e => ?_, os, bare⟩
        cases q : H b with
        | none => exact un.keep b o e q (by intro z; exact absurd (show b ∈ ([] : List Addr) from z) (by simp)) (by simp)
        | some u =>
          rcases hO b with z | ⟨ob, xs, z⟩
          · rw [q] at z; cases z
          · have z2 := un.frzs b ob _ z
            obtain ⟨e1, _⟩ := hok b _ z
            obtain ⟨e2, _⟩ := hok' b _ z2
            rw [e] at e1; cases e1
            exact e2
  cases hk : K.lookup a with
  | some o =>
    have e := KX a o hk
    rw [ha] at e
    cases e
    refine core (fun _ => none) (fun _ => .inl rfl) (.inr ⟨_, vs.toArray, _, hk, rfl, rfl, rfl, by rw [List.size_toArray, lenV]; exact hl, by simpa using rv⟩) (fun b u z => by have z' : (none : Option HO) = some u := z; cases z') (fun b z => absurd rfl z) fun z => absurd rfl z
  | none =>
    refine core (fun b => if b = a then some (.frz { cls := .type "list", data := .seq vs.toArray } (.lst (ns.map V.int))) else none) (fun b => ?_) (.inl (.inr ⟨{ cls := .type "list", data := .seq vs.toArray }, if_pos rfl⟩)) (fun b u z => ?_) (fun b z => ?_) fun _ => hk
    · by_cases hb : b = a
      · exact .inr ⟨_, _, if_pos hb⟩
      · exact .inl (if_neg hb)
    · by_cases hb : b = a
      · have z' := (if_pos hb).symm.trans z
        cases z'
        subst hb
        exact ⟨ha, by rw [List.length_map]; exact hl, vs, _, rv, ha⟩
      · have z' := (if_neg hb).symm.trans z
        cases z'
    · by_cases hb : b = a
      · exact hb
      · exact absurd (if_neg hb) z
end L2

namespace L2
open PySem PySem.Spec PyProof.Rows

abbrev KOf {K : PySem.W.Frag} {h : Heap} (_ : K.In h) : PySem.W.Frag := K

theorem walk_of {l : PySem.W.OpenLaw} {n k : Nat} {q : Program} {loose : List Str} {XP : (Str → Option Value) → Heap → Prop} {YP : World → Heap → Prop} {d : DefRec} {K : Params → PySem.W.Frag} {CX : World → CXT} {sp : World → Sp} {x : Str}
    (hn : l.most = some n) (hn2 : n ≤ sizeLine) (hdf : d.params.defaults = []) (hr : Room k callerA)
    (hY : ∀ (w : World) (h : Heap), YP w h → (K w.params).In h)
    (F : ∀ (w : World) (mg : Str → Option Value) (fa : Addr) (h : Heap), (K w.params).In h → h.Ns mainGlobals mg → mg d.name = some (.ref fa) →
      ∃ fd : FuncData, (∀ (s : Shared) (u : Value), BindsTo s fd ⟨[u], []⟩ [(x, u)]) ∧
        ∀ base : Heap, (K w.params).In base → base.Ns mainGlobals mg → FnOk l.prog w (K w.params) mg base (CX w) k fa fd [x] (sp w))
    (hsp : ∀ (w : World) (H : Hp) (a : Addr) (ns : List Int), ns.length ≤ n → Only H → SqL (K w.params) H a (ns.map V.int) → sp w [.ref a] H (fun v _ => v = .bl true) fun _ _ _ => False)
    (hCX : ∀ (w : World) (H : Hp) (s : Shared) (e : Value) (s' : Shared), CX w [] H s (fun _ _ _ => False) e s' → False) :
    PySem.W.WalkO q loose XP YP l.row.toRowW d [] (fun f vs => PySem.call f vs) := by
  refine Att.attach_call hn hdf fun w s₀ s₁ mg mb fa o pm cd doc a vs ns G Y ho hd hcd hmg hobj hints hlen hg => ?_
  have KX := hY w _ Y
  obtain ⟨fd, hb, hF⟩ := F w mg fa _ KX G.T.g hmg
  exact law_call KX G.T.g G.T.b G.T.builtins G.T.nolimit hg hobj hints (Nat.le_trans hlen hn2) hr hF hb (fun H hO hS => hsp w H a ns hlen hO hS) fun H e s' => hCX w H s₁ e s'
end L2

/- THE LAST THEOREM (shape; LID, My.* are yours):
   My.Adr: a structure of the addresses that your layer names (classes, functions); My.Txt K t: a structure (Prop) of the equations over K;
   My.txt_mk : {K} {implicit addresses ..} (e1 : nsIn K mainGlobals "law" = some (some (.ref f))) (e2 : K.lookup f = some ⟨oc, od, .func (fnOf "law" "law" params body scope dV kV doc pm an cdv ct), sl⟩) (e3 : codeIn K cdv "law" = true) .. : ∃ t, My.Txt K t

theorem PySem.Challenge.cw_LID_holds : PySem.Challenge.rw_LID.Holds := by
  w_on; o_law; k_head; (case hw => w_witness2)
  k_fill
  refine L2.walk_of (l := PySem.Challenge.rw_LID) (n := 63) (k := 40) (x := "script") (CX := fun w => ..) (sp := fun _ => My.sp_law) rfl (by decide) rfl ⟨rfl, by decide, by decide⟩ (fun w h Y => PySem.W.kIn_of Y) ?F ?S ?C
  case F =>
    intro w mg fa h KX G hmg
    have T : ∃ t, My.Txt (L2.KOf KX) t := by
      dsimp only [L2.KOf]                          -- K must stand as «<heap const> w.params» for k_is
      refine' My.txt_mk ?e1 ?e2 ?e3 ..
      (case e1 => PySem.W.k_is)                    -- in the order: a name -> its address -> its object -> its parts
      (case e2 => PySem.W.k_is)
      ..
    obtain ⟨t, T⟩ := T
    have e0 := hmg.symm.trans (PySem.W.mg_of KX G T.law)
    cases e0                                       -- fa is the law's own address
    exact ⟨_, fun s u => .of_eq rfl, fun base kb nb => My.law_fn T kb nb⟩     -- if «.of_eq rfl» comes too early: refine' ⟨_, ?b, fun base kb nb => My.law_fn T kb nb⟩; exact fun s u => .of_eq rfl
  case S => exact fun w H a ns hl hO hS => ..
  case C => exact ..
(the tactic k_is has no namespace: write k_is) -/

namespace L2
open PySem PySem.Spec PyProof.Rows

def defArgs (s : Stmt) : Arguments := match s with
  | .FunctionDef _ a _ _ _ _ _ _ _ _ => a
  | _ => { posonlyargs := [], args := [], vararg := none, kwonlyargs := [], kw_defaults := [], kwarg := none, defaults := [] }
def defBody (s : Stmt) : List Stmt := match s with
  | .FunctionDef _ _ b _ _ _ _ _ _ _ => b
  | _ => []
def defScope (s : Stmt) : Scope := match s with
  | .FunctionDef _ _ _ _ _ _ sc _ _ _ => sc
  | _ => { kind := .function, names := [], isGenerator := false, isCoroutine := false }

abbrev CX0 : CXT := fun _ _ _ _ _ _ => False
abbrev E0 : XK := fun _ _ _ => False
theorem pass0 {X : Cx} : Passes CX0 X E0 := fun _ _ _ _ _ _ _ h => h.elim

structure Fun (K : PySem.W.Frag) (x qual : Str) (st : Stmt) (f : Addr) (fd : FuncData) : Prop where
  ex : ∃ (oc : Value) (od : Option Addr) (kV doc pm : Value) (an : Option Addr) (cdv ct : Value) (osl : Array (Option Value)),
    fd = PySem.W.fnOf x qual (defArgs st) (defBody st) (defScope st) .none kV doc pm an cdv ct ∧ K.lookup f = some ⟨oc, od, .func fd, osl⟩ ∧ PySem.W.codeIn K cdv qual = true
  kp : PySem.W.keepIn K (.ref f) = true
section
variable {P : Program} {w : World} {K : PySem.W.Frag} {mg : Str → Option Value} {base : Heap}
theorem Fun.ok {x qual : Str} {st : Stmt} {f : Addr} {fd : FuncData} {N ps : List Str} {k : Nat} {sp : Sp} (F : Fun K x qual st f fd) (S : FnScope N ps (defScope st)) (len : ∀ vs H Q E, sp vs H Q E → vs.length = ps.length)
    (hbody : ∀ (cdv : Value) (A : Around) (outer : List Env) (s : Shared) (H : Hp) (vs : List V) (Q : VK) (E : XK), Room k (A.deeper (envOfC qual (defScope st) s.heap.objs.size f cdv)) → sp vs H Q E →
      ∃ t, PSs (cxOf CX0 P w K mg base N qual (defScope st) f cdv A outer s H E).nox (defBody st) t ∧ t { nx := fun _ H' => Q .non H', rt := Q } (start N vs) H) : FnOk P w K mg base CX0 (k + 1) f fd ps sp := by
  obtain ⟨oc, od, kV, doc, pm, an, cdv, ct, osl, rfl, lk, hcd⟩ := F.ex
  refine fn_of lk hcd S len fun A outer s H vs Q E hr hsp => ?_
  obtain ⟨t, h, q⟩ := hbody cdv A outer s H vs Q E hr hsp
  exact ⟨t, h.nox, q⟩
theorem Fun.binds {x qual : Str} {st : Stmt} {f : Addr} {fd : FuncData} {ps : List Str} (F : Fun K x qual st f fd)
    (h : ∀ (kV doc pm : Value) (an : Option Addr) (cdv ct : Value) (us : List Value), us.length = ps.length → bindArgs (PySem.W.fnOf x qual (defArgs st) (defBody st) (defScope st) .none kV doc pm an cdv ct) ⟨us, []⟩ = pure (ps.zip us)) : Binds K fd ps [] := by
  obtain ⟨oc, od, kV, doc, pm, an, cdv, ct, osl, rfl, lk, hcd⟩ := F.ex
  exact .all (h kV doc pm an cdv ct)
theorem fun_mk {x qual : Str} {st : Stmt} {f : Addr} {oc : Value} {od an : Option Addr} {osl : Array (Option Value)} {kV doc pm cdv ct : Value} (l : K.lookup f = some ⟨oc, od, .func (PySem.W.fnOf x qual (defArgs st) (defBody st) (defScope st) .none kV doc pm an cdv ct), osl⟩)
    (c : PySem.W.codeIn K cdv qual = true) (k : PySem.W.keepIn K (.ref f) = true) : Fun K x qual st f (PySem.W.fnOf x qual (defArgs st) (defBody st) (defScope st) .none kV doc pm an cdv ct) := ⟨⟨oc, od, kV, doc, pm, an, cdv, ct, osl, rfl, l, c⟩, k⟩
end
section
variable {X : Cx}
theorem pv (i : Nat) {x : Str} {pos : Pos} (hN : X.N[i]? = some x := by rfl) (hv : Vis X.env.scope x := by first | exact Or.inl rfl | exact Or.inr (Or.inl rfl) | exact Or.inr (Or.inr rfl)) (hd : (x == ("__debug__" : Str)) = false := by decide)
    (hcd : (x == ("__classdict__" : Str)) = false := by decide) : PE X (.Name x pos) (tVar i) := pe_var hN hv hd hcd
end

def Same (H H' : Hp) : Prop := ∀ b o, H b = some o → H' b = some o
theorem Same.refl (H : Hp) : Same H H := fun _ _ h => h
theorem Same.trans {H H1 H2 : Hp} (a : Same H H1) (b : Same H1 H2) : Same H H2 := fun c o h => b c o (a c o h)
end L2
namespace DL
open PySem PySem.Spec PyProof.Rows L2

abbrev D := PyData
abbrev St := L2.St
structure XD where
  cls : Str
  flds : List (Str × D)
abbrev M (α : Type) := Option (Except XD α)
def M.ret {α : Type} (a : α) : M α := some (.ok a)
def M.thn {α β : Type} (r : M α) (f : α → M β) : M β := match r with
  | none => none
  | some (.ok a) => f a
  | some (.error x) => some (.error x)
def M.lift {α : Type} (r : Option α) : M α := match r with
  | none => none
  | some a => some (.ok a)
def ok {α : Type} (G : XD → Prop) (r : M α) (k : α → Prop) : Prop := match r with
  | none => False
  | some (.ok a) => k a
  | some (.error x) => G x
def GS (G : XD → Hp → Prop) (Hr : Hp) (x : XD) : Prop := ∀ H', Same Hr H' → G x H'
theorem ok_mono {α : Type} {G : XD → Prop} {r : M α} {k k' : α → Prop} (h : ok G r k) (f : ∀ a, k a → k' a) : ok G r k' := by
  match r, h with
  | some (.ok a), h => exact f a h
  | some (.error x), h => exact h
theorem ok_thn {α β : Type} {G : XD → Prop} {r : M α} {f : α → M β} {k : β → Prop} (h : ok G (r.thn f) k) : ok G r (fun a => ok G (f a) k) := by
  match r, h with
  | some (.ok a), h => exact h
  | some (.error x), h => exact h
theorem ok_lift {α : Type} {G : XD → Prop} {r : Option α} {k : α → Prop} (h : ok G (M.lift r) k) : ∃ a, r = some a ∧ k a := by
  match r, h with
  | some a, h => exact ⟨a, rfl, h⟩
theorem thn_ret {α β : Type} (a : α) (f : α → M β) : (M.ret a).thn f = f a := rfl
theorem thn_some {α β : Type} (a : α) (f : α → M β) : M.thn (some (.ok a)) f = f a := rfl
theorem lift_some {α : Type} (a : α) : M.lift (some a) = M.ret a := rfl

def KL (K : PySem.W.Frag) (a : Addr) (xs : List V) : Prop :=
  ∃ (o : Obj) (its : Array Value) (n : Nat), K.lookup a = some o ∧ o.cls = .type "list" ∧ o.dict = none ∧ o.data = .seq its n ∧ its.size ≤ sizeLine ∧ Vals xs its.toList
def keyD : Key → D
  | .inl i => .int i
  | .inr x => .str x
abbrev insD (nm : Str) (es : List (Str × D)) : D := .dict [(.none, .tuple (.str nm :: es.map fun e => .tuple [.str e.1, e.2]))]
def Mu (H : Hp) (l : Addr) : Prop := (∃ xs, H l = some (.lst xs)) ∨ (∃ kvs, H l = some (.dK kvs)) ∨ ∃ C dx fs, H l = some (.ins C dx fs)
mutual
inductive Rep (K : PySem.W.Frag) (O : List Addr) (H : Hp) : V → D → Prop
  | non : Rep K O H .non .none
  | bl (b : Bool) : Rep K O H (.bl b) (.bool b)
  | int (i : Int) : Rep K O H (.int i) (.int i)
  | str (x : Str) : Rep K O H (.str x) (.str x)
  | tup {a : Addr} {xs : List V} {ds : List D} (h : SqT K H a xs) (r : Reps K O H xs ds) : Rep K O H (.ref a) (.tuple ds)
  | lst {a : Addr} {xs : List V} {ds : List D} (h : Rd H a (.lst xs)) (n : a ∉ O) (r : Reps K O H xs ds) : Rep K O H (.ref a) (.list ds)
  | lstK {a : Addr} {xs : List V} {ds : List D} (h : KL K a xs) (r : Reps K O H xs ds) : Rep K O H (.ref a) (.list ds)
  | dct {a : Addr} {kvs : List (Key × V)} {es : List (Key × D)} (h : Rd H a (.dK kvs)) (n : a ∉ O) (hk : kvs.map (·.1) = es.map (·.1)) (r : Reps K O H (kvs.map (·.2)) (es.map (·.2))) : Rep K O H (.ref a) (.dict (es.map fun e => (keyD e.1, e.2)))
  /-- an instance of a class of the text -/
  | ins {a C dx : Addr} {nm : Str} {fs : List (Str × V)} {es : List (Str × D)} (hN : PySem.W.nsIn K mainGlobals nm = some (some (.ref C))) (h : H a = some (.ins C dx fs)) (n : a ∉ O) (hk : fs.map (·.1) = es.map (·.1)) (r : Reps K O H (fs.map (·.2)) (es.map (·.2))) : Rep K O H (.ref a) (insD nm es)
inductive Reps (K : PySem.W.Frag) (O : List Addr) (H : Hp) : List V → List D → Prop
  | nil : Reps K O H [] []
  | cons {v : V} {d : D} {vs : List V} {ds : List D} (r : Rep K O H v d) (rs : Reps K O H vs ds) : Reps K O H (v :: vs) (d :: ds)
end

structure To (O O' : List Addr) (H H' : Hp) : Prop where
  t : ∀ b xs, Rd H b (.tup xs) → Rd H' b (.tup xs)
  l : ∀ b xs, b ∉ O → Rd H b (.lst xs) → b ∉ O' ∧ Rd H' b (.lst xs)
  d : ∀ b xs, b ∉ O → Rd H b (.dK xs) → b ∉ O' ∧ Rd H' b (.dK xs)
  i : ∀ b C dx fs, b ∉ O → H b = some (.ins C dx fs) → b ∉ O' ∧ H' b = some (.ins C dx fs)
section
variable {K : PySem.W.Frag} {O O' : List Addr} {H H' : Hp}
theorem To.sqT (k : To O O' H H') {a : Addr} {xs : List V} (h : SqT K H a xs) : SqT K H' a xs := by
  rcases h with h | h
  · exact .inl (k.t a xs h)
  · exact .inr h
mutual
theorem Rep.to (k : To O O' H H') : ∀ {v : V} {d : D}, Rep K O H v d → Rep K O' H' v d
  | _, _, .non => .non
  | _, _, .bl b => .bl b
  | _, _, .int i => .int i
  | _, _, .str x => .str x
  | _, _, .tup h r => .tup (k.sqT h) (Reps.to k r)
  | _, _, .lst h n r => .lst (k.l _ _ n h).2 (k.l _ _ n h).1 (Reps.to k r)
  | _, _, .lstK h r => .lstK h (Reps.to k r)
  | _, _, .dct h n hk r => .dct (k.d _ _ n h).2 (k.d _ _ n h).1 hk (Reps.to k r)
  | _, _, .ins hN h n hk r => .ins hN (k.i _ _ _ _ n h).2 (k.i _ _ _ _ n h).1 hk (Reps.to k r)
theorem Reps.to (k : To O O' H H') : ∀ {vs : List V} {ds : List D}, Reps K O H vs ds → Reps K O' H' vs ds
  | _, _, .nil => .nil
  | _, _, .cons r rs => .cons (Rep.to k r) (Reps.to k rs)
end
theorem Same.rd (s : Same H H') {b : Addr} {o : HO} (h : Rd H b o) : Rd H' b o := by
  rcases h with h | ⟨u, h⟩
  · exact .inl (s _ _ h)
  · exact .inr ⟨u, s _ _ h⟩
theorem To.same (s : Same H H') : To O O H H' := ⟨fun b xs h => Same.rd s h, fun b xs n h => ⟨n, Same.rd s h⟩, fun b xs n h => ⟨n, Same.rd s h⟩, fun b C dx fs n h => ⟨n, s _ _ h⟩⟩
theorem To.less (s : ∀ b, b ∈ O' → b ∈ O) : To O O' H H := ⟨fun b xs h => h, fun b xs n h => ⟨fun z => n (s b z), h⟩, fun b xs n h => ⟨fun z => n (s b z), h⟩, fun b C dx fs n h => ⟨fun z => n (s b z), h⟩⟩
theorem Rep.same (s : Same H H') {v : V} {d : D} (r : Rep K O H v d) : Rep K O H' v d := r.to (.same s)
theorem Reps.same (s : Same H H') {v : List V} {d : List D} (r : Reps K O H v d) : Reps K O H' v d := r.to (.same s)
theorem Rd.ne_new {b l : Addr} {o : HO} (h : Rd H b o) (hl : H l = none) : b ≠ l := by
  rcases h with h | ⟨u, h⟩
  · exact ne_of_none h hl
  · exact ne_of_none h hl
theorem same_new {l : Addr} {o : HO} (hl : H l = none) : Same H (upd H l o) := fun b u e => by
  rw [upd_ne (ne_of_none e hl)]
  exact e
theorem To.own {l : Addr} {o : HO} (hl : H l = none) : To O (l :: O) H (upd H l o) :=
  ⟨fun b xs h => Same.rd (same_new hl) h, fun b xs n h => ⟨fun z => by
    rcases List.mem_cons.mp z with z | z
    · exact Rd.ne_new h hl z
    · exact n z, Same.rd (same_new hl) h⟩, fun b xs n h => ⟨fun z => by
    rcases List.mem_cons.mp z with z | z
    · exact Rd.ne_new h hl z
    · exact n z, Same.rd (same_new hl) h⟩, fun b C dx fs n h => ⟨fun z => by
    rcases List.mem_cons.mp z with z | z
    · exact ne_of_none h hl z
    · exact n z, same_new hl _ _ h⟩⟩
theorem To.set {l : Addr} {xs ys : List V} (hl : H l = some (.lst xs)) (ho : l ∈ O) : To O O H (upd H l (.lst ys)) := by
  have keep : ∀ {b : Addr} {o : HO}, b ≠ l → Rd H b o → Rd (upd H l (.lst ys)) b o := fun {b o} hb h => by
    rcases h with h | ⟨u, h⟩
    · exact .inl (by rw [upd_ne hb]; exact h)
    · exact .inr ⟨u, by rw [upd_ne hb]; exact h⟩
  refine ⟨fun b zs h => keep ?_ h, fun b zs n h => ⟨n, keep (fun z => n (z ▸ ho)) h⟩, fun b zs n h => ⟨n, keep (fun z => n (z ▸ ho)) h⟩, fun b C dx fs n h => ⟨n, by rw [upd_ne (show b ≠ l from fun z => n (z ▸ ho))]; exact h⟩⟩
  rintro rfl
  rcases h with h | ⟨u, h⟩
  · rw [hl] at h; cases h
  · rw [hl] at h; cases h
theorem Rep.int_inv {v : V} {i : Int} (r : Rep K O H v (.int i)) : v = .int i := by cases r; rfl
theorem Rep.bool_inv {v : V} {i : Bool} (r : Rep K O H v (.bool i)) : v = .bl i := by cases r; rfl
theorem Rep.str_inv {v : V} {i : Str} (r : Rep K O H v (.str i)) : v = .str i := by cases r; rfl
theorem Rep.tup_inv {v : V} {ds : List D} (r : Rep K O H v (.tuple ds)) : ∃ a xs, v = .ref a ∧ SqT K H a xs ∧ Reps K O H xs ds := by
  cases r with
  | tup h r => exact ⟨_, _, rfl, h, r⟩
theorem Rep.lst_inv {v : V} {ds : List D} (r : Rep K O H v (.list ds)) : ∃ a xs, v = .ref a ∧ SqL K H a xs ∧ Reps K O H xs ds := by
  cases r with
  | lst h n r => exact ⟨_, _, rfl, .inl h, r⟩
  | lstK h r => exact ⟨_, _, rfl, .inr h, r⟩
def noIns : D → Bool
  | .dict [(.none, _)] => false
  | _ => true
theorem Reps.length : ∀ {vs : List V} {ds : List D}, Reps K O H vs ds → vs.length = ds.length
  | _, _, .nil => rfl
  | _, _, .cons _ rs => congrArg (· + 1) (Reps.length rs)
theorem Reps.get : ∀ {vs : List V} {ds : List D} {i : Nat} {d : D}, Reps K O H vs ds → ds[i]? = some d → ∃ v, vs[i]? = some v ∧ Rep K O H v d
  | _, _, _, _, .nil, e => by simp at e
  | _, _, 0, _, .cons r _, e => by simp at e; subst e; exact ⟨_, rfl, r⟩
  | _, _, i + 1, d, .cons _ rs, e => by
    obtain ⟨u, h1, h2⟩ := Reps.get (i := i) (d := d) rs (by simpa using e)
    exact ⟨u, by simpa using h1, h2⟩
theorem Reps.append : ∀ {xs ys : List V} {ds es : List D}, Reps K O H xs ds → Reps K O H ys es → Reps K O H (xs ++ ys) (ds ++ es)
  | _, _, _, _, .nil, s => s
  | _, _, _, _, .cons r t, s => .cons r (Reps.append t s)
theorem Reps.take : ∀ {xs : List V} {ds : List D} (n : Nat), Reps K O H xs ds → Reps K O H (xs.take n) (ds.take n)
  | _, _, 0, _ => .nil
  | _, _, _ + 1, .nil => .nil
  | _, _, n + 1, .cons r t => .cons r (Reps.take n t)
theorem Reps.drop : ∀ {xs : List V} {ds : List D} (n : Nat), Reps K O H xs ds → Reps K O H (xs.drop n) (ds.drop n)
  | _, _, 0, r => r
  | _, _, _ + 1, .nil => .nil
  | _, _, n + 1, .cons _ t => Reps.drop n t
theorem Reps.ints (ns : List Int) : Reps K O H (ns.map V.int) (ns.map PyData.int) := by
  induction ns with
  | nil => exact .nil
  | cons n ns ih => exact .cons (.int n) ih
theorem Reps.atI {vs : List V} {ds : List D} {i : Int} {d : D} (r : Reps K O H vs ds) (h : L2.atI ds i = some d) : ∃ v, L2.atI vs i = some v ∧ Rep K O H v d := by
  unfold L2.atI at h ⊢
  rw [r.length]
  cases e : ixN ds.length i with
  | none => rw [e] at h; cases h
  | some j =>
    rw [e] at h
    exact r.get h
end

inductive Sl where
  | un
  | vl (d : D)
  | ow (ds : List D)
  /-- a dict of one's own -/
  | od (es : List (Key × D))
  /-- an exception that is held -/
  | ex (a : Addr)
abbrev DS := List Sl
def SlOk (K : PySem.W.Frag) (O : List Addr) (H : Hp) (o : Option (Option V)) : Sl → Prop
  | .un => True
  | .vl d => ∃ v, o = some (some v) ∧ Rep K O H v d
  | .ow ds => ∃ l xs, o = some (some (.ref l)) ∧ l ∈ O ∧ H l = some (.lst xs) ∧ Reps K O H xs ds
  | .od es => ∃ l kvs, o = some (some (.ref l)) ∧ l ∈ O ∧ H l = some (.dK kvs) ∧ kvs.map (·.1) = es.map (·.1) ∧ Reps K O H (kvs.map (·.2)) (es.map (·.2))
  | .ex a => o = some (some (.ref a))
def Sl.own : Sl → Prop
  | .ow _ => True
  | .od _ => True
  | _ => False
theorem Mu.same {H H' : Hp} {l : Addr} (s : Same H H') (h : Mu H l) : Mu H' l := by
  rcases h with ⟨xs, h⟩ | ⟨xs, h⟩ | ⟨C, dx, fs, h⟩
  · exact .inl ⟨xs, s _ _ h⟩
  · exact .inr (.inl ⟨xs, s _ _ h⟩)
  · exact .inr (.inr ⟨C, dx, fs, s _ _ h⟩)
theorem Mu.upd_ne {H : Hp} {a l : Addr} {o : HO} (n : a ≠ l) (h : Mu H a) : Mu (upd H l o) a := by
  rcases h with ⟨xs, h⟩ | ⟨xs, h⟩ | ⟨C, dx, fs, h⟩
  · exact .inl ⟨xs, by rw [L2.upd_ne n]; exact h⟩
  · exact .inr (.inl ⟨xs, by rw [L2.upd_ne n]; exact h⟩)
  · exact .inr (.inr ⟨C, dx, fs, by rw [L2.upd_ne n]; exact h⟩)
theorem Mu.new {H : Hp} {a l : Addr} {o : HO} (hl : H l = none) (h : Mu H a) : Mu (upd H l o) a := h.same (same_new hl)
theorem Mu.lst {H : Hp} {l : Addr} {xs : List V} (h : H l = some (.lst xs)) : Mu H l := .inl ⟨xs, h⟩
theorem Mu.some {H : Hp} {l : Addr} (h : Mu H l) : ∃ o, H l = some o := by
  rcases h with ⟨xs, h⟩ | ⟨xs, h⟩ | ⟨C, dx, fs, h⟩
  · exact ⟨_, h⟩
  · exact ⟨_, h⟩
  · exact ⟨_, h⟩
structure Ev (K : PySem.W.Frag) (Hr : Hp) (O : List Addr) (H : Hp) (σ : St) (δ : DS) : Prop where
  root : Same Hr H
  oo : ∀ l ∈ O, Mu H l
  len : σ.length = δ.length
  at_ : ∀ (i : Nat) (s : Sl), δ[i]? = some s → SlOk K O H σ[i]? s
  dis : ∀ (i j : Nat) (l : Addr) (ds es : List D), i ≠ j → δ[i]? = some (.ow ds) → δ[j]? = some (.ow es) → σ[i]? = some (some (.ref l)) → σ[j]? ≠ some (some (.ref l))
section
variable {K : PySem.W.Frag} {Hr : Hp} {O : List Addr} {H H' : Hp} {σ : St} {δ : DS}
theorem Ev.same (s : Same H H') (e : Ev K Hr O H σ δ) : Ev K Hr O H' σ δ := by
  refine ⟨e.root.trans s, fun l hl => (e.oo l hl).same s, e.len, fun i sl h => ?_, e.dis⟩
  have q := e.at_ i sl h
  cases sl with
  | un => trivial
  | ex a => exact q
  | vl d =>
    obtain ⟨v, h1, r⟩ := q
    exact ⟨v, h1, r.same s⟩
  | ow ds =>
    obtain ⟨l, xs, h1, h2, h3, r⟩ := q
    exact ⟨l, xs, h1, h2, s _ _ h3, r.same s⟩
  | od es =>
    obtain ⟨l, kvs, h1, h2, h3, hk, r⟩ := q
    exact ⟨l, kvs, h1, h2, s _ _ h3, hk, r.same s⟩
theorem Ev.val {i : Nat} {d : D} (e : Ev K Hr O H σ δ) (h : δ[i]? = some (.vl d)) : ∃ v, σ[i]? = some (some v) ∧ Rep K O H v d := e.at_ i _ h
theorem get_set {α : Type} {l : List α} {i j : Nat} {a : α} : (l.set i a)[j]? = if i = j then (if i < l.length then some a else none) else l[j]? := by
  rw [List.getElem?_set]
theorem Ev.set {i : Nat} {v : V} {d : D} (e : Ev K Hr O H σ δ) (r : Rep K O H v d) : Ev K Hr O H (σ.set i (some v)) (δ.set i (.vl d)) := by
  refine ⟨e.root, e.oo, by rw [List.length_set, List.length_set]; exact e.len, fun j sl h => ?_, fun j k l ds es hjk h1 h2 h3 h4 => ?_⟩
  · rw [get_set] at h ⊢
    by_cases hij : i = j
    · rw [if_pos hij] at h ⊢
      by_cases hl : i < δ.length
      · rw [if_pos hl] at h
        rw [if_pos (by rw [e.len]; exact hl)]
        cases h
        exact ⟨v, rfl, r⟩
      · rw [if_neg hl] at h; cases h
    · rw [if_neg hij] at h ⊢
      exact e.at_ j sl h
  · rw [get_set] at h1 h2 h3 h4
    by_cases hij : i = j
    · rw [if_pos hij] at h1
      split at h1 <;> cases h1
    · by_cases hik : i = k
      · rw [if_pos hik] at h2
        split at h2 <;> cases h2
      · rw [if_neg hij] at h1 h3
        rw [if_neg hik] at h2 h4
        exact e.dis j k l ds es hjk h1 h2 h3 h4
end
end DL
namespace DL
open PySem PySem.Spec PyProof.Rows L2

def PD (X : Cx) (G : XD → Hp → Prop) (e : Expr) (f : DS → M D) : Prop :=
  ∃ t, PE X e t ∧ ∀ {Hr : Hp} (δ : DS) (O : List Addr) (σ : St) (H : Hp) (Q : VK), Ev X.K Hr O H σ δ → ok (GS G Hr) (f δ) (fun d => ∀ v H', Same H H' → Rep X.K O H' v d → Q v H') → t σ H Q
def PDT (X : Cx) (G : XD → Hp → Prop) (e : Expr) (f : DS → M Bool) : Prop :=
  ∃ t, PT X e t ∧ ∀ {Hr : Hp} (δ : DS) (O : List Addr) (σ : St) (H : Hp) (Q : Bool → Hp → Prop), Ev X.K Hr O H σ δ → ok (GS G Hr) (f δ) (fun b => ∀ H', Same H H' → Q b H') → t σ H Q
def PDW (X : Cx) (G : XD → Hp → Prop) (e : Expr) (f : DS → M Bool) : Prop :=
  ∃ t, PW X e t ∧ ∀ {Hr : Hp} (δ : DS) (O : List Addr) (σ : St) (H : Hp) (Q : Bool → Hp → Prop), Ev X.K Hr O H σ δ → ok (GS G Hr) (f δ) (fun b => ∀ H', Same H H' → Q b H') → t σ H Q
def PDA (X : Cx) (G : XD → Hp → Prop) (es : List Expr) (f : DS → M (List D)) : Prop :=
  (∀ δ ds, f δ = some (.ok ds) → ds.length = es.length) ∧ ∃ t, PA X es t ∧ ∀ {Hr : Hp} (δ : DS) (O : List Addr) (σ : St) (H : Hp) (Q : List V → Hp → Prop), Ev X.K Hr O H σ δ → ok (GS G Hr) (f δ) (fun ds => ∀ vs H', Same H H' → Reps X.K O H' vs ds → Q vs H') → t σ H Q

section
variable {X : Cx} {G : XD → Hp → Prop} {a b c e : Expr} {es rest : List Expr} {f g h : DS → M D} {fb gb : DS → M Bool} {fa : DS → M (List D)} {pos : Pos}

def dVar (i : Nat) : DS → M D := fun δ => match δ[i]? with
  | some (.vl d) => M.ret d
  | _ => none
theorem pd_var {i : Nat} (h : PE X e (tVar i)) : PD X G e (dVar i) := by
  refine ⟨_, h, fun δ O σ H Q E k => ?_⟩
  unfold dVar at k
  split at k
  · rename_i d hd
    obtain ⟨v, e1, r⟩ := E.val hd
    exact ⟨v, e1, k v H (Same.refl H) r⟩
  · exact k.elim
def dC (d : D) : DS → M D := fun _ => M.ret d
theorem pd_int {i j pos} : PD X G (.Constant (.int i) j pos) (dC (.int i)) := ⟨_, pe_int, fun _ _ _ H Q _ k => k _ H (Same.refl H) (.int i)⟩
theorem pd_bl {i j pos} : PD X G (.Constant (.bool i) j pos) (dC (.bool i)) := ⟨_, pe_bl, fun _ _ _ H Q _ k => k _ H (Same.refl H) (.bl i)⟩
theorem pd_non {j pos} : PD X G (.Constant .none j pos) (dC .none) := ⟨_, pe_non, fun _ _ _ H Q _ k => k _ H (Same.refl H) .non⟩
theorem pd_str {x j pos} : PD X G (.Constant (.str x) j pos) (dC (.str x)) := ⟨_, pe_str, fun _ _ _ H Q _ k => k _ H (Same.refl H) (.str x)⟩

def DOp (X : Cx) (sem : Value → Value → Sem Value) (h : D → D → Option D) : Prop :=
  ∃ r : R2, OpR X sem r ∧ ∀ (O : List Addr) (H : Hp) (x y d : D) (v u : V) (Q : VK), (∀ l ∈ O, Mu H l) → Rep X.K O H v x → Rep X.K O H u y → h x y = some d → (∀ v' H', Same H H' → Rep X.K O H' v' d → Q v' H') → r v u H Q
def d2 (h : D → D → Option D) (f g : DS → M D) : DS → M D := fun δ => (f δ).thn fun x => (g δ).thn fun y => M.lift (h x y)
theorem pd_two {r : R2} {h : D → D → Option D} {ta tb : TE}
    (ho : ∀ (O : List Addr) (H : Hp) (x y d : D) (v u : V) (Q : VK), (∀ l ∈ O, Mu H l) → Rep X.K O H v x → Rep X.K O H u y → h x y = some d → (∀ v' H', Same H H' → Rep X.K O H' v' d → Q v' H') → r v u H Q)
    (ha : ∀ {Hr : Hp} (δ : DS) (O : List Addr) (σ : St) (H : Hp) (Q : VK), Ev X.K Hr O H σ δ → ok (GS G Hr) (f δ) (fun d => ∀ v H', Same H H' → Rep X.K O H' v d → Q v H') → ta σ H Q)
    (hb : ∀ {Hr : Hp} (δ : DS) (O : List Addr) (σ : St) (H : Hp) (Q : VK), Ev X.K Hr O H σ δ → ok (GS G Hr) (g δ) (fun d => ∀ v H', Same H H' → Rep X.K O H' v d → Q v H') → tb σ H Q)
    {Hr : Hp} (δ : DS) (O : List Addr) (σ : St) (H : Hp) (Q : VK) (E : Ev X.K Hr O H σ δ) (k : ok (GS G Hr) (d2 h f g δ) (fun d => ∀ v H', Same H H' → Rep X.K O H' v d → Q v H')) : tOp r ta tb σ H Q := by
  refine ha δ O σ H _ E (ok_mono (ok_thn k) fun x kx v H1 s1 rx => ?_)
  refine hb δ O σ H1 _ (E.same s1) (ok_mono (ok_thn kx) fun y ky u H2 s2 ry => ?_)
  obtain ⟨d, hd, kd⟩ := ok_lift ky
  exact ho O H2 x y d v u Q (E.same (s1.trans s2)).oo (rx.same s2) ry hd fun v' H3 s3 r3 => kd v' H3 ((s1.trans s2).trans s3) r3
theorem pd_op {op : Operator} {h : D → D → Option D} (ho : DOp X (binaryOp op) h) (ha : PD X G a f) (hb : PD X G b g) : PD X G (.BinOp a op b pos) (d2 h f g) := by
  obtain ⟨r, hr, ho⟩ := ho
  obtain ⟨ta, pa, ha⟩ := ha
  obtain ⟨tb, pb, hb⟩ := hb
  exact ⟨_, pe_op hr pa pb, pd_two ho ha hb⟩
theorem pd_cmp {op : CmpOp} {h : D → D → Option D} (ho : DOp X (compareOp op) h) (ha : PD X G a f) (hb : PD X G b g) (hm : behindInMarks op b = false) : PD X G (.Compare a [op] [b] pos) (d2 h f g) := by
  obtain ⟨r, hr, ho⟩ := ho
  obtain ⟨ta, pa, ha⟩ := ha
  obtain ⟨tb, pb, hb⟩ := hb
  exact ⟨_, pe_cmpR hr pa pb hm, pd_two ho ha hb⟩
def dB (f : DS → M D) : DS → M Bool := fun δ => (f δ).thn fun d => match d with
  | .bool b => M.ret b
  | _ => none
theorem ok_dB {Hr : Hp} {δ : DS} {k : Bool → Prop} (q : ok (GS G Hr) (dB f δ) k) : ok (GS G Hr) (f δ) (fun d => ∃ b, d = .bool b ∧ k b) := by
  refine ok_mono (ok_thn q) fun d z => ?_
  cases d with
  | bool b => exact ⟨b, rfl, z⟩
  | _ => exact z.elim
theorem pdt_cmp {op : CmpOp} {h : D → D → Option D} (ho : DOp X (compareOp op) h) (ha : PD X G a f) (hb : PD X G b g) (hm : behindInMarks op b = false) : PDT X G (.Compare a [op] [b] pos) (dB (d2 h f g)) := by
  obtain ⟨r, hr, ho⟩ := ho
  obtain ⟨ta, pa, ha⟩ := ha
  obtain ⟨tb, pb, hb⟩ := hb
  refine ⟨_, pt_cmpR hr pa pb hm, fun δ O σ H Q E k => ?_⟩
  refine pd_two ho ha hb δ O σ H _ E (ok_mono (ok_dB k) fun d z v H' s r => ?_)
  obtain ⟨b, rfl, z⟩ := z
  exact ⟨b, r.bool_inv, z H' s⟩
theorem pdt_val (he : PD X G e f) (h1 : ∀ whole, isTrue e X.env whole = (do let v ← whole; standAt e.pos; holding [v] (truthy v)) := by intro _; rfl) : PDT X G e (dB f) := by
  obtain ⟨t, p, he⟩ := he
  refine ⟨_, pt_val p h1, fun δ O σ H Q E k => ?_⟩
  refine he δ O σ H _ E (ok_mono (ok_dB k) fun d z v H' s r => ?_)
  obtain ⟨b, rfl, z⟩ := z
  exact ⟨b, r.bool_inv, z H' s⟩

def dOr (fb gb : DS → M Bool) : DS → M Bool := fun δ => (fb δ).thn fun c => if c = true then M.ret true else gb δ
def dNot (fb : DS → M Bool) : DS → M Bool := fun δ => (fb δ).thn fun c => M.ret (!c)
theorem pdw_or1 (ha : PDT X G a fb) : PDW X G (.BoolOp .Or [a] pos) fb := by
  obtain ⟨t, p, ha⟩ := ha
  exact ⟨_, pw_or1 p, ha⟩
theorem pdw_or (ha : PDT X G a fb) (hb : PDW X G (.BoolOp .Or (b :: rest) pos) gb) : PDW X G (.BoolOp .Or (a :: b :: rest) pos) (dOr fb gb) := by
  obtain ⟨t, p, ha⟩ := ha
  obtain ⟨u, q, hb⟩ := hb
  refine ⟨_, pw_or p q, fun δ O σ H Q E k => ?_⟩
  refine ha δ O σ H _ E (ok_mono (ok_thn k) fun c z H1 s1 => ?_)
  cases c with
  | true =>
    rw [if_pos rfl] at z ⊢
    exact z H1 s1
  | false =>
    rw [if_neg Bool.false_ne_true] at z ⊢
    exact hb δ O σ H1 Q (E.same s1) (ok_mono z fun b y H2 s2 => y H2 (s1.trans s2))
theorem PDW.t (h : PDW X G e fb) : PDT X G e fb := by
  obtain ⟨t, p, h⟩ := h
  exact ⟨_, p.pt, h⟩
theorem pdt_not (ha : PDT X G a fb) : PDT X G (.UnaryOp .Not a pos) (dNot fb) := by
  obtain ⟨t, p, ha⟩ := ha
  refine ⟨_, pt_not p, fun δ O σ H Q E k => ?_⟩
  exact ha δ O σ H _ E (ok_mono (ok_thn k) fun c z H1 s1 => z H1 s1)
def dAndV (f g : DS → M D) : DS → M D := fun δ => (dB f δ).thn fun c => if c = true then g δ else M.ret (.bool false)
def dNotV (f : DS → M D) : DS → M D := fun δ => (dB f δ).thn fun c => M.ret (.bool (!c))
theorem pd_one {op} (ha : PD X G a f) : PD X G (.BoolOp op [a] pos) f := by
  obtain ⟨t, p, ha⟩ := ha
  exact ⟨_, pe_one p, ha⟩
theorem pd_and (ha : PD X G a f) (hb : PD X G (.BoolOp .And (b :: rest) pos) g) : PD X G (.BoolOp .And (a :: b :: rest) pos) (dAndV f g) := by
  obtain ⟨t, p, ha⟩ := ha
  obtain ⟨u, q, hb⟩ := hb
  refine ⟨_, pe_and p q, fun δ O σ H Q E k => ?_⟩
  refine ha δ O σ H _ E (ok_mono (ok_dB (ok_thn k)) fun d z v H1 s1 r => ?_)
  obtain ⟨c, rfl, z⟩ := z
  refine ⟨c, r.bool_inv, ?_⟩
  cases c with
  | true =>
    rw [if_pos rfl] at z ⊢
    exact hb δ O σ H1 Q (E.same s1) (ok_mono z fun b y v H2 s2 => y v H2 (s1.trans s2))
  | false =>
    rw [if_neg Bool.false_ne_true] at z ⊢
    exact z _ H1 s1 (.bl false)
theorem pd_not (ha : PD X G a f) : PD X G (.UnaryOp .Not a pos) (dNotV f) := by
  obtain ⟨t, p, ha⟩ := ha
  refine ⟨_, pe_not p, fun δ O σ H Q E k => ?_⟩
  refine ha δ O σ H _ E (ok_mono (ok_dB (ok_thn k)) fun d z v H1 s1 r => ?_)
  obtain ⟨c, rfl, z⟩ := z
  exact ⟨c, r.bool_inv, z _ H1 s1 (.bl _)⟩
def dNil : DS → M (List D) := fun _ => M.ret []
def dCons (f : DS → M D) (g : DS → M (List D)) : DS → M (List D) := fun δ => (f δ).thn fun x => (g δ).thn fun xs => M.ret (x :: xs)
theorem pda_nil : PDA X G [] dNil := ⟨fun δ ds h => by cases h; rfl, _, pa_nil, fun _ _ _ H Q _ k => k [] H (Same.refl H) .nil⟩
theorem pda_cons (ha : PD X G e f) (hr : PDA X G es fa) (hs : starEach (e :: es) X.env = (false, eval e X.env) :: starEach es X.env := by rfl) : PDA X G (e :: es) (dCons f fa) := by
  obtain ⟨t, p, ha⟩ := ha
  obtain ⟨hl, u, q, hr⟩ := hr
  refine ⟨fun δ ds h => ?_, _, pa_cons p q hs, fun δ O σ H Q E k => ?_⟩
  · unfold dCons at h
    cases e1 : f δ with
    | none => rw [e1] at h; cases h
    | some r =>
      rw [e1] at h
      cases r with
      | error x => cases h
      | ok x =>
        cases e2 : fa δ with
        | none => rw [thn_some, e2] at h; cases h
        | some r2 =>
          rw [thn_some, e2] at h
          cases r2 with
          | error x => cases h
          | ok xs =>
            cases h
            rw [List.length_cons, List.length_cons, hl δ xs e2]
  · refine ha δ O σ H _ E (ok_mono (ok_thn k) fun d z v H1 s1 r => ?_)
    refine hr δ O σ H1 _ (E.same s1) (ok_mono (ok_thn z) fun ds y vs H2 s2 rs => ?_)
    exact y (v :: vs) H2 (s1.trans s2) (.cons (r.same s2) rs)
def small (n : Nat) : Bool := decide (n ≤ 16000000)
theorem small_le {n : Nat} (h : small n = true) : n ≤ sizeLine := by
  have := of_decide_eq_true h
  rw [sizeLine_eq]
  omega
def dTup (fa : DS → M (List D)) : DS → M D := fun δ => (fa δ).thn fun ds => if small ds.length then M.ret (.tuple ds) else none
def dLst (fa : DS → M (List D)) : DS → M D := fun δ => (fa δ).thn fun ds => if small ds.length then M.ret (.list ds) else none
theorem rep_newT {K : PySem.W.Frag} {O : List Addr} {H : Hp} {p : Addr} {vs : List V} {ds : List D} (hp : H p = none) (r : Reps K O H vs ds) : Rep K O (upd H p (.tup vs)) (.ref p) (.tuple ds) :=
  .tup (SqT.of upd_same) (r.same (same_new hp))
theorem pd_tup {x1} (h : PDA X G es fa) : PD X G (.Tuple es x1 pos) (dTup fa) := by
  obtain ⟨_, t, p, h⟩ := h
  refine ⟨_, pe_tup p, fun δ O σ H Q E k => ?_⟩
  refine h δ O σ H _ E (ok_mono (ok_thn k) fun ds z vs H1 s1 rs => ?_)
  by_cases hz : small ds.length = true
  · rw [if_pos hz] at z
    exact ⟨by rw [rs.length]; exact small_le hz, fun p hp => z _ _ (s1.trans (same_new hp)) (rep_newT hp rs)⟩
  · rw [if_neg hz] at z
    exact z.elim
end
end DL
namespace DL
open PySem PySem.Spec PyProof.Rows L2

section
variable {X : Cx} {G : XD → Hp → Prop} {a b c e : Expr} {es rest : List Expr} {f g h : DS → M D} {fb gb : DS → M Bool} {fa : DS → M (List D)} {pos : Pos}
def ii (h : Int → Int → Option D) : D → D → Option D
  | .int i, .int j => h i j
  | _, _ => none
theorem ii_some {h : Int → Int → Option D} {x y d : D} (e : ii h x y = some d) : ∃ i j, x = .int i ∧ y = .int j ∧ h i j = some d := by
  unfold ii at e
  split at e
  · exact ⟨_, _, rfl, rfl, e⟩
  · cases e
theorem dop_I0 {sem : Value → Value → Sem Value} {g : Int → Int → V} {gd : Int → Int → D} (h : OpR X sem (rI0 g)) (hg : ∀ O H i j, Rep X.K O H (g i j) (gd i j)) : DOp X sem (ii fun i j => some (gd i j)) := by
  refine ⟨_, h, fun O H x y d v u Q oo rx ry e k => ?_⟩
  obtain ⟨i, j, rfl, rfl, e⟩ := ii_some e
  cases e
  exact ⟨i, j, rx.int_inv, ry.int_inv, k _ H (Same.refl H) (hg O H i j)⟩
theorem dop_IC {sem : Value → Value → Sem Value} {C : Int → Int → Prop} {B : Int → Int → Bool} {g : Int → Int → V} {gd : Int → Int → D} (h : OpR X sem (rI C g)) (hC : ∀ i j, B i j = true → C i j) (hg : ∀ O H i j, Rep X.K O H (g i j) (gd i j)) :
    DOp X sem (ii fun i j => if B i j = true then some (gd i j) else none) := by
  refine ⟨_, h, fun O H x y d v u Q oo rx ry e k => ?_⟩
  obtain ⟨i, j, rfl, rfl, e1⟩ := ii_some e
  by_cases hb : B i j = true
  · rw [if_pos hb] at e1
    cases e1
    exact ⟨i, j, rx.int_inv, ry.int_inv, hC i j hb, k _ H (Same.refl H) (hg O H i j)⟩
  · rw [if_neg hb] at e1; cases e1
abbrev oSub : D → D → Option D := ii fun i j => some (.int (i - j))
def bMul (i j : Int) : Bool := decide ((-18446744073709551616 < i ∧ i < 18446744073709551616) ∨ (-18446744073709551616 < j ∧ j < 18446744073709551616))
abbrev oMul : D → D → Option D := ii fun i j => if bMul i j = true then some (.int (i * j)) else none
def bDiv (j : Int) : Bool := decide (0 < j ∧ j < 1267650600228229401496703205376)
abbrev oDiv : D → D → Option D := ii fun i j => if bDiv j = true then some (.int (i / j)) else none
abbrev oMod : D → D → Option D := ii fun i j => if decide (0 < j) = true then some (.int (i % j)) else none
def bPow (i j : Int) : Bool := decide (0 ≤ j ∧ j ≤ 1000000 ∧ i.natAbs < 18446744073709551616)
abbrev oPow : D → D → Option D := ii fun i j => if bPow i j = true then some (.int (i ^ j.toNat)) else none
theorem dop_sub : DOp X (binaryOp .Sub) oSub := dop_I0 op_sub fun _ _ _ _ => .int _
theorem dop_mul : DOp X (binaryOp .Mult) oMul := dop_IC op_mul (fun i j h => by
  have h := of_decide_eq_true h
  unfold CMul
  have e : (2 : Int) ^ 64 = 18446744073709551616 := by decide
  rw [e]
  exact h) fun _ _ _ _ => .int _
theorem natAbs_log2 {j : Int} (h : 0 < j ∧ j < 1267650600228229401496703205376) : j.natAbs.log2 < 9000 := by
  have h2 : j.natAbs < 2 ^ 100 := by
    have e : (2 : Nat) ^ 100 = 1267650600228229401496703205376 := by decide
    omega
  exact Nat.lt_trans ((Nat.log2_lt (by omega)).mpr h2) (by decide)
theorem op_fdivW : OpR X (binaryOp .FloorDiv) (rI (fun _ j => 0 < j ∧ j < 1267650600228229401496703205376) fun i j => .int (i / j)) := opI fun i j _ _ _ _ _ hc q => by
  rw [← Int.fdiv_eq_ediv_of_nonneg _ (Int.le_of_lt hc.1)] at q
  exact floordiv_int (by omega) q (.inl (PyProof.noPylong_of_log2 (natAbs_log2 hc)))
theorem dop_div : DOp X (binaryOp .FloorDiv) oDiv := dop_IC op_fdivW (fun i j h => of_decide_eq_true h) fun _ _ _ _ => .int _
theorem dop_mod : DOp X (binaryOp .Mod) oMod := dop_IC op_mod (fun i j h => of_decide_eq_true h) fun _ _ _ _ => .int _
theorem dop_pow : DOp X (binaryOp .Pow) oPow := dop_IC op_pow (fun i j h => by
  have h := of_decide_eq_true h
  unfold CPow
  have e : (2 : Nat) ^ 64 = 18446744073709551616 := by decide
  rw [e]
  exact h) fun _ _ _ _ => .int _
abbrev oLt : D → D → Option D := ii fun i j => some (.bool (decide (i < j)))
theorem dop_lt : DOp X (compareOp .Lt) oLt := dop_I0 op_lt fun _ _ _ _ => .bl _
theorem nin {O : List Addr} {H : Hp} (oo : ∀ l ∈ O, Mu H l) {p : Addr} (hp : H p = none) : p ∉ O := fun z => by
  obtain ⟨o, ho⟩ := (oo p z).some
  rw [hp] at ho; cases ho
theorem rep_newL {K : PySem.W.Frag} {O : List Addr} {H : Hp} {p : Addr} {vs : List V} {ds : List D} (oo : ∀ l ∈ O, Mu H l) (hp : H p = none) (r : Reps K O H vs ds) : Rep K O (upd H p (.lst vs)) (.ref p) (.list ds) :=
  .lst (.inl upd_same) (nin oo hp) (r.same (same_new hp))
theorem op_cat0 : OpR X (binaryOp .Add) (fun x y H Q => ∃ a b ys, x = .ref a ∧ y = .ref b ∧ SqT X.K H a [] ∧ SqT X.K H b ys ∧ Q (.ref b) H) := by
  intro pins s σ H x y v u Q I rx ry h
  obtain ⟨a, b, ys, rfl, rfl, ha, hb, q⟩ := h
  cases rx
  cases ry
  obtain ⟨its, r1, p1, _⟩ := I.tuple ha
  obtain ⟨its2, r2, p2, _⟩ := I.tuple hb
  cases r1
  obtain ⟨⟨cls, dd, data, sl⟩, ho, hc, n, hd⟩ := id p1
  obtain ⟨⟨cls2, dd2, data2, sl2⟩, ho2, hc2, n2, hd2⟩ := id p2
  simp only at hc hd hc2 hd2
  subst hc hd hc2 hd2
  exact concat_meets ⟨_, ho, rfl⟩ ⟨_, ho2, rfl⟩ noFill_tuple_add seq_tuple_add PySem.F.slot_tuple_add PySem.F.entry_tuple_add (PySem.F.args_tuple_add_2 _ _)
    (tuple_addW0 a b _ its2.toArray n n2 dd dd2 sl sl2 rfl) ⟨ho, ho2, ⟨.ref b, H, I, rfl, q⟩⟩
theorem op_catS : OpR X (binaryOp .Add) (fun x y H Q => ∃ l b xs zs, x = .ref l ∧ y = .ref b ∧ SqL X.K H l xs ∧ SqL X.K H b zs ∧ xs.length + zs.length ≤ sizeLine ∧ ∀ p, H p = none → Q (.ref p) (upd H p (.lst (xs ++ zs)))) := by
  intro pins s σ H x y v u Q I rx ry h
  obtain ⟨l, b, xs, zs, rfl, rfl, hH, hB, hz, q⟩ := h
  cases rx
  cases ry
  obtain ⟨its, r, ⟨⟨cls, dd, data, sl⟩, n, e, hc, hdd, hd⟩, z⟩ := I.list hH
  obtain ⟨its2, r2, ⟨⟨cls2, dd2, data2, sl2⟩, n2, e2, hc2, hdd2, hd2⟩, z2⟩ := I.list hB
  have hl := r.length
  have hl2 := r2.length
  simp only at hc hd hc2 hd2 hdd hdd2
  subst hc hd hc2 hd2 hdd hdd2
  have ea : its.toArray ++ its2.toArray = (its ++ its2).toArray := by simp
  refine concat_meets ⟨_, e, rfl⟩ ⟨_, e2, rfl⟩ noFill_list_add seq_list_add PySem.F.slot_list_add PySem.F.entry_list_add (PySem.F.args_list_add_2 _ _) (list_addW l b its.toArray its2.toArray n n2 none none sl sl2 (by rw [List.size_toArray, List.size_toArray]; omega)) ⟨e, e2, ?_⟩
  rw [ea]
  exact ⟨.ref _, _, I.lnew (t' := s.toks) (r.append r2) (by rw [List.length_append]; omega), rfl, q _ I.fresh⟩
def oAdd : D → D → Option D
  | .int i, .int j => some (.int (i + j))
  | .str i, .str j => if small (i.length + j.length) then some (.str (i ++ j)) else none
  | .tuple xs, .tuple ys => if small (xs.length + ys.length) then some (.tuple (xs ++ ys)) else none
  | .list xs, .list ys => if small (xs.length + ys.length) then some (.list (xs ++ ys)) else none
  | _, _ => none
theorem dop_add : DOp X (binaryOp .Add) oAdd := by
  refine ⟨_, op_add.or (op_add_str.or (op_catT.or (op_cat0.or op_catS))), fun O H x y d v u Q oo rx ry e k => ?_⟩
  unfold oAdd at e
  split at e
  · rename_i i j
    cases e
    exact .inl ⟨i, j, rx.int_inv, ry.int_inv, k _ H (Same.refl H) (.int _)⟩
  · rename_i i j
    by_cases hz : small (i.length + j.length) = true
    · rw [if_pos hz] at e
      cases e
      exact .inr (.inl ⟨i, j, rx.str_inv, ry.str_inv, small_le hz, k _ H (Same.refl H) (.str _)⟩)
    · rw [if_neg hz] at e; cases e
  · rename_i xs ys
    by_cases hz : small (xs.length + ys.length) = true
    · rw [if_pos hz] at e
      cases e
      obtain ⟨p, vs, rfl, h1, r1⟩ := rx.tup_inv
      obtain ⟨q, ws, rfl, h2, r2⟩ := ry.tup_inv
      by_cases hx : xs = []
      · subst hx
        cases r1
        exact .inr (.inr (.inr (.inl ⟨p, q, ws, rfl, rfl, h1, h2, k _ H (Same.refl H) (.tup h2 r2)⟩)))
      · refine .inr (.inr (.inl ⟨p, q, vs, ws, rfl, rfl, h1, h2, fun z => ?_, by rw [r1.length, r2.length]; exact small_le hz, fun z => ?_, fun z l hl => ?_⟩))
        · subst z
          cases r1
          exact hx rfl
        · subst z
          have z2 := r2
          cases z2
          refine k _ H (Same.refl H) ?_
          rw [List.append_nil]
          exact .tup h1 r1
        · exact k _ _ (same_new hl) (rep_newT hl (r1.append r2))
    · rw [if_neg hz] at e; cases e
  · rename_i xs ys
    by_cases hz : small (xs.length + ys.length) = true
    · rw [if_pos hz] at e
      cases e
      obtain ⟨p, vs, rfl, h1, r1⟩ := rx.lst_inv
      obtain ⟨q, ws, rfl, h2, r2⟩ := ry.lst_inv
      exact .inr (.inr (.inr (.inr ⟨p, q, vs, ws, rfl, rfl, h1, h2, by rw [r1.length, r2.length]; exact small_le hz, fun l hl => k _ _ (same_new hl) (rep_newL oo hl (r1.append r2))⟩)))
    · rw [if_neg hz] at e; cases e
  · cases e

mutual
theorem Rep.reads {pins : List (Addr × Obj)} {σ : St} {H : Hp} {s : Shared} {O : List Addr} (I : Inv X pins σ H s) : ∀ {v : V} {d : D} {u : Value}, d.canLay0 = true → Rep X.K O H v d → RelV v u → ∃ as, Reads s.heap u d as
  | _, _, u, _, .non, q => by cases (show u = Value.none from q); exact ⟨_, .none⟩
  | _, _, u, _, .bl b, q => by cases (show u = Value.bool b from q); exact ⟨_, .bool b⟩
  | _, _, u, _, .int i, q => by obtain ⟨t, rfl⟩ := (show ∃ t, u = Value.int i t from q); exact ⟨_, .int i t⟩
  | _, _, u, _, .str x, q => by obtain ⟨t, rfl⟩ := (show ∃ t, u = Value.str x t from q); exact ⟨_, .str x t⟩
  | .ref a, _, u, hc, .tup h r, q => by
    cases (show u = Value.ref a from q)
    obtain ⟨its, rv, ⟨o, h1, h2, n, h3⟩, _⟩ := I.tuple h
    obtain ⟨as, ra⟩ := Reps.reads I (by simpa [PyData.canLay0] using hc) r rv
    exact ⟨_, .tuple h1 h2 h3 ra⟩
  | .ref a, _, u, hc, .lst h n r, q => by
    cases (show u = Value.ref a from q)
    obtain ⟨its, rv, ⟨o, n, h1, h2, _, h3⟩, _⟩ := I.list (.inl h)
    obtain ⟨as, ra⟩ := Reps.reads I (by simpa [PyData.canLay0] using hc) r rv
    exact ⟨_, .list h1 h2 h3 ra⟩
  | .ref a, _, u, hc, .lstK h r, q => by
    cases (show u = Value.ref a from q)
    obtain ⟨its, rv, ⟨o, n, h1, h2, _, h3⟩, _⟩ := I.list (.inr h)
    obtain ⟨as, ra⟩ := Reps.reads I (by simpa [PyData.canLay0] using hc) r rv
    exact ⟨_, .list h1 h2 h3 ra⟩
  | .ref a, _, u, hc, .dct _ _ _ _, q => by simp [PyData.canLay0] at hc
  | .ref a, _, u, hc, .ins _ _ _ _ _, q => by simp [PyData.canLay0, insD] at hc
theorem Reps.reads {pins : List (Addr × Obj)} {σ : St} {H : Hp} {s : Shared} {O : List Addr} (I : Inv X pins σ H s) : ∀ {vs : List V} {ds : List D} {us : List Value}, PyData.canLayAll0 ds = true → Reps X.K O H vs ds → Vals vs us → ∃ as, ReadsAll s.heap us ds as
  | _, _, _, _, .nil, q => by cases q; exact ⟨_, .nil⟩
  | _, _, _, hc, .cons r rs, q => by
    rw [PyData.canLayAll0, Bool.and_eq_true] at hc
    cases q with
    | cons p ps =>
      obtain ⟨as, h1⟩ := Rep.reads I hc.1 r p
      obtain ⟨bs, h2⟩ := Reps.reads I hc.2 rs ps
      exact ⟨_, .cons h1 h2⟩
end
def flat (x y : D) : Bool := x.canLay0 && y.canLay0 && decide (min x.depth y.depth ≤ 60)
def oEq (x y : D) : Option D := if flat x y = true then some (.bool (PyData.eqv x y)) else none
def oNe (x y : D) : Option D := if flat x y = true then some (.bool (!PyData.eqv x y)) else none
def rDat (X : Cx) (p : D → D → Bool) : R2 := fun v u H Q => ∃ O x y, Rep X.K O H v x ∧ Rep X.K O H u y ∧ flat x y = true ∧ Q (.bl (p x y)) H
theorem flat_of {x y : D} (h : flat x y = true) : x.canLay0 = true ∧ y.canLay0 = true ∧ min x.depth y.depth ≤ 60 := by
  unfold flat at h
  rw [Bool.and_eq_true, Bool.and_eq_true] at h
  exact ⟨h.1.1, h.1.2, of_decide_eq_true h.2⟩
theorem op_eqD (hu : X.A.units + 64 < cLine) : OpR X (compareOp .Eq) (rDat X PyData.eqv) := by
  intro pins s σ H v u v' u' Q I rv ru h
  obtain ⟨O, x, y, rx, ry, hf, q⟩ := h
  obtain ⟨h1, h2, h3⟩ := flat_of hf
  obtain ⟨as, r1⟩ := rx.reads I h1 rv
  obtain ⟨bs, r2⟩ := ry.reads I h2 ru
  exact SeqAt.compareEq_reads r1 r2 h1 h2 (by omega) ⟨.bl _, H, I, rfl, q⟩
theorem op_neD (hu : X.A.units + 64 < cLine) : OpR X (compareOp .NotEq) (rDat X fun x y => !PyData.eqv x y) := by
  intro pins s σ H v u v' u' Q I rv ru h
  obtain ⟨O, x, y, rx, ry, hf, q⟩ := h
  obtain ⟨h1, h2, h3⟩ := flat_of hf
  obtain ⟨as, r1⟩ := rx.reads I h1 rv
  obtain ⟨bs, r2⟩ := ry.reads I h2 ru
  exact SeqAt.compareNe_reads r1 r2 h1 h2 (by omega) ⟨.bl _, H, I, rfl, q⟩
theorem dop_eq (hu : X.A.units + 64 < cLine) : DOp X (compareOp .Eq) oEq := by
  refine ⟨_, op_eqD hu, fun O H x y d v u Q oo rx ry e k => ?_⟩
  unfold oEq at e
  by_cases hf : flat x y = true
  · rw [if_pos hf] at e
    cases e
    exact ⟨O, x, y, rx, ry, hf, k _ H (Same.refl H) (.bl _)⟩
  · rw [if_neg hf] at e; cases e
theorem dop_ne (hu : X.A.units + 64 < cLine) : DOp X (compareOp .NotEq) oNe := by
  refine ⟨_, op_neD hu, fun O H x y d v u Q oo rx ry e k => ?_⟩
  unfold oNe at e
  by_cases hf : flat x y = true
  · rw [if_pos hf] at e
    cases e
    exact ⟨O, x, y, rx, ry, hf, k _ H (Same.refl H) (.bl _)⟩
  · rw [if_neg hf] at e; cases e

def oIx : D → D → Option D
  | .tuple ds, .int i => L2.atI ds i
  | .list ds, .int i => L2.atI ds i
  | .str z, .int i => if small z.length then (L2.atI z.cps.toList i).map (fun c => .str ⟨#[c]⟩) else none
  | _, _ => none
theorem pd_ix (ha : PD X G a f) (hb : PD X G b g) (hs : PlainIx b) : PD X G (.Subscript a b pos) (d2 oIx f g) := by
  obtain ⟨ta, pa, ha⟩ := ha
  obtain ⟨tb, pb, hb⟩ := hb
  refine ⟨_, pe_ix ix_seq pa pb hs, pd_two (fun O H x y d v u Q oo rx ry e k => ?_) ha hb⟩
  unfold oIx at e
  split at e
  · rename_i ds i
    obtain ⟨p, vs, rfl, h1, r1⟩ := rx.tup_inv
    obtain ⟨w, hw, rw'⟩ := r1.atI e
    exact .inr (.inl ⟨p, vs, i, w, rfl, ry.int_inv, h1, hw, k w H (Same.refl H) rw'⟩)
  · rename_i ds i
    obtain ⟨p, vs, rfl, h1, r1⟩ := rx.lst_inv
    obtain ⟨w, hw, rw'⟩ := r1.atI e
    exact .inl ⟨p, vs, i, w, rfl, ry.int_inv, h1, hw, k w H (Same.refl H) rw'⟩
  · rename_i z i
    by_cases hz : small z.length = true
    · rw [if_pos hz] at e
      cases e2 : L2.atI z.cps.toList i with
      | none => rw [e2] at e; cases e
      | some c =>
        rw [e2] at e
        cases e
        exact .inr (.inr ⟨z, i, c, rx.str_inv, ry.int_inv, small_le hz, e2, k _ H (Same.refl H) (.str _)⟩)
    · rw [if_neg hz] at e; cases e
  · cases e
end
end DL
namespace DL
open PySem PySem.Spec PyProof.Rows L2

section
variable {X : Cx} {G : XD → Hp → Prop} {a b c e : Expr} {es rest : List Expr} {f g h : DS → M D} {fb gb : DS → M Bool} {fa : DS → M (List D)} {pos : Pos}
def PDO (X : Cx) (G : XD → Hp → Prop) (e : Option Expr) (f : DS → M (Option Int)) : Prop :=
  ∃ t, PO X e t ∧ ∀ {Hr : Hp} (δ : DS) (O : List Addr) (σ : St) (H : Hp) (Q : Option Int → Hp → Prop), Ev X.K Hr O H σ δ → ok (GS G Hr) (f δ) (fun d => ∀ H', Same H H' → Q d H') → t σ H Q
def dNoPart : DS → M (Option Int) := fun _ => M.ret none
def dPart (f : DS → M D) : DS → M (Option Int) := fun δ => (f δ).thn fun d => match d with
  | .int i => M.ret (some i)
  | _ => none
theorem pdo_none : PDO X G none dNoPart := ⟨_, po_none, fun _ _ _ H Q _ k => k H (Same.refl H)⟩
theorem pdo_some (he : PD X G e f) : PDO X G (some e) (dPart f) := by
  obtain ⟨t, p, he⟩ := he
  refine ⟨_, po_some p, fun δ O σ H Q E k => ?_⟩
  refine he δ O σ H _ E (ok_mono (ok_thn k) fun d z v H1 s1 r => ?_)
  cases d with
  | int i => exact ⟨i, r.int_inv, z H1 s1⟩
  | _ => exact z.elim
def cutD {α : Type} (xs : List α) (lo hi : Option Int) : List α := (xs.drop (HT.sIx xs.length 0 lo)).take (HT.sIx xs.length xs.length hi - HT.sIx xs.length 0 lo)
theorem Reps.cut {K : PySem.W.Frag} {O : List Addr} {H : Hp} {xs : List V} {ds : List D} (r : Reps K O H xs ds) (lo hi : Option Int) : Reps K O H (cutV xs lo hi) (cutD ds lo hi) := by
  unfold cutV cutD
  rw [r.length]
  exact (r.drop _).take _
def oCut (lo hi : Option Int) : D → Option D
  | .list ds => some (.list (cutD ds lo hi))
  | .tuple ds => if HT.sIx ds.length 0 lo = 0 ∧ HT.sIx ds.length ds.length hi = ds.length then none else some (.tuple (cutD ds lo hi))
  | _ => none
variable {lo hi : Option Expr} {fl fh : DS → M (Option Int)} {p2 : Pos}
theorem pd_lst (h : PDA X G es fa) : PD X G (.List es pos) (dLst fa) := by
  obtain ⟨_, t, p, h⟩ := h
  refine ⟨_, pe_lst p, fun δ O σ H Q E k => ?_⟩
  refine h δ O σ H _ E (ok_mono (ok_thn k) fun ds z vs H1 s1 rs => ?_)
  by_cases hz : small ds.length = true
  · rw [if_pos hz] at z
    exact ⟨by rw [rs.length]; exact small_le hz, fun p hp => z _ _ (s1.trans (same_new hp)) (rep_newL (E.same s1).oo hp rs)⟩
  · rw [if_neg hz] at z
    exact z.elim

def DCall (X : Cx) (fn : Value) (h : List D → Option D) : Prop :=
  ∃ r, CallR X fn r ∧ ∀ (O : List Addr) (H : Hp) (ds : List D) (d : D) (vs : List V) (Q : VK), (∀ l ∈ O, Mu H l) → Reps X.K O H vs ds → h ds = some d → (∀ v' H', Same H H' → Rep X.K O H' v' d → Q v' H') → r vs H Q
def dCB (h : List D → Option D) (fa : DS → M (List D)) : DS → M D := fun δ => (fa δ).thn fun ds => M.lift (h ds)
theorem pd_callB {x : Str} {p : Pos} {id : String} {h : List D → Option D} (hc : DCall X (.builtin id) h) (hg : Gl X x) (hm : X.mg x = none) (hv : bootBuiltins x = some (.builtin id)) (ha : PDA X G (e :: es) fa) (hn : x ≠ "__name__" := by decide) (hdb : (x == ("__debug__" : Str)) = false := by decide)
    (he : starEach (e :: es) X.env = (false, eval e X.env) :: starEach es X.env := by rfl) (hpl : (backTo pos (starEach es X.env)).any (·.1) = false := by rfl) : PD X G (.Call (.Name x p) (e :: es) [] pos) (dCB h fa) := by
  obtain ⟨r, hr, hc⟩ := hc
  obtain ⟨_, t, pa, ha⟩ := ha
  refine ⟨_, pe_callB hr hg hm hv pa hn hdb he hpl, fun δ O σ H Q E k => ?_⟩
  refine ha δ O σ H _ E (ok_mono (ok_thn k) fun ds z vs H1 s1 rs => ?_)
  obtain ⟨d, hd, z⟩ := ok_lift z
  exact hc O H1 ds d vs Q (E.same s1).oo rs hd fun v' H2 s2 r2 => z v' H2 (s1.trans s2) r2
theorem pd_callTy {x : Str} {p : Pos} {id : String} {h : List D → Option D} (hc : DCall X (.type id) h) (hg : Gl X x) (hm : X.mg x = none) (hv : bootBuiltins x = some (.type id)) (ha : PDA X G (e :: es) fa) (hn : x ≠ "__name__" := by decide) (hdb : (x == ("__debug__" : Str)) = false := by decide)
    (he : starEach (e :: es) X.env = (false, eval e X.env) :: starEach es X.env := by rfl) (hpl : (backTo pos (starEach es X.env)).any (·.1) = false := by rfl) : PD X G (.Call (.Name x p) (e :: es) [] pos) (dCB h fa) := by
  obtain ⟨r, hr, hc⟩ := hc
  obtain ⟨_, t, pa, ha⟩ := ha
  refine ⟨_, pe_callTy hr hg hm hv pa hn hdb he hpl, fun δ O σ H Q E k => ?_⟩
  refine ha δ O σ H _ E (ok_mono (ok_thn k) fun ds z vs H1 s1 rs => ?_)
  obtain ⟨d, hd, z⟩ := ok_lift z
  exact hc O H1 ds d vs Q (E.same s1).oo rs hd fun v' H2 s2 r2 => z v' H2 (s1.trans s2) r2
theorem reps1 {K : PySem.W.Frag} {O : List Addr} {H : Hp} {vs : List V} {d : D} (r : Reps K O H vs [d]) : ∃ v, vs = [v] ∧ Rep K O H v d := by
  cases r with
  | cons r rs => cases rs; exact ⟨_, rfl, r⟩
theorem reps2 {K : PySem.W.Frag} {O : List Addr} {H : Hp} {vs : List V} {d d' : D} (r : Reps K O H vs [d, d']) : ∃ v v', vs = [v, v'] ∧ Rep K O H v d ∧ Rep K O H v' d' := by
  cases r with
  | cons r rs =>
    obtain ⟨v', rfl, r'⟩ := reps1 rs
    exact ⟨_, _, rfl, r, r'⟩
def oLen : List D → Option D
  | [.list ds] => some (.int ds.length)
  | [.tuple ds] => some (.int ds.length)
  | [.str z] => if small z.length then some (.int z.length) else none
  | _ => none
theorem dcall_len : DCall X (.builtin "len") oLen := by
  refine ⟨_, call_len_seq.or call_len_str, fun O H ds d vs Q oo rs e k => ?_⟩
  unfold oLen at e
  split at e
  · rename_i es
    cases e
    obtain ⟨v, rfl, r⟩ := reps1 rs
    obtain ⟨p, xs, rfl, h1, rx⟩ := r.lst_inv
    refine .inl ⟨p, xs, rfl, .inl h1, k _ H (Same.refl H) ?_⟩
    rw [rx.length]
    exact .int _
  · rename_i es
    cases e
    obtain ⟨v, rfl, r⟩ := reps1 rs
    obtain ⟨p, xs, rfl, h1, rx⟩ := r.tup_inv
    refine .inl ⟨p, xs, rfl, .inr h1, k _ H (Same.refl H) ?_⟩
    rw [rx.length]
    exact .int _
  · rename_i z
    by_cases hz : small z.length = true
    · rw [if_pos hz] at e
      cases e
      obtain ⟨v, rfl, r⟩ := reps1 rs
      refine .inr ⟨z, by rw [r.str_inv], small_le hz, k _ H (Same.refl H) (.int _)⟩
    · rw [if_neg hz] at e; cases e
  · cases e
def oListOf : List D → Option D
  | [.list ds] => some (.list ds)
  | [.tuple ds] => some (.list ds)
  | _ => none
theorem dcall_list : DCall X (.type "list") oListOf := by
  refine ⟨_, call_list_of, fun O H ds d vs Q oo rs e k => ?_⟩
  unfold oListOf at e
  split at e
  · cases e
    obtain ⟨v, rfl, r⟩ := reps1 rs
    obtain ⟨p, xs, rfl, h1, rx⟩ := r.lst_inv
    exact ⟨p, xs, rfl, .inl h1, fun l hl => k _ _ (same_new hl) (rep_newL oo hl rx)⟩
  · cases e
    obtain ⟨v, rfl, r⟩ := reps1 rs
    obtain ⟨p, xs, rfl, h1, rx⟩ := r.tup_inv
    exact ⟨p, xs, rfl, .inr h1, fun l hl => k _ _ (same_new hl) (rep_newL oo hl rx)⟩
  · cases e

def tyD : D → String
  | .none => "NoneType"
  | .bool _ => "bool"
  | .int _ => "int"
  | .str _ => "str"
  | .list _ => "list"
  | .tuple _ => "tuple"
  | .dict _ => "dict"
def isD (T : String) (d : D) : Bool := tyD d == T || (T == "int" && tyD d == "bool")
def KitAll (K : PySem.W.Frag) (T : String) : Prop := ∀ d : D, PySem.W.kitOne K (.type (tyD d)) (.type T) = some (isD T d)
theorem kit_int (K : PySem.W.Frag) : KitAll K "int" := fun d => by cases d <;> kernel_rfl
theorem kit_bool (K : PySem.W.Frag) : KitAll K "bool" := fun d => by cases d <;> kernel_rfl
theorem kit_str (K : PySem.W.Frag) : KitAll K "str" := fun d => by cases d <;> kernel_rfl
theorem kit_list (K : PySem.W.Frag) : KitAll K "list" := fun d => by cases d <;> kernel_rfl
theorem kit_tuple (K : PySem.W.Frag) : KitAll K "tuple" := fun d => by cases d <;> kernel_rfl
theorem call_isinst {T : String} (hk : KitAll X.K T) : CallR X (.builtin "isinstance") (fun xs H Q => ∃ v O d, xs = [v, .ty T] ∧ Rep X.K O H v d ∧ noIns d = true ∧ Q (.bl (isD T d)) H) := by
  intro pins s σ H xs us Q I r h
  obtain ⟨v, O, d, rfl, rd, hi, q⟩ := h
  obtain ⟨u, w', rfl, r1, r2⟩ := vals2 r
  cases (show w' = Value.type T from r2)
  have fin : ∀ tk, EP X pins σ Q (.bool (isD T d)) { s with toks := tk } := fun tk => ⟨.bl _, H, I.tok _, rfl, q⟩
  have e := hk d
  cases rd with
  | non => cases (show u = Value.none from r1); exact PySem.W.kia_one PySem.W.kitx_none I.kIn True.intro e (fun z => nomatch z) fin
  | bl y => cases (show u = Value.bool y from r1); exact PySem.W.kia_one PySem.W.kitx_bool I.kIn True.intro e (fun z => nomatch z) fin
  | int i => obtain ⟨t, q⟩ := (show ∃ t, u = Value.int i t from r1); cases q; exact PySem.W.kia_one PySem.W.kitx_int I.kIn True.intro e (fun z => nomatch z) fin
  | str y => obtain ⟨t, q⟩ := (show ∃ t, u = Value.str y t from r1); cases q; exact PySem.W.kia_one PySem.W.kitx_str I.kIn True.intro e (fun z => nomatch z) fin
  | @tup a ys ds h rr =>
    cases (show u = Value.ref a from r1)
    obtain ⟨its, rv, ⟨o, h1, h2, _⟩, _⟩ := I.tuple h
    exact PySem.W.kia_one PySem.W.kitx_tuple I.kIn ⟨o, h1, h2⟩ e (fun z => nomatch z) fin
  | @lst a ys ds h n rr =>
    cases (show u = Value.ref a from r1)
    obtain ⟨its, rv, ⟨o, n, h1, h2, _⟩, _⟩ := I.list (.inl h)
    exact PySem.W.kia_one PySem.W.kitx_list I.kIn ⟨o, h1, h2⟩ e (fun z => nomatch z) fin
  | @lstK a ys ds h rr =>
    cases (show u = Value.ref a from r1)
    obtain ⟨its, rv, ⟨o, n, h1, h2, _⟩, _⟩ := I.list (.inr h)
    exact PySem.W.kia_one PySem.W.kitx_list I.kIn ⟨o, h1, h2⟩ e (fun z => nomatch z) fin
  | @dct a kvs es h n hk rr =>
    cases (show u = Value.ref a from r1)
    obtain ⟨_, _, _, _, o, _, _, h1, h2, _⟩ := h.ok I.hok
    exact PySem.W.kia_one PySem.W.kitx_dict I.kIn ⟨o, h1, h2.1⟩ e (fun z => nomatch z) fin
  | ins hN h n hk rr => cases hi
def dIs (T : String) (f : DS → M D) : DS → M D := fun δ => (f δ).thn fun d => if noIns d = true then M.ret (.bool (isD T d)) else none
theorem pd_isinst {T : String} {x y : Str} {p p2 : Pos} (hx : x = "isinstance") (hk : KitAll X.K T) (hg : Gl X x) (hm : X.mg x = none) (hg2 : Gl X y) (hm2 : X.mg y = none) (hb2 : bootBuiltins y = some (.type T)) (he : PD X G e f)
    (hn2 : y ≠ "__name__" := by decide) (hd2 : (y == ("__debug__" : Str)) = false := by decide)
    (hs1 : starEach [e, .Name y p2] X.env = (false, eval e X.env) :: starEach [.Name y p2] X.env := by rfl) (hs2 : starEach [.Name y p2] X.env = (false, eval (.Name y p2) X.env) :: starEach [] X.env := by rfl)
    (hpl : (backTo pos (starEach [.Name y p2] X.env)).any (·.1) = false := by rfl) : PD X G (.Call (.Name x p) [e, .Name y p2] [] pos) (dIs T f) := by
  subst hx
  obtain ⟨t, pe, he⟩ := he
  refine ⟨_, pe_callB (call_isinst hk) hg hm boot_isinstance (pa_cons pe (pa_cons (pe_bltn (v := .ty T) hg2 hm2 hb2 rfl hn2 hd2) pa_nil hs2) hs1) (by decide) (by decide) hs1 hpl, fun δ O σ H Q E k => ?_⟩
  refine he δ O σ H _ E (ok_mono (ok_thn k) fun d z v H1 s1 r => ?_)
  by_cases hi : noIns d = true
  · rw [if_pos hi] at z
    exact ⟨v, O, d, rfl, r, hi, z _ H1 s1 (.bl _)⟩
  · rw [if_neg hi] at z
    exact z.elim
end
end DL
namespace DL
open PySem PySem.Spec PyProof.Rows L2

def d1 (h : D → Option D) (f : DS → M D) : DS → M D := fun δ => (f δ).thn fun x => M.lift (h x)
def oNeg : D → Option D
  | .int i => some (.int (-i))
  | _ => none
theorem pd_neg {X : Cx} {G : XD → Hp → Prop} {a : Expr} {f : DS → M D} {pos : Pos} (ha : PD X G a f) : PD X G (.UnaryOp .USub a pos) (d1 oNeg f) := by
  obtain ⟨t, p, ha⟩ := ha
  refine ⟨_, pe_un un_neg p, fun δ O σ H Q E k => ?_⟩
  refine ha δ O σ H _ E (ok_mono (ok_thn k) fun d z v H1 s1 r => ?_)
  obtain ⟨y, hy, z⟩ := ok_lift z
  cases d with
  | int i => cases hy; exact ⟨i, r.int_inv, z _ H1 s1 (.int _)⟩
  | _ => cases hy

inductive Out where
  | nx (δ : DS)
  | rt (d : D)
  | bk (δ : DS)
  | ct (δ : DS)
structure EI (K : PySem.W.Frag) (Hr : Hp) (R0 : List Addr) (P0 : Addr → Prop) (H0 : Hp) (O : List Addr) (H : Hp) (σ : St) (δ : DS) : Prop where
  ev : Ev K Hr O H σ δ
  omr : ∀ l ∈ O, l ∈ R0 ∨ Hr l = none
  keep : ∀ b o, ¬ P0 b → H0 b = some o → H b = some o
  om : ∀ l ∈ O, l ∈ R0 ∨ P0 l ∨ H0 l = none
  nr1 : ∀ (i : Nat) (s : Sl) (l : Addr), δ[i]? = some s → s.own → σ[i]? = some (some (.ref l)) → l ∉ R0
  sub : ∀ l ∈ R0, l ∈ O
theorem EI.nr {K : PySem.W.Frag} {Hr : Hp} {R0 : List Addr} {P0 : Addr → Prop} {H0 : Hp} {O : List Addr} {H : Hp} {σ : St} {δ : DS} (E : EI K Hr R0 P0 H0 O H σ δ) : ∀ (i : Nat) (ds : List D) (l : Addr), δ[i]? = some (.ow ds) → σ[i]? = some (some (.ref l)) → l ∉ R0 := fun i ds l h1 h2 => E.nr1 i _ l h1 trivial h2
def Fin (K : PySem.W.Frag) (Hr : Hp) (R0 : List Addr) (P0 : Addr → Prop) (H0 : Hp) (Dn : Ends) : Out → Prop
  | .nx δ => ∀ O σ H, EI K Hr R0 P0 H0 O H σ δ → Dn.nx σ H
  | .rt d => ∀ v H, (∀ b o, ¬ P0 b → H0 b = some o → H b = some o) → Rep K R0 H v d → Dn.rt v H
  | .bk δ => ∀ O σ H, EI K Hr R0 P0 H0 O H σ δ → Dn.bk σ H
  | .ct δ => ∀ O σ H, EI K Hr R0 P0 H0 O H σ δ → Dn.ct σ H
def PDS (X : Cx) (G : XD → Hp → Prop) (st : Stmt) (g : DS → M Out) : Prop :=
  ∃ t, PS X st t ∧ ∀ {Hr : Hp} (R0 : List Addr) (P0 : Addr → Prop) (H0 : Hp) (δ : DS) (O : List Addr) (σ : St) (H : Hp) (Dn : Ends), EI X.K Hr R0 P0 H0 O H σ δ → ok (GS G Hr) (g δ) (Fin X.K Hr R0 P0 H0 Dn) → t Dn σ H
def PDSs (X : Cx) (G : XD → Hp → Prop) (st : List Stmt) (g : DS → M Out) : Prop :=
  ∃ t, PSs X st t ∧ ∀ {Hr : Hp} (R0 : List Addr) (P0 : Addr → Prop) (H0 : Hp) (δ : DS) (O : List Addr) (σ : St) (H : Hp) (Dn : Ends), EI X.K Hr R0 P0 H0 O H σ δ → ok (GS G Hr) (g δ) (Fin X.K Hr R0 P0 H0 Dn) → t Dn σ H

section
variable {X : Cx} {G : XD → Hp → Prop} {a b c e : Expr} {es rest : List Expr} {f g h : DS → M D} {fb gb : DS → M Bool} {fa : DS → M (List D)} {pos : Pos} {st : Stmt} {sts st1 st2 : List Stmt} {gs gt gu : DS → M Out}
variable {K : PySem.W.Frag} {Hr : Hp} {R0 : List Addr} {P0 : Addr → Prop} {H0 H H' : Hp} {O : List Addr} {σ : St} {δ : DS}
theorem EI.same (E : EI K Hr R0 P0 H0 O H σ δ) (s : Same H H') : EI K Hr R0 P0 H0 O H' σ δ := ⟨E.ev.same s, E.omr, fun b o n h => s _ _ (E.keep b o n h), E.om, E.nr1, E.sub⟩
theorem EI.set {i : Nat} {v : V} {d : D} (E : EI K Hr R0 P0 H0 O H σ δ) (r : Rep K O H v d) : EI K Hr R0 P0 H0 O H (σ.set i (some v)) (δ.set i (.vl d)) := by
  refine ⟨E.ev.set r, E.omr, E.keep, E.om, fun j ds l h1 ho h2 => ?_, E.sub⟩
  rw [get_set] at h1 h2
  by_cases hij : i = j
  · rw [if_pos hij] at h1
    split at h1
    · cases h1; exact ho.elim
    · cases h1
  · rw [if_neg hij] at h1 h2
    exact E.nr1 j ds l h1 ho h2
theorem EI.less (E : EI K Hr R0 P0 H0 O H σ δ) {v : V} {d : D} (r : Rep K O H v d) : Rep K R0 H v d := r.to (.less E.sub)

def gNext : DS → M Out := fun δ => M.ret (.nx δ)
def gSeq (g h : DS → M Out) : DS → M Out := fun δ => (g δ).thn fun o => match o with
  | .nx δ' => h δ'
  | o => M.ret o
theorem pds_nil : PDSs X G [] gNext := ⟨_, pss_nil, fun R0 P0 H0 δ O σ H Dn E k => k O σ H E⟩
theorem pds_one (h1 : PDS X G st gs) : PDSs X G [st] gs := by
  obtain ⟨t, p, h1⟩ := h1
  exact ⟨_, pss_one p, h1⟩
theorem pds_cons (h1 : PDS X G st gs) (h2 : PDSs X G sts gt) : PDSs X G (st :: sts) (gSeq gs gt) := by
  obtain ⟨t, p, h1⟩ := h1
  obtain ⟨u, q, h2⟩ := h2
  refine ⟨_, pss_cons p q, fun R0 P0 H0 δ O σ H Dn E k => ?_⟩
  refine h1 R0 P0 H0 δ O σ H _ E (ok_mono (ok_thn k) fun o z => ?_)
  cases o with
  | nx δ' => exact fun O' σ' H' E' => h2 R0 P0 H0 δ' O' σ' H' Dn E' z
  | rt d => exact z
  | bk δ' => exact z
  | ct δ' => exact z
def gRet (f : DS → M D) : DS → M Out := fun δ => (f δ).thn fun d => M.ret (.rt d)
theorem pd_ret (he : PD X G e f) : PDS X G (.Return (some e) pos) (gRet f) := by
  obtain ⟨t, p, he⟩ := he
  refine ⟨_, ps_ret p, fun R0 P0 H0 δ O σ H Dn E k => ?_⟩
  exact he δ O σ H _ E.ev (ok_mono (ok_thn k) fun d z v H1 s1 r => z v H1 (fun b o n q => s1 _ _ (E.keep b o n q)) ((E.same s1).less r))
def gIf (c : DS → M Bool) (g h : DS → M Out) : DS → M Out := fun δ => (c δ).thn fun b => if b = true then g δ else h δ
theorem pd_ifS (hc : PDT X G c fb) (h1 : PDSs X G st1 gs) (h2 : PDSs X G st2 gt) : PDS X G (.If c st1 st2 pos) (gIf fb gs gt) := by
  obtain ⟨t, p, hc⟩ := hc
  obtain ⟨u, q, h1⟩ := h1
  obtain ⟨w, r, h2⟩ := h2
  refine ⟨_, ps_if p q r, fun R0 P0 H0 δ O σ H Dn E k => ?_⟩
  refine hc δ O σ H _ E.ev (ok_mono (ok_thn k) fun d z H1 s1 => ?_)
  cases d with
  | true =>
    rw [if_pos rfl] at z ⊢
    exact h1 R0 P0 H0 δ O σ H1 Dn (E.same s1) z
  | false =>
    rw [if_neg Bool.false_ne_true] at z ⊢
    exact h2 R0 P0 H0 δ O σ H1 Dn (E.same s1) z
def PDG (X : Cx) (target : Expr) (g : D → DS → Option DS) : Prop :=
  ∃ t, PG X target t ∧ ∀ {Hr : Hp} (R0 : List Addr) (P0 : Addr → Prop) (H0 : Hp) (δ δ' : DS) (d : D) (v : V) (O : List Addr) (σ : St) (H : Hp) (Q : St → Hp → Prop), EI X.K Hr R0 P0 H0 O H σ δ → Rep X.K O H v d → g d δ = some δ' →
    (∀ σ' H', EI X.K Hr R0 P0 H0 O H' σ' δ' → Same H H' → Q σ' H') → t v σ H Q
def PDGs (X : Cx) (ts : List Expr) (g : List D → DS → Option DS) : Prop :=
  ∃ t, PGs X ts t ∧ ∀ {Hr : Hp} (R0 : List Addr) (P0 : Addr → Prop) (H0 : Hp) (δ δ' : DS) (ds : List D) (vs : List V) (O : List Addr) (σ : St) (H : Hp) (Q : St → Hp → Prop), EI X.K Hr R0 P0 H0 O H σ δ → Reps X.K O H vs ds → g ds δ = some δ' →
    (∀ σ' H', EI X.K Hr R0 P0 H0 O H' σ' δ' → Same H H' → Q σ' H') → t vs σ H Q
def tgN (i : Nat) : D → DS → Option DS := fun d δ => some (δ.set i (.vl d))
theorem pdg_name {i : Nat} (h : PG X e (gName i)) : PDG X e (tgN i) := by
  refine ⟨_, h, fun R0 P0 H0 δ δ' d v O σ H Q E r e k => ?_⟩
  cases e
  exact k _ H (E.set r) (Same.refl H)
def tgNil : List D → DS → Option DS := fun ds δ => match ds with
  | [] => some δ
  | _ => none
def tgCons (t : D → DS → Option DS) (u : List D → DS → Option DS) : List D → DS → Option DS := fun ds δ => match ds with
  | d :: r => (t d δ).bind (u r)
  | [] => none
theorem pdgs_nil : PDGs X [] tgNil := by
  refine ⟨_, pgs_nil, fun R0 P0 H0 δ δ' ds vs O σ H Q E r e k => ?_⟩
  cases ds with
  | nil => cases r; cases e; exact ⟨rfl, k σ H E (Same.refl H)⟩
  | cons d ds => cases e
theorem pdgs_cons {t : D → DS → Option DS} {u : List D → DS → Option DS} (h1 : PDG X e t) (h2 : PDGs X es u)
    (hs : (assignEach (e :: es) X.env).map (·.2) = assign e X.env :: (assignEach es X.env).map (·.2) := by rfl) : PDGs X (e :: es) (tgCons t u) := by
  obtain ⟨t1, p1, h1⟩ := h1
  obtain ⟨t2, p2, h2⟩ := h2
  refine ⟨_, pgs_cons p1 p2 hs, fun R0 P0 H0 δ δ' ds vs O σ H Q E r e k => ?_⟩
  cases ds with
  | nil => cases e
  | cons d ds =>
    cases r with
    | @cons v _ vs _ r rs =>
      have e : (t d δ).bind (u ds) = some δ' := e
      cases e1 : t d δ with
      | none => rw [e1] at e; cases e
      | some δ1 =>
        rw [e1] at e
        refine ⟨v, vs, rfl, h1 R0 P0 H0 δ δ1 d v O σ H _ E r e1 fun σ1 H1 E1 s1 => ?_⟩
        exact h2 R0 P0 H0 δ1 δ' ds vs O σ1 H1 Q E1 (rs.same s1) e fun σ2 H2 E2 s2 => k σ2 H2 E2 (s1.trans s2)
def tgTup (n : Nat) (u : List D → DS → Option DS) : D → DS → Option DS := fun d δ => match d with
  | .tuple ds => if ds.length = n then u ds δ else none
  | _ => none
theorem pdg_tup {k : Nat} {u : List D → DS → Option DS} {n : Nat} (hc : X.calm = true) (h : PDGs X es u)
    (hn : (assignEach es X.env).length = n := by rfl) (hst : (assignEach es X.env).findIdx? (·.1) = none := by rfl) : PDG X (.Tuple es k pos) (tgTup n u) := by
  obtain ⟨t, p, h⟩ := h
  refine ⟨_, pg_tup hc p hn hst, fun R0 P0 H0 δ δ' d v O σ H Q E r e k => ?_⟩
  cases d with
  | tuple ds =>
    have e : (if ds.length = n then u ds δ else none) = some δ' := e
    by_cases hl : ds.length = n
    · rw [if_pos hl] at e
      obtain ⟨a, xs, rfl, h1, rs⟩ := r.tup_inv
      exact ⟨a, xs, rfl, h1, by rw [rs.length]; exact hl, h R0 P0 H0 δ δ' ds xs O σ H Q E rs e k⟩
    · rw [if_neg hl] at e; cases e
  | _ => cases e
def gAsg (f : DS → M D) (g : D → DS → Option DS) : DS → M Out := fun δ => (f δ).thn fun d => (M.lift (g d δ)).thn fun δ' => M.ret (.nx δ')
theorem pd_asg {tg : Expr} {g : D → DS → Option DS} (he : PD X G e f) (hg : PDG X tg g) (hs : swapsWithSole [tg] e pos.line X.env = pure false := by rfl) (hw : swappedStores [tg] e X.env = pure none := by rfl)
    (h1 : (assignEach [tg] X.env).map (·.2) = [assign tg X.env] := by rfl) : PDS X G (.Assign [tg] e pos) (gAsg f g) := by
  obtain ⟨t, p, he⟩ := he
  obtain ⟨u, q, hg⟩ := hg
  refine ⟨_, ps_asg p q hs hw h1, fun R0 P0 H0 δ O σ H Dn E k => ?_⟩
  refine he δ O σ H _ E.ev (ok_mono (ok_thn k) fun d z v H1 s1 r => ?_)
  obtain ⟨δ', hd, z⟩ := ok_lift (ok_thn z)
  exact hg R0 P0 H0 δ δ' d v O σ H1 _ (E.same s1) r hd fun σ' H' E' _ => z O σ' H' E'
theorem pd_set {i : Nat} {x : Str} {pos' : Pos} (hN : X.N.Nodup) (hi : X.N[i]? = some x) (hx : Loc X.env.scope x) (he : PD X G e f) (hs : swapsWith e (some (.Name x pos')) pos.line X.env = pure false := by rfl) (hf : X.fn x = true ∨ X.env.scope.names.lookup x = some .local := by first | exact .inl rfl | exact .inr rfl | assumption) :
    PDS X G (.Assign [.Name x pos'] e pos) (gAsg f (tgN i)) := by
  obtain ⟨t, p, he⟩ := he
  refine ⟨_, ps_set hN hi hx p hs hf, fun R0 P0 H0 δ O σ H Dn E k => ?_⟩
  refine he δ O σ H _ E.ev (ok_mono (ok_thn k) fun d z v H1 s1 r => ?_)
  obtain ⟨δ', hd, z⟩ := ok_lift (ok_thn z)
  cases hd
  exact z O _ H1 ((E.same s1).set r)

def forD (body : D → DS → M Out) : List D → DS → M Out
  | [], δ => M.ret (.nx δ)
  | x :: xs, δ => (body x δ).thn fun o => match o with
    | .nx δ' => forD body xs δ'
    | .ct δ' => forD body xs δ'
    | .bk δ' => M.ret (.nx δ')
    | .rt d => M.ret (.rt d)
def bodyD (t : D → DS → Option DS) (g : DS → M Out) : D → DS → M Out := fun d δ => (M.lift (t d δ)).thn g
def seqD : D → Option (List D)
  | .list ds => some ds
  | .tuple ds => some ds
  | _ => none
def iSeq (K : PySem.W.Frag) (tl : TE) : TI := fun σ H R => tl σ H fun x H1 => ∃ a, x = .ref a ∧ (((∃ xs, SqL K H1 a xs) ∧ R (Itl K a) H1) ∨ ((∃ xs, SqT K H1 a xs) ∧ R (Itt K a) H1))
theorem pi_seq {tg l : Expr} {tl : TE} (hl : PE X l tl) : PI X tg l (iSeq X.K tl) := by
  intro pins s σ H R I h
  refine thn (hl pins s σ H _ I h) fun v s1 ⟨x, H1, I1, r1, q1⟩ => ?_
  obtain ⟨a, e, q⟩ := q1
  subst e
  cases r1
  rcases q with ⟨⟨xs, hq⟩, q⟩ | ⟨⟨xs, hq⟩, q⟩
  · obtain ⟨its, rv, p, hz⟩ := I1.list hq
    refine wpAny_pyIter_list p.isList ?_
    refine ⟨s1.heap.objs.size, [s1.heap.objs.size], _, _, H1, rfl, I1.kept (t' := s1.toks) fun b o e => Heap.get?_push_of_some _ e, turn_list a _, ⟨_, Heap.get?_push_size _ rfl, rfl, rfl⟩, fun b hb => ?_, q⟩
    have e : b = s1.heap.objs.size := by simpa using hb
    subst e
    exact I1.fpOk (Nat.le_refl _) (I1.hok.fresh (Nat.le_refl _))
  · obtain ⟨its, rv, p, hz⟩ := I1.tuple hq
    refine wpAny_pyIter_tuple (show s1.heap.IsTuple a its.toArray from p) ?_
    refine ⟨s1.heap.objs.size, [s1.heap.objs.size], _, _, H1, rfl, I1.kept (t' := s1.toks) fun b o e => Heap.get?_push_of_some _ e, turn_tuple a _, ⟨_, Heap.get?_push_size _ rfl, rfl, rfl⟩, fun b hb => ?_, q⟩
    have e : b = s1.heap.objs.size := by simpa using hb
    subst e
    exact I1.fpOk (Nat.le_refl _) (I1.hok.fresh (Nat.le_refl _))

def Ch (O R0 : List Addr) (l : Addr) : Prop := l ∈ O ∧ l ∉ R0
theorem EI.noCh (E : EI K Hr R0 P0 H0 O H σ δ) {b : Addr} {o : HO} (n : ¬ P0 b) (h : H0 b = some o) : ¬ Ch O R0 b := fun ⟨z1, z2⟩ => by
  rcases E.om b z1 with q | q | q
  · exact z2 q
  · exact n q
  · rw [h] at q; cases q
theorem EI.inner (E : EI K Hr R0 P0 H0 O H σ δ) : EI K Hr R0 (Ch O R0) H O H σ δ :=
  ⟨E.ev, E.omr, fun b o _ h => h, fun l hl => (Classical.em (l ∈ R0)).elim .inl fun n => .inr (.inl ⟨hl, n⟩), E.nr1, E.sub⟩
theorem EI.outer {O1 : List Addr} {H1 : Hp} {σ1 : St} {δ1 : DS} (E : EI K Hr R0 P0 H0 O H σ δ) (E1 : EI K Hr R0 (Ch O R0) H O1 H1 σ1 δ1) : EI K Hr R0 P0 H0 O1 H1 σ1 δ1 := by
  refine ⟨E1.ev, E1.omr, fun b o n h => E1.keep b o (E.noCh n h) (E.keep b o n h), fun l hl => ?_, E1.nr1, E1.sub⟩
  rcases E1.om l hl with q | q | q
  · exact .inl q
  · exact E.om l q.1
  · refine .inr ?_
    by_cases hp : P0 l
    · exact .inl hp
    · cases e : H0 l with
      | none => exact .inr rfl
      | some o =>
        rw [E.keep l o hp e] at q
        cases q
theorem Fin.outer {Dn : Ends} (E : EI K Hr R0 P0 H0 O H σ δ) {o : Out} (h : Fin K Hr R0 P0 H0 Dn o) : Fin K Hr R0 (Ch O R0) H Dn o := by
  cases o with
  | nx δ1 => exact fun O1 σ1 H1 E1 => h O1 σ1 H1 (E.outer E1)
  | bk δ1 => exact fun O1 σ1 H1 E1 => h O1 σ1 H1 (E.outer E1)
  | ct δ1 => exact fun O1 σ1 H1 E1 => h O1 σ1 H1 (E.outer E1)
  | rt d => exact fun v H1 kp r => h v H1 (fun b o n q => kp b o (E.noCh n q) (E.keep b o n q)) r
theorem EI.to {O1 : List Addr} {H1 : Hp} {σ1 : St} {δ1 : DS} (E : EI K Hr R0 P0 H0 O H σ δ) (E1 : EI K Hr R0 (Ch O R0) H O1 H1 σ1 δ1) : To O O1 H H1 := by
  have nt : ∀ {b : Addr} {o : HO}, (∀ xs, o ≠ .lst xs) → (∀ xs, o ≠ .dK xs) → (∀ C dx fs, o ≠ .ins C dx fs) → H b = some o → ¬ Ch O R0 b := fun {b o} ho ho2 ho3 h z => by
    rcases E.ev.oo b z.1 with ⟨ys, hl⟩ | ⟨ys, hl⟩ | ⟨C, dx, fs, hl⟩
    · rw [h] at hl
      exact ho _ (Option.some.inj hl)
    · rw [h] at hl
      exact ho2 _ (Option.some.inj hl)
    · rw [h] at hl
      exact ho3 _ _ _ (Option.some.inj hl)
  have kp : ∀ {b : Addr} {o : HO}, b ∉ O → Rd H b o → b ∉ O1 ∧ Rd H1 b o := fun {b o} n h => by
    refine ⟨fun z => ?_, ?_⟩
    · rcases E1.om b z with q | q | q
      · exact n (E.sub b q)
      · exact n q.1
      · rcases h with h | ⟨u, h⟩
        · rw [h] at q; cases q
        · rw [h] at q; cases q
    · rcases h with h | ⟨u, h⟩
      · exact .inl (E1.keep _ _ (fun z => n z.1) h)
      · exact .inr ⟨u, E1.keep _ _ (fun z => n z.1) h⟩
  refine ⟨fun b xs h => ?_, fun b xs n h => kp n h, fun b xs n h => kp n h, fun b C dx fs n h => ⟨(kp n (.inl h)).1, E1.keep _ _ (fun z => n z.1) h⟩⟩
  · rcases h with h | ⟨u, h⟩
    · exact .inl (E1.keep _ _ (nt (fun _ z => by cases z) (fun _ z => by cases z) (fun _ _ _ z => by cases z) h) h)
    · exact .inr ⟨u, E1.keep _ _ (nt (fun _ z => by cases z) (fun _ z => by cases z) (fun _ _ _ z => by cases z) h) h⟩
theorem drop_get {ds : List D} {i : Nat} {d : D} (h : ds[i]? = some d) : ds.drop i = d :: ds.drop (i + 1) := by
  obtain ⟨hl, e⟩ := List.getElem?_eq_some_iff.mp h
  rw [List.drop_eq_getElem_cons hl, e]
def rngD (lo : Int) (n : Nat) : List D := (List.range n).map fun (i : Nat) => PyData.int (lo + (i : Int))
def b62 (j : Int) : Bool := decide (-4611686018427387904 ≤ j ∧ j < 4611686018427387904)
def rng1 : List D → Option (List D)
  | [.int j] => if b62 j = true then some (rngD 0 j.toNat) else none
  | _ => none
theorem b62_of {j : Int} (h : b62 j = true) : -(2 ^ 62) ≤ j ∧ j < 2 ^ 62 := by
  have e62 : (2 : Int) ^ 62 = 4611686018427387904 := by decide
  rw [e62]
  exact of_decide_eq_true h
end

def spD (K : PySem.W.Frag) (n : Nat) (F : List D → M D) : Sp := fun vs H Q _ => ∃ O ds, vs.length = n ∧ (∀ l ∈ O, Mu H l) ∧ Reps K O H vs ds ∧ ok (fun _ => False) (F ds) (fun d => ∀ v H', Same H H' → Rep K O H' v d → Q v H')
structure Def (P : Program) (w : World) (K : PySem.W.Frag) (mg : Str → Option Value) (base : Heap) (k : Nat) (x : Str) (n : Nat) (F : List D → M D) : Prop where
  ex : ∃ (f : Addr) (fd : FuncData) (ps : List Str), FnOk P w K mg base CX0 k f fd ps (spD K n F) ∧ mg x = some (.ref f) ∧ PySem.W.keepIn K (.ref f) = true ∧ Binds K fd ps []
def dCall (F : List D → M D) (fa : DS → M (List D)) : DS → M D := fun δ => (fa δ).thn F
section
variable {X : Cx} {G : XD → Hp → Prop} {a b c e : Expr} {es rest : List Expr} {f g h : DS → M D} {fb gb : DS → M Bool} {fa : DS → M (List D)} {pos : Pos}
theorem ok_false {α : Type} {G : XD → Prop} {r : M α} {k : α → Prop} (h : ok (fun _ => False) r k) : ok G r k := by
  match r, h with
  | some (.ok a), h => exact h
def noX {α : Type} (r : M α) : M α := match r with
  | some (.error _) => none
  | r => r
theorem ok_noX {α : Type} {G : XD → Prop} {r : M α} {k : α → Prop} (h : ok G (noX r) k) : ok (fun _ => False) r k := by
  match r, h with
  | some (.ok a), h => exact h
theorem pd_call {k n : Nat} {x : Str} {p : Pos} {F : List D → M D} (h : Def X.prog X.w X.K X.mg X.base k x n F) (hr : Room k X.A) (hg : Gl X x) (hn : (e :: es).length = n) (ha : PDA X G (e :: es) fa)
    (hdb : (x == ("__debug__" : Str)) = false := by decide) (he : starEach (e :: es) X.env = (false, eval e X.env) :: starEach es X.env := by rfl) (hpl : (backTo pos (starEach es X.env)).any (·.1) = false := by rfl) :
    PD X G (.Call (.Name x p) (e :: es) [] pos) (dCall (fun ds => noX (F ds)) fa) := by
  obtain ⟨f, fd, ps, F1, hm, hk, hb⟩ := h.ex
  obtain ⟨hl, t, pa, ha⟩ := ha
  refine ⟨_, pe_call F1 hr hg hm hk hb .nil pass0 pa hdb he hpl, fun δ O σ H Q E k => ?_⟩
  have k1 := ok_thn k
  refine ha δ O σ H _ E ?_
  cases e1 : fa δ with
  | none => rw [e1] at k1; exact k1.elim
  | some r =>
    rw [e1] at k1
    cases r with
    | error x => exact k1
    | ok ds =>
      refine fun vs H1 s1 rs => ?_
      refine ⟨O, ds, ?_, (E.same s1).oo, ?_, ok_mono (ok_noX k1) fun d z v H2 s2 r => z v H2 (s1.trans s2) r⟩
      · rw [List.append_nil, rs.length, hl δ ds e1]
        exact hn
      · rw [List.append_nil]
        exact rs
end
def startD (n : Nat) (ds : List D) : DS := ds.map Sl.vl ++ List.replicate (n - ds.length) Sl.un
def endD (o : Out) : M D := match o with
  | .rt d => M.ret d
  | .nx _ => M.ret .none
  | _ => none
def run (n : Nat) (g : DS → M Out) (ds : List D) : M D := (g (startD n ds)).thn endD
section
variable {P : Program} {w : World} {K : PySem.W.Frag} {mg : Str → Option Value} {base : Heap}
theorem start_no {n i : Nat} {ds : List D} {s : Sl} (h1 : (startD n ds)[i]? = some s) (ho : s.own) : False := by
  unfold startD at h1
  by_cases hi : i < ds.length
  · rw [List.getElem?_append_left (by simpa using hi), List.getElem?_map] at h1
    cases e : ds[i]? with
    | none => rw [e] at h1; cases h1
    | some d => rw [e] at h1; cases h1; exact ho
  · rw [List.getElem?_append_right (by simpa using hi), List.getElem?_replicate] at h1
    split at h1
    · cases h1; exact ho
    · cases h1
theorem ev_start {O : List Addr} {H : Hp} {vs : List V} {ds : List D} (N : List Str) (oo : ∀ l ∈ O, Mu H l) (r : Reps K O H vs ds) : Ev K H O H (L2.start N vs) (startD N.length ds) := by
  have get : ∀ (i : Nat) (s : Sl), (startD N.length ds)[i]? = some s → (∃ d, ds[i]? = some d ∧ s = .vl d) ∨ s = .un := fun i s h => by
    unfold startD at h
    by_cases hi : i < ds.length
    · rw [List.getElem?_append_left (by simpa using hi), List.getElem?_map] at h
      cases e : ds[i]? with
      | none => rw [e] at h; cases h
      | some d => rw [e] at h; cases h; exact .inl ⟨d, rfl, rfl⟩
    · rw [List.getElem?_append_right (by simpa using hi), List.getElem?_replicate] at h
      split at h
      · cases h; exact .inr rfl
      · cases h
  refine ⟨Same.refl H, oo, ?_, fun i s h => ?_, fun i j l es fs hij h1 h2 h3 => ?_⟩
  · unfold L2.start startD
    simp [r.length]
  · rcases get i s h with ⟨d, hd, rfl⟩ | rfl
    · obtain ⟨v, hv, rd⟩ := r.get hd
      refine ⟨v, ?_, rd⟩
      unfold L2.start
      have hi : i < vs.length := (List.getElem?_eq_some_iff.mp hv).1
      rw [List.getElem?_append_left (by simpa using hi), List.getElem?_map, hv]
      rfl
    · trivial
  · rcases get i _ h1 with ⟨d, _, z⟩ | z <;> cases z
theorem fn_ofD {x qual : Str} {st : Stmt} {f : Addr} {fd : FuncData} {N ps : List Str} {k : Nat} {g : DS → M Out} (F0 : Fun K x qual st f fd) (S : FnScope N ps (defScope st))
    (hbody : ∀ (cdv : Value) (A : Around) (outer : List Env) (s : Shared) (H : Hp) (E : XK), Room k (A.deeper (envOfC qual (defScope st) s.heap.objs.size f cdv)) →
      PDSs (cxOf CX0 P w K mg base N qual (defScope st) f cdv A outer s H E).nox (fun _ _ => False) (defBody st) g) : FnOk P w K mg base CX0 (k + 1) f fd ps (spD K ps.length (run N.length g)) := by
  refine F0.ok S (fun vs H Q E h => ?_) (fun cdv A outer s H vs Q E hr h => ?_)
  · obtain ⟨O, ds, hl, _⟩ := h
    exact hl
  · obtain ⟨O, ds, hl, oo, r, q⟩ := h
    obtain ⟨t, p, hB⟩ := hbody cdv A outer s H E hr
    refine ⟨t, p, hB O (fun _ => False) H (startD N.length ds) O (L2.start N vs) H _ ⟨ev_start N oo r, fun l hl => .inl hl, fun b o _ h => h, fun l hl => .inl hl, fun i es l h1 ho h2 => ?_, fun l hl => hl⟩ (ok_mono (ok_false (ok_thn q)) fun o z => ?_)⟩
    · exact (start_no h1 ho).elim
    · cases o with
      | rt d => exact fun v H' kp r => z v H' (fun b o h => kp b o (fun w => w) h) r
      | nx δ => exact fun O' σ' H' E' => z .non H' (fun b o h => E'.keep b o (fun w => w) h) .non
      | bk δ => exact z.elim
      | ct δ => exact z.elim
theorem def_of {x qual : Str} {st : Stmt} {f : Addr} {fd : FuncData} {N ps : List Str} {k : Nat} {g : DS → M Out} (F0 : Fun K x qual st f fd) (S : FnScope N ps (defScope st)) (hm : mg x = some (.ref f)) (hb : Binds K fd ps [])
    (hbody : ∀ (cdv : Value) (A : Around) (outer : List Env) (s : Shared) (H : Hp) (E : XK), Room k (A.deeper (envOfC qual (defScope st) s.heap.objs.size f cdv)) →
      PDSs (cxOf CX0 P w K mg base N qual (defScope st) f cdv A outer s H E).nox (fun _ _ => False) (defBody st) g) : Def P w K mg base (k + 1) x ps.length (run N.length g) :=
  ⟨f, fd, ps, fn_ofD F0 S hbody, hm, F0.kp, hb⟩
end
end DL
namespace DL
open PySem PySem.Spec L2
section
variable {δ δ' : DS} {f g : DS → M D} {fb gb : DS → M Bool} {fa : DS → M (List D)} {gs gt g1 g2 : DS → M Out} {d x y : D} {b b1 b2 : Bool} {ds xs : List D} {i j : Int} {r : M Out} {o : Out}
theorem ev_var {n : Nat} (h : δ[n]? = some (.vl d)) : dVar n δ = M.ret d := by unfold dVar; rw [h]
theorem ev_c : dC d δ = M.ret d := rfl
theorem ev_2 {h : D → D → Option D} (h1 : f δ = M.ret x) (h2 : g δ = M.ret y) (h3 : h x y = some d) : d2 h f g δ = M.ret d := by
  unfold d2; rw [h1, thn_ret, h2, thn_ret, h3]; rfl
theorem ev_1 {h : D → Option D} (h1 : f δ = M.ret x) (h3 : h x = some d) : d1 h f δ = M.ret d := by
  unfold d1; rw [h1, thn_ret, h3]; rfl
theorem o_add : oAdd (.int i) (.int j) = some (.int (i + j)) := rfl
theorem o_sub : oSub (.int i) (.int j) = some (.int (i - j)) := rfl
theorem o_mul (h : bMul i j = true) : oMul (.int i) (.int j) = some (.int (i * j)) := if_pos h
theorem o_div (h : bDiv j = true) : oDiv (.int i) (.int j) = some (.int (i / j)) := if_pos h
theorem o_mod (h : 0 < j) : oMod (.int i) (.int j) = some (.int (i % j)) := if_pos (decide_eq_true h)
theorem o_lt : oLt (.int i) (.int j) = some (.bool (decide (i < j))) := rfl
theorem o_lenL : oLen [.list ds] = some (.int ds.length) := rfl
theorem o_lenT : oLen [.tuple ds] = some (.int ds.length) := rfl
theorem o_eq : oEq (.int i) (.int j) = some (.bool (decide (i = j))) := by
  show some (PyData.bool (i == j)) = _
  rw [Bool.beq_eq_decide_eq]
theorem o_ne : oNe (.int i) (.int j) = some (.bool (!decide (i = j))) := by
  show some (PyData.bool (!(i == j))) = _
  rw [Bool.beq_eq_decide_eq]
theorem bMul_l (h1 : -18446744073709551616 < i) (h2 : i < 18446744073709551616) : bMul i j = true := decide_eq_true (.inl ⟨h1, h2⟩)
theorem bMul_r (h1 : -18446744073709551616 < j) (h2 : j < 18446744073709551616) : bMul i j = true := decide_eq_true (.inr ⟨h1, h2⟩)
theorem bDiv_of (h1 : 0 < j) (h2 : j < 1267650600228229401496703205376) : bDiv j = true := decide_eq_true ⟨h1, h2⟩
theorem ev_b (h : f δ = M.ret (.bool b)) : dB f δ = M.ret b := by unfold dB; rw [h]; rfl
theorem ev_not (h : fb δ = M.ret b) : dNot fb δ = M.ret (!b) := by unfold dNot; rw [h]; rfl
theorem ev_or (h1 : fb δ = M.ret b1) (h2 : gb δ = M.ret b2) : dOr fb gb δ = M.ret (b1 || b2) := by
  unfold dOr; rw [h1, thn_ret, h2]; cases b1 <;> rfl
theorem ev_or_t (h1 : fb δ = M.ret true) : dOr fb gb δ = M.ret true := by unfold dOr; rw [h1]; rfl
theorem ev_andV (h1 : f δ = M.ret (.bool b1)) (h2 : g δ = M.ret (.bool b2)) : dAndV f g δ = M.ret (.bool (b1 && b2)) := by
  unfold dAndV; rw [ev_b h1, thn_ret, h2]; cases b1 <;> rfl
theorem ev_andV_f (h1 : f δ = M.ret (.bool false)) : dAndV f g δ = M.ret (.bool false) := by unfold dAndV; rw [ev_b h1]; rfl
theorem ev_andV_t (h1 : f δ = M.ret (.bool true)) (h2 : g δ = M.ret d) : dAndV f g δ = M.ret d := by unfold dAndV; rw [ev_b h1, thn_ret, if_pos rfl]; exact h2
theorem ev_is {T : String} (h : f δ = M.ret d) (hi : noIns d = true := by rfl) : dIs T f δ = M.ret (.bool (isD T d)) := by unfold dIs; rw [h, thn_ret, if_pos hi]
theorem ev_nil : dNil δ = M.ret [] := rfl
theorem ev_cons (h1 : f δ = M.ret x) (h2 : fa δ = M.ret xs) : dCons f fa δ = M.ret (x :: xs) := by unfold dCons; rw [h1, thn_ret, h2]; rfl
theorem ev_tup (h : fa δ = M.ret ds) (hz : small ds.length = true) : dTup fa δ = M.ret (.tuple ds) := by unfold dTup; rw [h, thn_ret, if_pos hz]
theorem ev_lst (h : fa δ = M.ret ds) (hz : small ds.length = true) : dLst fa δ = M.ret (.list ds) := by unfold dLst; rw [h, thn_ret, if_pos hz]
theorem ev_cb {h : List D → Option D} (h1 : fa δ = M.ret ds) (h2 : h ds = some d) : dCB h fa δ = M.ret d := by unfold dCB; rw [h1, thn_ret, h2]; rfl
theorem ev_call {F : List D → M D} (h1 : fa δ = M.ret ds) (h2 : F ds = M.ret d) : dCall (fun ds => noX (F ds)) fa δ = M.ret d := by
  unfold dCall; rw [h1, thn_ret, h2]; rfl
theorem ev_part (h : f δ = M.ret (.int i)) : dPart f δ = M.ret (some i) := by unfold dPart; rw [h]; rfl
theorem ev_nopart : dNoPart δ = M.ret none := rfl
theorem ev_seq (h1 : gs δ = M.ret (.nx δ')) (h2 : gt δ' = r) : gSeq gs gt δ = r := by unfold gSeq; rw [h1]; exact h2
theorem ev_seqR (h1 : gs δ = M.ret (.rt d)) : gSeq gs gt δ = M.ret (.rt d) := by unfold gSeq; rw [h1]; rfl
theorem ev_seqIf (h1 : fb δ = M.ret b) (h2 : (if b = true then gSeq g1 gt δ else gSeq g2 gt δ) = r) : gSeq (gIf fb g1 g2) gt δ = r := by
  unfold gSeq gIf; rw [h1, thn_ret]; unfold gSeq at h2; cases b <;> exact h2
theorem ev_asg {n : Nat} (h : f δ = M.ret d) : gAsg f (tgN n) δ = M.ret (.nx (δ.set n (.vl d))) := by unfold gAsg; rw [h]; rfl
theorem ev_asgT {t : D → DS → Option DS} (h : f δ = M.ret d) (h2 : t d δ = some δ') : gAsg f t δ = M.ret (.nx δ') := by unfold gAsg; rw [h, thn_ret, h2]; rfl
theorem ev_ret (h : f δ = M.ret d) : gRet f δ = M.ret (.rt d) := by unfold gRet; rw [h]; rfl
theorem ev_run {n : Nat} (h : gs (startD n ds) = M.ret (.rt d)) : run n gs ds = M.ret d := by unfold run; rw [h]; rfl
theorem ite_T {α : Type} {A B r : α} {b : Bool} (h : b = true) (k : A = r) : (if b = true then A else B) = r := by rw [if_pos h]; exact k
theorem ev_body {t : D → DS → Option DS} (h1 : t d δ = some δ') (h2 : gs δ' = r) : bodyD t gs d δ = r := by unfold bodyD; rw [h1]; exact h2
end
end DL
namespace L2
open PySem PySem.Spec PyProof.Rows
section
variable {X : Cx}
end
end L2

namespace DL
open PySem PySem.Spec PyProof.Rows L2
def tD (K : PySem.W.Frag) (G : XD → Hp → Prop) (f : DS → M D) : TE := fun σ H Q => ∃ Hr δ O, Ev K Hr O H σ δ ∧ ok (GS G Hr) (f δ) (fun d => ∀ v H', Same H H' → Rep K O H' v d → Q v H')
theorem PD.can {X : Cx} {G : XD → Hp → Prop} {e : Expr} {f : DS → M D} (h : PD X G e f) : PE X e (tD X.K G f) := by
  obtain ⟨t, p, h⟩ := h
  intro pins s σ H Q I hw
  obtain ⟨Hr, δ, O, E, k⟩ := hw
  exact p pins s σ H Q I (h δ O σ H Q E k)
section
variable {K : PySem.W.Frag} {G : XD → Prop} {f : DS → M D}
def Kp (l : Addr) (H H' : Hp) : Prop := ∀ b o, b ≠ l → H b = some o → H' b = some o
theorem Kp.to {O : List Addr} {H H' : Hp} {l : Addr} (k : Kp l H H') (hl : H l = none) : To O (l :: O) H H' := by
  have rd : ∀ {b : Addr} {o : HO}, Rd H b o → Rd H' b o := fun {b o} h => by
    have hb := Rd.ne_new h hl
    rcases h with h | ⟨u, h⟩
    · exact .inl (k _ _ hb h)
    · exact .inr ⟨u, k _ _ hb h⟩
  have no : ∀ {b : Addr} {o : HO}, b ∉ O → Rd H b o → b ∉ l :: O := fun {b o} n h z => by
    rcases List.mem_cons.mp z with z | z
    · exact Rd.ne_new h hl z
    · exact n z
  exact ⟨fun b xs h => rd h, fun b xs n h => ⟨no n h, rd h⟩, fun b xs n h => ⟨no n h, rd h⟩, fun b C dx fs n h => ⟨no n (.inl h), k _ _ (ne_of_none h hl) h⟩⟩
theorem Kp.same {H H' : Hp} {l : Addr} (k : Kp l H H') (hl : H l = none) : Same H H' := fun b o e => k b o (ne_of_none e hl) e
end
section
variable {X : Cx} {G : XD → Hp → Prop} {fi f : DS → M D}
def bools : List D → Option (List Bool)
  | [] => some []
  | .bool b :: r => (bools r).map (b :: ·)
  | _ => none
theorem bools_get : ∀ {ds : List D} {bs : List Bool}, bools ds = some bs → ds = bs.map PyData.bool
  | [], bs, h => by cases h; rfl
  | .bool b :: r, bs, h => by
    have h : (bools r).map (b :: ·) = some bs := h
    cases e : bools r with
    | none => rw [e] at h; cases h
    | some cs => rw [e] at h; cases h; rw [bools_get e]; rfl
theorem reps_bools {K : PySem.W.Frag} {O : List Addr} {H : Hp} : ∀ {bs : List Bool} {vs : List V}, Reps K O H vs (bs.map PyData.bool) → vs = bs.map V.bl
  | [], _, .nil => rfl
  | b :: bs, _, .cons r rs => by rw [r.bool_inv, reps_bools rs]; rfl
theorem call_allL (hc : X.calm = true) : CallR X (.builtin "all") (fun xs H Q => ∃ (p : Addr) (bs : List Bool), xs = [.ref p] ∧ SqL X.K H p (bs.map V.bl) ∧ Q (.bl (bs.all id)) H) := by
  intro pins s σ H xs us Q I r h
  obtain ⟨l, bs, rfl, hq, q⟩ := h
  obtain ⟨u, rfl, rx⟩ := vals1 r
  cases rx
  obtain ⟨its, rv, pl, hz⟩ := I.list hq
  have hl := pl.isList
  have hlt : l < s.heap.objs.size := by obtain ⟨_, e, _⟩ := hl; exact Heap.lt_size e
  have hlen : its.length = bs.length := by rw [← rv.length, List.length_map]
  refine call_all_walk (wpAny_pyIter_list hl ?_)
  refine ⟨s.heap.objs.size, [s.heap.objs.size, l], [s.heap.objs.size], its.toArray.size, _, _, fun i => (bs[i]?).getD true, rfl, Walks.list (A := X.A.in1) (I.ok.hd hc) _ l (Nat.ne_of_lt hlt) its.toArray,
    ⟨⟨_, Heap.get?_push_size _ rfl, rfl, rfl⟩, hl.push _⟩, fun i v s' Q' E' hP hQ => ?_, fun h' tk hk => ?_⟩
  · have hv : its[i]? = some v := by simpa using hP
    have hi : i < bs.length := by rw [← hlen]; exact (List.getElem?_eq_some_iff.mp hv).1
    obtain ⟨w', e1, e2⟩ := rv.get (i := i) (x := V.bl bs[i]) (by rw [List.getElem?_map, List.getElem?_eq_getElem hi]; rfl)
    rw [hv] at e1
    cases e1
    cases (show v = Value.bool bs[i] from e2)
    dsimp only at hQ
    rw [List.getElem?_eq_getElem hi] at hQ
    exact wpAny_truthy_bool hQ
  · have e : ((List.range its.toArray.size).all fun i => (bs[i]?).getD true) = bs.all id := by
      rw [List.size_toArray, hlen]; exact LSm.range_all bs
    rw [e]
    exact ⟨.bl _, H, I.kept fun b o e => LSm.kept_iter hk b o e, rfl, q⟩
def oAll : List D → Option D
  | [.list ds] => (bools ds).map fun bs => .bool (bs.all id)
  | _ => none
theorem dcall_all (hc : X.calm = true) : DCall X (.builtin "all") oAll := by
  refine ⟨_, call_allL hc, fun O H ds d vs Q oo rs e k => ?_⟩
  unfold oAll at e
  split at e
  · rename_i es
    cases e1 : bools es with
    | none => rw [e1] at e; cases e
    | some bs =>
      rw [e1] at e
      cases e
      obtain ⟨v, rfl, r⟩ := reps1 rs
      obtain ⟨p, xs, rfl, h1, rx⟩ := r.lst_inv
      rw [bools_get e1] at rx
      rw [reps_bools rx] at h1
      exact ⟨p, bs, rfl, h1, k _ H (Same.refl H) (.bl _)⟩
  · cases e
end
section
variable {δ : DS} {fi f : DS → M D} {x y : D} {ds ys : List D}
end
end DL
namespace L2
open PySem PySem.Spec PyProof.Rows
section
variable {X : Cx}
end
end L2

namespace DL
open PySem PySem.Spec PyProof.Rows L2
def slotAt (δ : DS) (j : Nat) : Sl := match δ[j]? with
  | some (.vl d) => .vl d
  | _ => .un
section
variable {K : PySem.W.Frag} {G : XD → Prop} {f : DS → M D}
end
section
variable {X : Cx} {G : XD → Hp → Prop} {fi f : DS → M D}
end
section
variable {δ : DS} {fi f : DS → M D} {x : D} {ds ys : List D} {js : List Nat}
end
end DL
namespace DL
open PySem PySem.Spec PyProof.Rows L2
section
variable {X : Cx} {G : XD → Hp → Prop} {a b c e : Expr} {f : DS → M D} {pos pos' : Pos} {sts : List Stmt} {gs : DS → M Out}
variable {K : PySem.W.Frag} {Hr : Hp} {R0 : List Addr} {P0 : Addr → Prop} {H0 H H' : Hp} {O : List Addr} {σ : St} {δ : DS}
theorem SlOk.to {O' : List Addr} {o : Option (Option V)} {s : Sl} (t : To O O' H H') (hd : ∀ l kvs, l ∈ O → H l = some (.dK kvs) → l ∈ O' ∧ H' l = some (.dK kvs)) (hs : ∀ l xs, l ∈ O → H l = some (.lst xs) → o = some (some (.ref l)) → (∃ ds, s = .ow ds) → l ∈ O' ∧ H' l = some (.lst xs)) (h : SlOk K O H o s) : SlOk K O' H' o s := by
  cases s with
  | un => trivial
  | ex a => exact h
  | vl d =>
    obtain ⟨v, h1, r⟩ := h
    exact ⟨v, h1, r.to t⟩
  | ow ds =>
    obtain ⟨l, xs, h1, h2, h3, r⟩ := h
    obtain ⟨q1, q2⟩ := hs l xs h2 h3 h1 ⟨ds, rfl⟩
    exact ⟨l, xs, h1, q1, q2, r.to t⟩
  | od es =>
    obtain ⟨l, kvs, h1, h2, h3, hk, r⟩ := h
    obtain ⟨q1, q2⟩ := hd l kvs h2 h3
    exact ⟨l, kvs, h1, q1, q2, hk, r.to t⟩
theorem hd_new {l : Addr} {o : HO} (hl : H l = none) : ∀ a kvs, a ∈ O → H a = some (.dK kvs) → a ∈ l :: O ∧ upd H l o a = some (.dK kvs) := fun a kvs h1 h2 => ⟨List.mem_cons_of_mem _ h1, by rw [upd_ne (ne_of_none h2 hl)]; exact h2⟩
theorem hd_set {l : Addr} {xs : List V} {o : HO} (hl : H l = some (.lst xs)) : ∀ a kvs, a ∈ O → H a = some (.dK kvs) → a ∈ O ∧ upd H l o a = some (.dK kvs) := fun a kvs h1 h2 => ⟨h1, by rw [upd_ne (ne_of h2 hl (by intro z; cases z))]; exact h2⟩
theorem EI.app {i : Nat} {l : Addr} {xs : List V} {ds : List D} {v : V} {d : D} (E : EI K Hr R0 P0 H0 O H σ δ) (hd : δ[i]? = some (.ow ds)) (hσ : σ[i]? = some (some (.ref l))) (hl : H l = some (.lst xs)) (rx : Reps K O H xs ds) (r : Rep K O H v d) :
    EI K Hr R0 P0 H0 O (upd H l (.lst (xs ++ [v]))) σ (δ.set i (.ow (ds ++ [d]))) := by
  obtain ⟨l', xs', q1, lO, q3, _⟩ := E.ev.at_ i _ hd
  rw [hσ] at q1
  cases q1
  have tO : To O O H (upd H l (.lst (xs ++ [v]))) := To.set hl lO
  refine ⟨⟨fun b o h => ?_, fun a ha => ?_, by rw [List.length_set]; exact E.ev.len, fun j s h => ?_, fun j k a es es' hjk h1 h2 h3 => ?_⟩, E.omr, fun b o n h => ?_, E.om, fun j es a h1 ho h2 => ?_, E.sub⟩
  · have q := E.ev.root b o h
    have hne : b ≠ l := fun z => by
      subst z
      rcases E.omr b lO with w | w
      · exact E.nr i ds b hd hσ w
      · rw [h] at w; cases w
    rw [upd_ne hne]
    exact q
  · by_cases hb : a = l
    · rw [hb]; exact .lst upd_same
    · exact (E.ev.oo a ha).upd_ne hb
  · rw [get_set] at h
    by_cases hij : i = j
    · rw [if_pos hij] at h
      split at h
      · cases h
        rw [← hij, hσ]
        exact ⟨l, _, rfl, lO, upd_same, (rx.to tO).append (.cons (r.to tO) .nil)⟩
      · cases h
    · rw [if_neg hij] at h
      refine (E.ev.at_ j s h).to tO (hd_set hl) fun a ys h1 h2 h3 h4 => ⟨h1, ?_⟩
      obtain ⟨es, rfl⟩ := h4
      have hne : a ≠ l := fun z => by
        subst z
        exact E.ev.dis i j a ds es hij hd h hσ h3
      rw [upd_ne hne]
      exact h2
  · have old : ∀ (j : Nat) (es : List D), (δ.set i (.ow (ds ++ [d])))[j]? = some (.ow es) → ∃ es', δ[j]? = some (.ow es') := fun j es h => by
      rw [get_set] at h
      by_cases hij : i = j
      · rw [← hij]; exact ⟨ds, hd⟩
      · rw [if_neg hij] at h; exact ⟨es, h⟩
    obtain ⟨e1, h1⟩ := old j es h1
    obtain ⟨e2, h2⟩ := old k es' h2
    exact E.ev.dis j k a e1 e2 hjk h1 h2 h3
  · have q := E.keep b o n h
    have hne : b ≠ l := fun z => by
      subst z
      rcases E.om b lO with w | w | w
      · exact E.nr i ds b hd hσ w
      · exact n w
      · rw [h] at w; cases w
    rw [upd_ne hne]
    exact q
  · rw [get_set] at h1
    by_cases hij : i = j
    · exact E.nr i ds a hd (by rw [hij]; exact h2)
    · rw [if_neg hij] at h1
      exact E.nr1 j es a h1 ho h2
def gApp (i : Nat) (f : DS → M D) : DS → M Out := fun δ => match δ[i]? with
  | some (.ow ds) => (f δ).thn fun d => if small (ds.length + 1) then M.ret (.nx (δ.set i (.ow (ds ++ [d])))) else none
  | _ => none
theorem small_lt {n : Nat} (h : small (n + 1) = true) : n < sizeLine := by
  have := small_le h
  omega
theorem pd_app {i : Nat} {x : Str} {xp apos cpos : Pos} (hv : PE X (.Name x xp) (tVar i)) (he : PD X G e f)
    (hst : starEach [e] X.env = (false, eval e X.env) :: starEach [] X.env := by rfl)
    (hbase : attributeBase (.Name x xp) "append" X.env (eval (.Name x xp) X.env) = eval (.Name x xp) X.env := by rfl)
    (hfew : ((backTo cpos (starEach [e] X.env)).all (fun x => !x.1) && (backToKw cpos (keywordEach [] X.env)).all (fun x => x.1.isSome)
      && decide ([e].length + ([] : List Keyword).length + (if ([] : List Keyword).isEmpty then 0 else 1) < 30)) = true := by rfl)
    (hline : (apos.endLine == cpos.line) = true := by rfl) (hplain : (backTo cpos (starEach [] X.env)).any (·.1) = false := by rfl)
    (hs : swapsWith (.Call (.Attribute (.Name x xp) "append" apos) [e] [] cpos) none pos.line X.env = pure false := by rfl) :
    PDS X G (.Expr (.Call (.Attribute (.Name x xp) "append" apos) [e] [] cpos) pos) (gApp i f) := by
  obtain ⟨t, p, he⟩ := he
  refine ⟨_, ps_expr (pe_bm PySem.F.plainAttrs_list PySem.F.slot_list_append PySem.F.type_list_append mt_append hv (pa_cons p pa_nil hst) hbase hfew hline hst hplain) hs, fun R0 P0 H0 δ O σ H Dn E k => ?_⟩
  unfold gApp at k
  split at k
  · rename_i ds hd
    obtain ⟨l, xs, q1, q2, q3, q4⟩ := E.ev.at_ i _ hd
    refine ⟨.ref l, q1, .inl ⟨rfl, xs, .inl (.inl q3)⟩, ?_⟩
    refine he δ O σ H _ E.ev (ok_mono (ok_thn k) fun d z v H1 s1 r => ?_)
    by_cases hz : small (ds.length + 1) = true
    · rw [if_pos hz] at z
      refine ⟨l, xs, v, rfl, rfl, s1 _ _ q3, by rw [q4.length]; exact small_lt hz, ?_⟩
      exact z O σ _ ((E.same s1).app hd q1 (s1 _ _ q3) (q4.same s1) r)
    · rw [if_neg hz] at z
      exact z.elim
  · exact k.elim
def frz (i : Nat) (δ : DS) : DS := match δ[i]? with
  | some (.ow ds) => δ.set i (.vl (.list ds))
  | _ => δ
theorem EI.frz {i : Nat} (E : EI K Hr R0 P0 H0 O H σ δ) : ∃ O', EI K Hr R0 P0 H0 O' H σ (DL.frz i δ) := by
  unfold DL.frz
  split
  · rename_i ds hd
    obtain ⟨l, xs, q1, q2, q3, q4⟩ := E.ev.at_ i _ hd
    have nr := E.nr i ds l hd q1
    refine ⟨O.filter (fun a => decide (a ≠ l)), ⟨E.ev.root, fun a ha => E.ev.oo a (List.mem_filter.mp ha).1, by rw [List.length_set]; exact E.ev.len, fun j s h => ?_, fun j k a es es' hjk h1 h2 h3 => ?_⟩, fun a ha => E.omr a (List.mem_filter.mp ha).1, E.keep, fun a ha => E.om a (List.mem_filter.mp ha).1, fun j es a h1 ho h2 => ?_, fun a ha => ?_⟩
    · have tl : To O (O.filter (fun a => decide (a ≠ l))) H H := To.less fun b hb => (List.mem_filter.mp hb).1
      rw [get_set] at h
      by_cases hij : i = j
      · rw [if_pos hij] at h
        split at h
        · cases h
          rw [← hij, q1]
          exact ⟨.ref l, rfl, .lst (.inl q3) (fun z => absurd rfl (of_decide_eq_true (List.mem_filter.mp z).2)) (q4.to tl)⟩
        · cases h
      · rw [if_neg hij] at h
        refine (E.ev.at_ j s h).to tl (fun a kvs h1 h2 => ⟨List.mem_filter.mpr ⟨h1, decide_eq_true (ne_of h2 q3 (by intro z; cases z))⟩, h2⟩) fun a ys h1 h2 h3 h4 => ⟨List.mem_filter.mpr ⟨h1, decide_eq_true fun z => ?_⟩, h2⟩
        obtain ⟨es, rfl⟩ := h4
        subst z
        exact E.ev.dis i j a ds es hij hd h q1 h3
    · have old : ∀ (j : Nat) (es : List D), (δ.set i (.vl (.list ds)))[j]? = some (.ow es) → δ[j]? = some (.ow es) := fun j es h => by
        rw [get_set] at h
        by_cases hij : i = j
        · rw [if_pos hij] at h
          split at h <;> cases h
        · rw [if_neg hij] at h; exact h
      exact E.ev.dis j k a es es' hjk (old j es h1) (old k es' h2) h3
    · rw [get_set] at h1
      by_cases hij : i = j
      · rw [if_pos hij] at h1
        split at h1
        · cases h1; exact ho.elim
        · cases h1
      · rw [if_neg hij] at h1
        exact E.nr1 j es a h1 ho h2
    · exact List.mem_filter.mpr ⟨E.sub a ha, decide_eq_true fun z => nr (z ▸ ha)⟩
  · exact ⟨O, E⟩
def gFrz (i : Nat) (g : DS → M Out) : DS → M Out := fun δ => g (frz i δ)
theorem pds_frz (i : Nat) (h : PDSs X G sts gs) : PDSs X G sts (gFrz i gs) := by
  obtain ⟨t, p, h⟩ := h
  refine ⟨t, p, fun R0 P0 H0 δ O σ H Dn E k => ?_⟩
  obtain ⟨O', E'⟩ := E.frz (i := i)
  exact h R0 P0 H0 (frz i δ) O' σ H Dn E' k
end
def intsOf : List D → Option (List Int)
  | [] => some []
  | .int i :: r => (intsOf r).map (i :: ·)
  | _ => none
theorem intsOf_get : ∀ {ds : List D} {ns : List Int}, intsOf ds = some ns → ds = ns.map PyData.int
  | [], ns, h => by cases h; rfl
  | .int i :: r, ns, h => by
    have h : (intsOf r).map (i :: ·) = some ns := h
    cases e : intsOf r with
    | none => rw [e] at h; cases h
    | some cs => rw [e] at h; cases h; rw [intsOf_get e]; rfl
theorem reps_ints {K : PySem.W.Frag} {O : List Addr} {H : Hp} : ∀ {ns : List Int} {vs : List V}, Reps K O H vs (ns.map PyData.int) → vs = ns.map V.int
  | [], _, .nil => rfl
  | b :: bs, _, .cons r rs => by rw [r.int_inv, reps_ints rs]; rfl
theorem hhas_of {names : List (Str × NameKind)} {cl : List (Str × Addr)} (h : names.all (fun y => !(y.2 == .cell || y.2 == .free) || (cl.lookup y.1).isSome) = true) : ∀ y ∈ names, (y.2 = .cell ∨ y.2 = .free) → ∃ c, cl.lookup y.1 = some c := fun y hy hk => by
  have q := List.all_eq_true.mp h y hy
  have k : (y.2 == NameKind.cell || y.2 == NameKind.free) = true := by
    rcases hk with e | e <;> rw [e] <;> rfl
  rw [k] at q
  exact Option.isSome_iff_exists.mp (by simpa using q)
section
variable {X : Cx} {scope : Scope} {cl : List (Str × Addr)}
theorem fr_nil : ∀ p ∈ ([] : List (Nat × Str)), X.N[p.1]? = some p.2 ∧ X.env.kindOf p.2 = some .cell ∧ (compEnvC scope cl 0 X.env).kindOf p.2 = some .cell ∧ ∃ c, cl.lookup p.2 = some c := fun p hp => nomatch hp
end
section
variable {δ δ' : DS} {f : DS → M D} {d : D} {ds : List D} {r : M Out} {g : DS → M Out}
theorem ev_app {i : Nat} (h : δ[i]? = some (.ow ds)) (h1 : f δ = M.ret d) (hz : small (ds.length + 1) = true) : gApp i f δ = M.ret (.nx (δ.set i (.ow (ds ++ [d])))) := by
  unfold gApp; rw [h, h1]; show (if small (ds.length + 1) = true then _ else _) = _; rw [if_pos hz]
theorem ev_frz {i : Nat} (h : g (frz i δ) = r) : gFrz i g δ = r := h
theorem forD_pre {body : D → DS → M Out} (S : List D → DS → Prop) : ∀ (ds pre : List D) (δ : DS), S pre δ → (∀ p d q δ, pre ++ ds = p ++ d :: q → S p δ → ∃ δ', body d δ = M.ret (.nx δ') ∧ S (p ++ [d]) δ') → ∃ δ', forD body ds δ = M.ret (.nx δ') ∧ S (pre ++ ds) δ'
  | [], pre, δ, h, _ => ⟨δ, rfl, by rw [List.append_nil]; exact h⟩
  | d :: ds, pre, δ, h, hs => by
    obtain ⟨δ1, h1, p1⟩ := hs pre d ds δ rfl h
    obtain ⟨δ2, h2, p2⟩ := forD_pre S ds (pre ++ [d]) δ1 p1 fun p e q δ he => hs p e q δ (by rw [← he]; simp)
    refine ⟨δ2, ?_, by simpa using p2⟩
    show (body d δ).thn _ = _
    rw [h1]
    exact h2
theorem ix_nat {ds : List D} {i : Int} {d : D} (h0 : 0 ≤ i) (h : ds[i.toNat]? = some d) : oIx (.list ds) (.int i) = some d := by
  have e := L2.atI_nat h
  rw [Int.toNat_of_nonneg h0] at e
  exact e
theorem small_of {n : Nat} (h : n ≤ 16000000) : small n = true := decide_eq_true h
end
end DL
namespace XF
open PySem PySem.Spec PyProof.Rows
section
variable {M : Model} {A : Around} {E : Value → Shared → Prop} {s : Shared}
end
end XF
namespace L2
open PySem PySem.Spec PyProof.Rows
section
variable {P : Program} {w : World} {K : PySem.W.Frag} {mg : Str → Option Value} {base : Heap} {N : List Str} {qual : Str} {scope : Scope} {f : Addr} {cdv : Value} {A : Around} {outer : List Env} {s0 : Shared} {H0 : Hp} {E : XK}
end
section
variable {X : Cx}
end
end L2
namespace DL
open PySem PySem.Spec PyProof.Rows L2
section
variable {X : Cx} {G : XD → Hp → Prop} {e : Expr} {es : List Expr} {fa : DS → M (List D)} {pos : Pos}
end
section
variable {P : Program} {w : World} {K : PySem.W.Frag} {mg : Str → Option Value} {base : Heap}
end
end DL
namespace L2
open PySem PySem.Spec PyProof.Rows
section
variable {X : Cx}
abbrev Cx.held (X : Cx) (pn : List (Addr × Obj)) (e : Addr) : Cx := { X with A := X.A.mark (some (.ref e)), calm := false, pn := pn, xe := fun _ _ => False }
end
end L2
namespace L2
open PySem PySem.Spec PyProof.Rows
section
variable {X : Cx}
def Ends.gone (D : Ends) (i : Nat) : Ends := ⟨fun σ H => D.nx (σ.set i none) H, D.rt, fun σ H => D.bk (σ.set i none) H, fun σ H => D.ct (σ.set i none) H⟩
end
end L2
namespace DL
open PySem PySem.Spec PyProof.Rows L2
section
variable {K : PySem.W.Frag} {Hr : Hp} {R0 : List Addr} {P0 : Addr → Prop} {H0 H H' : Hp} {O O' : List Addr} {σ : St} {δ : DS}
def Sl.noOw : Sl → Sl
  | .ow _ => .un
  | .od _ => .un
  | s => s
def noOw (δ : DS) : DS := δ.map Sl.noOw
def Out.gone (i : Nat) : Out → Out
  | .nx δ => .nx (δ.set i .un)
  | .rt d => .rt d
  | .bk δ => .bk (δ.set i .un)
  | .ct δ => .ct (δ.set i .un)
def exS (N i : Nat) (a : Addr) : DS := (List.replicate N Sl.un).set i (.ex a)
open Classical in
noncomputable def trySuite (N i : Nat) (gs : Addr → DS → M Out) : M Out :=
  if h : ∃ r, ∀ a, (noX (gs a (exS N i a))).thn (fun o => M.ret (o.gone i)) = r then choose h else none
open Classical in
noncomputable def gTry (x : Str) (N i : Nat) (gb : DS → M Out) (gs : Addr → DS → M Out) : DS → M Out := fun δ => match gb (noOw δ) with
  | none => none
  | some (.ok o) => some (.ok o)
  | some (.error y) => if y.cls = x then trySuite N i gs else none
end
section
variable {X : Cx} {G : XD → Hp → Prop}
end
end DL
namespace L2
open PySem PySem.Spec PySem.W PySem.Calls PyProof.Rows
open PySem.Builtin.ObjectAttr PySem.Builtin PySem.Builtin.Getset_descriptor
section
variable {prog : Program} {w : World} {A : Around} {E : Value → Shared → Prop} {K : Frag} {x D : Addr} {h : Heap} {g : Array GenState} {d : Drawn} {t : Nat} {os : OsState}
end
end L2
namespace DL
open PySem PySem.Spec PyProof.Rows L2
section
variable {X : Cx} {G : XD → Hp → Prop} {pos : Pos}
end
end DL
namespace DL
open PySem PySem.Spec PyProof.Rows L2
section
variable {X : Cx}
def one? : D → Bool
  | .bool _ => true
  | .none => true
  | _ => false
def sameOne : D → D → Bool
  | .bool a, .bool b => a == b
  | .none, .none => true
  | _, _ => false
def oIs (x y : D) : Option D := if one? y then some (.bool (sameOne x y)) else none
def oIsNot (x y : D) : Option D := if one? y then some (.bool (!sameOne x y)) else none
theorem op_isB : OpR X (compareOp .Is) (fun x y H Q => ∃ b, y = .bl b ∧ Q (.bl (decide (x = .bl b))) H) := by
  intro pins s σ H x y v u Q I rx ry h
  obtain ⟨b, rfl, q⟩ := h
  cases (show u = Value.bool b from ry)
  have fin : ∀ c : Bool, decide (x = V.bl b) = c → EP X pins σ Q (.bool c) s := fun c e => ⟨.bl _, H, I, rfl, e ▸ q⟩
  cases x with
  | non => cases (show v = Value.none from rx); exact wpAny_pure (fin _ (by simp))
  | bl c => cases (show v = Value.bool c from rx); exact wpAny_pure (fin _ (by cases b <;> cases c <;> rfl))
  | int i => obtain ⟨t, z⟩ := (show ∃ t, v = Value.int i t from rx); cases z; exact wpAny_pure (fin _ (by simp))
  | str i => obtain ⟨t, z⟩ := (show ∃ t, v = Value.str i t from rx); cases z; exact wpAny_pure (fin _ (by simp))
  | byt i => obtain ⟨t, z⟩ := (show ∃ t, v = Value.bytes i t from rx); cases z; exact wpAny_pure (fin _ (by simp))
  | flt i => obtain ⟨t, z⟩ := (show ∃ t, v = Value.float i t from rx); cases z; exact wpAny_pure (fin _ (by simp))
  | ref p => cases (show v = Value.ref p from rx); exact wpAny_pure (fin _ (by simp))
  | ty p => cases (show v = Value.type p from rx); exact wpAny_pure (fin _ (by simp))
theorem op_notB : OpR X (compareOp .IsNot) (fun x y H Q => ∃ b, y = .bl b ∧ Q (.bl (!decide (x = .bl b))) H) := by
  intro pins s σ H x y v u Q I rx ry h
  obtain ⟨b, rfl, q⟩ := h
  cases (show u = Value.bool b from ry)
  have fin : ∀ c : Bool, decide (x = V.bl b) = c → EP X pins σ Q (.bool (!c)) s := fun c e => ⟨.bl _, H, I, rfl, e ▸ q⟩
  cases x with
  | non => cases (show v = Value.none from rx); exact wpAny_pure (fin false (by simp))
  | bl c => cases (show v = Value.bool c from rx); exact wpAny_pure (fin (Value.bool c == Value.bool b) (by cases b <;> cases c <;> rfl))
  | int i => obtain ⟨t, z⟩ := (show ∃ t, v = Value.int i t from rx); cases z; exact wpAny_pure (fin false (by simp))
  | str i => obtain ⟨t, z⟩ := (show ∃ t, v = Value.str i t from rx); cases z; exact wpAny_pure (fin false (by simp))
  | byt i => obtain ⟨t, z⟩ := (show ∃ t, v = Value.bytes i t from rx); cases z; exact wpAny_pure (fin false (by simp))
  | flt i => obtain ⟨t, z⟩ := (show ∃ t, v = Value.float i t from rx); cases z; exact wpAny_pure (fin false (by simp))
  | ref p => cases (show v = Value.ref p from rx); exact wpAny_pure (fin false (by simp))
  | ty p => cases (show v = Value.type p from rx); exact wpAny_pure (fin false (by simp))
theorem sameOne_bl {K : PySem.W.Frag} {O : List Addr} {H : Hp} {v u : V} {x y : D} (rv : Rep K O H v x) (ru : Rep K O H u y) (h1 : one? y = true) : (∃ b, u = .bl b ∧ decide (v = .bl b) = sameOne x y) ∨ (u = .non ∧ decide (v = .non) = sameOne x y) := by
  cases ru with
  | non => refine .inr ⟨rfl, ?_⟩; cases rv <;> simp [sameOne]
  | bl d => refine .inl ⟨d, rfl, ?_⟩; cases rv <;> simp [sameOne] <;> exact decide_eq_decide.mpr Iff.rfl
  | _ => cases h1
theorem dop_is : DOp X (compareOp .Is) oIs := by
  refine ⟨_, op_isB.or op_isN, fun O H x y d v u Q oo rx ry e k => ?_⟩
  unfold oIs at e
  by_cases h1 : one? y = true
  · rw [if_pos h1] at e
    cases e
    rcases sameOne_bl rx ry h1 with ⟨b, h2, h3⟩ | ⟨h2, h3⟩
    · exact .inl ⟨b, h2, h3 ▸ k _ _ (fun _ _ h => h) (h3 ▸ .bl _)⟩
    · exact .inr ⟨h2, h3 ▸ k _ _ (fun _ _ h => h) (h3 ▸ .bl _)⟩
  · rw [if_neg h1] at e; cases e
theorem dop_isnot : DOp X (compareOp .IsNot) oIsNot := by
  refine ⟨_, op_notB.or op_notN, fun O H x y d v u Q oo rx ry e k => ?_⟩
  unfold oIsNot at e
  by_cases h1 : one? y = true
  · rw [if_pos h1] at e
    cases e
    rcases sameOne_bl rx ry h1 with ⟨b, h2, h3⟩ | ⟨h2, h3⟩
    · exact .inl ⟨b, h2, h3 ▸ k _ _ (fun _ _ h => h) (h3 ▸ .bl _)⟩
    · exact .inr ⟨h2, h3 ▸ k _ _ (fun _ _ h => h) (h3 ▸ .bl _)⟩
  · rw [if_neg h1] at e; cases e
end
end DL
namespace DL
open PySem PySem.Spec PyProof.Rows L2
section
variable {X : Cx}
def oStr : List D → Option D
  | [.int i] => if i.natAbs.log2 < 1920 then some (.str (Str.ofString (toString i))) else none
  | _ => none
theorem dcall_str : DCall X (.type "str") oStr := by
  refine ⟨_, call_str_int, fun O H ds d vs Q oo rs e k => ?_⟩
  unfold oStr at e
  split at e
  · rename_i i
    by_cases hz : i.natAbs.log2 < 1920
    · rw [if_pos hz] at e
      cases e
      obtain ⟨v, rfl, r⟩ := reps1 rs
      exact ⟨i, by rw [r.int_inv], hz, k _ H (Same.refl H) (.str _)⟩
    · rw [if_neg hz] at e; cases e
  · cases e
end
end DL
namespace DL
open PySem PySem.Spec PyProof.Rows L2
section
variable {δ : DS} {y : XD} {x : Str} {N i : Nat} {gb : DS → M Out} {gs : Addr → DS → M Out} {o : Out}
end
end DL
namespace DL
open PySem PySem.Spec PyProof.Rows L2
section
variable {X : Cx} {G : XD → Hp → Prop} {a b c e : Expr} {es : List Expr} {f : DS → M D} {fb : DS → M Bool} {fa : DS → M (List D)} {pos : Pos} {sts : List Stmt} {gs : DS → M Out}
end
section
variable {X : Cx}
def oInt : List D → Option D
  | [.int i] => some (.int i)
  | [.bool b] => some (.int (if b then 1 else 0))
  | _ => none
end
section
variable {δ δ' : DS} {f : DS → M D} {fb : DS → M Bool} {fa : DS → M (List D)} {gs gt g1 g2 : DS → M Out} {d x y : D} {b : Bool} {ds : List D} {r : M Out} {o : Out}
theorem ev_pass (h1 : fb δ = M.ret b) (hb : b = false) (h2 : gt δ = r) : gSeq (gIf fb g1 gNext) gt δ = r := by
  subst hb
  unfold gSeq gIf; rw [h1, thn_ret, if_neg Bool.false_ne_true]; exact h2
theorem o_addL {xs ys : List D} (h : small (xs.length + ys.length) = true) : oAdd (.list xs) (.list ys) = some (.list (xs ++ ys)) := by
  show (if small (xs.length + ys.length) = true then _ else _) = _
  rw [if_pos h]
theorem o_addS {xs ys : Str} (h : small (xs.length + ys.length) = true) : oAdd (.str xs) (.str ys) = some (.str (xs ++ ys)) := by
  show (if small (xs.length + ys.length) = true then _ else _) = _
  rw [if_pos h]
end
end DL
namespace L2
open PySem PySem.Spec PyProof.Rows
section
variable {X : Cx}
theorem Inv.turnNew {pins : List (Addr × Obj)} {σ : St} {H : Hp} {s : Shared} {h' : Heap} {t' : Nat} {ch : List Addr} {a : Addr} {o : HO} (I : Inv X pins σ H s) (hf : ∀ b ∈ ch, FpOk X pins H b)
    (k : ∀ b u, b ∉ ch → s.heap.get? b = some u → h'.get? b = some u) (hp : s.heap.objs.size ≤ a) (new : ObjOk X.prog X.w (upd H a o) h' a o) : Inv X pins σ (upd H a o) { s with heap := h', toks := t' } := by
  have hn := I.hok.fresh hp
  have nc : ∀ {b : Addr} {u : HO}, H b = some u → b ∉ ch := fun e z => by rw [(hf _ z).1] at e; cases e
  refine I.call (g' := s.gens) (d' := s.drawn) (ch := ch) ⟨fun b u q _ _ hc => k b u hc q, fun b u q _ _ hc => ⟨u.slots, k b u hc q⟩, fun b u q n _ => ?_, fun b u q hc => ⟨u, k b u hc q⟩, fun b xs q => ?_, fun b u xs q => ?_, fun b ps q => ⟨#[], ?_⟩⟩ (fun b u e => ?_) I.bare fun b hb => ?_
  · rw [upd_ne (Nat.ne_of_lt (Nat.lt_of_lt_of_le (Heap.lt_size q) hp))]; exact n
  · rw [upd_ne (ne_of_none q hn)]; exact q
  · rw [upd_ne (ne_of_none q hn)]; exact q
  · rw [upd_ne (ne_of_none q hn), q]; simp
  · by_cases hb : b = a
    · subst hb; rw [upd_same] at e; cases e; exact new
    · rw [upd_ne hb] at e
      refine (I.hok b u e).stay (fun c v hc q => k c v ?_ q) (fun c q => by rw [upd_ne (ne_of_none q hn)]; exact q) fun c xs q => by rw [upd_ne (ne_of_none q hn)]; exact q
      rcases hc with rfl | hc
      · exact nc e
      · exact nc hc
  · obtain ⟨_, f1, _, f3, f4, f5⟩ := hf b hb
    exact ⟨f3, f1, f4, f5⟩
theorem Inv.turnAll {pins : List (Addr × Obj)} {σ : St} {H : Hp} {s : Shared} {h' : Heap} {t' : Nat} {ch : List Addr} (I : Inv X pins σ H s) (hf : ∀ b ∈ ch, FpOk X pins H b)
    (k : ∀ b u, b ∉ ch → s.heap.get? b = some u → h'.get? b = some u) : Inv X pins σ H { s with heap := h', toks := t' } := by
  have nc : ∀ {b : Addr} {u : HO}, H b = some u → b ∉ ch := fun e z => by rw [(hf _ z).1] at e; cases e
  refine I.call (g' := s.gens) (d' := s.drawn) (ch := ch) ⟨fun b u q _ _ hc => k b u hc q, fun b u q _ _ hc => ⟨u.slots, k b u hc q⟩, fun b u q n _ => n, fun b u q hc => ⟨u, k b u hc q⟩, fun b xs q => q, fun b u xs q => q, fun b ps q => ⟨#[], by rw [q]; simp⟩⟩ (fun b u e => ?_) I.bare fun b hb => ?_
  · refine (I.hok b u e).stay (fun c v hc q => k c v ?_ q) (fun c q => q) fun c xs q => q
    rcases hc with rfl | hc
    · exact nc e
    · exact nc hc
  · obtain ⟨_, f1, _, f3, f4, f5⟩ := hf b hb
    exact ⟨f3, f1, f4, f5⟩
end
def Itz (K : PySem.W.Frag) (a b : Addr) : It :=
  ⟨fun i H => ∃ xs ys x y, SqL K H a xs ∧ SqL K H b ys ∧ xs[i]? = some x ∧ ys[i]? = some y,
   fun i H v H' => ∃ T, v = .ref T ∧ H T = none ∧ ∀ xs ys x y, SqL K H a xs → SqL K H b ys → xs[i]? = some x → ys[i]? = some y → H' = upd H T (.tup [x, y]),
   fun i H => ∃ xs ys, SqL K H a xs ∧ SqL K H b ys ∧ (xs.length ≤ i ∨ ys.length ≤ i)⟩
def Ite (K : PySem.W.Frag) (a : Addr) : It :=
  ⟨fun i H => ∃ xs x, SqL K H a xs ∧ xs[i]? = some x,
   fun i H v H' => ∃ T, v = .ref T ∧ H T = none ∧ ∀ xs x, SqL K H a xs → xs[i]? = some x → H' = upd H T (.tup [.int i, x]),
   fun i H => ∃ xs, SqL K H a xs ∧ xs.length ≤ i⟩
def Its (x : Str) : It := ⟨fun i _ => i < x.length, fun i H v H' => H' = H ∧ ∃ c, x.cps[i]? = some c ∧ v = .str ⟨#[c]⟩, fun i _ => x.length ≤ i⟩
theorem cls_ne {h : Heap} {a b : Addr} {o u : Obj} (e : h.get? a = some o) (e' : h.get? b = some u) (d : o.cls ≠ u.cls) : a ≠ b := fun z => by
  subst z
  rw [e] at e'
  cases e'
  exact d rfl
theorem ty_ne {a b : String} (h : a ≠ b) : Value.type a ≠ Value.type b := fun z => h (Value.type.inj z)
theorem turn_zip {P : Program} {w : World} {K : PySem.W.Frag} {elts : List Expr} {x1 : Nat} {tpos : Pos} (a b z TI TO i1 i2 : Addr)
    (n1 : TI ≠ z) (n2 : TO ≠ z) (n3 : i1 ≠ z) (n4 : i2 ≠ z) (n5 : TI ≠ TO) (n6 : TI ≠ i1) (n7 : TI ≠ i2) (n8 : TO ≠ i1) (n9 : TO ≠ i2) (n10 : i1 ≠ i2) :
    Turn P w K (.Tuple elts x1 tpos) (Itz K a b) [z, TI, TO, i1, i2] z (fun i h => IsZip h z TI TO .none ∧ IsPair h TI (.ref i1) (.ref i2) ∧ (∃ a b, IsPair h TO a b) ∧ h.IsListIter i1 a i ∧ h.IsListIter i2 b i) where
  mem := by simp
  obj := fun i h st c hc => by
    obtain ⟨hz, hTI, ⟨u, v, hTO⟩, ⟨o1, e1, c1, d1⟩, ⟨o2, e2, c2, d2⟩⟩ := st
    simp only [List.mem_cons, List.not_mem_nil, or_false] at hc
    rcases hc with rfl | rfl | rfl | rfl | rfl
    · exact ⟨_, hz, fun v z => by simp at z⟩
    · exact ⟨_, hTI, fun v z => by simp at z⟩
    · exact ⟨_, hTO, fun v z => by simp at z⟩
    · exact ⟨_, e1, fun v z => by rw [d1] at z; cases z⟩
    · exact ⟨_, e2, fun v z => by rw [d2] at z; cases z⟩
  keep := fun i h h' st k => by
    obtain ⟨hz, hTI, ⟨u, v, hTO⟩, h1, h2⟩ := st
    exact ⟨k z (by simp) _ hz, k TI (by simp) _ hTI, ⟨u, v, k TO (by simp) _ hTO⟩, h1.at fun o e => k i1 (by simp) o e, h2.at fun o e => k i2 (by simp) o e⟩
  item := by
    intro X hP hw hK hc i pins s σ H E I hf st hg
    subst hP hw hK
    obtain ⟨hz, hTI, ⟨u, v, hTO⟩, h1, h2⟩ := st
    obtain ⟨xs, ys, x, y, hq, hq2, hx, hy⟩ := hg
    obtain ⟨its, rv, p, _⟩ := I.list hq
    obtain ⟨its2, rv2, p2, _⟩ := I.list hq2
    obtain ⟨ux, hux, rx⟩ := rv.get hx
    obtain ⟨uy, huy, ry⟩ := rv2.get hy
    have L1 := p.isList
    have L2 := p2.isList
    obtain ⟨o1, e1, c1, d1⟩ := id h1
    obtain ⟨o2, e2, c2, d2⟩ := id h2
    obtain ⟨oa, ea, ca, da⟩ := id L1
    obtain ⟨ob, eb, cb, db⟩ := id L2
    have ap : ZipApart z TI TO i1 i2 a b := ⟨n1, n2, n3, n4, n5, n6, n7, n8, n9, n10,
      cls_ne ea hz (by rw [ca]; exact ty_ne (by decide)), cls_ne ea hTO (by rw [ca]; exact ty_ne (by decide)), cls_ne ea e1 (by rw [ca, c1]; exact ty_ne (by decide)), cls_ne ea e2 (by rw [ca, c2]; exact ty_ne (by decide)),
      cls_ne eb hz (by rw [cb]; exact ty_ne (by decide)), cls_ne eb hTO (by rw [cb]; exact ty_ne (by decide)), cls_ne eb e1 (by rw [cb, c1]; exact ty_ne (by decide)), cls_ne eb e2 (by rw [cb, c2]; exact ty_ne (by decide))⟩
    refine wpAny_pyNext_zip_item ap hz hTI hTO h1 h2 L1 L2 (x := ux) (y := uy) (by simpa using hux) (by simpa using huy) fun h' z' TO' h1' h2' T' sz k => ?_
    have fr : H s.heap.objs.size = none := I.hok.fresh (Nat.le_refl _)
    refine ⟨_, rfl, wpAny_letOwnedTupleGo_zip z' fun h2 hz2 sb => ?_⟩
    have ne : ∀ {c : Addr} {o : Obj}, s.heap.get? c = some o → s.heap.objs.size ≠ c := fun e => Nat.ne_of_gt (Heap.lt_size e)
    have k2 : ∀ c o, c ∉ [z, TI, TO, i1, i2] → s.heap.get? c = some o → h2.get? c = some o := fun c o hc e => by
      simp only [List.mem_cons, List.not_mem_nil, or_false, not_or] at hc
      exact sb.extBut _ _ hc.1 (k c o hc.1 hc.2.2.1 hc.2.2.2.1 hc.2.2.2.2 e)
    have T2 : h2.get? s.heap.objs.size = some { cls := .type "tuple", data := .seq #[ux, uy] } := sb.extBut _ _ (ne hz) T'
    have I1 : Inv X pins σ (upd H s.heap.objs.size (.tup [x, y])) { s with heap := h2, toks := s.toks } := by
      refine I.turnNew hf k2 (Nat.le_refl _) ⟨by show 2 ≤ _; rw [sizeLine_eq]; omega, [ux, uy], .cons rx (.cons ry .nil), ?_⟩
      exact ⟨_, T2, rfl, 0, rfl⟩
    refine ⟨.ref s.heap.objs.size, _, I1, rfl, ⟨_, rfl, fr, fun xs' ys' x' y' q1 q2 q3 q4 => ?_⟩, ⟨hz2, ?_, ⟨_, _, sb.extBut _ _ n2 TO'⟩, h1'.extBut sb.extBut n3, h2'.extBut sb.extBut n4⟩, fun c hc => ?_⟩
    · rw [I.list_inj q1 hq] at q3
      rw [I.list_inj q2 hq2] at q4
      rw [hx] at q3
      rw [hy] at q4
      cases q3
      cases q4
      rfl
    · exact sb.extBut _ _ n1 (k _ _ n1 n5 n6 n7 hTI)
    · have hn : c ≠ s.heap.objs.size := by
        simp only [List.mem_cons, List.not_mem_nil, or_false] at hc
        rcases hc with rfl | rfl | rfl | rfl | rfl
        · exact (ne hz).symm
        · exact (ne hTI).symm
        · exact (ne hTO).symm
        · exact (ne e1).symm
        · exact (ne e2).symm
      rw [upd_ne hn]
      exact (hf c hc).1
  done := by
    intro X hP hw hK hc i pins s σ H E I hf st hg
    subst hP hw hK
    obtain ⟨hz, hTI, ⟨u, v, hTO⟩, h1, h2⟩ := st
    obtain ⟨xs, ys, hq, hq2, hx⟩ := hg
    obtain ⟨its, rv, p, _⟩ := I.list hq
    obtain ⟨its2, rv2, p2, _⟩ := I.list hq2
    have L1 := p.isList
    have L2 := p2.isList
    obtain ⟨o1, e1, c1, d1⟩ := id h1
    obtain ⟨o2, e2, c2, d2⟩ := id h2
    obtain ⟨oa, ea, ca, da⟩ := id L1
    obtain ⟨ob, eb, cb, db⟩ := id L2
    have ap : ZipApart z TI TO i1 i2 a b := ⟨n1, n2, n3, n4, n5, n6, n7, n8, n9, n10,
      cls_ne ea hz (by rw [ca]; exact ty_ne (by decide)), cls_ne ea hTO (by rw [ca]; exact ty_ne (by decide)), cls_ne ea e1 (by rw [ca, c1]; exact ty_ne (by decide)), cls_ne ea e2 (by rw [ca, c2]; exact ty_ne (by decide)),
      cls_ne eb hz (by rw [cb]; exact ty_ne (by decide)), cls_ne eb hTO (by rw [cb]; exact ty_ne (by decide)), cls_ne eb e1 (by rw [cb, c1]; exact ty_ne (by decide)), cls_ne eb e2 (by rw [cb, c2]; exact ty_ne (by decide))⟩
    have hl := rv.length
    have hl2 := rv2.length
    refine wpAny_pyNext_zip_end (I.ok.hd hc) ap hz hTI hTO h1 h2 L1 L2 (hx.imp (fun q => by simp; omega) fun q => by simp; omega) fun h' k => ⟨rfl, ?_⟩
    refine I.turnAll (t' := s.toks) hf fun c o hc e => ?_
    simp only [List.mem_cons, List.not_mem_nil, or_false, not_or] at hc
    exact k c o hc.1 hc.2.2.1 hc.2.2.2.1 hc.2.2.2.2 e
  self := fun _ _ _ _ _ st h => wpAny_pyIter_zip st.1 h
theorem turn_enum {P : Program} {w : World} {K : PySem.W.Frag} {elts : List Expr} {x1 : Nat} {tpos : Pos} (a e it : Addr) (n1 : e ≠ it) :
    Turn P w K (.Tuple elts x1 tpos) (Ite K a) [e, it] e (fun i h => (∃ old, IsEnum h e it ((i : Nat) : Int) old) ∧ h.IsListIter it a i) where
  mem := by simp
  obj := fun i h st c hc => by
    obtain ⟨⟨old, he⟩, ⟨o1, e1, c1, d1⟩⟩ := st
    simp only [List.mem_cons, List.not_mem_nil, or_false] at hc
    rcases hc with rfl | rfl
    · exact ⟨_, he, fun v z => by simp at z⟩
    · exact ⟨_, e1, fun v z => by rw [d1] at z; cases z⟩
  keep := fun i h h' st k => by
    obtain ⟨⟨old, he⟩, h1⟩ := st
    exact ⟨⟨old, k e (by simp) _ he⟩, h1.at fun o e => k it (by simp) o e⟩
  item := by
    intro X hP hw hK hc i pins s σ H E I hf st hg
    subst hP hw hK
    obtain ⟨⟨old, he⟩, h1⟩ := st
    obtain ⟨xs, x, hq, hx⟩ := hg
    obtain ⟨its, rv, p, _⟩ := I.list hq
    obtain ⟨ux, hux, rx⟩ := rv.get hx
    obtain ⟨o1, e1, c1, d1⟩ := id h1
    have fr : H s.heap.objs.size = none := I.hok.fresh (Nat.le_refl _)
    have ne : ∀ {c : Addr} {o : Obj}, s.heap.get? c = some o → s.heap.objs.size ≠ c := fun e => Nat.ne_of_gt (Heap.lt_size e)
    obtain ⟨oa, ea, ca, da⟩ := id p.isList
    have ne1 : a ≠ e := cls_ne ea he (by rw [ca]; exact ty_ne (by decide))
    have ne2 : a ≠ it := cls_ne ea e1 (by rw [ca, c1]; exact ty_ne (by decide))
    refine wpAny_pyNext_enum_item he h1 p.isList (x := ux) (by simpa using hux) n1 fun h' e' h1' T' sz k => ?_
    refine ⟨_, rfl, wpAny_letOwnedTupleGo_enum e' fun h2 he2 sb => ?_⟩
    have k2 : ∀ c o, c ∉ [e, it] → s.heap.get? c = some o → h2.get? c = some o := fun c o hc q => by
      simp only [List.mem_cons, List.not_mem_nil, or_false, not_or] at hc
      exact sb.extBut _ _ hc.1 (k c o hc.1 hc.2 q)
    have T2 : h2.get? s.heap.objs.size = some { cls := .type "tuple", data := .seq #[.int i s.toks, ux] } := sb.extBut _ _ (ne he) T'
    have I1 : Inv X pins σ (upd H s.heap.objs.size (.tup [.int i, x])) { s with heap := h2, toks := s.toks + 1 } := by
      refine I.turnNew hf k2 (Nat.le_refl _) ⟨by show 2 ≤ _; rw [sizeLine_eq]; omega, [.int i s.toks, ux], .cons ⟨_, rfl⟩ (.cons rx .nil), ?_⟩
      exact ⟨_, T2, rfl, 0, rfl⟩
    refine ⟨.ref s.heap.objs.size, _, I1, rfl, ⟨_, rfl, fr, fun xs' x' q1 q3 => ?_⟩, ⟨⟨ux, he2⟩, h1'.extBut sb.extBut n1.symm⟩, fun c hc => ?_⟩
    · rw [I.list_inj q1 hq] at q3
      rw [hx] at q3
      cases q3
      rfl
    · have hn : c ≠ s.heap.objs.size := by
        simp only [List.mem_cons, List.not_mem_nil, or_false] at hc
        rcases hc with rfl | rfl
        · exact (ne he).symm
        · exact (ne e1).symm
      rw [upd_ne hn]
      exact (hf c hc).1
  done := by
    intro X hP hw hK hc i pins s σ H E I hf st hg
    subst hP hw hK
    obtain ⟨⟨old, he⟩, h1⟩ := st
    obtain ⟨xs, hq, hx⟩ := hg
    obtain ⟨its, rv, p, _⟩ := I.list hq
    have hl := rv.length
    refine wpAny_pyNext_enum_end (I.ok.hd hc) he h1 p.isList (by simp; omega) fun h' k => ⟨rfl, ?_⟩
    refine I.turnAll (t' := s.toks) hf fun c o hc e => ?_
    simp only [List.mem_cons, List.not_mem_nil, or_false, not_or] at hc
    exact k c o hc.2 e
  self := fun _ _ _ _ _ st h => by
    obtain ⟨⟨old, he⟩, _⟩ := st
    exact wpAny_pyIter_enum he h
section
variable {X : Cx} {elts : List Expr} {x1 : Nat} {tpos : Pos}
def iZip (K : PySem.W.Frag) (ta : TA) : TI := fun σ H R => ta σ H fun vs H1 => ∃ a b, vs = [.ref a, .ref b] ∧ (∃ xs, SqL K H1 a xs) ∧ (∃ ys, SqL K H1 b ys) ∧ R (Itz K a b) H1
def iEnum (K : PySem.W.Frag) (ta : TA) : TI := fun σ H R => ta σ H fun vs H1 => ∃ a, vs = [.ref a] ∧ (∃ xs, SqL K H1 a xs) ∧ R (Ite K a) H1
def iStr (tl : TE) : TI := fun σ H R => tl σ H fun x H1 => ∃ z, x = .str z ∧ R (Its z) H1
theorem pi_zip {a b : Expr} {ta : TA} {p pos : Pos} (hg : Gl X "zip") (hm : X.mg "zip" = none) (ha : PA X [a, b] ta) (hs : starEach [a, b] X.env = [(false, eval a X.env), (false, eval b X.env)] := by rfl) (hs2 : starEach [b] X.env = [(false, eval b X.env)] := by rfl) :
    PI X (.Tuple elts x1 tpos) (.Call (.Name "zip" p) [a, b] [] pos) (iZip X.K ta) := by
  intro pins s σ H R I h
  refine Call_ (ld_blt I hg hm boot_zip (PyProof.Rows.callWith_type1 (thn (ha pos pins s σ H _ I h) fun us s1 ⟨vs, H1, I1, r1, q1⟩ => ?_) (by rw [hs, hs2]) (by rw [hs2]; rfl)))
  obtain ⟨l1, l2, e, ⟨xs, hx⟩, ⟨ys, hy⟩, q⟩ := q1
  subst e
  cases r1 with
  | cons r rr =>
    cases rr with
    | cons r' rr =>
      cases rr
      cases r
      cases r'
      obtain ⟨its, rv, pl, _⟩ := I1.list hx
      obtain ⟨its2, rv2, pl2, _⟩ := I1.list hy
      refine call_zip_2 pl.isList pl2.isList fun h' hz hTI hTO h1 h2 sz k => wpAny_pyIter_zip hz ?_
      refine ⟨s1.heap.objs.size + 4, [s1.heap.objs.size + 4, s1.heap.objs.size + 2, s1.heap.objs.size + 3, s1.heap.objs.size, s1.heap.objs.size + 1], _, _, H1, rfl, I1.kept (t' := s1.toks) k,
        turn_zip l1 l2 (s1.heap.objs.size + 4) (s1.heap.objs.size + 2) (s1.heap.objs.size + 3) s1.heap.objs.size (s1.heap.objs.size + 1) (by show (_ : Nat) ≠ _; omega) (by show (_ : Nat) ≠ _; omega) (by show (_ : Nat) ≠ _; omega) (by show (_ : Nat) ≠ _; omega) (by show (_ : Nat) ≠ _; omega) (by show (_ : Nat) ≠ _; omega) (by show (_ : Nat) ≠ _; omega) (by show (_ : Nat) ≠ _; omega) (by show (_ : Nat) ≠ _; omega) (by show (_ : Nat) ≠ _; omega), ⟨hz, hTI, ⟨_, _, hTO⟩, h1, h2⟩, fun c hc => ?_, q⟩
      have hc' : s1.heap.objs.size ≤ c := by
        simp only [List.mem_cons, List.not_mem_nil, or_false] at hc
        rcases hc with rfl | rfl | rfl | rfl | rfl <;> first | exact Nat.le_add_right _ _ | exact Nat.le_refl _
      exact I1.fpOk hc' (I1.hok.fresh hc')
theorem pi_enum {a : Expr} {ta : TA} {p pos : Pos} (hg : Gl X "enumerate") (hm : X.mg "enumerate" = none) (ha : PA X [a] ta) (hs : starEach [a] X.env = [(false, eval a X.env)] := by rfl) :
    PI X (.Tuple elts x1 tpos) (.Call (.Name "enumerate" p) [a] [] pos) (iEnum X.K ta) := by
  intro pins s σ H R I h
  refine Call_ (ld_blt I hg hm boot_enumerate (PyProof.Rows.callWith_type1 (thn (ha pos pins s σ H _ I h) fun us s1 ⟨vs, H1, I1, r1, q1⟩ => ?_) hs rfl))
  obtain ⟨l1, e, ⟨xs, hx⟩, q⟩ := q1
  subst e
  cases r1 with
  | cons r rr =>
    cases rr
    cases r
    obtain ⟨its, rv, pl, _⟩ := I1.list hx
    refine call_enumerate_list pl.isList fun h' he h1 sz k => wpAny_pyIter_enum he ?_
    refine ⟨s1.heap.objs.size + 1, [s1.heap.objs.size + 1, s1.heap.objs.size], _, _, H1, rfl, I1.kept (t' := s1.toks) k,
      turn_enum l1 (s1.heap.objs.size + 1) s1.heap.objs.size (by show (_ : Nat) ≠ _; omega), ⟨⟨_, he⟩, h1⟩, fun c hc => ?_, q⟩
    have hc' : s1.heap.objs.size ≤ c := by
      simp only [List.mem_cons, List.not_mem_nil, or_false] at hc
      rcases hc with rfl | rfl <;> first | exact Nat.le_add_right _ _ | exact Nat.le_refl _
    exact I1.fpOk hc' (I1.hok.fresh hc')
theorem turn_str_ascii {P : Program} {w : World} {K : PySem.W.Frag} {tg : Expr} (it : Addr) (x : Str) (t : Tok) : Turn P w K tg (Its x) [it] it (fun i h => h.IsStrIter it "str_ascii_iterator" x t i) where
  mem := by simp
  obj := fun i h st b hb => by
    have e : b = it := by simpa using hb
    subst e
    obtain ⟨o, e, c, d⟩ := st
    exact ⟨o, e, fun v z => by rw [d] at z; cases z⟩
  keep := fun i h h' st k => let ⟨o, ho, r⟩ := st; ⟨o, k it (by simp) o ho, r⟩
  item := by
    intro X hP hw hK hc i pins s σ H E I hf st hg
    subst hP hw hK
    obtain ⟨f0, f1, f2, f3, f4, f5⟩ := hf it (by simp)
    have hg : i < x.cps.size := hg
    refine wpAny_pyNext_ascii_item st (c := x.cps[i]) (by simp [hg]) fun h' st' sb => ?_
    have I1 : Inv X pins σ H { s with heap := h', toks := s.toks + 1 } := I.turned (fun b o hb e => (sb.2 b hb).trans e) f0 f1 f3 f4 f5
    obtain ⟨o, e, c1, d1⟩ := id st'
    exact ⟨_, rfl, go_of (s := { s with heap := h', toks := s.toks + 1 }) e c1 d1 (by decide) ⟨.str ⟨#[x.cps[i]]⟩, H, I1, ⟨_, rfl⟩, ⟨rfl, x.cps[i], by simp [hg], rfl⟩, st', fun b hb => (hf b hb).1⟩⟩
  done := by
    intro X hP hw hK hc i pins s σ H E I hf st hg
    subst hP hw hK
    obtain ⟨f0, f1, f2, f3, f4, f5⟩ := hf it (by simp)
    have hg : x.cps.size ≤ i := hg
    exact wpAny_pyNext_ascii_end (I.ok.hd hc) st (by simp; omega) fun h' eb => ⟨rfl, I.turned (t' := s.toks) (fun b o hb e => eb b o hb e) f0 f1 f3 f4 f5⟩
  self := fun _ _ _ _ _ st h => wpAny_pyIter_striter_ascii st h
theorem turn_str_wide {P : Program} {w : World} {K : PySem.W.Frag} {tg : Expr} (it : Addr) (x : Str) (t : Tok) : Turn P w K tg (Its x) [it] it (fun i h => h.IsStrIter it "str_iterator" x t i) where
  mem := by simp
  obj := fun i h st b hb => by
    have e : b = it := by simpa using hb
    subst e
    obtain ⟨o, e, c, d⟩ := st
    exact ⟨o, e, fun v z => by rw [d] at z; cases z⟩
  keep := fun i h h' st k => let ⟨o, ho, r⟩ := st; ⟨o, k it (by simp) o ho, r⟩
  item := by
    intro X hP hw hK hc i pins s σ H E I hf st hg
    subst hP hw hK
    obtain ⟨f0, f1, f2, f3, f4, f5⟩ := hf it (by simp)
    have hg : i < x.cps.size := hg
    refine wpAny_pyNext_wide_item st (c := x.cps[i]) (by simp [hg]) fun h' st' sb => ?_
    have I1 : Inv X pins σ H { s with heap := h', toks := s.toks + 1 } := I.turned (fun b o hb e => (sb.2 b hb).trans e) f0 f1 f3 f4 f5
    obtain ⟨o, e, c1, d1⟩ := id st'
    exact ⟨_, rfl, go_of (s := { s with heap := h', toks := s.toks + 1 }) e c1 d1 (by decide) ⟨.str ⟨#[x.cps[i]]⟩, H, I1, ⟨_, rfl⟩, ⟨rfl, x.cps[i], by simp [hg], rfl⟩, st', fun b hb => (hf b hb).1⟩⟩
  done := by
    intro X hP hw hK hc i pins s σ H E I hf st hg
    subst hP hw hK
    obtain ⟨f0, f1, f2, f3, f4, f5⟩ := hf it (by simp)
    have hg : x.cps.size ≤ i := hg
    exact wpAny_pyNext_wide_end (I.ok.hd hc) st (by simp; omega) fun h' eb => ⟨rfl, I.turned (t' := s.toks) (fun b o hb e => eb b o hb e) f0 f1 f3 f4 f5⟩
  self := fun _ _ _ _ _ st h => wpAny_pyIter_striter_wide st h
theorem pi_str {l : Expr} {tl : TE} {tg : Expr} (hl : PE X l tl) : PI X tg l (iStr tl) := by
  intro pins s σ H R I h
  refine thn (hl pins s σ H _ I h) fun v s1 ⟨x, H1, I1, r1, q1⟩ => ?_
  obtain ⟨z, e, q⟩ := q1
  subst e
  obtain ⟨t, rfl⟩ := r1
  have fp : ∀ b ∈ [s1.heap.objs.size], FpOk X pins H1 b := fun b hb => by
    have e : b = s1.heap.objs.size := by simpa using hb
    subst e
    exact I1.fpOk (Nat.le_refl _) (I1.hok.fresh (Nat.le_refl _))
  cases ha : z.cps.all (· < 128)
  · exact wpAny_pyIter_wide ha ⟨s1.heap.objs.size, [s1.heap.objs.size], _, _, H1, rfl, I1.kept (t' := s1.toks) fun b o e => Heap.get?_push_of_some _ e, turn_str_wide _ z t, ⟨_, Heap.get?_push_size _ rfl, rfl, rfl⟩, fp, q⟩
  · exact wpAny_pyIter_ascii ha ⟨s1.heap.objs.size, [s1.heap.objs.size], _, _, H1, rfl, I1.kept (t' := s1.toks) fun b o e => Heap.get?_push_of_some _ e, turn_str_ascii _ z t, ⟨_, Heap.get?_push_size _ rfl, rfl, rfl⟩, fp, q⟩
end
end L2
namespace L2
open PySem PySem.Spec PyProof.Rows
def compCxG (X : Cx) (scope : Scope) (cl : List (Str × Addr)) (fr : List (Nat × Str)) (tn : List Str) (C : Addr) (s3 : Shared) (H3 : Hp) (fp : List Addr) : Cx where
  prog := X.prog
  w := X.w
  K := X.K
  mg := X.mg
  base := X.base
  A := X.A
  N := tn ++ fr.map (·.2)
  s₀ := s3
  H₀ := H3
  env := compEnvC scope cl C X.env
  outer := X.stack
  stack := X.stack
  ex := fp
  fn := fun _ => false
  calm := X.calm
  pn := []
  xe := fun _ _ => False
def compSt (n : Nat) (fr : List (Nat × Str)) (σ : St) : St := List.replicate n none ++ fr.map fun p => (σ[p.1]?).join
def tCompG (n : Nat) (fr : List (Nat × Str)) (wi : TI) (g : TG) (tc : TT) (te : TE) : TE := fun σ H Q => wi σ H fun J H1 => ∀ l, H1 l = none → ∃ W : Nat → Nat → St → List V → Hp → Prop, (∃ m, W 0 m (compSt n fr σ) [] (upd H1 l (.lst []))) ∧
  ∀ i m τ xs H2, W i m τ xs H2 → H2 l = some (.lst xs) ∧ ((J.stop i H2 ∧ Q (.ref l) H2) ∨ (J.go i H2 ∧ xs.length < sizeLine ∧ ∀ x H3, J.yld i H2 x H3 → g x τ H3 fun τ' H4 => tc τ' H4 fun b H5 => if b = true then te τ' H5 fun v H6 => H6 l = some (.lst xs) ∧ ∃ m', m' < m ∧ W (i + 1) m' τ' (xs ++ [v]) (upd H6 l (.lst (xs ++ [v]))) else ∃ m', m' < m ∧ W (i + 1) m' τ' xs H5))
section
variable {X : Cx}
theorem compG_ok {cl : List (Str × Addr)} {fr : List (Nat × Str)} {scope : Scope} {tn : List Str} {C : Addr} {s3 : Shared} {H3 : Hp} {fp : List Addr} {pins : List (Addr × Obj)} {σ : St} (I : Inv X pins σ H3 s3) (hkind : scope.kind = .function) (hsub : ∀ y c, cl.lookup y = some c → X.env.cells.lookup y = some c) (hhas : ∀ y ∈ (relabel scope X.env).names, (y.2 = .cell ∨ y.2 = .free) → ∃ c, cl.lookup y.1 = some c)
    (hC : s3.heap.objs.size ≤ C) (hf : ∀ b ∈ fp, FpOk X pins H3 b ∧ ∃ o, s3.heap.get? b = some o) (hfs : ∀ b ∈ fp, b ∉ frs X.stack) (hbase : ∀ b ∈ fp, X.base.get? b = none) : (compCxG X scope cl fr tn C s3 H3 fp).Ok where
  mod := I.ok.mod
  kind := hkind
  glob := I.ok.glob
  blt := I.ok.blt
  above := hC
  inj := fun y z c h1 h2 => I.ok.inj y z c (hsub y c h1) (hsub z c h2)
  has := fun y h => by
    rcases h with h | h
    · exact hhas _ (PySem.mem_of_lookup h) (.inl rfl)
    · exact hhas _ (PySem.mem_of_lookup h) (.inr rfl)
  cab := fun y c h => by cases h
  hd := I.ok.hd
  frames := I.ok.frames
  stk := .inl rfl
  exf := fun b hb => ⟨by
    obtain ⟨o, ho⟩ := (hf b hb).2
    exact Nat.ne_of_lt (Nat.lt_of_lt_of_le (Heap.lt_size ho) hC), fun y c h => (hf b hb).1.2.2.2.2.1 y c (hsub y c h)⟩
  bs := I.bs
  bsz := Nat.le_trans I.ok.bsz I.sz
  noex := fun b o e hb => by
    have e1 : X.base.get? b = some o := e
    rw [hbase b hb] at e1; cases e1
  exfs := hfs
  funs := I.stack
  frf := I.stkFree
theorem compG_out {cl : List (Str × Addr)} {fr : List (Nat × Str)} {scope : Scope} {tn : List Str} {C : Addr} {s3 s5 : Shared} {H3 H5 : Hp} {fp : List Addr} {pins pins5 : List (Addr × Obj)} {σ σ5 : St} {h' : Heap} (I : Inv X pins σ H3 s3) (hf : ∀ b ∈ fp, FpOk X pins H3 b) (hC : s3.heap.objs.size ≤ C)
    (I5 : Inv (compCxG X scope cl fr tn C s3 H3 fp) pins5 σ5 H5 s5) (hs : Heap.SameBut C s5.heap h') : Inv X pins σ H5 { s5 with heap := h' } := by
  have nC : ∀ {b : Addr} {o : Obj}, s3.heap.get? b = some o → b ≠ C := fun e => Nat.ne_of_lt (Nat.lt_of_lt_of_le (Heap.lt_size e) hC)
  have u : Un (frs X.stack) fp H3 H5 s3.heap s5.heap := I5.base
  refine I.call' (ch := fp) I5.os ⟨fun b o e n h1 h2 => ?_, fun b o e n h1 h2 => ?_, u.free, fun b o e h2 => ?_, u.tups, u.frzs, u.tbls⟩ ?_ I5.bare fun b hb => ?_
  · exact (hs.2 b (nC e)).trans (u.keep b o e n h1 h2)
  · obtain ⟨sl, e1⟩ := u.slot b o e n h1 h2
    exact ⟨sl, (hs.2 b (nC e)).trans e1⟩
  · obtain ⟨o', e1⟩ := u.there b o e h2
    exact ⟨o', (hs.2 b (nC e)).trans e1⟩
  · intro a o e
    have hn : H5 C = none := I5.free
    refine (I5.hok a o e).stay (fun b u hb q => (hs.2 b ?_).trans q) (fun _ q => q) fun _ _ q => q
    rcases hb with rfl | hb
    · exact ne_of_none e hn
    · exact ne_of_none hb hn
  · obtain ⟨_, f1, _, f3, f4, f5⟩ := hf b hb
    exact ⟨f3, f1, f4, f5⟩
def PTs (X : Cx) (ifs : List Expr) (t : TT) : Prop :=
  ∀ (pins : List (Addr × Obj)) (s : Shared) (σ : St) (H : Hp) (Q : Bool → Hp → Prop), Inv X pins σ H s → t σ H Q →
    wpAny (model X.prog X.w) X.A (forIn ifs true fun c r => if r = true then do let ok ← isTrue c X.env (eval c X.env); pure (ForInStep.yield ok) else pure (ForInStep.yield r)) (TP X pins σ Q) X.xe s
def tYes : TT := fun _ H Q => Q true H
theorem pts_nil : PTs X [] tYes := fun pins s σ H Q I h => wpAny_tests_nil ⟨H, I, h⟩
theorem pe_compG {cl : List (Str × Addr)} {fr : List (Nat × Str)} {tn : List Str} {elt iter tg : Expr} {ifs : List Expr} {scope : Scope} {pos : Pos} {wi : TI} {g : TG} {tc : TT} {te : TE} (hc : X.calm = true)
    (hkind : scope.kind = .function) (hcell : ∀ y ∈ scope.names, y.2 ≠ .cell) (hclos : closureFor scope X.env = pure cl) (hsub : ∀ y c, cl.lookup y = some c → X.env.cells.lookup y = some c)
    (hhas : ∀ y ∈ (relabel scope X.env).names, (y.2 = .cell ∨ y.2 = .free) → ∃ c, cl.lookup y.1 = some c) (hfr : ∀ p ∈ fr, X.N[p.1]? = some p.2 ∧ X.env.kindOf p.2 = some .cell ∧ (compEnvC scope cl 0 X.env).kindOf p.2 = some .cell ∧ ∃ c, cl.lookup p.2 = some c) (hnames : ∀ y ∈ scope.names, y.2 = .local → scope.names.lookup y.1 = some .local)
    (hi : PI X tg iter wi) (hg : ∀ C s3 H3 fp, PG (compCxG X scope cl fr tn C s3 H3 fp) tg g) (hcs : ∀ C s3 H3 fp, PTs (compCxG X scope cl fr tn C s3 H3 fp) ifs tc) (he : ∀ C s3 H3 fp, PE (compCxG X scope cl fr tn C s3 H3 fp) elt te) (hs : ∀ x, foldedSetIterable iter X.env x = pure x := by intro _; rfl) :
    PE X (.ListComp elt [⟨tg, iter, ifs, 0⟩] scope pos) (tCompG tn.length fr wi g tc te) := by
  intro pins s σ H Q I h
  rw [eval_ListComp]
  refine wpAny_comprehension_free (use := none) rfl hs hclos hkind hnames (thn (hi pins s σ H _ I h) fun v s1 h1 => thn h1 fun itv s2 h2 => ?_)
  obtain ⟨it, fp, tk, J, H2, e, I2, T, st2, f2, R⟩ := h2
  subst e
  have fl : H2 s2.heap.objs.size = none := I2.hok.fresh (Nat.le_refl _)
  obtain ⟨W, ⟨m0, w0⟩, turn⟩ := R s2.heap.objs.size fl
  refine wpAny_newObj_type (wpAny_newFunctionEnv hcell (by intro y hy; simp at hy) (fun h4 hns hsb => ?_) hkind)
  have I3 : Inv X pins σ (upd H2 s2.heap.objs.size (.lst [])) { s2 with heap := s2.heap.push { cls := .type "list", data := .seq ([] : List Value).toArray } } :=
    I2.laid (t' := s2.toks) (fun b o e => Heap.get?_push_of_some _ e) (Nat.le_refl _) ⟨Nat.zero_le _, [], 0, .nil, Heap.get?_push_size _ rfl⟩
  have ob : ∀ b ∈ fp, ∃ o, s2.heap.get? b = some o := fun b hb => let ⟨o, ho, _⟩ := T.obj 0 _ st2 b hb; ⟨o, ho⟩
  have f3 : ∀ b ∈ fp, FpOk X pins (upd H2 s2.heap.objs.size (.lst [])) b := fun b hb => by
    obtain ⟨g0, g1, g2, g3, g4, g5⟩ := f2 b hb
    obtain ⟨o, ho⟩ := ob b hb
    exact ⟨by rw [upd_ne (Nat.ne_of_lt (Heap.lt_size ho))]; exact g0, g1, g2, g3, g4, g5⟩
  generalize hs3 : ({ s2 with heap := s2.heap.push { cls := .type "list", data := .seq ([] : List Value).toArray } } : Shared) = s3 at I3
  have heap3 : s2.heap.push { cls := .type "list", data := .seq ([] : List Value).toArray } = s3.heap := by rw [← hs3]
  have old3 : ∀ b o, s2.heap.get? b = some o → s3.heap.get? b = some o := fun b o e => by rw [← heap3]; exact Heap.get?_push_of_some _ e
  have ok3 : (compCxG X scope cl fr tn s3.heap.objs.size s3 (upd H2 s2.heap.objs.size (.lst [])) fp).Ok := by
    refine compG_ok I3 hkind hsub hhas (Nat.le_refl _) (fun b hb => ⟨f3 b hb, let ⟨o, ho⟩ := ob b hb; ⟨o, old3 b o ho⟩⟩) (fun b hb z => ?_) fun b hb => ?_
    · obtain ⟨_, g1, g2, _⟩ := f2 b hb
      rcases List.mem_cons.mp (I2.stkSub b z) with q | q
      · exact g1 q
      · exact g2 q
    · obtain ⟨_, _, _, g3, _⟩ := f2 b hb
      rcases g3 with q | q
      · cases e : X.base.get? b with
        | none => rfl
        | some o => exact absurd q (I.ok.noex b o e)
      · exact Heap.get?_none_of_le (Nat.le_trans I.ok.bsz q)
  have hns3 : h4.Ns s3.heap.objs.size (fun y => ([] : List (Str × Value)).reverse.lookup y) := by rw [← heap3]; exact hns
  have keep4 : ∀ b o, s3.heap.get? b = some o → h4.get? b = some o := fun b o e => by
    have e1 : (s2.heap.push { cls := .type "list", data := .seq ([] : List Value).toArray }).get? b = some o := by rw [heap3]; exact e
    exact (hsb.2 b (Nat.ne_of_lt (Heap.lt_size e1))).trans (Heap.get?_push_of_some _ e1)
  have I4 : Inv (compCxG X scope cl fr tn s3.heap.objs.size s3 (upd H2 s2.heap.objs.size (.lst [])) fp) [] (compSt tn.length fr σ) (upd H2 s2.heap.objs.size (.lst [])) { s3 with heap := h4 } := by
    refine ⟨ok3, rfl, I3.bare, Un.kept keep4, ⟨_, hns3, fun i y v e1 e2 e3 => ?_⟩, (fun y c h => let ⟨v, oc, ho, hd⟩ := I3.cell y c (hsub y c h); ⟨v, oc, keep4 _ _ ho, hd⟩), I3.hok.fresh (Nat.le_refl _), (fun y c h => I3.freeC y c (hsub y c h)), (fun p hp => nomatch hp), I3.hok.kept keep4, by simp [compCxG, compSt]⟩
    have e1 : (tn ++ fr.map (·.2))[i]? = some y := e1
    have e2 : (List.replicate tn.length none ++ fr.map fun p => (σ[p.1]?).join)[i]? = some (some v) := e2
    by_cases hlt : i < tn.length
    · rw [List.getElem?_append_left (by simpa using hlt), List.getElem?_replicate] at e2
      split at e2 <;> cases e2
    · rw [List.getElem?_append_right (by omega)] at e1
      rw [List.getElem?_append_right (by simpa using hlt), List.length_replicate] at e2
      rw [List.getElem?_map] at e1 e2
      cases q : fr[i - tn.length]? with
      | none => rw [q] at e1; cases e1
      | some p =>
        rw [q] at e1 e2
        have e1 : p.2 = y := Option.some.inj e1
        have e2 : (σ[p.1]?).join = some v := Option.some.inj e2
        subst e1
        obtain ⟨g1, g2, g3, c, g4⟩ := hfr p (List.mem_of_getElem? q)
        have e4 : σ[p.1]? = some (some v) := by
          cases z : σ[p.1]? with
          | none => rw [z] at e2; cases e2
          | some w' => rw [z] at e2; exact congrArg some e2
        obtain ⟨m, hn, hl⟩ := I3.loc
        obtain ⟨u, ru, lk⟩ := hl p.1 p.2 v g1 e4 (.inr (.inl g2))
        refine ⟨u, ru, .inr ⟨.inl g3, c, g4, ?_⟩⟩
        rcases lk with ⟨k1, _⟩ | ⟨_, c', k2, k3⟩
        · rw [g2] at k1; cases k1
        · rw [hsub _ _ g4] at k2
          cases k2
          obtain ⟨oc, ho, hd⟩ := k3
          exact ⟨oc, keep4 _ _ ho, hd⟩
  have st4 : tk 0 h4 := T.keep 0 _ _ st2 fun b hb o e => keep4 b o (old3 b o e)
  have loop : codeAny (model X.prog X.w) X.A (.compLoop (.ListComp elt [⟨tg, iter, ifs, 0⟩] scope pos) 0 (.ref it) (.ref s2.heap.objs.size) (compEnvC scope cl s3.heap.objs.size X.env))
      (compPost (model X.prog X.w) X.A X.xe none (EP X pins σ Q) (.ref s2.heap.objs.size) s3.heap.objs.size) { s3 with heap := h4 } := by
    refine codeAny_loop rfl (fun n s' => ∃ i σ' xs H', Inv (compCxG X scope cl fr tn s3.heap.objs.size s3 (upd H2 s2.heap.objs.size (.lst [])) fp) [] σ' H' s' ∧ tk i s'.heap ∧ (∀ b ∈ fp, H' b = none) ∧ W i n σ' xs H') (fun n s' hI => ?_) m0
      ⟨0, _, [], _, I4, st4, fun b hb => (f3 b hb).1, w0⟩
    show wpAny _ _ ((compTurn (.ListComp elt [⟨tg, iter, ifs, 0⟩] scope pos) 0 (.ref it) (.ref s2.heap.objs.size) (compEnvC scope cl s3.heap.objs.size X.env)).onRaise (fun x => do noteFrame x _; theTreesLotGoes x)) _ _ s'
    refine wpAny_noted ?_
    rw [compTurn_list]
    obtain ⟨i, σ5, xs, H5, I5, st5, fr5, w5⟩ := hI
    have stat : ∀ {H' : Hp}, (∀ b ∈ fp, H' b = none) → ∀ b ∈ fp, FpOk (compCxG X scope cl fr tn s3.heap.objs.size s3 (upd H2 s2.heap.objs.size (.lst [])) fp) [] H' b := fun hn b hb =>
      ⟨hn b hb, (ok3.exf b hb).1, ok3.exfs b hb, .inl hb, (ok3.exf b hb).2, fun p hp => nomatch hp⟩
    obtain ⟨hl, alt⟩ := turn i n σ5 xs H5 w5
    rcases alt with ⟨stop, qn⟩ | ⟨go, hz, step⟩
    · refine wpAny_bind (wpAny_standAt (wpAny_bind (thn (T.done (compCxG X scope cl fr tn s3.heap.objs.size s3 (upd H2 s2.heap.objs.size (.lst [])) fp) rfl rfl rfl hc i [] s' σ5 H5 _ I5 (stat fr5) st5 stop) fun r s6 ⟨hr, I6⟩ => ?_)))
      subst hr
      refine wpAny_pure ?_
      obtain ⟨m, hn6, _⟩ := I6.loc
      exact ⟨m, hn6, fun h' hs' => ⟨.ref s2.heap.objs.size, H5, compG_out I3 f3 (Nat.le_refl _) I6 hs', rfl, qn⟩⟩
    · refine wpAny_bind (wpAny_standAt (wpAny_bind (thn (T.item (compCxG X scope cl fr tn s3.heap.objs.size s3 (upd H2 s2.heap.objs.size (.lst [])) fp) rfl rfl rfl hc i [] s' σ5 H5 _ I5 (stat fr5) st5 go) fun r s6 ⟨u, hr, h6⟩ => ?_)))
      subst hr
      refine wpAny_bind (thn h6 fun _ s7 ⟨y, H7, I7, r7, y7, st7, fr7⟩ => ?_)
      have I7' := I7.pinned (stat fr7) (T.obj _ _ st7)
      have hP := hg s3.heap.objs.size s3 (upd H2 s2.heap.objs.size (.lst [])) fp _ s7 σ5 H7 y u _ I7' r7 (step y H7 y7)
      refine wpAny_bind (wpAny_mono hP (fun _ s8 ⟨σ8, H8, I8, q8⟩ => ?_) (fun _ _ z => False.elim z))
      refine wpAny_bind (wpAny_mono (hcs s3.heap.objs.size s3 (upd H2 s2.heap.objs.size (.lst [])) fp _ s8 σ8 H8 _ I8 q8) (fun b s9 ⟨H9, I9, q9⟩ => ?_) (fun _ _ z => False.elim z))
      have again : ∀ {σ7 : St} {H7 : Hp} {s7' : Shared} {xs' : List V}, Inv (compCxG X scope cl fr tn s3.heap.objs.size s3 (upd H2 s2.heap.objs.size (.lst [])) fp) ([] ++ pinsAt fp s7.heap) σ7 H7 s7' → (∃ m', m' < n ∧ W (i + 1) m' σ7 xs' H7) →
          ∃ m, m < n ∧ ∃ i σ' xs H', Inv (compCxG X scope cl fr tn s3.heap.objs.size s3 (upd H2 s2.heap.objs.size (.lst [])) fp) [] σ' H' s7' ∧ tk i s7'.heap ∧ (∀ b ∈ fp, H' b = none) ∧ W i m σ' xs H' := fun {σ7 H7 s7' xs'} I7 n7 => by
        obtain ⟨m', hm, w7⟩ := n7
        refine ⟨m', hm, i + 1, σ7, xs', H7, I7.unpinned, T.keep _ _ _ st7 fun b hb o e => (I7.pin (b, o) (List.mem_append_right _ (List.mem_append_right _ (mem_pinsAt hb e)))).1, fun b hb => ?_, w7⟩
        obtain ⟨o, e, d⟩ := T.obj _ _ st7 b hb
        exact (I7.pin (b, o) (List.mem_append_right _ (List.mem_append_right _ (mem_pinsAt hb e)))).2.1
      cases b with
      | false =>
        rw [if_neg Bool.false_ne_true] at q9
        exact wpAny_pure ⟨rfl, again I9 q9⟩
      | true =>
        rw [if_pos rfl] at q9
        refine wpAny_bind (wpAny_bind (wpAny_mono (he _ _ _ _ _ s9 σ8 H9 _ I9 q9) (fun uv s10 ⟨v, H10, I10, r10, hl10, w10⟩ => ?_) fun _ _ z => z.elim))
        refine wpAny_bind (wpAny_mono (mt_append (X := compCxG X scope cl fr tn s3.heap.objs.size s3 (upd H2 s2.heap.objs.size (.lst [])) fp) _ s10 _ H10 (.ref s2.heap.objs.size) [v] (.ref s2.heap.objs.size) [uv] (fun _ H' => H' = upd H10 s2.heap.objs.size (.lst (xs ++ [v]))) I10 rfl (.cons r10 .nil) ⟨_, xs, v, rfl, rfl, hl10, hz, rfl⟩) (fun _ s11 ⟨v11, H11, I11, r11, q11⟩ => ?_) (fun _ _ z => False.elim z))
        subst q11
        exact wpAny_pure (wpAny_pure ⟨rfl, again I11 w10⟩)
  subst hs3
  exact codeAny_compStart_list loop (T.self _ 0 _ _ _ st4 loop)
end
end L2
namespace DL
open PySem PySem.Spec PyProof.Rows L2
structure Yl (K : PySem.W.Frag) (J : It) (O : List Addr) (H1 : Hp) (ds : List D) : Prop where
  step : ∀ (O2 : List Addr) (H2 : Hp), To O O2 H1 H2 → ∀ (i : Nat) (d : D), ds[i]? = some d → J.go i H2 ∧ ∀ x H3, J.yld i H2 x H3 → Same H2 H3 ∧ Rep K O2 H3 x d
  stop : ∀ (O2 : List Addr) (H2 : Hp), To O O2 H1 H2 → J.stop ds.length H2
def PDI (X : Cx) (G : XD → Hp → Prop) (tg iter : Expr) (fi : DS → M (List D)) : Prop :=
  ∃ wi, PI X tg iter wi ∧ ∀ {Hr : Hp} (δ : DS) (O : List Addr) (σ : St) (H : Hp) (R : It → Hp → Prop), Ev X.K Hr O H σ δ → ok (GS G Hr) (fi δ) (fun ds => ∀ J H1, Same H H1 → Yl X.K J O H1 ds → R J H1) → wi σ H R
section
variable {K : PySem.W.Frag} {O : List Addr} {H1 : Hp}
theorem yl_list {a : Addr} {xs : List V} {ds : List D} (hk : ∀ (O2 : List Addr) (H2 : Hp), To O O2 H1 H2 → SqL K H2 a xs) (rs : Reps K O H1 xs ds) : Yl K (Itl K a) O H1 ds := by
  refine ⟨fun O2 H2 t i d hd => ?_, fun O2 H2 t => ⟨xs, hk O2 H2 t, by rw [rs.length]; exact Nat.le_refl _⟩⟩
  obtain ⟨v, hv, r⟩ := rs.get hd
  refine ⟨⟨xs, v, hk O2 H2 t, hv⟩, fun x H3 y => ?_⟩
  obtain ⟨rfl, y⟩ := y
  have := y xs (hk O2 H3 t)
  rw [hv] at this
  cases this
  exact ⟨Same.refl _, r.to t⟩
theorem yl_tup {a : Addr} {xs : List V} {ds : List D} (hq : SqT K H1 a xs) (rs : Reps K O H1 xs ds) : Yl K (Itt K a) O H1 ds := by
  refine ⟨fun O2 H2 t i d hd => ?_, fun O2 H2 t => ⟨xs, t.sqT hq, by rw [rs.length]; exact Nat.le_refl _⟩⟩
  obtain ⟨v, hv, r⟩ := rs.get hd
  refine ⟨⟨xs, v, t.sqT hq, hv⟩, fun x H3 y => ?_⟩
  obtain ⟨rfl, y⟩ := y
  have := y xs (t.sqT hq)
  rw [hv] at this
  cases this
  exact ⟨Same.refl _, r.to t⟩
theorem yl_range {lo : Int} {n : Nat} : Yl K (Itr lo n) O H1 (rngD lo n) := by
  have hl : (rngD lo n).length = n := by unfold rngD; rw [List.length_map, List.length_range]
  refine ⟨fun O2 H2 t i d hd => ?_, fun O2 H2 t => by rw [hl]; exact Nat.le_refl _⟩
  have hi : i < n := by
    have := (List.getElem?_eq_some_iff.mp hd).1
    omega
  refine ⟨hi, fun x H3 y => ?_⟩
  obtain ⟨rfl, rfl⟩ := y
  unfold rngD at hd
  rw [List.getElem?_map, List.getElem?_range hi] at hd
  cases hd
  exact ⟨Same.refl _, .int _⟩
theorem Rep.lstTo {v : V} {ds : List D} (r : Rep K O H1 v (.list ds)) : ∃ a xs, v = .ref a ∧ SqL K H1 a xs ∧ (∀ (O2 : List Addr) (H2 : Hp), To O O2 H1 H2 → SqL K H2 a xs) ∧ Reps K O H1 xs ds := by
  cases r with
  | lst h n rs => exact ⟨_, _, rfl, .inl h, fun O2 H2 t => .inl (t.l _ _ n h).2, rs⟩
  | lstK h rs => exact ⟨_, _, rfl, .inr h, fun _ _ _ => .inr h, rs⟩
def zipD (xs ys : List D) : List D := List.zipWith (fun x y => .tuple [x, y]) xs ys
theorem zipD_get {xs ys : List D} {i : Nat} {d : D} (h : (zipD xs ys)[i]? = some d) : ∃ x y, xs[i]? = some x ∧ ys[i]? = some y ∧ d = .tuple [x, y] := by
  unfold zipD at h
  rw [List.getElem?_zipWith] at h
  split at h
  · rename_i x y hx hy
    cases h
    exact ⟨x, y, hx, hy, rfl⟩
  · cases h
theorem yl_zip {a b : Addr} {xs ys : List V} {ds es : List D} (hk : ∀ (O2 : List Addr) (H2 : Hp), To O O2 H1 H2 → SqL K H2 a xs) (hk2 : ∀ (O2 : List Addr) (H2 : Hp), To O O2 H1 H2 → SqL K H2 b ys) (rs : Reps K O H1 xs ds) (rs2 : Reps K O H1 ys es) : Yl K (Itz K a b) O H1 (zipD ds es) := by
  refine ⟨fun O2 H2 t i d hd => ?_, fun O2 H2 t => ⟨xs, ys, hk O2 H2 t, hk2 O2 H2 t, ?_⟩⟩
  · obtain ⟨x, y, hx, hy, rfl⟩ := zipD_get hd
    obtain ⟨v, hv, r⟩ := rs.get hx
    obtain ⟨u, hu, r2⟩ := rs2.get hy
    refine ⟨⟨xs, ys, v, u, hk O2 H2 t, hk2 O2 H2 t, hv, hu⟩, fun z H3 q => ?_⟩
    obtain ⟨T, rfl, hT, q⟩ := q
    have e := q xs ys v u (hk O2 H2 t) (hk2 O2 H2 t) hv hu
    subst e
    exact ⟨same_new hT, rep_newT hT (.cons (r.to t) (.cons (r2.to t) .nil))⟩
  · unfold zipD
    rw [List.length_zipWith, rs.length, rs2.length]
    omega
def enumD (n : Nat) : List D → List D
  | [] => []
  | x :: xs => .tuple [.int (n : Int), x] :: enumD (n + 1) xs
theorem enumD_len (n : Nat) (xs : List D) : (enumD n xs).length = xs.length := by
  induction xs generalizing n with
  | nil => rfl
  | cons x xs ih => show (enumD (n + 1) xs).length + 1 = _; rw [ih]; rfl
theorem enumD_get {xs : List D} {n i : Nat} {d : D} (h : (enumD n xs)[i]? = some d) : ∃ x, xs[i]? = some x ∧ d = .tuple [.int ((n + i : Nat) : Int), x] := by
  induction xs generalizing n i with
  | nil => cases h
  | cons x xs ih =>
    cases i with
    | zero => cases h; exact ⟨x, rfl, rfl⟩
    | succ i =>
      obtain ⟨y, hy, e⟩ := ih (n := n + 1) (i := i) h
      have : n + 1 + i = n + (i + 1) := by omega
      rw [this] at e
      exact ⟨y, hy, e⟩
theorem yl_enum {a : Addr} {xs : List V} {ds : List D} (hk : ∀ (O2 : List Addr) (H2 : Hp), To O O2 H1 H2 → SqL K H2 a xs) (rs : Reps K O H1 xs ds) : Yl K (Ite K a) O H1 (enumD 0 ds) := by
  refine ⟨fun O2 H2 t i d hd => ?_, fun O2 H2 t => ⟨xs, hk O2 H2 t, ?_⟩⟩
  · obtain ⟨x, hx, rfl⟩ := enumD_get hd
    obtain ⟨v, hv, r⟩ := rs.get hx
    refine ⟨⟨xs, v, hk O2 H2 t, hv⟩, fun z H3 q => ?_⟩
    obtain ⟨T, rfl, hT, q⟩ := q
    have e := q xs v (hk O2 H2 t) hv
    subst e
    rw [Nat.zero_add]
    exact ⟨same_new hT, rep_newT hT (.cons (.int _) (.cons (r.to t) .nil))⟩
  · rw [enumD_len, rs.length]
    exact Nat.le_refl _
def signsD (z : Str) : List D := z.cps.toList.map fun c => .str ⟨#[c]⟩
theorem yl_str {z : Str} : Yl K (Its z) O H1 (signsD z) := by
  have hl : (signsD z).length = z.length := by unfold signsD; rw [List.length_map, Array.length_toList]; rfl
  refine ⟨fun O2 H2 t i d hd => ?_, fun O2 H2 t => by rw [hl]; exact Nat.le_refl _⟩
  have hi : i < z.length := by
    have := (List.getElem?_eq_some_iff.mp hd).1
    omega
  refine ⟨hi, fun x H3 y => ?_⟩
  obtain ⟨rfl, c, hc, rfl⟩ := y
  unfold signsD at hd
  rw [List.getElem?_map, Array.getElem?_toList, hc] at hd
  cases hd
  exact ⟨Same.refl _, .str _⟩
end
section
variable {X : Cx} {G : XD → Hp → Prop} {tg iter a b : Expr} {f : DS → M D} {fa : DS → M (List D)} {pos p : Pos} {elts : List Expr} {x1 : Nat} {tpos : Pos}
def dSeq (f : DS → M D) : DS → M (List D) := fun δ => (f δ).thn fun d => M.lift (seqD d)
theorem pdi_seq (h : PD X G iter f) : PDI X G tg iter (dSeq f) := by
  obtain ⟨t, q, h⟩ := h
  refine ⟨_, pi_seq q, fun δ O σ H R E k => ?_⟩
  refine h δ O σ H _ E (ok_mono (ok_thn k) fun d z v H1 s1 r => ?_)
  obtain ⟨ds, hd, z⟩ := ok_lift z
  cases d with
  | list es =>
    cases hd
    obtain ⟨a, xs, rfl, hq, hk, rs⟩ := r.lstTo
    exact ⟨a, rfl, .inl ⟨⟨xs, hq⟩, z _ H1 s1 (yl_list hk rs)⟩⟩
  | tuple es =>
    cases hd
    obtain ⟨a, xs, rfl, hq, rs⟩ := r.tup_inv
    exact ⟨a, rfl, .inr ⟨⟨xs, hq⟩, z _ H1 s1 (yl_tup hq rs)⟩⟩
  | _ => cases hd
def dRng (rng : List D → Option (List D)) (fa : DS → M (List D)) : DS → M (List D) := fun δ => (fa δ).thn fun ds => M.lift (rng ds)
theorem pdi_rng1 (hgl : Gl X "range") (hm : X.mg "range" = none) (ha : PDA X G [a] fa) (hs1 : starEach [a] X.env = [(false, eval a X.env)] := by rfl) : PDI X G tg (.Call (.Name "range" p) [a] [] pos) (dRng rng1 fa) := by
  obtain ⟨_, ta, pa, ha⟩ := ha
  refine ⟨_, pi_range1 hgl hm pa hs1, fun δ O σ H R E k => ?_⟩
  refine ha δ O σ H _ E (ok_mono (ok_thn k) fun ds z vs H1 s1 rs => ?_)
  obtain ⟨xs, hd, z⟩ := ok_lift z
  unfold rng1 at hd
  split at hd
  · rename_i j
    by_cases hz : b62 j = true
    · rw [if_pos hz] at hd
      cases hd
      obtain ⟨v, rfl, r⟩ := reps1 rs
      obtain ⟨z1, z2⟩ := b62_of hz
      exact ⟨j, by rw [r.int_inv], z1, z2, z _ H1 s1 yl_range⟩
    · rw [if_neg hz] at hd; cases hd
  · cases hd
def dZip (fa : DS → M (List D)) : DS → M (List D) := fun δ => (fa δ).thn fun ds => match ds with
  | [.list xs, .list ys] => M.ret (zipD xs ys)
  | _ => none
theorem pdi_zip (hgl : Gl X "zip") (hm : X.mg "zip" = none) (ha : PDA X G [a, b] fa) (hs1 : starEach [a, b] X.env = [(false, eval a X.env), (false, eval b X.env)] := by rfl) (hs2 : starEach [b] X.env = [(false, eval b X.env)] := by rfl) :
    PDI X G (.Tuple elts x1 tpos) (.Call (.Name "zip" p) [a, b] [] pos) (dZip fa) := by
  obtain ⟨_, ta, pa, ha⟩ := ha
  refine ⟨_, pi_zip hgl hm pa hs1 hs2, fun δ O σ H R E k => ?_⟩
  refine ha δ O σ H _ E (ok_mono (ok_thn k) fun ds z vs H1 s1 rs => ?_)
  match ds, z with
  | [.list xs, .list ys], z =>
    obtain ⟨v, v', rfl, r, r'⟩ := reps2 rs
    obtain ⟨a1, us, rfl, hq, hk, r1⟩ := r.lstTo
    obtain ⟨a2, us2, rfl, hq2, hk2, r2⟩ := r'.lstTo
    exact ⟨a1, a2, rfl, ⟨us, hq⟩, ⟨us2, hq2⟩, z _ H1 s1 (yl_zip hk hk2 r1 r2)⟩
def dEnum (fa : DS → M (List D)) : DS → M (List D) := fun δ => (fa δ).thn fun ds => match ds with
  | [.list xs] => M.ret (enumD 0 xs)
  | _ => none
theorem pdi_enum (hgl : Gl X "enumerate") (hm : X.mg "enumerate" = none) (ha : PDA X G [a] fa) (hs1 : starEach [a] X.env = [(false, eval a X.env)] := by rfl) :
    PDI X G (.Tuple elts x1 tpos) (.Call (.Name "enumerate" p) [a] [] pos) (dEnum fa) := by
  obtain ⟨_, ta, pa, ha⟩ := ha
  refine ⟨_, pi_enum hgl hm pa hs1, fun δ O σ H R E k => ?_⟩
  refine ha δ O σ H _ E (ok_mono (ok_thn k) fun ds z vs H1 s1 rs => ?_)
  match ds, z with
  | [.list xs], z =>
    obtain ⟨v, rfl, r⟩ := reps1 rs
    obtain ⟨a1, us, rfl, hq, hk, r1⟩ := r.lstTo
    exact ⟨a1, rfl, ⟨us, hq⟩, z _ H1 s1 (yl_enum hk r1)⟩
def dSigns (f : DS → M D) : DS → M (List D) := fun δ => (f δ).thn fun d => match d with
  | .str z => M.ret (signsD z)
  | _ => none
theorem pdi_str (h : PD X G iter f) : PDI X G tg iter (dSigns f) := by
  obtain ⟨t, q, h⟩ := h
  refine ⟨_, pi_str q, fun δ O σ H R E k => ?_⟩
  refine h δ O σ H _ E (ok_mono (ok_thn k) fun d z v H1 s1 r => ?_)
  match d, z, r with
  | .str w, z, r => exact ⟨w, r.str_inv, z _ H1 s1 yl_str⟩
def gForI (fi : DS → M (List D)) (t : D → DS → Option DS) (g : DS → M Out) : DS → M Out := fun δ => (fi δ).thn fun ds => forD (bodyD t g) ds δ
theorem pd_forI {body : List Stmt} {t : D → DS → Option DS} {fi : DS → M (List D)} {gs : DS → M Out} (hp : PassesOwn (model X.prog X.w) X.A X.env X.xe) (hc : X.calm = true) (hi : PDI X G tg iter fi) (hg : PDG X tg t) (hb : PDSs X G body gs)
    (hs : ∀ x, foldedSetIterable iter X.env x = pure x := by intro _; rfl) : PDS X G (.For tg iter body [] pos) (gForI fi t gs) := by
  obtain ⟨wi, pi, hi⟩ := hi
  obtain ⟨tgt, pt, hg⟩ := hg
  obtain ⟨tb, pb, hb⟩ := hb
  refine ⟨_, ps_for hp hc pi pt pb hs, @fun Hr R0 P0 H0 δ O σ H Dn E k => ?_⟩
  refine hi δ O σ H _ E.ev (ok_mono (ok_thn k) fun ds z J H1 s1 Y => ?_)
  have E1 := E.same s1
  have z1 : ok (GS G Hr) (forD (bodyD t gs) ds δ) (Fin X.K Hr R0 (Ch O R0) H1 Dn) := ok_mono z fun o q => Fin.outer E1 q
  refine ⟨fun i m σ2 H2 => m = ds.length - i ∧ i ≤ ds.length ∧ ∃ δ2 O2, EI X.K Hr R0 (Ch O R0) H1 O2 H2 σ2 δ2 ∧ ok (GS G Hr) (forD (bodyD t gs) (ds.drop i) δ2) (Fin X.K Hr R0 (Ch O R0) H1 Dn), ⟨_, rfl, Nat.zero_le _, δ, O, E1.inner, z1⟩, ?_⟩
  rintro i m σ2 H2 ⟨rfl, hi, δ2, O2, E2, k2⟩
  have T := E1.to E2
  by_cases hlt : i < ds.length
  · right
    have hd : ds[i]? = some ds[i] := List.getElem?_eq_getElem hlt
    obtain ⟨go, yl⟩ := Y.step O2 H2 T i _ hd
    refine ⟨go, fun σ' H' => ∃ δ2 O2, EI X.K Hr R0 (Ch O R0) H1 O2 H' σ' δ2 ∧ ok (GS G Hr) (forD (bodyD t gs) (ds.drop (i + 1)) δ2) (Fin X.K Hr R0 (Ch O R0) H1 Dn), fun σ' H' h => ⟨_, by omega, rfl, hlt, h⟩, fun x H3 y => ?_⟩
    obtain ⟨s3, rx⟩ := yl x H3 y
    rw [drop_get hd] at k2
    have k3 := ok_thn (show ok (GS G Hr) ((bodyD t gs ds[i] δ2).thn _) _ from k2)
    obtain ⟨δ3, h3, k4⟩ := ok_lift (ok_thn (show ok (GS G Hr) ((M.lift (t ds[i] δ2)).thn gs) _ from k3))
    refine hg R0 (Ch O R0) H1 δ2 δ3 ds[i] x O2 σ2 H3 _ (E2.same s3) rx h3 fun σ4 H4 E4 _ => ?_
    refine hb R0 (Ch O R0) H1 δ3 O2 σ4 H4 _ E4 (ok_mono k4 fun o z => ?_)
    cases o with
    | nx δ5 => exact fun O5 σ5 H5 E5 => ⟨δ5, O5, E5, z⟩
    | ct δ5 => exact fun O5 σ5 H5 E5 => ⟨δ5, O5, E5, z⟩
    | bk δ5 => exact fun O5 σ5 H5 E5 => z O5 σ5 H5 E5
    | rt d => exact z
  · left
    have e : i = ds.length := by omega
    subst e
    rw [List.drop_length] at k2
    exact ⟨Y.stop O2 H2 T, k2 O2 σ2 H2 E2⟩
def compD (t : D → DS → Option DS) (c : DS → M Bool) (f : DS → M D) : List D → DS → M (List D)
  | [], _ => M.ret []
  | d :: ds, δ => (M.lift (t d δ)).thn fun δ' => (c δ').thn fun b => if b = true then (f δ').thn fun y => (compD t c f ds δ').thn fun ys => M.ret (y :: ys) else compD t c f ds δ'
def dYes : DS → M Bool := fun _ => M.ret true
def nX {α : Type} (f : DS → M α) : DS → M α := fun δ => noX (f δ)
def dCompG (n : Nat) (js : List Nat) (t : D → DS → Option DS) (fi : DS → M (List D)) (c : DS → M Bool) (f : DS → M D) : DS → M D := fun δ => (fi δ).thn fun ds => if small ds.length then (compD t (nX c) (nX f) ds (List.replicate n .un ++ js.map (slotAt δ))).thn fun ys => M.ret (.list ys) else none
def PDTs (X : Cx) (ifs : List Expr) (f : DS → M Bool) : Prop :=
  ∃ t, PTs X ifs t ∧ ∀ {Hr : Hp} (δ : DS) (O : List Addr) (σ : St) (H : Hp) (Q : Bool → Hp → Prop), Ev X.K Hr O H σ δ → ok (fun _ => False) (f δ) (fun b => ∀ H', Same H H' → Q b H') → t σ H Q
theorem pdts_nil : PDTs X [] dYes := ⟨_, pts_nil, fun δ O σ H Q E k => k H (Same.refl H)⟩
theorem ok_GS0 {α : Type} {Hr : Hp} {r : M α} {k : α → Prop} (h : ok (fun _ => False) r k) : ok (GS (fun _ _ => False) Hr) r k := ok_false h
end
end DL
namespace DL
open PySem PySem.Spec PyProof.Rows L2
def gD (K : PySem.W.Frag) (t : D → DS → Option DS) : TG := fun v σ H Q => ∃ Hr R0 P0 H0 δ δ' d O, EI K Hr R0 P0 H0 O H σ δ ∧ Rep K O H v d ∧ t d δ = some δ' ∧ ∀ σ' H', EI K Hr R0 P0 H0 O H' σ' δ' → Same H H' → Q σ' H'
theorem PDG.can {X : Cx} {e : Expr} {t : D → DS → Option DS} (h : PDG X e t) : PG X e (gD X.K t) := by
  obtain ⟨g, p, h⟩ := h
  intro pins s σ H v u Q I r hw
  obtain ⟨Hr, R0, P0, H0, δ, δ', d, O, E, rd, ht, k⟩ := hw
  exact p pins s σ H v u Q I r (h R0 P0 H0 δ δ' d v O σ H Q E rd ht k)
def cD (K : PySem.W.Frag) (f : DS → M Bool) : TT := fun σ H Q => ∃ Hr δ O, Ev K Hr O H σ δ ∧ ok (fun _ => False) (f δ) (fun b => ∀ H', Same H H' → Q b H')
theorem PDTs.can {X : Cx} {ifs : List Expr} {f : DS → M Bool} (h : PDTs X ifs f) : PTs X ifs (cD X.K f) := by
  obtain ⟨t, p, h⟩ := h
  intro pins s σ H Q I hw
  obtain ⟨Hr, δ, O, E, k⟩ := hw
  exact p pins s σ H Q I (h δ O σ H Q E k)
section
variable {K : PySem.W.Frag} {O : List Addr} {H1 H H' : Hp} {l : Addr} {τ : St} {δ : DS}
abbrev EC (K : PySem.W.Frag) (O : List Addr) (H1 : Hp) (l : Addr) (H : Hp) (τ : St) (δ : DS) : Prop := EI K (fun _ => none) (l :: O) (fun b => b = l) H1 (l :: O) H τ δ
theorem EC.put {xs ys : List V} (E : EC K O H1 l H τ δ) (hl : H l = some (.lst xs)) : EC K O H1 l (upd H l (.lst ys)) τ δ := by
  have ts : To (l :: O) (l :: O) H (upd H l (.lst ys)) := To.set hl List.mem_cons_self
  refine ⟨⟨(fun _ _ z => nomatch z), fun a ha => ?_, E.ev.len, fun i s hs => ?_, E.ev.dis⟩, E.omr, fun b o n h => ?_, E.om, E.nr1, E.sub⟩
  · by_cases e : a = l
    · subst e; exact .lst upd_same
    · exact (E.ev.oo a ha).upd_ne e
  · have q := E.ev.at_ i s hs
    cases s with
    | un => trivial
    | ex a => exact q
    | vl d =>
      obtain ⟨v, h1, r⟩ := q
      exact ⟨v, h1, r.to ts⟩
    | ow ds =>
      obtain ⟨a, us, h1, h2, h3, r⟩ := q
      exact absurd h2 (E.nr i ds a hs h1)
    | od es =>
      obtain ⟨a, us, h1, h2, h3, r⟩ := q
      exact absurd h2 (E.nr1 i _ a hs trivial h1)
  · rw [upd_ne n]
    exact E.keep b o n h
theorem slot_of {Hr : Hp} {σ : St} {δ : DS} {fr : List (Nat × Str)} (E : Ev K Hr O H σ δ) (n : Nat) (hl : H l = none) : EC K O H l (upd H l (.lst [])) (compSt n fr σ) (List.replicate n .un ++ (fr.map (·.1)).map (slotAt δ)) := by
  have get : ∀ (i : Nat) (s : Sl), (List.replicate n Sl.un ++ (fr.map (·.1)).map (slotAt δ))[i]? = some s → s = .un ∨ ∃ d v, s = .vl d ∧ (compSt n fr σ)[i]? = some (some v) ∧ Rep K O H v d := fun i s h => by
    by_cases hi : i < n
    · rw [List.getElem?_append_left (by simpa using hi), List.getElem?_replicate] at h
      split at h <;> cases h <;> exact .inl rfl
    · rw [List.getElem?_append_right (by simpa using hi), List.length_replicate, List.getElem?_map, List.getElem?_map] at h
      cases q : fr[i - n]? with
      | none => rw [q] at h; cases h
      | some p =>
        rw [q] at h
        have h : slotAt δ p.1 = s := Option.some.inj h
        unfold slotAt at h
        split at h
        · rename_i d hd
          subst h
          obtain ⟨v, hv, r⟩ := E.val hd
          refine .inr ⟨d, v, rfl, ?_, r⟩
          unfold compSt
          rw [List.getElem?_append_right (by simpa using hi), List.length_replicate, List.getElem?_map, q]
          show some (σ[p.1]?).join = _
          rw [hv]
          rfl
        · exact .inl h.symm
  have to : To O (l :: O) H (upd H l (.lst [])) := To.own hl
  refine ⟨⟨(fun _ _ z => nomatch z), fun a ha => ?_, by simp [compSt], fun i s hs => ?_, fun i j a ds es hij h1 => ?_⟩, fun a ha => .inl ha, fun b o nb h => by rw [upd_ne nb]; exact h, fun a ha => .inl ha, fun i ds a h1 ho => ?_, fun a ha => ha⟩
  · rcases List.mem_cons.mp ha with rfl | ha
    · exact .lst upd_same
    · exact (E.oo a ha).new hl
  · rcases get i s hs with rfl | ⟨d, v, rfl, hv, r⟩
    · trivial
    · exact ⟨v, hv, r.to to⟩
  · rcases get i _ h1 with z | ⟨_, _, z, _⟩ <;> cases z
  · rcases get i _ h1 with z | ⟨_, _, z, _⟩ <;> (cases z; exact ho.elim)
end
section
variable {X : Cx} {G : XD → Hp → Prop} {fi : DS → M (List D)} {c : DS → M Bool} {f : DS → M D} {t : D → DS → Option DS}
theorem ok_nX {α : Type} {g : XD → Prop} {f : DS → M α} {δ : DS} {k : α → Prop} (h : ok g (nX f δ) k) : ok (fun _ => False) (f δ) k := ok_noX h
theorem pd_compG {cl : List (Str × Addr)} {fr : List (Nat × Str)} {tn : List Str} {elt iter tg : Expr} {ifs : List Expr} {scope : Scope} {pos : Pos} (hc : X.calm = true)
    (hkind : scope.kind = .function) (hcell : ∀ y ∈ scope.names, y.2 ≠ .cell) (hclos : closureFor scope X.env = pure cl) (hsub : ∀ y c, cl.lookup y = some c → X.env.cells.lookup y = some c)
    (hhas : ∀ y ∈ (relabel scope X.env).names, (y.2 = .cell ∨ y.2 = .free) → ∃ c, cl.lookup y.1 = some c) (hfr : ∀ p ∈ fr, X.N[p.1]? = some p.2 ∧ X.env.kindOf p.2 = some .cell ∧ (compEnvC scope cl 0 X.env).kindOf p.2 = some .cell ∧ ∃ c, cl.lookup p.2 = some c) (hnames : ∀ y ∈ scope.names, y.2 = .local → scope.names.lookup y.1 = some .local)
    (hi : PDI X G tg iter fi) (hg : ∀ C s3 H3 fp, PDG (compCxG X scope cl fr tn C s3 H3 fp) tg t) (hcs : ∀ C s3 H3 fp, PDTs (compCxG X scope cl fr tn C s3 H3 fp) ifs c) (he : ∀ C s3 H3 fp, PD (compCxG X scope cl fr tn C s3 H3 fp) (fun _ _ => False) elt f) (hs : ∀ x, foldedSetIterable iter X.env x = pure x := by intro _; rfl) :
    PD X G (.ListComp elt [⟨tg, iter, ifs, 0⟩] scope pos) (dCompG tn.length (fr.map (·.1)) t fi c f) := by
  obtain ⟨wi, pi, hi⟩ := hi
  refine ⟨_, pe_compG (g := gD X.K t) (tc := cD X.K c) (te := tD X.K (fun _ _ => False) f) hc hkind hcell hclos hsub hhas hfr hnames pi (fun C s3 H3 fp => (hg C s3 H3 fp).can) (fun C s3 H3 fp => (hcs C s3 H3 fp).can) (fun C s3 H3 fp => (he C s3 H3 fp).can) hs, @fun Hr δ O σ H Q E k => ?_⟩
  refine hi δ O σ H _ E (ok_mono (ok_thn k) fun ds z J H1 s1 Y => ?_)
  by_cases hsz : small ds.length = true
  case neg =>
    rw [if_neg hsz] at z
    exact z.elim
  rw [if_pos hsz] at z
  intro l hl
  have E1 := E.same s1
  have kk := ok_mono (ok_thn z) fun ys (q : ∀ v H', Same H H' → Rep X.K O H' v (.list ys) → Q v H') H2 (kp : Kp l H1 H2) r2 => q (.ref l) H2 (s1.trans (kp.same hl)) r2
  refine ⟨fun i m τ xs H2 => m = ds.length - i ∧ i ≤ ds.length ∧ xs.length ≤ i ∧ H2 l = some (.lst xs) ∧ ∃ δc ys, EC X.K O H1 l H2 τ δc ∧ Reps X.K (l :: O) H2 xs ys ∧
    ok (GS G Hr) (compD t (nX c) (nX f) (ds.drop i) δc) (fun rest => ∀ H3, Kp l H1 H3 → Rep X.K O H3 (.ref l) (.list (ys ++ rest)) → Q (.ref l) H3),
    ⟨_, rfl, Nat.zero_le _, Nat.le_refl _, upd_same, _, [], slot_of E1 tn.length hl, .nil, kk⟩, ?_⟩
  rintro i m τ xs H2 ⟨rfl, hi, hx, h2, δc, ys, Ec, ry, kc⟩
  have kp : Kp l H1 H2 := fun b o hb e => Ec.keep b o hb e
  refine ⟨h2, ?_⟩
  have T : To O (l :: O) H1 H2 := kp.to hl
  by_cases hlt : i < ds.length
  · right
    have hd : ds[i]? = some ds[i] := List.getElem?_eq_getElem hlt
    obtain ⟨go, yl⟩ := Y.step (l :: O) H2 T i _ hd
    refine ⟨go, Nat.lt_of_le_of_lt hx (Nat.lt_of_lt_of_le hlt (small_le hsz)), fun x H3 y => ?_⟩
    obtain ⟨s3, rx⟩ := yl x H3 y
    rw [drop_get hd] at kc
    obtain ⟨δ', ht, kc⟩ := ok_lift (ok_thn (show ok (GS G Hr) ((M.lift (t ds[i] δc)).thn _) _ from kc))
    refine ⟨_, _, _, _, δc, δ', ds[i], l :: O, Ec.same s3, rx, ht, fun τ' H4 E4 s4 => ?_⟩
    refine ⟨_, δ', l :: O, E4.ev, ok_mono (ok_nX (ok_thn kc)) fun b zb H5 s5 => ?_⟩
    have E5 := E4.same s5
    have s25 := (s3.trans s4).trans s5
    dsimp only
    cases b with
    | false =>
      rw [if_neg Bool.false_ne_true] at zb ⊢
      exact ⟨_, by omega, rfl, hlt, by omega, s25 _ _ h2, δ', ys, E5, ry.same s25, zb⟩
    | true =>
      rw [if_pos rfl] at zb ⊢
      refine ⟨_, δ', l :: O, E5.ev, ok_GS0 (ok_mono (ok_nX (ok_thn zb)) fun y kz v H6 s6 rv => ?_)⟩
      have h6 : H6 l = some (.lst xs) := s6 _ _ (s25 _ _ h2)
      have ts : To (l :: O) (l :: O) H6 (upd H6 l (.lst (xs ++ [v]))) := To.set h6 List.mem_cons_self
      refine ⟨h6, ds.length - (i + 1), by omega, rfl, hlt, by rw [List.length_append]; show xs.length + 1 ≤ i + 1; omega, upd_same, δ', ys ++ [y], EC.put (E5.same s6) h6, (((ry.same s25).same s6).to ts).append (.cons (rv.to ts) .nil), ?_⟩
      exact ok_mono (ok_thn kz) fun rest q H7 kp7 r7 => q H7 kp7 (by rw [List.append_assoc] at r7; exact r7)
  · left
    have e : i = ds.length := by omega
    subst e
    rw [List.drop_length] at kc
    refine ⟨Y.stop (l :: O) H2 T, kc H2 kp ?_⟩
    rw [List.append_nil]
    exact .lst (.inl h2) (nin E1.oo hl) (ry.to (.less fun b hb => List.mem_cons_of_mem _ hb))
end
section
variable {δ δ' : DS} {fi : DS → M (List D)} {c : DS → M Bool} {f : DS → M D} {t : D → DS → Option DS} {fa : DS → M (List D)} {g : DS → M D} {x y d : D} {ds ys xs : List D} {n : Nat} {js : List Nat} {gs gt : DS → M Out} {r : M Out} {z : Str}
theorem ev_compG (h1 : fi δ = M.ret ds) (hz : small ds.length = true) (h3 : compD t (nX c) (nX f) ds (List.replicate n .un ++ js.map (slotAt δ)) = M.ret ys) : dCompG n js t fi c f δ = M.ret (.list ys) := by
  unfold dCompG; rw [h1, thn_ret, if_pos hz, h3]; rfl
theorem ev_compN : compD t c f [] δ = M.ret [] := rfl
theorem ev_compC (h1 : t d δ = some δ') (h2 : f δ' = M.ret y) (h3 : compD t (nX dYes) (nX f) ds δ' = M.ret ys) : compD t (nX dYes) (nX f) (d :: ds) δ = M.ret (y :: ys) := by
  show (M.lift (t d δ)).thn _ = _
  rw [h1, lift_some, thn_ret]
  show (M.ret true).thn _ = _
  rw [thn_ret, if_pos rfl]
  show (noX (f δ')).thn _ = _
  rw [h2]
  show (compD _ _ _ _ _).thn _ = _
  rw [h3]
  rfl
theorem ev_compM {h : D → D} (Q : DS → Prop) : ∀ (ds : List D) (δ : DS), Q δ → (∀ d ∈ ds, ∀ δ, Q δ → ∃ δ', t d δ = some δ' ∧ f δ' = M.ret (h d) ∧ Q δ') → compD t (nX dYes) (nX f) ds δ = M.ret (ds.map h)
  | [], _, _, _ => rfl
  | d :: ds, δ, q, hs => by
    obtain ⟨δ', h1, h2, q'⟩ := hs d List.mem_cons_self δ q
    exact ev_compC h1 h2 (ev_compM Q ds δ' q' fun e he => hs e (List.mem_cons_of_mem _ he))
theorem ev_rngS {rng : List D → Option (List D)} (h1 : fa δ = M.ret xs) (h2 : rng xs = some ds) : dRng rng fa δ = M.ret ds := by unfold dRng; rw [h1, thn_ret, h2]; rfl
theorem ev_zipS (h1 : fa δ = M.ret [.list xs, .list ys]) : dZip fa δ = M.ret (zipD xs ys) := by unfold dZip; rw [h1]; rfl
theorem ev_enumS (h1 : fa δ = M.ret [.list xs]) : dEnum fa δ = M.ret (enumD 0 xs) := by unfold dEnum; rw [h1]; rfl
theorem ev_forG (h1 : fi δ = M.ret ds) {r : M Out} (h3 : forD (bodyD t gs) ds δ = r) : gForI fi t gs δ = r := by unfold gForI; rw [h1, thn_ret]; exact h3
end
end DL
namespace DL
open PySem PySem.Spec PyProof.Rows L2
section
variable {X : Cx} {G : XD → Hp → Prop} {tg iter : Expr} {f : DS → M D}
theorem PI.or {w1 w2 : TI} (h1 : PI X tg iter w1) (h2 : PI X tg iter w2) : PI X tg iter (fun σ H R => w1 σ H R ∨ w2 σ H R) := by
  intro pins s σ H R I h
  rcases h with h | h
  · exact h1 pins s σ H R I h
  · exact h2 pins s σ H R I h
def anyD : D → Option (List D)
  | .list ds => some ds
  | .tuple ds => some ds
  | .str z => some (signsD z)
  | _ => none
def dAny (f : DS → M D) : DS → M (List D) := fun δ => (f δ).thn fun d => M.lift (anyD d)
theorem pdi_any (h : PD X G iter f) : PDI X G tg iter (dAny f) := by
  obtain ⟨w1, p1, h1⟩ := pdi_seq (tg := tg) h
  obtain ⟨w2, p2, h2⟩ := pdi_str (tg := tg) h
  refine ⟨_, PI.or p1 p2, fun δ O σ H R E k => ?_⟩
  have d1 : ∀ d, f δ = some (.ok d) → (∀ z, d ≠ .str z) → dSeq f δ = dAny f δ := fun d e n => by
    unfold dSeq dAny
    rw [e]
    show M.lift (seqD d) = M.lift (anyD d)
    cases d with
    | str z => exact absurd rfl (n z)
    | _ => rfl
  match e : f δ with
  | none => unfold dAny at k; rw [e] at k; exact k.elim
  | some (.error x) =>
    refine .inl (h1 δ O σ H R E ?_)
    have e1 : dAny f δ = dSeq f δ := by unfold dAny dSeq; rw [e]; rfl
    rw [← e1]
    exact k
  | some (.ok d) =>
    match d, e with
    | .str z, e =>
      refine .inr (h2 δ O σ H R E ?_)
      have e1 : dAny f δ = dSigns f δ := by unfold dAny dSigns; rw [e]; rfl
      rw [← e1]
      exact k
    | .none, e => exact .inl (h1 δ O σ H R E (by rw [d1 _ e (fun z q => nomatch q)]; exact k))
    | .bool b, e => exact .inl (h1 δ O σ H R E (by rw [d1 _ e (fun z q => nomatch q)]; exact k))
    | .int b, e => exact .inl (h1 δ O σ H R E (by rw [d1 _ e (fun z q => nomatch q)]; exact k))
    | .list b, e => exact .inl (h1 δ O σ H R E (by rw [d1 _ e (fun z q => nomatch q)]; exact k))
    | .tuple b, e => exact .inl (h1 δ O σ H R E (by rw [d1 _ e (fun z q => nomatch q)]; exact k))
    | .dict b, e => exact .inl (h1 δ O σ H R E (by rw [d1 _ e (fun z q => nomatch q)]; exact k))
theorem ev_any {δ : DS} {x : D} {ds : List D} (h1 : f δ = M.ret x) (h2 : anyD x = some ds) : dAny f δ = M.ret ds := by unfold dAny; rw [h1, thn_ret, h2]; rfl
end
end DL
namespace DL
open PySem PySem.Spec PyProof.Rows L2
section
variable {X : Cx} {G : XD → Hp → Prop} {a b c e : Expr} {es : List Expr} {f : DS → M D} {fa : DS → M (List D)} {pos pos' : Pos} {sts : List Stmt} {gs : DS → M Out}
variable {K : PySem.W.Frag} {Hr : Hp} {R0 : List Addr} {P0 : Addr → Prop} {H0 H H' : Hp} {O : List Addr} {σ : St} {δ : DS}
theorem EI.newL {i : Nat} {l : Addr} {xs : List V} {ds : List D} (E : EI K Hr R0 P0 H0 O H σ δ) (hl : H l = none) (rx : Reps K O H xs ds) : EI K Hr R0 P0 H0 (l :: O) (upd H l (.lst xs)) (σ.set i (some (.ref l))) (δ.set i (.ow ds)) := by
  have nO : l ∉ O := nin E.ev.oo hl
  have tO : To O (l :: O) H (upd H l (.lst xs)) := To.own hl
  refine ⟨⟨fun b o h => by have q := E.ev.root b o h; rw [upd_ne (ne_of_none q hl)]; exact q, fun a ha => ?_, by rw [List.length_set, List.length_set]; exact E.ev.len, fun j s h => ?_, fun j k a ds es hjk h1 h2 h3 h4 => ?_⟩, fun a ha => ?_, fun b o n h => ?_, fun a ha => ?_, fun j ds a h1 ho h2 => ?_, fun a ha => List.mem_cons_of_mem _ (E.sub a ha)⟩
  · rcases List.mem_cons.mp ha with rfl | ha
    · exact .lst upd_same
    · exact (E.ev.oo a ha).new hl
  · rw [get_set] at h ⊢
    by_cases hij : i = j
    · rw [if_pos hij] at h ⊢
      by_cases hz : i < δ.length
      · rw [if_pos hz] at h
        rw [if_pos (by rw [E.ev.len]; exact hz)]
        cases h
        exact ⟨l, xs, rfl, List.mem_cons_self, upd_same, rx.to tO⟩
      · rw [if_neg hz] at h; cases h
    · rw [if_neg hij] at h ⊢
      exact (E.ev.at_ j s h).to tO (hd_new hl) fun a xs h1 h2 _ _ => ⟨List.mem_cons_of_mem _ h1, by rw [upd_ne (ne_of_none h2 hl)]; exact h2⟩
  · rw [get_set] at h1 h2 h3 h4
    by_cases hij : i = j
    · rw [if_pos hij] at h1 h3
      have ha : a = l := by
        split at h3
        · cases h3; rfl
        · cases h3
      have hik : ¬ i = k := fun z => hjk (hij.symm.trans z)
      rw [if_neg hik] at h2 h4
      obtain ⟨l', xs, q1, q2, q3, _⟩ := E.ev.at_ k _ h2
      rw [h4] at q1
      cases q1
      rw [ha] at q2
      exact nO q2
    · rw [if_neg hij] at h1 h3
      by_cases hik : i = k
      · rw [if_pos hik] at h4
        have ha : a = l := by
          split at h4
          · cases h4; rfl
          · cases h4
        obtain ⟨l', xs, q1, q2, q3, _⟩ := E.ev.at_ j _ h1
        rw [h3] at q1
        cases q1
        rw [ha] at q2
        exact nO q2
      · rw [if_neg hik] at h2 h4
        exact E.ev.dis j k a ds es hjk h1 h2 h3 h4
  · rcases List.mem_cons.mp ha with rfl | ha
    · refine .inr ?_
      cases q : Hr a with
      | none => rfl
      | some o =>
        rw [E.ev.root a o q] at hl
        cases hl
    · exact E.omr a ha
  · have q := E.keep b o n h
    rw [upd_ne (ne_of_none q hl)]
    exact q
  · rcases List.mem_cons.mp ha with rfl | ha
    · by_cases hp : P0 a
      · exact .inr (.inl hp)
      · refine .inr (.inr ?_)
        cases q : H0 a with
        | none => rfl
        | some o =>
          rw [E.keep a o hp q] at hl
          cases hl
    · exact E.om a ha
  · rw [get_set] at h1 h2
    by_cases hij : i = j
    · rw [if_pos hij] at h2
      have ha : a = l := by
        split at h2
        · cases h2; rfl
        · cases h2
      rw [ha]
      exact fun z => nO (E.sub l z)
    · rw [if_neg hij] at h1 h2
      exact E.nr1 j ds a h1 ho h2
def PDN (X : Cx) (G : XD → Hp → Prop) (e : Expr) (f : DS → M (List D)) : Prop :=
  ∃ t, PE X e t ∧ ∀ {Hr : Hp} (δ : DS) (O : List Addr) (σ : St) (H : Hp) (Q : VK), Ev X.K Hr O H σ δ → ok (GS G Hr) (f δ) (fun ds => ∀ l xs H1, Same H H1 → H1 l = none → Reps X.K O H1 xs ds → Q (.ref l) (upd H1 l (.lst xs))) → t σ H Q
def nLst (fa : DS → M (List D)) : DS → M (List D) := fun δ => (fa δ).thn fun ds => if small ds.length then M.ret ds else none
theorem pdn_lst (h : PDA X G es fa) : PDN X G (.List es pos) (nLst fa) := by
  obtain ⟨_, t, p, h⟩ := h
  refine ⟨_, pe_lst p, fun δ O σ H Q E k => ?_⟩
  refine h δ O σ H _ E (ok_mono (ok_thn k) fun ds z vs H1 s1 rs => ?_)
  by_cases hz : small ds.length = true
  · rw [if_pos hz] at z
    exact ⟨by rw [rs.length]; exact small_le hz, fun p hp => z p vs H1 s1 hp rs⟩
  · rw [if_neg hz] at z
    exact z.elim
def gNewL (i : Nat) (f : DS → M (List D)) : DS → M Out := fun δ => (f δ).thn fun ds => M.ret (.nx (δ.set i (.ow ds)))
theorem pd_newL {i : Nat} {x : Str} {f : DS → M (List D)} (hN : X.N.Nodup) (hi : X.N[i]? = some x) (hx : Loc X.env.scope x) (he : PDN X G e f) (hs : swapsWith e (some (.Name x pos')) pos.line X.env = pure false := by rfl) (hf : X.fn x = true ∨ X.env.scope.names.lookup x = some .local := by first | exact .inl rfl | exact .inr rfl | assumption) :
    PDS X G (.Assign [.Name x pos'] e pos) (gNewL i f) := by
  obtain ⟨t, p, he⟩ := he
  refine ⟨_, ps_set hN hi hx p hs hf, fun R0 P0 H0 δ O σ H Dn E k => ?_⟩
  exact he δ O σ H _ E.ev (ok_mono (ok_thn k) fun ds z l xs H1 s1 hl rx => z (l :: O) _ _ ((E.same s1).newL hl rx))
mutual
def flatD : D → Bool
  | .tuple ds => flatDs ds
  | .list _ => false
  | .dict _ => false
  | _ => true
def flatDs : List D → Bool
  | [] => true
  | d :: ds => flatD d && flatDs ds
end
mutual
theorem Rep.flat {O' : List Addr} : ∀ {v : V} {d : D}, flatD d = true → Rep K O H v d → Rep K O' H v d
  | _, _, _, .non => .non
  | _, _, _, .bl b => .bl b
  | _, _, _, .int i => .int i
  | _, _, _, .str x => .str x
  | _, _, h, .tup q r => .tup q (Reps.flat (by simpa only [flatD] using h) r)
  | _, _, h, .lst _ _ _ => by simp [flatD] at h
  | _, _, h, .lstK _ _ => by simp [flatD] at h
  | _, _, h, .dct _ _ _ _ => by simp [flatD] at h
  | _, _, h, .ins _ _ _ _ _ => by simp [flatD, insD] at h
theorem Reps.flat {O' : List Addr} : ∀ {vs : List V} {ds : List D}, flatDs ds = true → Reps K O H vs ds → Reps K O' H vs ds
  | _, _, _, .nil => .nil
  | _, _, h, .cons r rs => by
    simp only [flatDs, Bool.and_eq_true] at h
    exact .cons (Rep.flat h.1 r) (Reps.flat h.2 rs)
end
end
section
variable {δ : DS} {f : DS → M D} {fb : DS → M Bool} {fn : DS → M (List D)} {d : D} {b : Bool} {ds : List D} {fa : DS → M (List D)} {i : Nat}
theorem ev_newL (h : fn δ = M.ret ds) : gNewL i fn δ = M.ret (.nx (δ.set i (.ow ds))) := by unfold gNewL; rw [h]; rfl
theorem ev_nLst (h : fa δ = M.ret ds) (hz : small ds.length = true) : nLst fa δ = M.ret ds := by unfold nLst; rw [h, thn_ret, if_pos hz]
end
end DL
namespace L2
open PySem PySem.Spec PyProof.Rows
section
variable {X : Cx}
theorem vals_strs : ∀ {ts : List Str} {us : List Value}, Vals (ts.map V.str) us → ∃ l : List (Str × Tok), us = strValues l ∧ l.map (·.1) = ts
  | [], _, .nil => ⟨[], rfl, rfl⟩
  | t :: ts, _, .cons r rs => by
    obtain ⟨l, rfl, e⟩ := vals_strs rs
    obtain ⟨k, rfl⟩ := r
    exact ⟨(t, k) :: l, rfl, by rw [List.map_cons, e]⟩
theorem vals_of_strs : ∀ (l : List (Str × Tok)), Vals ((l.map (·.1)).map V.str) (strValues l)
  | [] => .nil
  | (x, t) :: l => .cons ⟨t, rfl⟩ (vals_of_strs l)
theorem mt_join : MtR X "str.join" (fun x xs H Q => ∃ z p ts, x = .str z ∧ xs = [.ref p] ∧ SqL X.K H p (ts.map V.str) ∧ JoinOk z ts = true ∧ Q (.str (Txt.join z ts)) H) := by
  intro pins s σ H x xs v us Q I rx rs h
  obtain ⟨z, p, ts, rfl, rfl, hq, hj, q⟩ := h
  obtain ⟨t, rfl⟩ := rx
  obtain ⟨u, rfl, r1⟩ := vals1 rs
  cases r1
  obtain ⟨its, rv, pl, _⟩ := I.list hq
  obtain ⟨l, rfl, e⟩ := vals_strs rv
  exact SC.join pl.isList e hj fun t' k => ⟨.str _, H, I.tok k, ⟨t', rfl⟩, q⟩
theorem mt_split : MtR X "str.split" (fun x xs H Q => ∃ z y, x = .str z ∧ xs = [.str y] ∧ (y.length == 0) = false ∧ z.length ≤ sizeLine ∧ (Txt.split z y).length ≤ sizeLine ∧ (Builtin.Str.partsBetween z (Builtin.Str.occurrences z y 0 z.length (z.length + 1)) y.length).length ≤ sizeLine ∧
    ∀ p, H p = none → Q (.ref p) (upd H p (.lst ((Txt.split z y).map V.str)))) := by
  intro pins s σ H x xs v us Q I rx rs h
  obtain ⟨z, y, rfl, rfl, hy, hz, hl, hz2, q⟩ := h
  obtain ⟨t, rfl⟩ := rx
  obtain ⟨u, rfl, t2, rfl⟩ := vals1 rs
  have fin : ∀ (l : List (Str × Tok)) (k : Nat), l.map (·.1) = Txt.split z y → EP X pins σ Q (.ref s.heap.objs.size) { s with heap := s.heap.push { cls := .type "list", data := .seq (strValues l).toArray }, toks := k } := fun l k e => by
    rw [← e] at q hl
    refine ⟨.ref s.heap.objs.size, _, I.laid (o := .lst ((l.map (·.1)).map V.str)) (t' := k) (fun b o e => Heap.get?_push_of_some _ e) (Nat.le_refl _) ⟨by rw [List.length_map]; exact hl, _, 0, vals_of_strs l, Heap.get?_push_size _ rfl⟩, rfl, q _ I.fresh⟩
  cases h1 : (decide (z.length < y.length) || decide (Builtin.Str.strKind z < Builtin.Str.strKind y))
  · cases hf : (Builtin.Str.occurrences z y 0 z.length (z.length + 1)).isEmpty
    · refine call_meets PySem.F.slot_str_split (typeIs_str _ _ _) PySem.F.entry_str_split (PySem.F.args_str_split_2 _ _) (meets_str_split_sep z y t t2 h1 hy hf hz hz2) ?_
      rw [strsFrom_eq]
      exact fin (numbered s.toks _) _ ((numbered_texts _ _).trans ((if_neg (ne_true_of_eq_false h1)).trans (if_neg (ne_true_of_eq_false hf))).symm)
    · exact call_meets PySem.F.slot_str_split (typeIs_str _ _ _) PySem.F.entry_str_split (PySem.F.args_str_split_2 _ _) (meets_str_split_not_found z y t t2 h1 hy hf)
        (fin [(z, t)] _ ((if_neg (ne_true_of_eq_false h1)).trans (if_pos hf)).symm)
  · exact call_meets PySem.F.slot_str_split (typeIs_str _ _ _) PySem.F.entry_str_split (PySem.F.args_str_split_2 _ _) (meets_str_split_cannot_occur z y t t2 h1)
      (fin [(z, t)] _ (if_pos h1).symm)
theorem call_int_text : CallR X (.type "int") (fun xs H Q => ∃ z n, xs = [.str z] ∧ PySem.intText? z = some n ∧ z.length ≤ 640 ∧ Q (.int n) H) := by
  intro pins s σ H xs us Q I r h
  obtain ⟨z, n, rfl, hn, hl, q⟩ := h
  obtain ⟨u, rfl, t, rfl⟩ := vals1 r
  exact PySem.W.KIN.call_text hn hl ⟨.int n, H, I.tok _, ⟨_, rfl⟩, q⟩
end
end L2
namespace L2
open PySem PySem.Spec PyProof.Rows
section
variable {X : Cx}
theorem op_le_str : OpR X (compareOp .LtE) (fun x y H Q => ∃ i j, x = .str i ∧ y = .str j ∧ Q (.bl (!decide (j.cps.toList < i.cps.toList))) H) := by
  intro pins s σ H x y v u Q I rx ry h
  obtain ⟨i, j, rfl, rfl, q⟩ := h
  obtain ⟨t, rfl⟩ := rx
  obtain ⟨t', rfl⟩ := ry
  exact PySem.P.le_str (fin_bl I q rfl)
theorem sl_str : SlR X (fun x lo hi H Q => ∃ z, x = .str z ∧ z.length ≤ sizeLine ∧ Q (.str (Txt.slice z lo hi)) H) := by
  intro pins s σ H x v vl vu lo hi sl Q I rx hs pl pu h
  obtain ⟨z, rfl, hz, q⟩ := h
  obtain ⟨t, rfl⟩ := rx
  refine ⟨"str", _, PySem.F.slot_str_getitem.lookup, typeIs_str _ _ _, ?_⟩
  obtain ⟨l, rfl, rfl⟩ : ∃ l : Option (Int × Tok), vl = partValue l ∧ lo = l.map (·.1) := by
    cases pl with
    | none => exact ⟨none, rfl, rfl⟩
    | int i t => exact ⟨some (i, t), rfl, rfl⟩
  obtain ⟨u, rfl, rfl⟩ : ∃ u : Option (Int × Tok), vu = partValue u ∧ hi = u.map (·.1) := by
    cases pu with
    | none => exact ⟨none, rfl, rfl⟩
    | int i t => exact ⟨some (i, t), rfl, rfl⟩
  refine wpAny_getItem_str_slice (l := l) (u := u) (st := none) ?_ rfl (post_val_or_str ⟨Nat.le_trans (Txt.slice_le z _ _) hz, fun t' k => ⟨.str _, H, I.tok k, ⟨t', rfl⟩, q⟩⟩)
  obtain ⟨o, h1, h2, h3⟩ := hs
  exact ⟨o, h1, h2, h3⟩
end
end L2
namespace DL
open PySem PySem.Spec PyProof.Rows L2
section
variable {X : Cx} {G : XD → Hp → Prop} {a b c e o : Expr} {es : List Expr} {f g k : DS → M D} {fa : DS → M (List D)} {pos apos cpos : Pos}
def DMt (X : Cx) (id : String) (h : Str → List D → Option D) : Prop :=
  ∃ r, MtR X id r ∧ ∀ (O : List Addr) (H : Hp) (z : Str) (xs : List D) (d : D) (vs : List V) (Q : VK), (∀ l ∈ O, Mu H l) → Reps X.K O H vs xs → h z xs = some d → (∀ v' H', Same H H' → Rep X.K O H' v' d → Q v' H') → r (.str z) vs H Q
def dMeth (h : Str → List D → Option D) (f : DS → M D) (fa : DS → M (List D)) : DS → M D := fun δ => (f δ).thn fun d => match d with
  | .str z => (fa δ).thn fun xs => M.lift (h z xs)
  | _ => none
theorem pd_meth {id : String} {name : Str} {h : Str → List D → Option D} (slot : Slot "str" name id) (hty : typeOf (.builtin id) = pure (.type "method_descriptor")) (hm : DMt X id h) (ho : PD X G o f) (ha : PDA X G (e :: es) fa)
    (hbase : attributeBase o name X.env (eval o X.env) = eval o X.env := by rfl)
    (hfew : ((backTo cpos (starEach (e :: es) X.env)).all (fun x => !x.1) && (backToKw cpos (keywordEach [] X.env)).all (fun x => x.1.isSome)
      && decide ((e :: es).length + ([] : List Keyword).length + (if ([] : List Keyword).isEmpty then 0 else 1) < 30)) = true := by rfl)
    (hline : (apos.endLine == cpos.line) = true := by rfl) (hs : starEach (e :: es) X.env = (false, eval e X.env) :: starEach es X.env := by rfl) (hplain : (backTo cpos (starEach es X.env)).any (·.1) = false := by rfl) :
    PD X G (.Call (.Attribute o name apos) (e :: es) [] cpos) (dMeth h f fa) := by
  obtain ⟨r, hr, hm⟩ := hm
  obtain ⟨t, p, ho⟩ := ho
  obtain ⟨_, u, q, ha⟩ := ha
  refine ⟨_, pe_bm PySem.F.plainAttrs_str slot hty hr p q hbase hfew hline hs hplain, fun δ O σ H Q E k => ?_⟩
  refine ho δ O σ H _ E (ok_mono (ok_thn k) fun d z v H1 s1 rd => ?_)
  match d, z, rd with
  | .str w, z, rd =>
    rw [rd.str_inv]
    refine ⟨rfl, ha δ O σ H1 _ (E.same s1) (ok_mono (ok_thn z) fun xs zz vs H2 s2 rs => ?_)⟩
    obtain ⟨y, hy, zz⟩ := ok_lift zz
    exact hm O H2 w xs y vs Q (E.same (s1.trans s2)).oo rs hy fun v' H3 s3 r3 => zz v' H3 ((s1.trans s2).trans s3) r3
def strsOf : List D → Option (List Str)
  | [] => some []
  | .str z :: r => (strsOf r).map (z :: ·)
  | _ => none
theorem strsOf_get : ∀ {ds : List D} {ts : List Str}, strsOf ds = some ts → ds = ts.map PyData.str
  | [], ts, h => by cases h; rfl
  | .str z :: r, ts, h => by
    have h : (strsOf r).map (z :: ·) = some ts := h
    cases e : strsOf r with
    | none => rw [e] at h; cases h
    | some cs => rw [e] at h; cases h; rw [strsOf_get e]; rfl
theorem reps_strs {K : PySem.W.Frag} {O : List Addr} {H : Hp} : ∀ {ts : List Str} {vs : List V}, Reps K O H vs (ts.map PyData.str) → vs = ts.map V.str
  | [], _, .nil => rfl
  | t :: ts, _, .cons r rs => by rw [r.str_inv, reps_strs rs]; rfl
theorem reps_of_strs {K : PySem.W.Frag} {O : List Addr} {H : Hp} : ∀ (ts : List Str), Reps K O H (ts.map V.str) (ts.map PyData.str)
  | [] => .nil
  | t :: ts => .cons (.str t) (reps_of_strs ts)
def sJoin (z : Str) : List D → Option D
  | [.list ds] => match strsOf ds with
    | some ts => if JoinOk z ts then some (.str (Txt.join z ts)) else none
    | none => none
  | _ => none
theorem dmt_join : DMt X "str.join" sJoin := by
  refine ⟨_, mt_join, fun O H z xs d vs Q oo rs e k => ?_⟩
  unfold sJoin at e
  split at e
  · rename_i ds
    split at e
    · rename_i ts hts
      by_cases hp : JoinOk z ts = true
      · rw [if_pos hp] at e
        cases e
        obtain ⟨v, rfl, r⟩ := reps1 rs
        obtain ⟨p, us, rfl, h1, rx⟩ := r.lst_inv
        rw [strsOf_get hts] at rx
        rw [reps_strs rx] at h1
        exact ⟨z, p, ts, rfl, rfl, h1, hp, k _ H (Same.refl H) (.str _)⟩
      · rw [if_neg hp] at e; cases e
    · cases e
  · cases e
def splitOk (z y : Str) : Bool := (y.length == 0) == false && small z.length && small (Txt.split z y).length && small (Builtin.Str.partsBetween z (Builtin.Str.occurrences z y 0 z.length (z.length + 1)) y.length).length
def sSplit (z : Str) : List D → Option D
  | [.str y] => if splitOk z y then some (.list ((Txt.split z y).map PyData.str)) else none
  | _ => none
theorem dmt_split : DMt X "str.split" sSplit := by
  refine ⟨_, mt_split, fun O H z xs d vs Q oo rs e k => ?_⟩
  unfold sSplit at e
  split at e
  · rename_i y
    by_cases hp : splitOk z y = true
    · rw [if_pos hp] at e
      cases e
      unfold splitOk at hp
      obtain ⟨hp, h4⟩ := Bool.and_eq_true_iff.mp hp
      obtain ⟨hp, h3⟩ := Bool.and_eq_true_iff.mp hp
      obtain ⟨h1, h2⟩ := Bool.and_eq_true_iff.mp hp
      obtain ⟨v, rfl, r⟩ := reps1 rs
      exact ⟨z, y, rfl, by rw [r.str_inv], by simpa using h1, small_le h2, small_le h3, small_le h4, fun p hp => k _ _ (same_new hp) (rep_newL oo hp (reps_of_strs _))⟩
    · rw [if_neg hp] at e; cases e
  · cases e
def oIntS : List D → Option D
  | [.str z] => match PySem.intText? z with
    | some n => if z.length ≤ 640 then some (.int n) else none
    | none => none
  | ds => oInt ds
theorem dcall_intS : DCall X (.type "int") oIntS := by
  refine ⟨_, call_int_text.or call_int1, fun O H ds d vs Q oo rs e k => ?_⟩
  unfold oIntS at e
  split at e
  · rename_i z
    split at e
    · rename_i n hn
      by_cases hl : z.length ≤ 640
      · rw [if_pos hl] at e
        cases e
        obtain ⟨v, rfl, r⟩ := reps1 rs
        exact .inl ⟨z, n, by rw [r.str_inv], hn, hl, k _ H (Same.refl H) (.int _)⟩
      · rw [if_neg hl] at e; cases e
    · cases e
  · unfold oInt at e
    split at e
    · cases e
      obtain ⟨v, rfl, r⟩ := reps1 rs
      exact .inr (.inl ⟨_, by rw [r.int_inv], k _ H (Same.refl H) (.int _)⟩)
    · cases e
      obtain ⟨v, rfl, r⟩ := reps1 rs
      exact .inr (.inr ⟨_, by rw [r.bool_inv], k _ H (Same.refl H) (.int _)⟩)
    · cases e
def oLeD : D → D → Option D
  | .int i, .int j => some (.bool (decide (i ≤ j)))
  | .str i, .str j => some (.bool (!decide (j.cps.toList < i.cps.toList)))
  | _, _ => none
theorem dop_leD : DOp X (compareOp .LtE) oLeD := by
  refine ⟨_, op_le.or op_le_str, fun O H x y d v u Q oo rx ry e k => ?_⟩
  unfold oLeD at e
  split at e
  · cases e
    exact .inl ⟨_, _, rx.int_inv, ry.int_inv, k _ H (Same.refl H) (.bl _)⟩
  · cases e
    exact .inr ⟨_, _, rx.str_inv, ry.str_inv, k _ H (Same.refl H) (.bl _)⟩
  · cases e
def dChain (h h' : D → D → Option D) (f g k : DS → M D) : DS → M D := fun δ => (f δ).thn fun x => (g δ).thn fun y => (M.lift (h x y)).thn fun z => match z with
  | .bool true => (k δ).thn fun w => M.lift (h' y w)
  | .bool false => M.ret (.bool false)
  | _ => none
theorem chain_run {h h' : D → D → Option D} {r r' : R2} {ta tb tc : TE}
    (ho : ∀ (O : List Addr) (H : Hp) (x y d : D) (v u : V) (Q : VK), (∀ l ∈ O, Mu H l) → Rep X.K O H v x → Rep X.K O H u y → h x y = some d → (∀ v' H', Same H H' → Rep X.K O H' v' d → Q v' H') → r v u H Q)
    (ho' : ∀ (O : List Addr) (H : Hp) (x y d : D) (v u : V) (Q : VK), (∀ l ∈ O, Mu H l) → Rep X.K O H v x → Rep X.K O H u y → h' x y = some d → (∀ v' H', Same H H' → Rep X.K O H' v' d → Q v' H') → r' v u H Q)
    (ha : ∀ {Hr : Hp} (δ : DS) (O : List Addr) (σ : St) (H : Hp) (Q : VK), Ev X.K Hr O H σ δ → ok (GS G Hr) (f δ) (fun d => ∀ v H', Same H H' → Rep X.K O H' v d → Q v H') → ta σ H Q)
    (hb : ∀ {Hr : Hp} (δ : DS) (O : List Addr) (σ : St) (H : Hp) (Q : VK), Ev X.K Hr O H σ δ → ok (GS G Hr) (g δ) (fun d => ∀ v H', Same H H' → Rep X.K O H' v d → Q v H') → tb σ H Q)
    (hc : ∀ {Hr : Hp} (δ : DS) (O : List Addr) (σ : St) (H : Hp) (Q : VK), Ev X.K Hr O H σ δ → ok (GS G Hr) (k δ) (fun d => ∀ v H', Same H H' → Rep X.K O H' v d → Q v H') → tc σ H Q)
    {Hr : Hp} (δ : DS) (O : List Addr) (σ : St) (H : Hp) (Q : VK) (E : Ev X.K Hr O H σ δ) (q : ok (GS G Hr) (dChain h h' f g k δ) (fun d => ∀ v H', Same H H' → Rep X.K O H' v d → Q v H')) : tChain r r' ta tb tc σ H Q := by
  refine ha δ O σ H _ E (ok_mono (ok_thn q) fun x kx v H1 s1 rx => ?_)
  refine hb δ O σ H1 _ (E.same s1) (ok_mono (ok_thn kx) fun y ky u H2 s2 ry => ?_)
  obtain ⟨d, hd, kd⟩ := ok_lift (ok_thn ky)
  have s12 := s1.trans s2
  refine ho O H2 x y d v u _ (E.same s12).oo (rx.same s2) ry hd fun v' H3 s3 r3 => ?_
  match d, kd, r3 with
  | .bool true, kd, r3 =>
    refine ⟨true, r3.bool_inv, ?_⟩
    rw [if_pos rfl]
    refine hc δ O σ H3 _ (E.same (s12.trans s3)) (ok_mono (ok_thn kd) fun w kw v2 H4 s4 rw' => ?_)
    obtain ⟨d2, hd2, kd2⟩ := ok_lift kw
    exact ho' O H4 y w d2 u v2 Q (E.same ((s12.trans s3).trans s4)).oo ((ry.same s3).same s4) rw' hd2 fun v3 H5 s5 r5 => kd2 v3 H5 (((s12.trans s3).trans s4).trans s5) r5
  | .bool false, kd, r3 =>
    refine ⟨false, r3.bool_inv, ?_⟩
    rw [if_neg Bool.false_ne_true]
    exact kd _ H3 (s12.trans s3) (.bl false)
theorem pd_chain {op op' : CmpOp} {h h' : D → D → Option D} (ho : DOp X (compareOp op) h) (ho' : DOp X (compareOp op') h') (ha : PD X G a f) (hb : PD X G b g) (hc : PD X G c k) (hm : lastMarks [op, op'] [b, c] = false := by with_unfolding_all rfl) :
    PD X G (.Compare a [op, op'] [b, c] pos) (dChain h h' f g k) := by
  obtain ⟨r, hr, ho⟩ := ho
  obtain ⟨r', hr', ho'⟩ := ho'
  obtain ⟨ta, pa, ha⟩ := ha
  obtain ⟨tb, pb, hb⟩ := hb
  obtain ⟨tc, pc, hc⟩ := hc
  exact ⟨_, pe_chain hr hr' pa pb pc hm, chain_run ho ho' ha hb hc⟩
theorem pdt_chain {op op' : CmpOp} {h h' : D → D → Option D} (ho : DOp X (compareOp op) h) (ho' : DOp X (compareOp op') h') (ha : PD X G a f) (hb : PD X G b g) (hc : PD X G c k) (hm : lastMarks [op, op'] [b, c] = false := by with_unfolding_all rfl) :
    PDT X G (.Compare a [op, op'] [b, c] pos) (dB (dChain h h' f g k)) := by
  obtain ⟨r, hr, ho⟩ := ho
  obtain ⟨r', hr', ho'⟩ := ho'
  obtain ⟨ta, pa, ha⟩ := ha
  obtain ⟨tb, pb, hb⟩ := hb
  obtain ⟨tc, pc, hc⟩ := hc
  refine ⟨_, pt_chain hr hr' pa pb pc hm, fun δ O σ H Q E q => ?_⟩
  refine chain_run ho ho' ha hb hc δ O σ H _ E (ok_mono (ok_dB q) fun d z v H' s r => ?_)
  obtain ⟨b, rfl, z⟩ := z
  exact ⟨b, r.bool_inv, z H' s⟩
variable {lo hi : Option Expr} {fl fh : DS → M (Option Int)} {p2 : Pos}
def oCutS (lo hi : Option Int) : D → Option D
  | .str z => if small z.length then some (.str (Txt.slice z lo hi)) else none
  | d => oCut lo hi d
def dCutS (f : DS → M D) (fl fh : DS → M (Option Int)) : DS → M D := fun δ => (f δ).thn fun x => (fl δ).thn fun l => (fh δ).thn fun u => M.lift (oCutS l u x)
theorem pd_cutS (he : PD X G e f) (hl : PDO X G lo fl) (hh : PDO X G hi fh) : PD X G (.Subscript e (.Slice lo hi none p2) pos) (dCutS f fl fh) := by
  obtain ⟨t, p, he⟩ := he
  obtain ⟨tl, pl, hl⟩ := hl
  obtain ⟨th, ph, hh⟩ := hh
  refine ⟨_, pe_slice (sl_str.or (sl_list.or sl_tup)) p pl ph, fun δ O σ H Q E k => ?_⟩
  refine he δ O σ H _ E (ok_mono (ok_thn k) fun d z v H1 s1 r => ?_)
  refine hl δ O σ H1 _ (E.same s1) (ok_mono (ok_thn z) fun l z H2 s2 => ?_)
  refine hh δ O σ H2 _ (E.same (s1.trans s2)) (ok_mono (ok_thn z) fun u z H3 s3 => ?_)
  obtain ⟨y, hy, z⟩ := ok_lift z
  have r3 := (r.same s2).same s3
  have s03 := (s1.trans s2).trans s3
  have E3 := E.same s03
  cases d with
  | str w =>
    have hy : (if small w.length = true then some (PyData.str (Txt.slice w l u)) else none) = some y := hy
    by_cases hw : small w.length = true
    · rw [if_pos hw] at hy
      cases hy
      exact .inl ⟨w, r3.str_inv, small_le hw, z _ _ s03 (.str _)⟩
    · rw [if_neg hw] at hy; cases hy
  | list ds =>
    cases hy
    obtain ⟨a, xs, rfl, h1, rs⟩ := r3.lst_inv
    exact .inr (.inl ⟨a, xs, rfl, h1, fun p hp => z _ _ (s03.trans (same_new hp)) (rep_newL E3.oo hp (rs.cut l u))⟩)
  | tuple ds =>
    have hy : (if HT.sIx ds.length 0 l = 0 ∧ HT.sIx ds.length ds.length u = ds.length then none else some (PyData.tuple (cutD ds l u))) = some y := hy
    by_cases hw : HT.sIx ds.length 0 l = 0 ∧ HT.sIx ds.length ds.length u = ds.length
    · rw [if_pos hw] at hy; cases hy
    · rw [if_neg hw] at hy
      cases hy
      obtain ⟨a, xs, rfl, h1, rs⟩ := r3.tup_inv
      exact .inr (.inr ⟨a, xs, rfl, h1, by rw [rs.length]; exact hw, fun p hp => z _ _ (s03.trans (same_new hp)) (rep_newT hp (rs.cut l u))⟩)
  | _ => cases hy
theorem pd_globI {x : Str} {i : Int} {t : Tok} (hg : Gl X x) (hm : X.mg x = some (.int i t)) (hd : (x == ("__debug__" : Str)) = false := by decide) : PD X G (.Name x pos) (dC (.int i)) :=
  ⟨_, pe_glob (v := .int i) hg hm ⟨t, rfl⟩ hd, fun _ _ _ H Q _ k => k _ H (Same.refl H) (.int i)⟩
end
end DL
namespace L2
open PySem PySem.Spec PyProof.Rows
section
variable {X : Cx}
end
end L2
namespace DL
open PySem PySem.Spec PyProof.Rows L2
section
variable {X : Cx} {G : XD → Hp → Prop} {fi : DS → M (List D)} {c : DS → M Bool} {f : DS → M D} {t : D → DS → Option DS}
end
end DL
namespace L2
open PySem PySem.Spec PyProof.Rows
section
variable {prog : Program} {w : World} {A : Around} {E : Value → Shared → Prop} {s : Shared}
theorem vals_intsT : ∀ {is : List Int} {vs : List Value}, Vals (is.map V.int) vs → ∃ ts : List (Int × Tok), ts.map (·.1) = is ∧ vs = ts.map fun p => .int p.1 p.2
  | [], _, h => by cases h; exact ⟨[], rfl, rfl⟩
  | i :: is, _, h => by
    cases h with
    | cons r rs =>
      obtain ⟨t, rfl⟩ := r
      obtain ⟨ts, e, rfl⟩ := vals_intsT rs
      exact ⟨(i, t) :: ts, by rw [List.map_cons, e], rfl⟩
end
section
variable {X : Cx}
end
end L2
namespace DL
open PySem PySem.Spec PyProof.Rows L2
section
variable {X : Cx}
end
end DL
namespace L2
open PySem PySem.Spec PyProof.Rows
section
variable {X : Cx}
theorem mulOk_of {x : Str} {n : Int} (h0 : 0 ≤ n) (h1 : n ≤ 1000) (h2 : x.length ≤ 1000) : MulOk x n := by
  refine ⟨?_, fun z _ => ?_, fun z _ => ?_⟩
  · rw [Bool.or_eq_false_iff, decide_eq_false_iff_not, decide_eq_false_iff_not]
    omega
  · have e : (x.length : Int) ≤ (2 ^ 63 - 1) / n := by
      rw [Int.le_ediv_iff_mul_le (by omega)]
      have : (x.length : Int) * n ≤ 1000 * 1000 := Int.mul_le_mul (by omega) h1 h0 (by decide)
      omega
    omega
  · have : x.length * n.toNat ≤ 1000 * 1000 := Nat.mul_le_mul h2 (by omega)
    unfold Builtin.Str.tooLong
    rw [decide_eq_false_iff_not, sizeLine_eq]
    omega
theorem op_mul_str : OpR X (binaryOp .Mult) (fun x y H Q => ∃ z n, x = .str z ∧ y = .int n ∧ 0 ≤ n ∧ n ≤ 1000 ∧ z.length ≤ 1000 ∧ Q (.str (Txt.mul z n)) H) := by
  intro pins s σ H x y v u Q I rx ry h
  obtain ⟨z, n, rfl, rfl, h0, h1, h2, q⟩ := h
  obtain ⟨t, rfl⟩ := rx
  obtain ⟨t', rfl⟩ := ry
  exact SB.mul (mulOk_of h0 h1 h2) fun t' k => ⟨.str _, H, I.tok k, ⟨t', rfl⟩, q⟩
end
end L2
namespace DL
open PySem PySem.Spec PyProof.Rows L2
section
variable {X : Cx}
def oMulS : D → D → Option D
  | .str z, .int n => if 0 ≤ n ∧ n ≤ 1000 ∧ z.length ≤ 1000 then some (.str (Txt.mul z n)) else none
  | _, _ => none
theorem dop_mulS : DOp X (binaryOp .Mult) oMulS := by
  refine ⟨_, op_mul_str, fun O H x y d v u Q oo rx ry e k => ?_⟩
  unfold oMulS at e
  split at e
  · rename_i z n
    by_cases h : 0 ≤ n ∧ n ≤ 1000 ∧ z.length ≤ 1000
    · rw [if_pos h] at e
      cases e
      exact ⟨z, n, rx.str_inv, ry.int_inv, h.1, h.2.1, h.2.2, k _ H (Same.refl H) (.str _)⟩
    · rw [if_neg h] at e; cases e
  · cases e
end
end DL
namespace L2
open PySem PySem.Spec PyProof.Rows
section
variable {X : Cx}
end
end L2
namespace DL
open PySem PySem.Spec PyProof.Rows L2
section
variable {X : Cx}
end
end DL
namespace DL
open PySem PySem.Spec PyProof.Rows L2
section
variable {X : Cx} {G : XD → Hp → Prop} {e : Expr} {es : List Expr} {f : DS → M D} {fa : DS → M (List D)} {gt : DS → M Out} {sts : List Stmt} {pos : Pos}
end
section
variable {X : Cx} {G : XD → Hp → Prop} {e : Expr} {es : List Expr} {f : DS → M D} {fa : DS → M (List D)} {pos : Pos}
end
section
variable {P : Program} {w : World} {K : PySem.W.Frag} {mg : Str → Option Value} {base : Heap}
end
end DL
namespace L2
open PySem PySem.Spec PyProof.Rows
section
variable {X : Cx}
theorem preSum_take (f : Nat → Int) (l : List Int) (h : ∀ j, j < l.length → f j = l.getD j 0) : ∀ n, n ≤ l.length → preSum f n = (l.take n).sum
  | 0, _ => by simp [preSum]
  | n + 1, hn => by
    have e : preSum f (n + 1) = preSum f n + f n := rfl
    rw [e, preSum_take f l h n (by omega), h n (by omega), List.take_succ, List.sum_append]
    have : l[n]? = some l[n] := List.getElem?_eq_getElem (by omega)
    rw [this]
    simp [List.getD, this]
end
end L2
namespace DL
open PySem PySem.Spec PyProof.Rows L2
section
variable {X : Cx}
end
section
variable {X : Cx} {G : XD → Hp → Prop} {e : Expr} {es : List Expr} {f : DS → M D} {fa : DS → M (List D)} {gs gt : DS → M Out} {st : Stmt} {sts : List Stmt} {pos : Pos}
mutual
theorem Rep.flatTo {K : PySem.W.Frag} {O O' : List Addr} {H H' : Hp} (t : ∀ b xs, Rd H b (.tup xs) → Rd H' b (.tup xs)) : ∀ {v : V} {d : D}, flatD d = true → Rep K O H v d → Rep K O' H' v d
  | _, _, _, .non => .non
  | _, _, _, .bl b => .bl b
  | _, _, _, .int i => .int i
  | _, _, _, .str x => .str x
  | _, _, h, .tup q r => .tup (by rcases q with q | q; exact .inl (t _ _ q); exact .inr q) (Reps.flatTo t (by simpa only [flatD] using h) r)
  | _, _, h, .lst _ _ _ => by simp [flatD] at h
  | _, _, h, .lstK _ _ => by simp [flatD] at h
  | _, _, h, .dct _ _ _ _ => by simp [flatD] at h
  | _, _, h, .ins _ _ _ _ _ => by simp [flatD, insD] at h
theorem Reps.flatTo {K : PySem.W.Frag} {O O' : List Addr} {H H' : Hp} (t : ∀ b xs, Rd H b (.tup xs) → Rd H' b (.tup xs)) : ∀ {vs : List V} {ds : List D}, flatDs ds = true → Reps K O H vs ds → Reps K O' H' vs ds
  | _, _, _, .nil => .nil
  | _, _, h, .cons r rs => by
    simp only [flatDs, Bool.and_eq_true] at h
    exact .cons (Rep.flatTo t h.1 r) (Reps.flatTo t h.2 rs)
end
end
end DL
namespace DL
open PySem PySem.Spec PyProof.Rows L2
section
variable {X : Cx} {G : XD → Hp → Prop} {c e : Expr} {fb : DS → M Bool} {f : DS → M D} {gs gt : DS → M Out} {st1 body sts : List Stmt} {st : Stmt} {pos : Pos}
end
end DL
namespace L2
open PySem PySem.Spec PyProof.Rows
section
variable {X : Cx}
end
end L2
namespace DL
open PySem PySem.Spec PyProof.Rows L2
section
variable {X : Cx} {G : XD → Hp → Prop} {a b c e ix : Expr} {es : List Expr} {f g fi : DS → M D} {fa : DS → M (List D)} {fn : DS → M (List D)} {pos tpos : Pos}
end
end DL
namespace L2
open PySem PySem.Spec PyProof.Rows
theorem call_sumG {X : Cx} (hc : X.calm = true) : CallR X (.builtin "sum") (fun xs H Q => ∃ (p : Addr) (is : List Int), xs = [.ref p] ∧ SqL X.K H p (is.map V.int) ∧ Q (.int is.sum) H) := by
  intro pins s σ H xs us Q I r h
  obtain ⟨l, is, rfl, hq, q⟩ := h
  obtain ⟨u, rfl, rx⟩ := vals1 r
  cases rx
  obtain ⟨its, rv, pl, hz⟩ := I.list hq
  obtain ⟨ts, e, rfl⟩ := vals_intsT rv
  have hl : s.heap.IsList l (intItems ts.toArray) := by
    have := pl.isList
    have e2 : intItems ts.toArray = (ts.map fun p => Value.int p.1 p.2).toArray := by unfold intItems; simp
    rw [e2]
    exact this
  have hlen : ts.length = is.length := by rw [← e, List.length_map]
  have hat : ∀ j, j < is.length → numAt ts.toArray j = is.getD j 0 := fun j hj => by
    unfold numAt
    rw [← e]
    have : j < ts.length := by omega
    simp [this]
  have hll : l < s.heap.objs.size := by
    obtain ⟨o, ho, _⟩ := hl
    exact Heap.lt_size ho
  refine call_sum_walkG (wpAny_pyIter_list hl ?_)
  refine ⟨_, [_, l], [_], _, _, _, numAt ts.toArray, rfl, Walks.list (A := X.A.in1) (I.ok.hd hc) _ l (Nat.ne_of_lt hll) (intItems ts.toArray), ⟨⟨_, Heap.get?_push_size _ rfl, rfl, rfl⟩, hl.push _⟩, fun d hd => ?_, fun i v hv => intItems_at hv, fun h' tk t' hk => ?_⟩
  · show d < (s.heap.push _).objs.size
    rw [Heap.size_push]
    rcases List.mem_cons.mp hd with rfl | hd
    · exact Nat.lt_succ_self _
    · rcases List.mem_cons.mp hd with rfl | hd
      · exact Nat.lt_succ_of_lt hll
      · cases hd
  · have hold : ∀ d o, s.heap.get? d = some o → h'.get? d = some o := fun d o e => by
      refine hk d o (fun hm => ?_) (Heap.get?_push_of_some _ e)
      rcases List.mem_cons.mp hm with e1 | hm
      · have := Heap.lt_size e; rw [e1] at this; exact Nat.lt_irrefl _ this
      · cases hm
    have hs : (intItems ts.toArray).size = is.length := by unfold intItems; simp [hlen]
    rw [hs, preSum_take _ is hat _ (Nat.le_refl _), List.take_length]
    exact ⟨.int is.sum, H, I.kept hold, ⟨t', rfl⟩, q⟩
end L2
namespace DL
open PySem PySem.Spec PyProof.Rows L2
section
variable {X : Cx}
def oSumG : List D → Option D
  | [.list ds] => (intsOf ds).map fun is => .int is.sum
  | _ => none
theorem dcall_sumG (hc : X.calm = true) : DCall X (.builtin "sum") oSumG := by
  refine ⟨_, call_sumG hc, fun O H ds d vs Q oo rs e k => ?_⟩
  unfold oSumG at e
  split at e
  · rename_i es
    cases he : intsOf es with
    | none => rw [he] at e; cases e
    | some is =>
      rw [he] at e
      cases e
      obtain ⟨v, rfl, r⟩ := reps1 rs
      obtain ⟨p, xs, rfl, h1, rx⟩ := r.lst_inv
      rw [intsOf_get he] at rx
      rw [reps_ints rx] at h1
      exact ⟨p, is, rfl, h1, k _ H (Same.refl H) (.int _)⟩
  · cases e
def oTupOf : List D → Option D
  | [.list ds] => some (.tuple ds)
  | _ => none
theorem dcall_tuple : DCall X (.type "tuple") oTupOf := by
  refine ⟨_, call_tuple_of, fun O H ds d vs Q oo rs e k => ?_⟩
  unfold oTupOf at e
  split at e
  · cases e
    obtain ⟨v, rfl, r⟩ := reps1 rs
    obtain ⟨p, xs, rfl, h1, rx⟩ := r.lst_inv
    exact ⟨p, xs, rfl, .inl ⟨h1, fun l hl => k _ _ (same_new hl) (rep_newT hl rx)⟩⟩
  · cases e
end
end DL
namespace DL
open PySem PySem.Spec PyProof.Rows L2
section
variable {X : Cx}
def oOrd : List D → Option D
  | [.str x] => if x.length = 1 then some (.int ((x.cps.getD 0 0 : Nat) : Int)) else none
  | _ => none
theorem dcall_ord : DCall X (.builtin "ord") oOrd := by
  refine ⟨_, call_ord, fun O H ds d vs Q oo rs e k => ?_⟩
  unfold oOrd at e
  split at e
  · rename_i x
    by_cases h : x.length = 1
    · rw [if_pos h] at e
      cases e
      obtain ⟨v, rfl, r⟩ := reps1 rs
      exact ⟨x, by rw [r.str_inv], h, k _ H (Same.refl H) (.int _)⟩
    · rw [if_neg h] at e; cases e
  · cases e
end
end DL
namespace L2
open PySem PySem.Spec PyProof.Rows
section
variable {pr : Program} {wo : World} {Ar : Around} {Er : Value → Shared → Prop} {st : Shared}
end
section
variable {X : Cx} {x y : Str} {p p' pos pos' : Pos} {e : Expr} {t : TA} {id T U : String} {r : List V → Hp → VK → Prop}
end
end L2
namespace DL
open PySem PySem.Spec PyProof.Rows L2
section
variable {X : Cx} {G : XD → Hp → Prop} {e : Expr} {fa : DS → M (List D)} {pos pos' p p' : Pos} {x y : Str} {id T U : String}
end
end DL
namespace L2
open PySem PySem.Spec PyProof.Rows

section
variable {κ : Type} [DecidableEq κ]
end


section
variable {P : Program} {w : World} {H : Hp} {h : Heap} {a : Addr}
end

section
variable {X : Cx} {pins : List (Addr × Obj)} {σ : St} {H : Hp} {s : Shared} {a : Addr} {y v : V} {u r : Value} {o : Option V} {A : Around} {E : Value → Shared → Prop}

end

section
variable {X : Cx} {pins : List (Addr × Obj)} {σ : St} {H : Hp} {s : Shared} {a : Addr} {kvs : List (Key × V)} {k : Key} {u : Value} {A : Around} {E : Value → Shared → Prop}
end


section
variable {X : Cx} {o i e value : Expr} {pos pos' tpos : Pos} {td ty tv : TE}
end


section
variable {X : Cx} {pos : Pos}
end

section
variable {X : Cx} {pins : List (Addr × Obj)} {σ : St} {H : Hp} {s : Shared} {a : Addr} {y d : V} {u r : Value} {o : Option V} {A : Around} {E : Value → Shared → Prop}
end

section
variable {X : Cx} {o e f : Expr} {apos cpos : Pos} {td ty tx : TE}
end

section
variable {X : Cx} {pins : List (Addr × Obj)} {σ : St} {H : Hp} {s : Shared} {a : Addr} {kvs : List (Key × V)} {A : Around} {E : Value → Shared → Prop}
end


section
variable {X : Cx} {pins : List (Addr × Obj)} {σ : St} {H : Hp} {s : Shared} {a : Addr} {y : V} {u : Value} {A : Around} {E : Value → Shared → Prop}
end
end L2
namespace DL
open PySem PySem.Spec PyProof.Rows L2
section
variable {K : PySem.W.Frag} {O : List Addr} {H : Hp}
end
section
variable {X : Cx} {G : XD → Hp → Prop} {a b o i e : Expr} {f g : DS → M D} {pos pos' lp : Pos}
end
section
variable {K : PySem.W.Frag} {Hr : Hp} {R0 : List Addr} {P0 : Addr → Prop} {H0 H H' : Hp} {O : List Addr} {σ : St} {δ : DS}
end
section
variable {X : Cx} {G : XD → Hp → Prop} {a b o ix e : Expr} {f g : DS → M D} {pos pos' lp tpos : Pos}
end
end DL
namespace DL
open PySem PySem.Spec PyProof.Rows L2
section
variable {X : Cx} {G : XD → Hp → Prop} {a b c o i e : Expr} {f g : DS → M D} {fb : DS → M Bool} {fn : DS → M (List D)} {gs gt : DS → M Out} {st1 sts : List Stmt} {pos pos' lp : Pos}
end
section
variable {X : Cx} {G : XD → Hp → Prop} {k v : Expr} {ks : List (Option Expr)} {vs : List Expr} {f g : DS → M D} {fp : DS → M (List (Key × D))} {pos pos' lp : Pos}
end
section
variable {P : Program} {w : World} {K : PySem.W.Frag} {mg : Str → Option Value} {base : Heap}
end
end DL
namespace DL
open PySem PySem.Spec PyProof.Rows L2
section
variable {X : Cx} {G : XD → Hp → Prop} {e : Expr} {es : List Expr} {fa : DS → M (List D)} {pos : Pos}
end
section
variable {P : Program} {w : World} {K : PySem.W.Frag} {mg : Str → Option Value} {base : Heap}
end
end DL
namespace L2
open PySem PySem.Spec PyProof.Rows
section
variable {X : Cx}
end
section
variable {X : Cx} {tg : Expr}
end
end L2
namespace DL
open PySem PySem.Spec PyProof.Rows L2
section
variable {X : Cx} {G : XD → Hp → Prop} {tg a b c : Expr} {fa : DS → M (List D)} {p pos : Pos} {K : PySem.W.Frag} {O : List Addr} {H1 : Hp}
end
end DL
namespace L2
open PySem PySem.Spec PyProof.Rows
section
variable {X : Cx}
end
end L2
namespace DL
open PySem PySem.Spec PyProof.Rows L2
section
variable {X : Cx} {G : XD → Hp → Prop} {a e : Expr} {f : DS → M D} {fa : DS → M (List D)} {p pos kp kpos tpos : Pos} {elts : List Expr} {x1 : Nat} {K : PySem.W.Frag} {O : List Addr} {H1 : Hp}
end
end DL
namespace L2
open PySem PySem.Spec PyProof.Rows
theorem law_callT {P : Program} {w : World} {K : PySem.W.Frag} {mg mb : Str → Option Value} {k : Nat} {fa a Pt : Addr} {fd : FuncData} {x : Str} {sp : Sp} {s₁ : Shared} {vs : List Value} {ns : List Int}
    (KX : K.In s₁.heap) (hns : s₁.heap.Ns mainGlobals mg) (hb : s₁.heap.Ns builtinsNs mb) (hbb : ∀ x : Str, x ≠ "__name__" → mb x = bootBuiltins x) (hlim : s₁.heap.NoLimit) (hg : s₁.gens = #[])
    (ha : s₁.heap.get? a = some { cls := .type "list", data := .seq vs.toArray }) (hi : IntsAre vs ns) (hl : ns.length ≤ sizeLine) (hr : Room k callerA)
    (hPt : s₁.heap.get? Pt = some (PySem.W.tabObj #[])) (hPK : K.lookup Pt = none) (hct : isCodeTable s₁.heap Pt) (hba : s₁.heap.BuiltinsAt mg Pt)
    (F : ∀ base : Heap, K.In base → base.Ns mainGlobals mg → base.BuiltinsAt mg Pt → FnOk P w K mg base CX0 k fa fd [x] sp) (hbind : ∀ (s : Shared) (u : Value), BindsTo s fd ⟨[u], []⟩ [(x, u)])
    (hsp : ∀ H : Hp, SqL K H a (ns.map V.int) → H Pt = some (.tbl #[]) → sp [.ref a] H (fun v _ => v = .bl true) fun _ _ _ => False) :
    codeAny (model P w) callerA (.call (.ref fa) ⟨[.ref a], []⟩) (fun r s' => r = .ok (.ret (.bool true)) ∧ OldK s₁.heap s'.heap ∧ s'.os = s₁.os ∧ AllBare s'.gens) s₁ := by
  have rv := vals_ints hi
  have lenV := hi.length
  have naP : a ≠ Pt := fun z => by rw [z, hPt] at ha; cases ha
  have core : ∀ H : Hp, H Pt = some (.tbl #[]) → (∀ b, b ≠ Pt → H b = none ∨ ∃ o xs, H b = some (.frz o (.lst xs))) → SqL K H a (ns.map V.int) → HOk P w H s₁.heap → (∀ b, b ≠ Pt → H b ≠ none → b = a) → (H a ≠ none → K.lookup a = none) →
      codeAny (model P w) callerA (.call (.ref fa) ⟨[.ref a], []⟩) (fun r s' => r = .ok (.ret (.bool true)) ∧ OldK s₁.heap s'.heap ∧ s'.os = s₁.os ∧ AllBare s'.gens) s₁ := by
    intro H hT hO hS hok hA hK
    have base_of : ∀ {b : Addr} {o : Obj}, s₁.heap.get? b = some o → H b = none → (hidT s₁.heap H).get? b = some o := fun e n => hidT_get e n
    have none_of : ∀ {b : Addr} {o : Obj}, s₁.heap.get? b = some o → (∀ n, o.data ≠ .seq vs.toArray n) → (o.data ≠ .fields #[]) → H b = none := fun {b o} e d d2 => by
      cases q : H b with
      | none => rfl
      | some u =>
        by_cases z : b = Pt
        · rw [z, hPt] at e; cases e; exact (d2 rfl).elim
        · have e' : b = a := hA b z (by rw [q]; simp)
          subst e'
          rw [ha] at e; cases e
          exact (d _ rfl).elim
    have nsK : ∀ {b : Addr} {m : Str → Option Value}, s₁.heap.Ns b m → (hidT s₁.heap H).Ns b m := fun {b m} ⟨o, es, ep, e, d, r⟩ => ⟨o, es, ep, base_of e (none_of e (fun n z => by rw [d] at z; cases z) (fun z => by rw [d] at z; cases z)), d, r⟩
    have hKb : K.In (hidT s₁.heap H) := fun b o e => base_of (KX b o e) (by
      cases q : H b with
      | none => rfl
      | some u =>
        by_cases z : b = Pt
        · rw [z, hPK] at e; cases e
        · have e' : b = a := hA b z (by rw [q]; simp)
          subst e'
          rw [hK (by rw [q]; simp)] at e; cases e)
    have hM : Mod K mg (hidT s₁.heap H) := ⟨hKb, nsK hns, ⟨mb, nsK hb, hbb⟩, let ⟨mc, h1, h2⟩ := hlim; ⟨mc, nsK h1, h2⟩⟩
    have hB : (hidT s₁.heap H).BuiltinsAt mg Pt := by
      obtain ⟨bm, o, h1, h2, h3, h4, h5, h6, h7, h8⟩ := hba
      exact ⟨bm, o, h1, h2, h3, h4, base_of h5 (none_of h5 (fun n z => by rw [h8] at z; cases z) (fun z => by rw [h8] at z; cases z)), h6, h7, h8⟩
    have e0 : Env0 P w K mg (hidT s₁.heap H) callerA [] s₁ H := ⟨rfl, hM, fun b o e => of_hidT e, Nat.le_of_eq (hidT_size _ _), trivial, fun b hb => absurd (show b ∈ ([] : List Addr) from hb) (by simp), hok, .of_eq hg⟩
    refine codeAny_mono ((F _ hKb (nsK hns) hB).run callerA [] s₁ H ⟨[.ref a], []⟩ [.ref a] [.ref a] _ _ hr e0 (hbind s₁ (.ref a)) (.cons rfl .nil) (hsp H hS hT)) fun r s' h => ?_
    cases r with
    | error e => exact False.elim h
    | ok fl =>
      cases fl with
      | next => exact False.elim h
      | brk => exact False.elim h
      | cont => exact False.elim h
      | ret u =>
        obtain ⟨v, H', os, bare, un, hok', r', q⟩ := h
        have q' : v = .bl true := q
        subst q'
        obtain rfl : u = Value.bool true := r'
        have all : ∀ b o, s₁.heap.get? b = some o → b ≠ Pt → s'.heap.get? b = some o := fun b o e hb => by
          cases q : H b with
          | none => exact un.keep b o e q (by intro z; exact absurd (show b ∈ ([] : List Addr) from z) (by simp)) (by simp)
          | some u =>
            rcases hO b hb with z | ⟨ob, xs, z⟩
            · rw [q] at z; cases z
            · have z2 := un.frzs b ob _ z
              obtain ⟨e1, _⟩ := hok b _ z
              obtain ⟨e2, _⟩ := hok' b _ z2
              rw [e] at e1; cases e1
              exact e2
        obtain ⟨more, hm⟩ := un.tbls Pt #[] hT
        have hm' : s'.heap.get? Pt = some { cls := .none, data := .fields (#[] ++ more) } := hok' Pt _ hm
        refine ⟨rfl, ⟨fun b o e => ?_, fun b o e => ?_⟩, os, bare⟩
        · by_cases z : b = Pt
          · subst z
            rw [hPt] at e
            cases e
            exact .inr (.inl ⟨hct, rfl, #[], more, rfl, hm'⟩)
          · exact .inl (all b o e z)
        · by_cases z : b = Pt
          · exact ⟨_, z ▸ hm'⟩
          · exact ⟨o, all b o e z⟩
  cases hk : K.lookup a with
  | some o =>
    have e := KX a o hk
    rw [ha] at e
    cases e
    refine core (fun b => if b = Pt then some (.tbl #[]) else none) (if_pos rfl) (fun b hb => .inl (if_neg hb)) (.inr ⟨_, vs.toArray, _, hk, rfl, rfl, rfl, by rw [List.size_toArray, lenV]; exact hl, by simpa using rv⟩) (fun b u z => ?_) (fun b hb z => absurd (if_neg hb) z) fun z => absurd (if_neg naP) z
    by_cases hb : b = Pt
    · have z' := (if_pos hb).symm.trans z
      cases z'
      subst hb
      exact hPt
    · have z' := (if_neg hb).symm.trans z
      cases z'
  | none =>
    refine core (fun b => if b = a then some (.frz { cls := .type "list", data := .seq vs.toArray } (.lst (ns.map V.int))) else if b = Pt then some (.tbl #[]) else none) ((if_neg naP.symm).trans (if_pos rfl)) (fun b hb => ?_) (.inl (.inr ⟨{ cls := .type "list", data := .seq vs.toArray }, if_pos rfl⟩)) (fun b u z => ?_) (fun b hb z => ?_) fun _ => hk
    · by_cases hb' : b = a
      · exact .inr ⟨_, _, if_pos hb'⟩
      · exact .inl ((if_neg hb').trans (if_neg hb))
    · by_cases hb : b = a
      · have z' := (if_pos hb).symm.trans z
        cases z'
        subst hb
        exact ⟨ha, by rw [List.length_map]; exact hl, vs, _, rv, ha⟩
      · by_cases hp : b = Pt
        · have z' := ((if_neg hb).trans (if_pos hp)).symm.trans z
          cases z'
          subst hp
          exact hPt
        · have z' := ((if_neg hb).trans (if_neg hp)).symm.trans z
          cases z'
    · by_cases hb' : b = a
      · exact hb'
      · exact absurd ((if_neg hb').trans (if_neg hb)) z
theorem walk_ofT {l : PySem.W.OpenLaw} {n k : Nat} {q : Program} {loose : List Str} {XP : (Str → Option Value) → Heap → Prop} {YP : World → Heap → Prop} {d : DefRec} {K : Params → PySem.W.Frag} {sp : World → Sp} {x : Str} {Pt : Addr}
    (hn : l.most = some n) (hn2 : n ≤ sizeLine) (hdf : d.params.defaults = []) (hr : Room k callerA)
    (hY : ∀ (w : World) (h : Heap), YP w h → (K w.params).In h ∧ h.get? Pt = some (PySem.W.tabObj #[])) (hPK : ∀ w : World, (K w.params).lookup Pt = none)
    (F : ∀ (w : World) (mg : Str → Option Value) (fa : Addr) (h : Heap), (K w.params).In h → h.Ns mainGlobals mg → mg d.name = some (.ref fa) →
      ∃ fd : FuncData, (∀ (s : Shared) (u : Value), BindsTo s fd ⟨[u], []⟩ [(x, u)]) ∧ (∃ c, PySem.W.CodeHd h c Pt) ∧
        ∀ base : Heap, (K w.params).In base → base.Ns mainGlobals mg → base.BuiltinsAt mg Pt → FnOk l.prog w (K w.params) mg base CX0 k fa fd [x] (sp w))
    (hsp : ∀ (w : World) (H : Hp) (a : Addr) (ns : List Int), ns.length ≤ n → SqL (K w.params) H a (ns.map V.int) → H Pt = some (.tbl #[]) → sp w [.ref a] H (fun v _ => v = .bl true) fun _ _ _ => False) :
    PySem.W.WalkO q loose XP YP l.row.toRowW d [] (fun f vs => PySem.call f vs) := by
  refine Att.attach_call hn hdf fun w s₀ s₁ mg mb fa o pm cd doc a vs ns G Y ho hd hcd hmg hobj hints hlen hg => ?_
  obtain ⟨KX, hT⟩ := hY w _ Y
  obtain ⟨fd, hb, ⟨c, o, vs', file, tf, flags, tg, inF, text, tt, h1, h2, h3, h4, h5⟩, hF⟩ := F w mg fa _ KX G.T.g hmg
  obtain ⟨bm, ob, b1, b2, b3, b4, b5, b6⟩ := G.T.bmain
  have hbG : bm ≠ mainGlobals := fun q => by
    obtain ⟨o, es, ep, e, hd, _⟩ := G.T.g
    rw [q, e] at b3; cases b3; rw [hd] at b6; cases b6
  have hbP : bm ≠ Pt := fun q => by
    rw [q, hT] at b3; cases b3; cases b4
  exact law_callT KX G.T.g G.T.b G.T.builtins G.T.nolimit hg hobj hints (Nat.le_trans hlen hn2) hr hT (hPK w) ⟨c, o, vs', h1, h2, h3, h4⟩ ⟨bm, ob, b1, b2, hbG, hbP, b3, b4, b5, b6⟩ hF hb (fun H hS hT => hsp w H a ns hlen hS hT)
end L2
namespace L2
open PySem PySem.Spec PyProof.Rows
theorem ObjOk.some {P : Program} {w : World} {H : Hp} {h : Heap} {a : Addr} {o : HO} (x : ObjOk P w H h a o) : ∃ ob, h.get? a = some ob := by
  cases o with
  | lst xs => obtain ⟨_, _, _, _, e⟩ := x; exact ⟨_, e⟩
  | tup xs => obtain ⟨_, _, _, ob, e, _⟩ := x; exact ⟨_, e⟩
  | dK kvs => obtain ⟨_, _, _, _, o, _, _, e, _⟩ := x; exact ⟨_, e⟩
  | dT kvs => obtain ⟨_, _, _, _, o, _, _, e, _⟩ := x; exact ⟨_, e⟩
  | set S n => obtain ⟨o, _, _, _, e, _⟩ := x; exact ⟨_, e⟩
  | ins C dx fs => obtain ⟨_, _, _, e, _⟩ := x; exact ⟨_, e⟩
  | own y => exact x
  | xd fs => obtain ⟨_, ⟨_, _, _, e, _⟩, _⟩ := x; exact ⟨_, e⟩
  | rng lo hi => obtain ⟨_, _, _, e⟩ := x; exact ⟨_, e⟩
  | frz ob u => exact ⟨_, x.1⟩
  | tbl ps => exact ⟨_, x⟩
  | met f y => exact ⟨_, x⟩
  | ext φ => exact x.2.1
theorem paired_perm {α β : Type} {R : α → β → Prop} : ∀ {l l' : List β}, l'.Perm l → ∀ {k : List α}, Paired R k l → ∃ k', k'.Perm k ∧ Paired R k' l' := by
  intro l l' p
  induction p with
  | nil => intro k r; exact ⟨k, .refl _, r⟩
  | cons x _ ih =>
    intro k r
    cases r with
    | cons r1 r2 =>
      obtain ⟨k', h1, h2⟩ := ih r2
      exact ⟨_, .cons _ h1, .cons r1 h2⟩
  | swap x y l =>
    intro k r
    cases r with
    | cons r1 r2 =>
      cases r2 with
      | cons r2 r3 => exact ⟨_, .swap _ _ _, .cons r2 (.cons r1 r3)⟩
  | trans _ _ ih1 ih2 =>
    intro k r
    obtain ⟨k1, a1, b1⟩ := ih2 r
    obtain ⟨k2, a2, b2⟩ := ih1 b1
    exact ⟨k2, a2.trans a1, b2⟩
theorem zip_paired : ∀ {kz : List Int} {xs : List V} {its : List Value}, Vals xs its → Paired (fun (p : Int × V) (q : Int × Value) => p.1 = q.1 ∧ RelV p.2 q.2) (kz.zip xs) (kz.zip its)
  | [], _, _, _ => .nil
  | _ :: _, _, _, .nil => .nil
  | _ :: _, _, _, .cons r t => .cons ⟨rfl, r⟩ (zip_paired t)
theorem paired_vals : ∀ {qs : List (Int × V)} {ps : List (Int × Value)}, Paired (fun (p : Int × V) (q : Int × Value) => p.1 = q.1 ∧ RelV p.2 q.2) qs ps → Vals (qs.map (·.2)) (ps.map (·.2)) ∧ qs.map (·.1) = ps.map (·.1)
  | _, _, .nil => ⟨.nil, rfl⟩
  | _, _, .cons r t => ⟨.cons r.2 (paired_vals t).1, by rw [List.map_cons, List.map_cons, r.1, (paired_vals t).2]⟩
structure Lam (e : Expr) (v : Str) (lp : Pos) : Prop where
  ex : ∃ (as : Arguments) (sc : Scope) (np cp p : Pos) (j : Nat), e = .Lambda as (.Subscript (.Name v np) (.Constant (.int 0) j cp) p) sc lp ∧ sc.kind = .function ∧ sc.isCoroutine = false ∧ sc.isGenerator = false ∧ (∀ x ∈ sc.names, x.2 ≠ .cell) ∧
    sc.names.lookup v = some .local ∧ (∀ env : Env, defaultsOf as env = ([], [])) ∧ (∀ env : Env, closureFor sc env = pure []) ∧ (v == ("__debug__" : Str)) = false ∧
    ∀ (qual : Str) (b : Expr) (pm cdv ct u : Value), bindArgs (PySem.W.kla_fn "<lambda>" qual as b sc [] pm cdv ct) ⟨[u], []⟩ = pure [(v, u)]
section
variable {X : Cx} {pins : List (Addr × Obj)} {σ : St} {H : Hp} {s : Shared}
def SortK (kz : List Int) (xs ys : List V) : Prop := ∃ qs : List (Int × V), qs.Perm (kz.zip xs) ∧ ys = qs.map (·.2) ∧ qs.Pairwise fun p q => p.1 ≤ q.1
def KeyT (K : PySem.W.Frag) (H : Hp) (kz : List Int) (xs : List V) : Prop := kz.length = xs.length ∧ ∀ (j : Nat) (k : Int), kz[j]? = some k → ∃ (a : Addr) (rest : List V), xs[j]? = some (.ref a) ∧ SqT K H a (.int k :: rest)
theorem Inv.tabled {Pt : Addr} {ps more : Array Value} {h' : Heap} {o : Obj} {tk : Nat} (I : Inv X pins σ H s) (hT : H Pt = some (.tbl ps)) (hx : Heap.ExtBut Pt s.heap h') (htb : h'.get? Pt = some (PySem.W.tabObj (ps ++ more))) : Inv X pins σ (upd H Pt (.tbl (ps ++ more))) { s with heap := h'.push o, toks := tk } := by
  have ne : ∀ {b : Addr} {u : HO}, H b = some u → (∀ q, u ≠ .tbl q) → b ≠ Pt := fun {b u} e n z => by rw [z, hT] at e; cases e; exact n _ rfl
  have nn : ∀ {b : Addr}, H b = none → b ≠ Pt := fun {b} e z => by rw [z, hT] at e; cases e
  have kp : ∀ (b : Addr) (u : Obj), b ≠ Pt → s.heap.get? b = some u → (h'.push o).get? b = some u := fun b u n e => Heap.get?_push_of_some _ (hx b u n e)
  refine I.un (t' := tk) ⟨fun b u e n _ _ => kp b u (nn n) e, fun b u e n _ _ => ⟨u.slots, kp b u (nn n) e⟩, fun b u e n _ => by rw [upd_ne (nn n)]; exact n, fun b u e _ => ?_, fun b xs e => by rw [upd_ne (ne e fun q z => by cases z)]; exact e, fun b u v e => by rw [upd_ne (ne e fun q z => by cases z)]; exact e, fun b qs e => ?_⟩ fun b u e => ?_
  · by_cases z : b = Pt
    · exact ⟨_, z ▸ Heap.get?_push_of_some _ htb⟩
    · exact ⟨u, kp b u z e⟩
  · by_cases z : b = Pt
    · subst z
      rw [hT] at e
      cases e
      exact ⟨more, upd_same⟩
    · exact ⟨#[], by rw [upd_ne z, e]; simp⟩
  · by_cases z : b = Pt
    · subst z
      rw [upd_same] at e
      cases e
      exact Heap.get?_push_of_some _ htb
    · rw [upd_ne z] at e
      refine (I.hok b u e).stay (fun c v hc q => kp c v ?_ q) (fun c q => ?_) fun c xs q => ?_
      · rcases hc with rfl | hc
        · exact z
        · exact ne hc fun q z => by cases z
      · rw [upd_ne (ne q fun q z => by cases z)]; exact q
      · rw [upd_ne (ne q fun q z => by cases z)]; exact q
theorem lam_turn {A : Around} {s : Shared} {v : Str} {as : Arguments} {sc : Scope} {np cp p : Pos} {j : Nat} {L : Addr} {base : Heap} {m : Str → Option Value} {need : List (Addr × Obj)} {k : Int} {t : Tok} {f c' a : Addr} {ctv pm : Value} {qual : Str} {its : Array Value} {P : Program} {w : World}
    (h1 : sc.kind = .function) (h2 : sc.isCoroutine = false) (h3 : sc.isGenerator = false) (h4 : ∀ x ∈ sc.names, x.2 ≠ .cell) (h5 : sc.names.lookup v = some .local) (h6 : (v == ("__debug__" : Str)) = false)
    (hb : ∀ (b : Expr) (cdv u : Value), bindArgs (PySem.W.kla_fn "<lambda>" qual as b sc [] pm cdv ctv) ⟨[u], []⟩ = pure [(v, u)])
    (hroom : A.depth < recursionLimit) (F : Fr base L s.heap m) (N : News base L s.heap need) (hl : base.NoLimit)
    (hf : s.heap.get? f = some (PySem.W.kla_obj "<lambda>" qual as (.Subscript (.Name v np) (.Constant (.int 0) j cp) p) sc [] pm c' ctv)) (hcd : s.heap.CodeRec (.ref c') qual) (ht : IsTup s.heap a its) (h0 : its[0]? = some (.int k t)) (hz : its.size ≤ sizeLine) :
    wpAny (model P w) A (call (.ref f) [.ref a]) (KskEnd base L m need k s) (fun _ _ => False) s := by
  refine wpAny_call ?_
  refine PySem.W.kla_callFunE hroom hf rfl h2 h3 rfl hcd ?_
  rw [hb]
  refine wpAny_pure (wpAny_newFunctionEnv h4 (fun x hx => ?_) (fun h₁ hns hsb => ⟨?_, PySem.W.kla_codeExpr ?_⟩) h1)
  · rw [List.mem_singleton.mp hx]; exact h5
  · exact (hl.keeps fun b o q => F.keep b o q).fresh _ hsb
  · have hk₁ : ∀ b o, s.heap.get? b = some o → h₁.get? b = some o := fun b o e => hsb.extBut b o (Nat.ne_of_lt (Heap.lt_size e)) (Heap.get?_push_of_some _ e)
    have ht₁ : IsTup h₁ a its := by
      obtain ⟨o, e, c⟩ := ht
      exact ⟨o, hk₁ _ _ e, c⟩
    refine Subscript_Constant (wpAny_Name (wpAny_loadName_local (v := .ref a) h1 h5 hns (by simp) (wpAny_Constant_int ⟨"tuple", _, slot_tuple_getitem.lookup, ht₁.typeIs, ?_⟩)) h6)
    have hn := line63
    refine getItem_tuple (j := 0) ht₁ (by decide) (by omega) (by have := (Array.getElem?_eq_some_iff.mp h0).1; show (if (decide ((0 : Int) ≤ 0) && decide ((0 : Int) < (its.size : Int))) = true then some (0 : Int).toNat else none) = some 0; rw [if_pos (by rw [Bool.and_eq_true]; exact ⟨rfl, decide_eq_true (by omega)⟩)]; rfl) h0 ?_
    exact KskEnd.intro ⟨F.ns.keeps hk₁, fun b o q => hk₁ b o (F.keep b o q), F.above⟩ (fun q hq => ⟨hk₁ _ _ (N q hq).1, (N q hq).2⟩) fun q hq => hq
def tSortK (K : PySem.W.Frag) (Pt : Addr) (i : Nat) : TE := fun σ H Q => ∃ (l : Addr) (xs : List V) (kz : List Int), σ[i]? = some (some (.ref l)) ∧ SqL K H l xs ∧ H Pt = some (.tbl #[]) ∧ xs.length < 64 ∧ KeyT K H kz xs ∧
  ∀ (more : Array Value) (ys : List V) (D : Addr), SortK kz xs ys → upd H Pt (.tbl more) D = none → Q (.ref D) (upd (upd H Pt (.tbl more)) D (.lst ys))
theorem pe_sortK {x y v : Str} {p py pos lp kpos : Pos} {i : Nat} {lam : Expr} {c Pt : Addr} (hx : x = "sorted") (hg : Gl X x) (hm : X.mg x = none) (hy : PE X (.Name y py) (tVar i)) (L : Lam lam v lp) (hcode : X.env.code = .ref c) (hch : PySem.W.CodeHd X.base c Pt) (hbi : X.base.BuiltinsAt X.mg Pt) (hr : X.A.depth < recursionLimit) (hd : ∀ a : Around, a.in1.depth = a.depth) :
    PE X (.Call (.Name x p) [.Name y py] [⟨some (Str.ofString "key"), lam, kpos⟩] pos) (tSortK X.K Pt i) := by
  subst hx
  obtain ⟨as, sc, np, cp, q, j, rfl, h1, h2, h3, h4, h5, h6, h7, h8, h9⟩ := L.ex
  intro pins s σ H Q I h
  obtain ⟨l, xs, kz, e1, hq, hT, h64, ⟨hk1, hk2⟩, hQ⟩ := h
  refine wpAny_Call_Name_kw (ld_blt I hg hm PyProof.Rows.boot_sorted ?_ (by decide) (by decide))
  refine PyProof.Rows.callWith_kw ?_ rfl rfl rfl rfl
  have ha := pa_cons hy (pa_nil (X := X))
  refine thn (ha pos pins s σ H (fun vs H1 => vs = [.ref l] ∧ H1 = H) I ⟨_, e1, rfl, rfl⟩) fun us s1 ⟨vs, H1, I1, r, ev, eh⟩ => ?_
  subst ev eh
  obtain ⟨u1, rfl, rx⟩ := vals1 r
  cases rx
  have hgl : s1.heap.Ns mainGlobals X.mg := I1.mod.glob.keeps I1.bk
  have hP : s1.heap.get? Pt = some (PySem.W.tabObj #[]) := I1.hok Pt _ hT
  have hgP : mainGlobals ≠ Pt := fun z => by
    obtain ⟨o, es, ep, e, d, _⟩ := hgl
    rw [z, hP] at e; cases e; cases d
  have hbi' : s1.heap.BuiltinsAt X.mg Pt := by
    obtain ⟨bm, o, b1, b2, b3, b4, b5, b6⟩ := hbi
    exact ⟨bm, o, b1, b2, b3, b4, I1.bk _ _ b5, b6⟩
  refine PyProof.Rows.kws_cons (PySem.W.kla_eval (h6 _) (PySem.W.kla_makeFunction (h7 _) I1.ok.glob hgl hcode (hch.keeps I1.bk) hP trivial rfl hgP hbi' fun c' ctv h' tk hx hge hlt hrec htb => PyProof.Rows.kws_nil ?_))
  have I2 := I1.tabled (o := PySem.W.kla_obj "<lambda>" (X.env.qual ++ "<lambda>") as (.Subscript (.Name v np) (.Constant (.int 0) j cp) q) sc [] ((X.mg "__name__").getD .none) c' ctv) (tk := tk) hT hx htb
  have hfo : (h'.push (PySem.W.kla_obj "<lambda>" (X.env.qual ++ "<lambda>") as (.Subscript (.Name v np) (.Constant (.int 0) j cp) q) sc [] ((X.mg "__name__").getD .none) c' ctv)).get? h'.objs.size = some (PySem.W.kla_obj "<lambda>" (X.env.qual ++ "<lambda>") as (.Subscript (.Name v np) (.Constant (.int 0) j cp) q) sc [] ((X.mg "__name__").getD .none) c' ctv) := Heap.get?_push_size _ rfl
  have hco : ∃ oc vs t, h'.get? c' = some oc ∧ oc.data = .fields vs ∧ vs[1]? = some (.str (X.env.qual ++ "<lambda>") t) := by
    obtain ⟨c₂, oc, vs, t, e2, a1, a2, a3⟩ := hrec
    cases e2
    exact ⟨oc, vs, t, a1, a2, a3⟩
  obtain ⟨oc, cvs, ct, hc1, hc2, hc3⟩ := hco
  have hLlt : X.env.locals < s1.heap.objs.size := I1.lt
  have hcL : c' ≠ X.env.locals := Nat.ne_of_gt (Nat.lt_of_lt_of_le hLlt hge)
  have hfL : h'.objs.size ≠ X.env.locals := Nat.ne_of_gt (Nat.lt_of_lt_of_le hLlt (Nat.le_trans hge (Nat.le_of_lt hlt)))
  generalize (#[] : Array Value) ++ #[rawInt lp.line, rawInt lp.col, Value.ref c'] = M at *
  generalize hS2 : ({ s1 with heap := h'.push (PySem.W.kla_obj "<lambda>" (X.env.qual ++ "<lambda>") as (.Subscript (.Name v np) (.Constant (.int 0) j cp) q) sc [] ((X.mg "__name__").getD .none) c' ctv), toks := tk } : Shared) = s2 at *
  have hfo : s2.heap.get? h'.objs.size = some (PySem.W.kla_obj "<lambda>" (X.env.qual ++ "<lambda>") as (.Subscript (.Name v np) (.Constant (.int 0) j cp) q) sc [] ((X.mg "__name__").getD .none) c' ctv) := by rw [← hS2]; exact hfo
  have hc1 : s2.heap.get? c' = some oc := by rw [← hS2]; exact Heap.get?_push_of_some _ hc1
  have hq2 : SqL X.K (upd H1 Pt (.tbl M)) l xs := by
    rcases hq with hq | hq
    · refine .inl ?_
      rcases hq with hq | ⟨o, hq⟩
      · exact .inl (by rw [upd_ne fun z => by rw [z, hT] at hq; cases hq]; exact hq)
      · exact .inr ⟨o, by rw [upd_ne fun z => by rw [z, hT] at hq; cases hq]; exact hq⟩
    · exact .inr hq
  have ht2 : ∀ {a : Addr} {zs : List V}, SqT X.K H1 a zs → SqT X.K (upd H1 Pt (.tbl M)) a zs := fun {a zs} hq => by
    rcases hq with hq | hq
    · refine .inl ?_
      rcases hq with hq | ⟨o, hq⟩
      · exact .inl (by rw [upd_ne fun z => by rw [z, hT] at hq; cases hq]; exact hq)
      · exact .inr ⟨o, by rw [upd_ne fun z => by rw [z, hT] at hq; cases hq]; exact hq⟩
    · exact .inr hq
  obtain ⟨its, rv, pl, hz⟩ := I2.list hq2
  obtain ⟨m, F⟩ := I2.fr
  have kp : ∀ {h3 : Heap} {m3 : Str → Option Value} {more : List (Addr × Obj)}, Fr X.base X.env.locals h3 m3 → News X.base X.env.locals h3 more → (∀ p ∈ allNews X.base s2.heap X.env.locals, p ∈ more) → ∀ b o, b ≠ X.env.locals → s2.heap.get? b = some o → h3.get? b = some o := fun {h3 m3 more} F3 N3 hs b o hb e => by
    cases q0 : X.base.get? b with
    | none => exact (N3 _ (hs _ (mem_allNews hb q0 e))).1
    | some o' =>
      have := I2.bk b o' q0
      rw [e] at this
      cases this
      exact F3.keep b o q0
  refine ksk_sorted (f := .ref h'.objs.size) (b := false) (kz := kz) (vs := its) F (news_all (g := X.base) (h := s2.heap) (L := X.env.locals)) pl.isList (by rw [hk1]; exact rv.length) (by rw [← rv.length]; exact h64) (ksk_s1 _ _) (fun x => ksk_l1 _ _) (fun x => ksk_t1 _ _) (fun i' u k hv hk hp tk3 own FF NN => ?_) fun D hp tk3 out cc F' N' hD hout => ?_
  · obtain ⟨a, rest, hxa, hsq⟩ := hk2 i' k hk
    obtain ⟨u', hu, ru⟩ := rv.get hxa
    rw [hv] at hu
    cases hu
    cases ru
    obtain ⟨tit, tv, tt, tz⟩ := I2.tuple (ht2 hsq)
    cases tv with
    | cons r1 r2 =>
      obtain ⟨t, rfl⟩ := r1
      rename_i tl
      have kp3 := kp FF NN fun p hp => List.mem_append_left _ hp
      refine lam_turn (s := { s2 with heap := hp, toks := tk3 }) h1 h2 h3 h4 h5 h8 (fun b cdv u => h9 _ b _ cdv _ u) (by rw [hd, hd]; exact hr) FF NN I2.mod.nolimit (kp3 _ _ hfL hfo) ⟨c', oc, cvs, ct, rfl, kp3 _ _ hcL hc1, hc2, hc3⟩ (t := t) (its := (Value.int k t :: tl).toArray) ?_ (by simp) ?_
      · obtain ⟨o, e, c3, n, c4⟩ := tt
        refine ⟨o, kp3 _ _ (fun hL => ?_) e, c3, n, c4⟩
        obtain ⟨oo, es, ep, e2, d2, _⟩ := F.ns
        rw [← hL, e] at e2
        cases e2
        rw [c4] at d2
        cases d2
      · rw [List.size_toArray, List.length_cons, ← r2.length]
        exact tz
  · obtain ⟨pq, pp, po, pw⟩ := hout
    obtain ⟨qs, qp, qr⟩ := paired_perm pp (zip_paired (kz := kz) rv)
    obtain ⟨va, fe⟩ := paired_vals qr
    have kp3 := kp F' N' fun p hp => List.mem_cons_of_mem _ hp
    have hD' := N' (D, seqObj "list" out cc) List.mem_cons_self
    have hDn : s2.heap.get? D = none := by
      cases q0 : s2.heap.get? D with
      | none => rfl
      | some o => exact (Nat.lt_irrefl _ (hD _ (mem_allNews hD'.2.1 hD'.2.2 q0))).elim
    have hHD : upd H1 Pt (.tbl M) D = none := by
      cases q0 : upd H1 Pt (.tbl M) D with
      | none => rfl
      | some u =>
        obtain ⟨ob, e⟩ := (I2.hok D u q0).some
        rw [hDn] at e
        cases e
    have neD : ∀ {b : Addr} {u : HO}, upd H1 Pt (.tbl M) b = some u → b ≠ D := fun e z => by rw [z, hHD] at e; cases e
    refine ⟨.ref D, _, ?_, rfl, hQ M (qs.map (·.2)) D ⟨qs, qp, rfl, ?_⟩ hHD⟩
    · refine I2.step (g' := s2.gens) (d' := s2.drawn) (t' := tk3) (ch := []) (fun _ z => nomatch z) (fun b o hL _ _ e _ => kp3 b o hL e) (fun b o hL _ _ e _ => ⟨o.slots, kp3 b o hL e⟩) (fun b o _ e n => by rw [upd_ne fun z => by rw [z, hDn] at e; cases e]; exact n) (fun b o _ e => ?_) (fun b zs e => by rw [upd_ne (neD e)]; exact e) (fun b o u e => by rw [upd_ne (neD e)]; exact e) (fun b ps e => ⟨#[], by rw [upd_ne (neD e), e]; simp⟩) (fun m' hm' => ?_) (fun b u e => ?_) I2.bare
      · by_cases z : b = X.env.locals
        · obtain ⟨oo, es, ep, e2, _⟩ := F'.ns
          exact ⟨oo, z ▸ e2⟩
        · exact ⟨o, kp3 b o z e⟩
      · have em : m' = m := by
          funext y
          obtain ⟨o1, es1, ep1, a1, a2, _, a3⟩ := hm'
          obtain ⟨o2, es2, ep2, c1, c2, _, c3⟩ := F.ns
          rw [a1] at c1
          cases c1
          rw [a2] at c2
          cases c2
          rw [← a3, ← c3]
        rw [em]
        exact F'.ns
      · by_cases z : b = D
        · subst z
          rw [upd_same] at e
          cases e
          refine ⟨?_, out.toList, cc, ?_, ?_⟩
          · rw [List.length_map, qp.length_eq, List.length_zip, hk1]
            omega
          · rw [po]; exact va
          · rw [Array.toArray_toList]; exact hD'.1
        · rw [upd_ne z] at e
          refine (I2.hok b u e).stay (fun c3 v3 hc q3 => kp3 c3 v3 ?_ q3) (fun c3 q3 => by rw [upd_ne (neD q3)]; exact q3) fun c3 zs q3 => by rw [upd_ne (neD q3)]; exact q3
          rcases hc with rfl | hc
          · intro z
            rw [z, I2.free] at e
            cases e
          · intro z
            rw [z, I2.free] at hc
            cases hc
    · have : (qs.map (·.1)).Pairwise (· ≤ ·) := by
        rw [fe, List.pairwise_map]
        exact pw.imp fun h => h
      rw [List.pairwise_map] at this
      exact this
end
end L2
namespace L2
open PySem PySem.Spec PyProof.Rows
theorem Fun.okC {P : Program} {w : World} {K : PySem.W.Frag} {mg : Str → Option Value} {base : Heap} {x qual : Str} {st : Stmt} {f c : Addr} {fd : FuncData} {N ps : List Str} {k : Nat} {sp : Sp} (F : Fun K x qual st f fd) (S : FnScope N ps (defScope st)) (len : ∀ vs H Q E, sp vs H Q E → vs.length = ps.length) (hc : fd.code = .ref c)
    (hbody : ∀ (A : Around) (outer : List Env) (s : Shared) (H : Hp) (vs : List V) (Q : VK) (E : XK), Room k (A.deeper (envOfC qual (defScope st) s.heap.objs.size f (.ref c))) → sp vs H Q E →
      ∃ t, PSs (cxOf CX0 P w K mg base N qual (defScope st) f (.ref c) A outer s H E).nox (defBody st) t ∧ t { nx := fun _ H' => Q .non H', rt := Q } (start N vs) H) : FnOk P w K mg base CX0 (k + 1) f fd ps sp := by
  obtain ⟨oc, od, kV, doc, pm, an, cdv, ct, osl, rfl, lk, hcd⟩ := F.ex
  have e : cdv = .ref c := hc
  subst e
  refine fn_of lk hcd S len fun A outer s H vs Q E hr hsp => ?_
  obtain ⟨t, h, q⟩ := hbody A outer s H vs Q E hr hsp
  exact ⟨t, h.nox, q⟩
end L2
namespace DL
open PySem PySem.Spec PyProof.Rows L2
def RtOnly (K : PySem.W.Frag) (R0 : List Addr) (P0 : Addr → Prop) (H0 : Hp) (Dn : Ends) : Out → Prop
  | .rt d => ∀ v H, (∀ b o, ¬ P0 b → H0 b = some o → H b = some o) → Rep K R0 H v d → Dn.rt v H
  | .nx _ => ∀ σ H, Dn.nx σ H
  | _ => False
abbrev G0 : XD → Hp → Prop := fun _ _ => False
def PDL (X : Cx) (Pt : Addr) (sts : List Stmt) (g : DS → M Out) : Prop :=
  ∃ t, PSs X sts t ∧ ∀ {Hr : Hp} (R0 : List Addr) (P0 : Addr → Prop) (H0 : Hp) (δ : DS) (O : List Addr) (σ : St) (H : Hp) (Dn : Ends), P0 Pt → Hr Pt = some (.tbl #[]) → EI X.K Hr R0 P0 H0 O H σ δ → ok (GS G0 Hr) (g δ) (RtOnly X.K R0 P0 H0 Dn) → t Dn σ H
section
variable {X : Cx} {Pt : Addr} {st : Stmt} {sts : List Stmt} {gs gt g : DS → M Out}
theorem pdl_cons (h1 : PDS X G0 st gs) (h2 : PDL X Pt sts gt) : PDL X Pt (st :: sts) (gSeq gs gt) := by
  obtain ⟨t, p, h1⟩ := h1
  obtain ⟨u, q, h2⟩ := h2
  refine ⟨_, pss_cons p q, fun R0 P0 H0 δ O σ H Dn hp hr E k => ?_⟩
  refine h1 R0 P0 H0 δ O σ H _ E (ok_mono (ok_thn k) fun o z => ?_)
  cases o with
  | nx δ' => exact fun O' σ' H' E' => h2 R0 P0 H0 δ' O' σ' H' Dn hp hr E' z
  | rt d => exact z
  | bk δ' => exact z.elim
  | ct δ' => exact z.elim
theorem pdl_frz (i : Nat) (h : PDL X Pt sts gs) : PDL X Pt sts (gFrz i gs) := by
  obtain ⟨t, p, h⟩ := h
  refine ⟨t, p, fun R0 P0 H0 δ O σ H Dn hp hr E k => ?_⟩
  obtain ⟨O', E'⟩ := E.frz (i := i)
  exact h R0 P0 H0 (frz i δ) O' σ H Dn hp hr E' k
def KeyD (kz : List Int) (ds : List D) : Prop := kz.length = ds.length ∧ ∀ (j : Nat) (k : Int), kz[j]? = some k → ∃ rest, ds[j]? = some (.tuple (.int k :: rest))
def SortD (kz : List Int) (ds ys : List D) : Prop := ∃ qs : List (Int × D), qs.Perm (kz.zip ds) ∧ ys = qs.map (·.2) ∧ qs.Pairwise fun p q => p.1 ≤ q.1
def SortR (i : Nat) (g : DS → M Out) (δ : DS) (ds : List D) (r : M Out) : Prop := ds.length < 64 ∧ ∃ kz, KeyD kz ds ∧ ∀ ys, SortD kz ds ys → g (δ.set i (.vl (.list ys))) = r
open Classical in
noncomputable def gSortK (i : Nat) (g : DS → M Out) : DS → M Out := fun δ => match δ[i]? with
  | some (.vl (.list ds)) => if h : ∃ r, SortR i g δ ds r then h.choose else none
  | _ => none
theorem ok_G0 {Hr : Hp} {G : XD → Prop} {r : M Out} {k : Out → Prop} (h : ok (GS G0 Hr) r k) : ok G r k := by
  match r, h with
  | some (.ok a), h => exact h
  | some (.error x), h => exact (h Hr (Same.refl Hr)).elim
theorem zip_repd {K : PySem.W.Frag} {O : List Addr} {H : Hp} : ∀ {kz : List Int} {xs : List V} {ds : List D}, Reps K O H xs ds → Paired (fun (p : Int × D) (q : Int × V) => p.1 = q.1 ∧ Rep K O H q.2 p.2) (kz.zip ds) (kz.zip xs)
  | [], _, _, _ => .nil
  | _ :: _, _, _, .nil => .nil
  | _ :: _, _, _, .cons r t => .cons ⟨rfl, r⟩ (zip_repd t)
theorem repd_out {K : PySem.W.Frag} {O : List Addr} {H : Hp} : ∀ {qs : List (Int × D)} {ps : List (Int × V)}, Paired (fun (p : Int × D) (q : Int × V) => p.1 = q.1 ∧ Rep K O H q.2 p.2) qs ps → Reps K O H (ps.map (·.2)) (qs.map (·.2)) ∧ qs.map (·.1) = ps.map (·.1)
  | _, _, .nil => ⟨.nil, rfl⟩
  | _, _, .cons r t => ⟨.cons r.2 (repd_out t).1, by rw [List.map_cons, List.map_cons, r.1, (repd_out t).2]⟩
theorem pdl_sort {i : Nat} {x : Str} {e : Expr} {pos pos' : Pos} (hN : X.N.Nodup) (hi : X.N[i]? = some x) (hx : Loc X.env.scope x) (he : PE X e (tSortK X.K Pt i)) (hs : swapsWith e (some (.Name x pos')) pos.line X.env = pure false) (hf : X.fn x = true ∨ X.env.scope.names.lookup x = some .local)
    (h2 : PDSs X G0 sts g) : PDL X Pt (.Assign [.Name x pos'] e pos :: sts) (gSortK i g) := by
  obtain ⟨u, q, h2⟩ := h2
  refine ⟨_, pss_cons (ps_set hN hi hx he hs hf) q, fun {Hr} R0 P0 H0 δ O σ H Dn hp hr E k => ?_⟩
  unfold gSortK at k
  cases hd : δ[i]? with
  | none => rw [hd] at k; exact k.elim
  | some sl =>
    rw [hd] at k
    match sl, hd, k with
    | .vl (.list ds), hd, k =>
      by_cases h : ∃ r, SortR i g δ ds r
      · dsimp only at k
        rw [dif_pos h] at k
        obtain ⟨h64, kz, hk, hg⟩ := h.choose_spec
        generalize h.choose = r at k hg
        have hT := E.ev.root Pt _ hr
        obtain ⟨v, hv, rv⟩ := E.ev.at_ i _ hd
        obtain ⟨l, xs, rfl, hq, rs⟩ := rv.lst_inv
        refine ⟨l, xs, kz, hv, hq, hT, by rw [rs.length]; exact h64, ⟨by rw [rs.length]; exact hk.1, fun j z hz => ?_⟩, fun more ys D hsk hD => ?_⟩
        · obtain ⟨rest, hj⟩ := hk.2 j z hz
          obtain ⟨w, hw, rw'⟩ := rs.get hj
          obtain ⟨a, zs, rfl, h1, r2⟩ := rw'.tup_inv
          cases r2 with
          | cons r3 r4 =>
            rw [r3.int_inv] at h1
            exact ⟨a, _, hw, h1⟩
        · obtain ⟨qs, qp, rfl, pw⟩ := hsk
          obtain ⟨ps, pp, pr⟩ := paired_perm qp (zip_repd (kz := kz) rs)
          obtain ⟨ro, fe⟩ := repd_out pr
          have hsd : SortD kz ds (ps.map (·.2)) := ⟨ps, pp, rfl, by
            have : (ps.map (·.1)).Pairwise (· ≤ ·) := by rw [fe, List.pairwise_map]; exact pw
            rw [List.pairwise_map] at this
            exact this⟩
          have ne : ∀ {b : Addr} {o : HO}, H b = some o → b ≠ Pt → upd (upd H Pt (.tbl more)) D (.lst (qs.map (·.2))) b = some o := fun {b o} e nb => by
            have : upd H Pt (.tbl more) b = some o := by rw [upd_ne nb]; exact e
            rw [upd_ne (fun z => by rw [z, hD] at this; cases this)]
            exact this
          have np : ∀ {b : Addr} {o : HO}, H b = some o → (∀ p, o ≠ .tbl p) → b ≠ Pt := fun {b o} e n z => by rw [z, hT] at e; cases e; exact n _ rfl
          have rd : ∀ {b : Addr} {o : HO}, (∀ p, o ≠ .tbl p) → Rd H b o → Rd (upd (upd H Pt (.tbl more)) D (.lst (qs.map (·.2)))) b o := fun {b o} n hr => by
            rcases hr with hr | ⟨ob, hr⟩
            · exact .inl (ne hr (np hr n))
            · exact .inr ⟨ob, ne hr (np hr fun p z => by cases z)⟩
          have T : To O O H (upd (upd H Pt (.tbl more)) D (.lst (qs.map (·.2)))) := ⟨fun b zs h => rd (fun p z => by cases z) h, fun b zs hb h => ⟨hb, rd (fun p z => by cases z) h⟩, fun b zs hb h => ⟨hb, rd (fun p z => by cases z) h⟩, fun b C dx fs hb h => ⟨hb, ne h (np h fun p z => by cases z)⟩⟩
          have E1 : EI X.K (fun _ => none) R0 P0 H0 O (upd (upd H Pt (.tbl more)) D (.lst (qs.map (·.2)))) σ δ := by
            refine ⟨⟨fun b o h => (nomatch h), fun l hl => ?_, E.ev.len, fun j s h => ?_, E.ev.dis⟩, fun l hl => .inr rfl, fun b o n h => ?_, E.om, E.nr1, E.sub⟩
            · rcases E.ev.oo l hl with ⟨zs, h⟩ | ⟨zs, h⟩ | ⟨C, dx, fs, h⟩
              · exact .inl ⟨zs, ne h (np h fun p z => by cases z)⟩
              · exact .inr (.inl ⟨zs, ne h (np h fun p z => by cases z)⟩)
              · exact .inr (.inr ⟨C, dx, fs, ne h (np h fun p z => by cases z)⟩)
            · exact SlOk.to T (fun l zs hl h => ⟨hl, ne h (np h fun p z => by cases z)⟩) (fun l zs hl h _ _ => ⟨hl, ne h (np h fun p z => by cases z)⟩) (E.ev.at_ j s h)
            · exact ne (E.keep b o n h) fun z => n (z ▸ hp)
          have hDO : D ∉ O := fun z => by
            rcases E.ev.oo D z with ⟨zs, h⟩ | ⟨zs, h⟩ | ⟨C, dx, fs, h⟩ <;> (have : upd H Pt (.tbl more) D = _ := (upd_ne (np h fun p z => by cases z)).trans h; rw [hD] at this; cases this)
          refine h2 R0 P0 H0 (δ.set i (.vl (.list (ps.map (·.2))))) O _ _ Dn (E1.set (.lst (.inl upd_same) hDO (ro.to T))) ?_
          rw [hg _ hsd]
          refine ok_mono (ok_G0 k) fun o z => ?_
          cases o with
          | nx δ' => exact fun O' σ' H' _ => z σ' H'
          | rt d => exact z
          | bk δ' => exact z.elim
          | ct δ' => exact z.elim
      · dsimp only at k
        rw [dif_neg h] at k
        exact k.elim
theorem KeyD.eq {kz kz' : List Int} {ds : List D} (h : KeyD kz ds) (h' : KeyD kz' ds) : kz = kz' := by
  apply List.ext_getElem?
  intro j
  by_cases hj : j < kz.length
  · obtain ⟨r, e⟩ := h.2 j _ (List.getElem?_eq_getElem hj)
    have hj' : j < kz'.length := by rw [h'.1, ← h.1]; exact hj
    obtain ⟨r', e'⟩ := h'.2 j _ (List.getElem?_eq_getElem hj')
    rw [e] at e'
    have e' := Option.some.inj e'
    injection e' with e'
    injection e' with e' _
    injection e' with e'
    rw [List.getElem?_eq_getElem hj, List.getElem?_eq_getElem hj', e']
  · rw [List.getElem?_eq_none (by omega), List.getElem?_eq_none (by rw [h'.1, ← h.1]; omega)]
theorem sort_ex (kz : List Int) (ds : List D) : ∃ ys, SortD kz ds ys := by
  refine ⟨_, (kz.zip ds).mergeSort (fun p q => decide (p.1 ≤ q.1)), List.mergeSort_perm _ _, rfl, ?_⟩
  have := List.pairwise_mergeSort (le := fun p q : Int × D => decide (p.1 ≤ q.1)) (fun a b c h1 h2 => by
    have := of_decide_eq_true h1
    have := of_decide_eq_true h2
    exact decide_eq_true (by omega)) (fun a b => by
    by_cases z : a.1 ≤ b.1
    · rw [decide_eq_true z]; rfl
    · rw [decide_eq_true (show b.1 ≤ a.1 by omega), Bool.or_true]) (kz.zip ds)
  exact this.imp fun h => of_decide_eq_true h
theorem ev_sortK {i : Nat} {δ : DS} {ds : List D} {r : M Out} {kz : List Int} (hd : δ[i]? = some (.vl (.list ds))) (h64 : ds.length < 64) (hk : KeyD kz ds) (hg : ∀ ys, SortD kz ds ys → g (δ.set i (.vl (.list ys))) = r) : gSortK i g δ = r := by
  have h : ∃ r, SortR i g δ ds r := ⟨r, h64, kz, hk, hg⟩
  unfold gSortK
  rw [hd]
  dsimp only
  rw [dif_pos h]
  obtain ⟨_, kz', hk', hg'⟩ := h.choose_spec
  obtain ⟨ys, hy⟩ := sort_ex kz ds
  rw [← hg' ys (hk.eq hk' ▸ hy), hg ys hy]
end
def spL (K : PySem.W.Frag) (Pt : Addr) (F : List D → M D) : Sp := fun vs H Q _ => ∃ ds, vs.length = 1 ∧ Reps K [] H vs ds ∧ H Pt = some (.tbl #[]) ∧ ok (fun _ => False) (F ds) (fun d => ∀ v H', Rep K [] H' v d → Q v H')
theorem fn_ofL {P : Program} {w : World} {K : PySem.W.Frag} {mg : Str → Option Value} {base : Heap} {x qual : Str} {st : Stmt} {f c Pt : Addr} {fd : FuncData} {N ps : List Str} {k : Nat} {g : DS → M Out} (F0 : Fun K x qual st f fd) (S : FnScope N ps (defScope st)) (h1 : ps.length = 1) (hc : fd.code = .ref c)
    (hbody : ∀ (A : Around) (outer : List Env) (s : Shared) (H : Hp) (E : XK), Room k (A.deeper (envOfC qual (defScope st) s.heap.objs.size f (.ref c))) →
      PDL (cxOf CX0 P w K mg base N qual (defScope st) f (.ref c) A outer s H E).nox Pt (defBody st) g) : FnOk P w K mg base CX0 (k + 1) f fd ps (spL K Pt (run N.length g)) := by
  refine F0.okC S (fun vs H Q E h => ?_) hc (fun A outer s H vs Q E hr h => ?_)
  · obtain ⟨ds, hl, _⟩ := h
    rw [h1]; exact hl
  · obtain ⟨ds, hl, r, hT, q⟩ := h
    obtain ⟨t, p, hB⟩ := hbody A outer s H E hr
    refine ⟨t, p, hB [] (fun b => b = Pt) H (startD N.length ds) [] (L2.start N vs) H _ rfl hT ⟨ev_start N (fun l z => nomatch z) r, fun l z => (nomatch z), fun b o _ h => h, fun l z => (nomatch z), fun i es l h1 ho h2 => (start_no h1 ho).elim, fun l z => (nomatch z)⟩ (ok_mono (ok_false (ok_thn q)) fun o z => ?_)⟩
    cases o with
    | rt d => exact fun v H' _ r => z v H' r
    | nx δ => exact fun σ' H' => z .non H' .non
    | bk δ => exact z.elim
    | ct δ => exact z.elim
theorem law_spL {K : PySem.W.Frag} {Pt : Addr} {F : List D → M D} {H : Hp} {a : Addr} {ns : List Int} (hF : F [.list (ns.map PyData.int)] = M.ret (.bool true)) (hS : SqL K H a (ns.map V.int)) (hT : H Pt = some (.tbl #[])) : spL K Pt F [.ref a] H (fun v _ => v = .bl true) fun _ _ _ => False := by
  refine ⟨[.list (ns.map PyData.int)], rfl, .cons ?_ .nil, hT, ?_⟩
  · rcases hS with hS | hS
    · exact .lst hS (fun z => nomatch z) (Reps.ints ns)
    · exact .lstK hS (Reps.ints ns)
  · rw [hF]
    exact fun v H' r => r.bool_inv
end DL
namespace L2
open PySem PySem.Spec PyProof.Rows
def Itv (K : PySem.W.Frag) (a : Addr) (n : Nat) : It :=
  ⟨fun i H => ∃ xs x, SqL K H a xs ∧ xs.length = n ∧ i < n ∧ xs[n - 1 - i]? = some x, fun i H x H' => H' = H ∧ ∀ xs, SqL K H a xs → xs.length = n → xs[n - 1 - i]? = some x, fun i _ => n ≤ i⟩
theorem turn_rev {P : Program} {w : World} {K : PySem.W.Frag} {tg : Expr} (a it : Addr) (n : Nat) : Turn P w K tg (Itv K a n) [it] it (fun i h => i ≤ n ∧ h.IsRevIter it a ((n : Int) - 1 - (i : Int))) where
  mem := by simp
  obj := fun i h st b hb => by
    have e : b = it := by simpa using hb
    subst e
    obtain ⟨_, o, e, c, d⟩ := st
    exact ⟨o, e, fun v z => by rw [d] at z; cases z⟩
  keep := fun i h h' st k => ⟨st.1, let ⟨o, e, q⟩ := st.2; ⟨o, k it (by simp) o e, q⟩⟩
  item := by
    intro X hP hw hK hc i pins s σ H E I hf st hg
    subst hP hw hK
    obtain ⟨xs, x, hq, hn, hi, hx⟩ := hg
    obtain ⟨its, rv, p, hz⟩ := I.list hq
    obtain ⟨u, hu, ru⟩ := rv.get hx
    obtain ⟨f0, f1, f2, f3, f4, f5⟩ := hf it (by simp)
    have st2 := st.2
    rw [show (n : Int) - 1 - (i : Int) = ((n - 1 - i : Nat) : Int) by omega] at st2
    refine wpAny_pyNext_rev_item st2 p.isList (x := u) (by simpa using hu) fun h' st' sb => ?_
    have I1 : Inv X pins σ H { s with heap := h' } := I.turned (t' := s.toks) (fun b o hb e => (sb.2 b hb).trans e) f0 f1 f3 f4 f5
    obtain ⟨o, e, c, d⟩ := id st'
    rw [show ((n - 1 - i : Nat) : Int) - 1 = (n : Int) - 1 - ((i + 1 : Nat) : Int) by omega] at st'
    exact ⟨u, rfl, go_of (s := { s with heap := h' }) e c d (by decide) ⟨x, H, I1, ru, ⟨rfl, fun ys hy _ => by rw [I.list_inj hy hq]; exact hx⟩, ⟨by omega, st'⟩, fun b hb => (hf b hb).1⟩⟩
  done := by
    intro X hP hw hK hc i pins s σ H E I hf st hg
    subst hP hw hK
    have hg : n ≤ i := hg
    obtain ⟨f0, f1, f2, f3, f4, f5⟩ := hf it (by simp)
    have st2 := st.2
    rw [show (n : Int) - 1 - (i : Int) = -1 by have := st.1; omega] at st2
    exact wpAny_pyNext_rev_end (I.ok.hd hc) st2 fun h' eb => ⟨rfl, I.turned (t' := s.toks) (fun b o hb e => eb b o hb e) f0 f1 f3 f4 f5⟩
  self := fun _ _ _ _ _ st h => wpAny_pyIter_revIter st.2 h
def iRev (K : PySem.W.Frag) (t : TA) : TI := fun σ H R => t σ H fun vs H1 => ∃ a xs, vs = [.ref a] ∧ SqL K H1 a xs ∧ R (Itv K a xs.length) H1
theorem pi_rev {X : Cx} {tg : Expr} {x : Str} {p pos : Pos} {e : Expr} {t : TA} (hx : x = "reversed") (hg : Gl X x) (hm : X.mg x = none) (ha : PA X [e] t) (he : starEach [e] X.env = (false, eval e X.env) :: starEach [] X.env) : PI X tg (.Call (.Name x p) [e] [] pos) (iRev X.K t) := by
  subst hx
  intro pins s σ H R I h
  refine wpAny_Call_Name_kw (ld_blt I hg hm PyProof.Rows.boot_reversed ?_ (by decide) (by decide))
  refine PyProof.Rows.callWith_type1 (thn (ha pos pins s σ H _ I h) fun us s1 ⟨vs, H1, I1, r1, q1⟩ => ?_) he rfl
  obtain ⟨a, xs, rfl, hq, q⟩ := q1
  obtain ⟨u, rfl, rx⟩ := vals1 r1
  cases rx
  obtain ⟨its, rv, pl, hz⟩ := I1.list hq
  refine call_reversed_list pl.isList ?_
  have hit : (s1.heap.push (revObj a ((its.toArray.size : Int) - 1))).IsRevIter s1.heap.objs.size a ((its.toArray.size : Int) - 1) := ⟨_, Heap.get?_push_size _ rfl, rfl, rfl⟩
  refine wpAny_pyIter_revIter hit ?_
  have hs : its.toArray.size = xs.length := by rw [List.size_toArray]; exact rv.length.symm
  refine ⟨s1.heap.objs.size, [s1.heap.objs.size], _, _, H1, rfl, I1.kept (t' := s1.toks) fun b o e => Heap.get?_push_of_some _ e, turn_rev a _ xs.length, ⟨Nat.zero_le _, ?_⟩, fun b hb => ?_, q⟩
  · rw [hs] at hit ⊢
    have := hit
    rw [show (xs.length : Int) - 1 - ((0 : Nat) : Int) = (xs.length : Int) - 1 by omega]
    exact this
  · have e : b = s1.heap.objs.size := by simpa using hb
    subst e
    exact I1.fpOk (Nat.le_refl _) (I1.hok.fresh (Nat.le_refl _))
end L2
namespace DL
open PySem PySem.Spec PyProof.Rows L2
theorem yl_rev {K : PySem.W.Frag} {O : List Addr} {H1 : Hp} {a : Addr} {xs : List V} {ds : List D} (hk : ∀ (O2 : List Addr) (H2 : Hp), To O O2 H1 H2 → SqL K H2 a xs) (rs : Reps K O H1 xs ds) : Yl K (Itv K a xs.length) O H1 ds.reverse := by
  refine ⟨fun O2 H2 t i d hd => ?_, fun O2 H2 t => by show xs.length ≤ _; rw [List.length_reverse, rs.length]; exact Nat.le_refl _⟩
  have hi : i < ds.length := by have := (List.getElem?_eq_some_iff.mp hd).1; rw [List.length_reverse] at this; exact this
  rw [List.getElem?_reverse hi] at hd
  obtain ⟨v, hv, r⟩ := rs.get hd
  rw [← rs.length] at hv hi
  refine ⟨⟨xs, v, hk O2 H2 t, rfl, hi, hv⟩, fun x H3 y => ?_⟩
  obtain ⟨rfl, y⟩ := y
  have := y xs (hk O2 H3 t) rfl
  rw [hv] at this
  cases this
  exact ⟨Same.refl _, r.to t⟩
def dRevI (fa : DS → M (List D)) : DS → M (List D) := fun δ => (fa δ).thn fun ds => match ds with
  | [.list ds] => M.ret ds.reverse
  | _ => none
theorem pdi_rev {X : Cx} {G : XD → Hp → Prop} {tg e : Expr} {p pos : Pos} {fa : DS → M (List D)} (hg : Gl X "reversed") (hm : X.mg "reversed" = none) (ha : PDA X G [e] fa) (he : starEach [e] X.env = (false, eval e X.env) :: starEach [] X.env := by rfl) : PDI X G tg (.Call (.Name "reversed" p) [e] [] pos) (dRevI fa) := by
  obtain ⟨_, t, pa, ha⟩ := ha
  refine ⟨_, pi_rev rfl hg hm pa he, fun δ O σ H R E k => ?_⟩
  refine ha δ O σ H _ E (ok_mono (ok_thn k) fun ds z vs H1 s1 rs => ?_)
  match ds, z, rs with
  | [.list es], z, .cons r .nil =>
    obtain ⟨a, xs, rfl, hq, hk, rr⟩ := Rep.lstTo r
    exact ⟨a, xs, rfl, hq, z _ H1 s1 (yl_rev hk rr)⟩
theorem ev_revI {δ : DS} {fa : DS → M (List D)} {ds : List D} (h : fa δ = M.ret [.list ds]) : dRevI fa δ = M.ret ds.reverse := by
  unfold dRevI
  rw [h, thn_ret]
end DL
namespace CT
open PySem PySem.Spec L2 DL
noncomputable def g_is_whole : DS → M Out := (gRet (dAndV (dIs "int" (dVar 0)) (dNotV (dIs "bool" (dVar 0)))))
noncomputable def F_is_whole : List D → M D := run 1 g_is_whole
noncomputable def g_is_name : DS → M Out := (gSeq (gIf (dOr (dNot (dB (dIs "str" (dVar 0)))) (dNot (dB (dChain oLeD oLeD (dC (.int 1)) (dCB oLen (dCons (dVar 0) dNil)) (dC (.int 8)))))) (gRet (dC (.bool false))) gNext)
    (gRet (dCB oAll (dCons (dCompG 1 [] (tgN 0) (dAny (dVar 0)) dYes (dChain oLeD oLeD (dC (.str "a")) (dVar 0) (dC (.str "z")))) dNil))))
noncomputable def F_is_name : List D → M D := run 1 g_is_name
noncomputable def g_is_word_sign : DS → M Out := (gRet (dAndV (dChain oLeD oLeD (dC (.str "!")) (dVar 0) (dC (.str "~"))) (d2 oNe (dCB oOrd (dCons (dVar 0) dNil)) (dC (.int 37)))))
noncomputable def F_is_word_sign : List D → M D := run 1 g_is_word_sign
noncomputable def g_is_word : DS → M Out := (gRet (dAndV (dChain oLeD oLeD (dC (.int 1)) (dCB oLen (dCons (dVar 0) dNil)) (dC (.int 30))) (dCB oAll (dCons (dCompG 1 [] (tgN 0) (dAny (dVar 0)) dYes (dCall (fun ds => noX (F_is_word_sign ds)) (dCons (dVar 0) dNil))) dNil))))
noncomputable def F_is_word : List D → M D := run 1 g_is_word
noncomputable def g_are_words : DS → M Out := (gRet (dAndV (dIs "str" (dVar 0)) (dCB oAll (dCons (dCompG 1 [] (tgN 0) (dAny (dMeth sSplit (dVar 0) (dCons (dC (.str " ")) dNil))) dYes (dCall (fun ds => noX (F_is_word ds)) (dCons (dVar 0) dNil))) dNil))))
noncomputable def F_are_words : List D → M D := run 1 g_are_words
noncomputable def g_is_cue : DS → M Out := (gSeq (gIf (dOr (dNot (dB (dIs "tuple" (dVar 0)))) (dB (d2 oNe (dCB oLen (dCons (dVar 0) dNil)) (dC (.int 4))))) (gRet (dC (.bool false))) gNext)
    (gSeq (gIf (dOr (dNot (dB (dCall (fun ds => noX (F_is_whole ds)) (dCons (d2 oIx (dVar 0) (dC (.int 0))) dNil)))) (dNot (dB (dCall (fun ds => noX (F_is_whole ds)) (dCons (d2 oIx (dVar 0) (dC (.int 1))) dNil))))) (gRet (dC (.bool false))) gNext)
    (gRet (dAndV (dChain oLeD oLt (dC (.int 0)) (d2 oIx (dVar 0) (dC (.int 0))) (d2 oIx (dVar 0) (dC (.int 1)))) (dAndV (dCall (fun ds => noX (F_is_name ds)) (dCons (d2 oIx (dVar 0) (dC (.int 2))) dNil)) (dCall (fun ds => noX (F_are_words ds)) (dCons (d2 oIx (dVar 0) (dC (.int 3))) dNil)))))))
noncomputable def F_is_cue : List D → M D := run 1 g_is_cue
noncomputable def g_are_cues : DS → M Out := (gSeq (gIf (dOr (dNot (dB (dIs "list" (dVar 0)))) (dNot (dB (dCB oAll (dCons (dCompG 1 [] (tgN 0) (dAny (dVar 0)) dYes (dCall (fun ds => noX (F_is_cue ds)) (dCons (dVar 0) dNil))) dNil))))) (gRet (dC (.bool false))) gNext)
    (gRet (dCB oAll (dCons (dCompG 2 [] (tgTup 2 (tgCons (tgN 0) (tgCons (tgN 1) tgNil))) (dZip (dCons (dVar 0) (dCons (dCutS (dVar 0) (dPart (dC (.int 1))) dNoPart) dNil))) dYes (d2 oLeD (d2 oIx (dVar 0) (dC (.int 0))) (d2 oIx (dVar 1) (dC (.int 0))))) dNil))))
noncomputable def F_are_cues : List D → M D := run 1 g_are_cues
end CT
open PySem PySem.Spec L2 DL
local macro_rules | `(tactic| walk_at "call") => `(tactic| fail)
local macro_rules | `(tactic| walk_at "cond") => `(tactic| first | rfl | omega | (simp only [Bool.or_eq_false_iff, Bool.and_eq_false_iff, Bool.or_eq_true, Bool.and_eq_true, Bool.not_eq_false', Bool.not_eq_true', decide_eq_false_iff_not, decide_eq_true_eq, Bool.not_true, Bool.not_false, Bool.false_or, Bool.true_and, Bool.false_and, Bool.true_or, isD, tyD]; omega) | (simp [isD, tyD]; done) | (simp [isD, tyD]; omega))
local macro_rules | `(tactic| walk_at "side") => `(tactic| first | assumption | omega | decide | exact bMul_l (by omega) (by omega) | exact bMul_r (by omega) (by omega) | exact bDiv_of (by omega) (by omega) | rfl)
local macro_rules | `(tactic| walk_at "ev1") => `(tactic| (first
  | with_reducible assumption | with_reducible exact ev_c | exact ev_var rfl | with_reducible exact ev_nil | with_reducible exact ev_next | with_reducible exact ev_nopart
  | with_reducible apply ev_2 | with_reducible apply ev_cons | with_reducible apply ev_1
  | with_reducible exact o_add | with_reducible exact o_sub | with_reducible exact o_lt | with_reducible exact o_ltD | with_reducible exact o_le | with_reducible exact o_gt | with_reducible exact o_ge | with_reducible exact o_eq | with_reducible exact o_ne
  | (with_reducible refine o_mul ?_; walk_at "side") | (with_reducible refine o_div ?_; walk_at "side") | (with_reducible refine o_mod ?_; walk_at "side")
  | ((with_reducible show oIx _ (PyData.int (OfNat.ofNat _)) = some _); exact rfl) | with_reducible exact o_pow6 | with_reducible exact o_pow9 | with_reducible exact o_pow15 | with_reducible exact o_pow18 | with_reducible exact o_pow4 | with_reducible exact o_pow7 | with_reducible exact o_pow8 | with_reducible exact o_pow10 | with_reducible exact o_pow12 | with_reducible exact o_pow19 | with_reducible exact o_pow20 | with_reducible exact o_pow24 | ((with_reducible show tgTup _ _ _ _ = some _); exact rfl) | ((with_reducible show oNeg _ = some _); exact rfl)
  | ((with_reducible show small _ = true); exact rfl) | with_reducible apply ev_cb | with_reducible exact o_max | with_reducible exact o_min | with_reducible exact o_lenL | with_reducible exact o_lenT | with_reducible exact o_intI | with_reducible exact o_intB
  | with_reducible apply ev_call | walk_at "call"
  | (with_reducible refine ev_pass ?_ ?_ ?_) | with_reducible apply ev_seqIf | with_reducible apply ev_seqN | (with_reducible apply ev_seq; with_reducible apply ev_asg) | with_reducible apply ev_ret | (with_reducible apply ev_seqR; with_reducible apply ev_ret)
  | with_reducible apply ev_asg | (with_reducible apply ev_seq; with_reducible apply ev_asgT) | with_reducible apply ev_par | (with_reducible apply ev_seq; with_reducible apply ev_par)
  | with_reducible apply ev_b | with_reducible apply ev_not | with_reducible apply ev_notV | with_reducible apply ev_is
  | with_reducible apply ev_tup | with_reducible apply ev_lst | with_reducible apply ev_cut | with_reducible apply ev_part
  | with_reducible apply ev_pass1 | with_reducible apply ev_ifS
  | with_reducible apply ev_or | with_reducible apply ev_and | with_reducible apply ev_orV | with_reducible apply ev_andV | with_reducible apply ev_if
  | ((with_reducible show (_ : Bool) = false); walk_at "cond")
  | ((with_reducible show (if _ = true then _ else _) = _); first | (refine ite_F rfl ?_) | (refine ite_T rfl ?_) | (refine ite_t (by omega) ?_) | (refine ite_f (by omega) ?_) | (refine ite_F (by walk_at "cond") ?_) | (refine ite_T (by walk_at "cond") ?_))))
local macro_rules | `(tactic| walk_at "ev") => `(tactic| repeat (walk_at "ev1"))
namespace CT
end CT
open PySem PySem.Spec L2 DL NumText
namespace TX
def S (l : List Nat) : Str := ⟨l.toArray⟩
theorem L_S (l : List Nat) : (S l).cps.toList = l := by unfold S; simp
theorem S_L (x : Str) : S x.cps.toList = x := by unfold S; simp
theorem S_app (a b : List Nat) : S a ++ S b = S (a ++ b) := by
  have : (S a ++ S b).cps = (S (a ++ b)).cps := by
    show a.toArray ++ b.toArray = (a ++ b).toArray
    simp
  cases h1 : S a ++ S b
  cases h2 : S (a ++ b)
  rw [h1, h2] at this
  cases this
  rfl
theorem S_len (l : List Nat) : (S l).length = l.length := by unfold S; show l.toArray.size = _; simp
theorem S_inj {a b : List Nat} (h : S a = S b) : a = b := by rw [← L_S a, h, L_S]
decreasing_by omega
end TX
namespace DL
open PySem PySem.Spec L2
section
variable {δ : DS} {f g k : DS → M D} {fa : DS → M (List D)} {x d : D}
theorem ev_meth {h : Str → List D → Option D} {z : Str} {xs : List D} (h1 : f δ = M.ret (.str z)) (h2 : fa δ = M.ret xs) (h3 : h z xs = some d) : dMeth h f fa δ = M.ret d := by
  unfold dMeth
  rw [h1]
  show (fa δ).thn _ = _
  rw [h2]
  show M.lift (h z xs) = _
  rw [h3]
  rfl
theorem ev_chain {h h' : D → D → Option D} {y w : D} {b1 b2 : Bool} (h1 : f δ = M.ret x) (h2 : g δ = M.ret y) (h3 : h x y = some (.bool b1)) (h4 : k δ = M.ret w) (h5 : h' y w = some (.bool b2)) : dChain h h' f g k δ = M.ret (.bool (b1 && b2)) := by
  unfold dChain
  rw [h1, thn_ret, h2, thn_ret, h3, lift_some, thn_ret]
  cases b1
  · rfl
  · show (k δ).thn _ = _
    rw [h4, thn_ret, h5]
    rfl
theorem ev_cutS {fl fh : DS → M (Option Int)} {lo hi : Option Int} (h1 : f δ = M.ret x) (h2 : fl δ = M.ret lo) (h3 : fh δ = M.ret hi) (h4 : oCutS lo hi x = some d) : dCutS f fl fh δ = M.ret d := by
  unfold dCutS; rw [h1, thn_ret, h2, thn_ret, h3, thn_ret, h4]; rfl
theorem o_leD {i j : Int} : oLeD (.int i) (.int j) = some (.bool (decide (i ≤ j))) := rfl
end
end DL
namespace TX
open PySem PySem.Spec L2 DL NumText
def pre (c : Nat) (l : List Nat) : List Nat := l.takeWhile (· != c)
def post (c : Nat) (l : List Nat) : List Nat := (l.dropWhile (· != c)).drop 1
theorem pre_app {c : Nat} {u v : List Nat} (h : c ∉ u) : pre c (u ++ c :: v) = u ∧ post c (u ++ c :: v) = v := by
  induction u with
  | nil =>
    unfold pre post
    rw [List.nil_append, List.takeWhile_cons_of_neg (by simp), List.dropWhile_cons_of_neg (by simp)]
    exact ⟨rfl, rfl⟩
  | cons a r ih =>
    have ha : a ≠ c := fun e => h (e ▸ List.mem_cons_self)
    have ih := ih (fun e => h (List.mem_cons_of_mem _ e))
    unfold pre post at ih ⊢
    rw [List.cons_append, List.takeWhile_cons_of_pos (by simpa using ha), List.dropWhile_cons_of_pos (by simpa using ha), ih.1, ih.2]
    exact ⟨rfl, rfl⟩
theorem ix_sign {l : List Nat} {i : Int} {c : Nat} (hl : l.length ≤ 1000) (h0 : 0 ≤ i) (h : l[i.toNat]? = some c) : oIx (.str (S l)) (.int i) = some (.str ⟨#[c]⟩) := by
  show (if small (S l).length = true then _ else _) = _
  rw [if_pos (by rw [S_len]; exact small_of (by omega)), L_S]
  have e := L2.atI_nat h
  rw [Int.toNat_of_nonneg h0] at e
  rw [e]
  rfl
end TX
open PySem PySem.Spec L2 DL CT TX NumText
namespace TX
end TX
open PySem PySem.Spec L2 DL TX NumText
namespace TX
def cLo (n : Nat) : Option Int → Nat
  | none => 0
  | some i => (max 0 (min (if i < 0 then i + n else i) n)).toNat
def cHi (n : Nat) : Option Int → Nat
  | none => n
  | some i => (max 0 (min (if i < 0 then i + n else i) n)).toNat
theorem pick_take (l : List Nat) (a : Nat) : ∀ c : Nat, ((List.range c).map (a + ·)).filterMap (l[·]?) = (l.drop a).take c := by
  intro c
  induction c with
  | zero => simp
  | succ c ih =>
    rw [List.range_succ, List.map_append, List.filterMap_append, ih, List.take_add_one, List.getElem?_drop]
    congr 1
theorem range_is (A B : Nat) : sliceRange (A : Int) (B : Int) 1 = (List.range (B - A)).map (A + ·) := by
  unfold sliceRange
  simp only [show (1 : Int) > 0 by decide, if_true]
  have ec : (if (A : Int) < (B : Int) then ((B : Int) - A + 1 - 1) / 1 else 0).toNat = B - A := by
    split <;> omega
  rw [ec]
  refine List.map_congr_left fun k _ => ?_
  omega
theorem clip_is (n : Nat) (i : Int) : (if (1 : Int) > 0 then max 0 (min (if i < 0 then i + (n : Int) else i) n) else max (-1) (min (if i < 0 then i + (n : Int) else i) ((n : Int) - 1))) = (((max 0 (min (if i < 0 then i + (n : Int) else i) n)).toNat : Nat) : Int) := by
  rw [if_pos (by decide)]
  omega
theorem indices_is (n : Nat) (lo hi : Option Int) : Builtin.Str.strSliceIndices lo hi 1 n = (List.range (cHi n hi - cLo n lo)).map (cLo n lo + ·) := by
  rw [← range_is]
  unfold Builtin.Str.strSliceIndices
  cases lo with
  | none => cases hi with
    | none => rfl
    | some j => exact congrArg (fun y => sliceRange 0 y 1) (clip_is n j)
  | some i => cases hi with
    | none => exact congrArg (fun y => sliceRange y n 1) (clip_is n i)
    | some j =>
      refine Eq.trans (congrArg (fun y => sliceRange y _ 1) (clip_is n i)) ?_
      exact congrArg (fun y => sliceRange _ y 1) (clip_is n j)
theorem slice_is (l : List Nat) (lo hi : Option Int) : Txt.slice (S l) lo hi = S ((l.drop (cLo l.length lo)).take (cHi l.length hi - cLo l.length lo)) := by
  have e := indices_is (S l).length lo hi
  unfold Txt.slice
  rw [e, S_len]
  by_cases hw : ((1 : Int) == 1 && ((List.range (cHi l.length hi - cLo l.length lo)).map (cLo l.length lo + ·)).length == l.length) = true
  · rw [if_pos hw]
    have hh : cHi l.length hi ≤ l.length := by
      cases hi with
      | none => exact Nat.le_refl _
      | some i => show (max 0 (min _ (l.length : Int))).toNat ≤ _; omega
    have hz : cHi l.length hi - cLo l.length lo = l.length := by
      rw [List.length_map, List.length_range] at hw
      simpa using hw
    congr 1
    by_cases hl : l.length = 0
    · have : l = [] := List.length_eq_zero_iff.mp hl
      subst this
      simp
    · have : cLo l.length lo = 0 := by omega
      rw [hz, this, List.drop_zero, List.take_length]
  · rw [if_neg hw]
    have : (fun x : Nat => (S l).cps[x]?) = fun x => l[x]? := by
      funext x
      unfold S
      simp
    rw [this, pick_take]
    rfl
theorem o_cut {l : List Nat} (hl : l.length ≤ 1000) (lo hi : Option Int) : oCutS lo hi (.str (S l)) = some (.str (S ((l.drop (cLo l.length lo)).take (cHi l.length hi - cLo l.length lo)))) := by
  show (if small (S l).length = true then _ else _) = _
  rw [S_len, if_pos (small_of (by omega)), slice_is]
end TX
open PySem PySem.Spec L2 DL
namespace DL
section
variable {δ δ' : DS} {c : DS → M Bool} {f : DS → M D} {t : D → DS → Option DS} {y d : D} {ds ys : List D}
end
theorem ints_of (l : List Int) : intsOf (l.map PyData.int) = some l := by
  induction l with
  | nil => rfl
  | cons a r ih => show (intsOf (r.map PyData.int)).map (a :: ·) = _; rw [ih]; rfl
end DL
namespace DL
theorem forD_cons {body : D → DS → M Out} {d : D} {ds : List D} {δ δ' : DS} {r : M Out} (h1 : body d δ = M.ret (.nx δ')) (h2 : forD body ds δ' = r) : forD body (d :: ds) δ = r := by
  show (body d δ).thn _ = _
  rw [h1]
  exact h2
end DL
namespace DL
section
variable {f fi : DS → M D} {δ : DS} {ds es : List D} {d : D} {i j m : Nat} {k n a : Int}
end
end DL
namespace DL
end DL
open PySem PySem.Spec L2 DL CT TX NumText
namespace CT
def jn (c : Nat) : List (List Nat) → List Nat
  | [] => []
  | [a] => a
  | a :: b :: r => a ++ c :: jn c (b :: r)
theorem jn_cons (c : Nat) (a : List Nat) {r : List (List Nat)} (h : r ≠ []) : jn c (a :: r) = a ++ c :: jn c r := by
  cases r with
  | nil => exact absurd rfl h
  | cons b r => rfl
theorem join_S (c : Nat) : ∀ ts : List (List Nat), (S [c]).join (ts.map S) = S (jn c ts)
  | [] => rfl
  | [a] => rfl
  | a :: b :: r => by
    have ih := join_S c (b :: r)
    show S a ++ S [c] ++ (S [c]).join ((b :: r).map S) = _
    rw [ih, S_app, S_app, List.append_assoc]
    rfl
def tot : List (List Nat) → Nat
  | [] => 0
  | a :: r => a.length + 1 + tot r
theorem jn_len (c : Nat) : ∀ {ts : List (List Nat)}, ts ≠ [] → (jn c ts).length + 1 = tot ts
  | [], h => absurd rfl h
  | [a], _ => rfl
  | a :: b :: r, _ => by
    have ih := jn_len c (ts := b :: r) (by simp)
    rw [jn_cons c a (by simp), List.length_append, List.length_cons, tot]
    omega
theorem strsOf_S (ts : List (List Nat)) : strsOf (ts.map fun l => PyData.str (S l)) = some (ts.map S) := by
  induction ts with
  | nil => rfl
  | cons a r ih => show (strsOf (r.map _)).map _ = _; rw [ih]; rfl
theorem joinOk_S {c : Nat} {ts : List (List Nat)} (h : tot ts ≤ 1000000) : JoinOk (S [c]) (ts.map S) = true := by
  have main : ∀ (ts : List (List Nat)) (a : Nat), (ts.map S).foldl (fun x1 x2 => x1 + x2.length + (S [c]).length) a = a + tot ts := by
    intro ts
    induction ts with
    | nil => intro a; rfl
    | cons t r ih =>
      intro a
      rw [List.map_cons, List.foldl_cons, ih, S_len, S_len, tot]
      show a + t.length + 1 + tot r = _
      omega
  unfold JoinOk
  have e := main ts 0
  rw [show Array.foldl (fun x1 x2 => x1 + x2.length + (S [c]).length) 0 (ts.map S).toArray = tot ts by rw [List.foldl_toArray' (h := rfl), e]; omega]
  show (!decide (tot ts > sizeLine)) = true
  rw [sizeLine_eq, decide_eq_false (by omega)]
  rfl
theorem o_join {c : Nat} {ts : List (List Nat)} (h : tot ts ≤ 1000000) : sJoin (S [c]) [.list (ts.map fun l => .str (S l))] = some (.str (S (jn c ts))) := by
  show (match strsOf (ts.map fun l => PyData.str (S l)) with | some ts => if JoinOk (S [c]) ts then some (PyData.str (Txt.join (S [c]) ts)) else none | none => none) = _
  rw [strsOf_S]
  show (if JoinOk (S [c]) (ts.map S) = true then some (PyData.str (Builtin.Str.glued (S [c]) (ts.map S))) else none) = _
  rw [if_pos (joinOk_S h), StrLaws.glued_eq_join, join_S]
theorem jn_inj {c : Nat} : ∀ {ts us : List (List Nat)}, ts ≠ [] → us ≠ [] → (∀ t ∈ ts, c ∉ t) → (∀ t ∈ us, c ∉ t) → jn c ts = jn c us → ts = us
  | [], _, h, _, _, _, _ => absurd rfl h
  | _, [], _, h, _, _, _ => absurd rfl h
  | [a], [b], _, _, _, _, e => by rw [show a = b from e]
  | [a], b :: b' :: us, _, _, h1, _, e => by
    have e : a = b ++ c :: jn c (b' :: us) := e
    exact absurd (by rw [e]; simp : c ∈ a) (h1 a List.mem_cons_self)
  | a :: a' :: ts, [b], _, _, _, h2, e => by
    have e : a ++ c :: jn c (a' :: ts) = b := e
    exact absurd (by rw [← e]; simp : c ∈ b) (h2 b List.mem_cons_self)
  | a :: a' :: ts, b :: b' :: us, _, _, h1, h2, e => by
    have e : a ++ c :: jn c (a' :: ts) = b ++ c :: jn c (b' :: us) := e
    have p1 := pre_app (v := jn c (a' :: ts)) (h1 a List.mem_cons_self)
    have p2 := pre_app (v := jn c (b' :: us)) (h2 b List.mem_cons_self)
    rw [e] at p1
    have q1 : b = a := p2.1.symm.trans p1.1
    have q2 : jn c (b' :: us) = jn c (a' :: ts) := p2.2.symm.trans p1.2
    have ih := jn_inj (ts := a' :: ts) (us := b' :: us) (by simp) (by simp) (fun t ht => h1 t (List.mem_cons_of_mem _ ht)) (fun t ht => h2 t (List.mem_cons_of_mem _ ht)) q2.symm
    rw [q1, ih]
theorem split_ne (x y : Str) : Txt.split x y ≠ [] := by
  unfold Txt.split
  split
  · simp
  · split
    · simp
    · intro z
      have := congrArg List.length z
      rw [length_partsBetween] at this
      simp at this
theorem split_is {c : Nat} {ts : List (List Nat)} (h0 : ts ≠ []) (h : ∀ t ∈ ts, c ∉ t) : Txt.split (S (jn c ts)) (S [c]) = ts.map S := by
  have e1 := StrLaws.join_split (S (jn c ts)) (S [c])
  have e2 : ∀ p, p ∈ Txt.split (S (jn c ts)) (S [c]) → ¬ c ∈ p.cps.toList := fun p => StrLaws.split_free (S (jn c ts)) c p
  have e3 := split_ne (S (jn c ts)) (S [c])
  generalize Txt.split (S (jn c ts)) (S [c]) = ps at *
  have hp : ps = (ps.map fun p => p.cps.toList).map S := by
    rw [List.map_map]
    conv => lhs; rw [← List.map_id ps]
    exact List.map_congr_left fun p _ => (S_L p).symm
  rw [hp, join_S] at e1
  have e4 := S_inj e1
  have := jn_inj (by simpa using e3) h0 (fun t ht => by
    obtain ⟨p, hp, rfl⟩ := List.mem_map.mp ht
    exact e2 p hp) h e4
  rw [hp, this]
theorem len_tot : ∀ ts : List (List Nat), ts.length ≤ tot ts
  | [] => Nat.zero_le _
  | a :: r => by have := len_tot r; rw [List.length_cons, tot]; omega
theorem o_split {c : Nat} {ts : List (List Nat)} (h0 : ts ≠ []) (h : ∀ t ∈ ts, c ∉ t) (hz : tot ts ≤ 1000000) : sSplit (S (jn c ts)) [.str (S [c])] = some (.list (ts.map fun l => .str (S l))) := by
  have hl := jn_len c h0
  show (if splitOk (S (jn c ts)) (S [c]) = true then some (PyData.list ((Txt.split (S (jn c ts)) (S [c])).map PyData.str)) else none) = _
  have ok : splitOk (S (jn c ts)) (S [c]) = true := by
    unfold splitOk
    have h1 : ((S [c]).length == 0) == false := by rw [S_len]; rfl
    have h2 : small (S (jn c ts)).length = true := small_of (by rw [S_len]; omega)
    have hts := len_tot ts
    have h3 : small (Txt.split (S (jn c ts)) (S [c])).length = true := small_of (by rw [split_is h0 h, List.length_map]; omega)
    have h4 : small (Builtin.Str.partsBetween (S (jn c ts)) (Builtin.Str.occurrences (S (jn c ts)) (S [c]) 0 (S (jn c ts)).length ((S (jn c ts)).length + 1)) (S [c]).length).length = true := small_of (by
      rw [length_partsBetween]
      have := StrLaws.occ_length_le (S (jn c ts)) (S [c]) 0 (S (jn c ts)).length ((S (jn c ts)).length + 1)
      rw [S_len] at this ⊢
      omega)
    rw [h1, h2, h3, h4]
    rfl
  rw [if_pos ok, split_is h0 h, List.map_map]
  rfl
theorem tot_app (a b : List (List Nat)) : tot (a ++ b) = tot a + tot b := by
  induction a with
  | nil => simp [tot]
  | cons x a ih => rw [List.cons_append, tot, tot, ih]; omega
end CT
open PySem PySem.Spec L2 DL CT TX NumText
namespace CT
theorem cut_take {α : Type} (xs : List α) (n : Nat) : cutD xs none (some (n : Int)) = xs.take n := by
  unfold cutD
  rw [HT.sIx_none, HT.sIx_nat, List.drop_zero, Nat.sub_zero]
  rcases Nat.le_total n xs.length with h | h
  · rw [Nat.min_eq_left h]
  · rw [Nat.min_eq_right h, List.take_length, List.take_of_length_le h]
theorem cut_drop {α : Type} (xs : List α) (n : Nat) : cutD xs (some (n : Int)) none = xs.drop n := by
  unfold cutD
  rw [HT.sIx_none, HT.sIx_nat]
  rcases Nat.le_total n xs.length with h | h
  · rw [Nat.min_eq_left h, List.take_of_length_le (by rw [List.length_drop]; omega)]
  · rw [Nat.min_eq_right h, List.drop_eq_nil_of_le (Nat.le_refl _), List.drop_eq_nil_of_le h, List.take_nil]
abbrev tx (l : List Nat) : D := .str (S l)
theorem o_lenX {l : List Nat} (h : l.length ≤ 1000000) : oLen [.str (S l)] = some (.int ((l.length : Nat) : Int)) := by
  show (if small (S l).length = true then _ else _) = _
  rw [S_len, if_pos (small_of (by omega))]
end CT
open PySem PySem.Spec L2 DL CT TX NumText
namespace CT
structure Wd (w : List Nat) : Prop where
  ne : w ≠ []
  free : ∀ c ∈ w, 33 ≤ c ∧ c < 128
  len : w.length ≤ 40
theorem Wd.no {w : List Nat} (h : Wd w) : 32 ∉ w := fun z => by have := h.free 32 z; omega
end CT
open PySem PySem.Spec L2 DL CT TX NumText
namespace DL
end DL
namespace CT
def wsg (c : Nat) : Prop := 33 ≤ c ∧ c ≤ 126 ∧ c ≠ 37
structure Wq (w : List Nat) : Prop where
  ne : w ≠ []
  sg : ∀ c ∈ w, wsg c
  len : w.length ≤ 30
theorem Wq.wd {w : List Nat} (h : Wq w) : Wd w := ⟨h.ne, fun c hc => by have := h.sg c hc; unfold wsg at this; omega, by have := h.len; omega⟩
theorem lt_one (a b : Nat) : (([a] : List Nat) < [b]) ↔ a < b := by
  constructor
  · intro h
    cases h with
    | rel h => exact h
    | cons h => cases h
  · exact fun h => .rel h
theorem le_sign (a b : Nat) : oLeD (.str (S [a])) (.str (S [b])) = some (.bool (decide (a ≤ b))) := by
  show some (PyData.bool (!decide ((S [b]).cps.toList < (S [a]).cps.toList))) = _
  rw [L_S, L_S]
  by_cases h : a ≤ b
  · rw [decide_eq_true h, decide_eq_false (by rw [lt_one]; omega)]; rfl
  · rw [decide_eq_false h, decide_eq_true (by rw [lt_one]; omega)]; rfl
theorem o_ord (c : Nat) : oOrd [.str (S [c])] = some (.int (c : Int)) := rfl
theorem word_sign_ev {c : Nat} (h : wsg c) : F_is_word_sign [.str (S [c])] = M.ret (.bool true) := by
  unfold wsg at h
  refine ev_run ?_
  unfold g_is_word_sign
  refine ev_ret (ev_andV_t ?_ (ev_2 (x := .int (c : Int)) (ev_cb (ev_cons (ev_var rfl) ev_nil) (o_ord c)) ev_c (by rw [o_ne, decide_eq_false (by omega)]; rfl)))
  exact ev_chain (x := .str (S [33])) (y := .str (S [c])) (w := .str (S [126])) (b1 := true) (b2 := true) ev_c (ev_var rfl) (by rw [le_sign, decide_eq_true h.1]) ev_c (by rw [le_sign, decide_eq_true h.2.1])
theorem allT {α : Type} (l : List α) : (l.map fun _ => true).all id = true := by
  induction l with
  | nil => rfl
  | cons a r ih => exact ih
theorem bools_mapQ (l : List Bool) : bools (l.map PyData.bool) = some l := by
  induction l with
  | nil => rfl
  | cons a r ih => show (bools (r.map PyData.bool)).map _ = _; rw [ih]; rfl
theorem o_allT {α : Type} (l : List α) : oAll [.list ((l.map fun _ => true).map PyData.bool)] = some (.bool true) := by
  show (bools ((l.map fun _ => true).map PyData.bool)).map _ = _
  rw [bools_mapQ]
  show some (PyData.bool ((l.map fun _ => true).all id)) = _
  rw [allT]
theorem signs_S (w : List Nat) : signsD (S w) = w.map fun c => .str (S [c]) := by
  unfold signsD
  rw [L_S]
  rfl
theorem is_word_ev {w : List Nat} (h : Wq w) : F_is_word [tx w] = M.ret (.bool true) := by
  have hl := o_lenX (l := w) (by have := h.len; omega)
  have h1 := List.length_pos_iff.mpr h.ne
  have h2 := h.len
  refine ev_run ?_
  unfold g_is_word
  refine ev_ret (ev_andV_t ?_ (ev_cb (ev_cons (x := .list ((w.map fun _ => true).map PyData.bool)) (ev_compG (ds := w.map fun c => .str (S [c])) (ev_any (x := tx w) (ev_var rfl) (by show some (signsD (S w)) = _; rw [signs_S])) (small_of (by rw [List.length_map]; omega)) ?_) ev_nil) (o_allT w)))
  · exact ev_chain (x := .int 1) (y := .int ((w.length : Nat) : Int)) (w := .int 30) (b1 := true) (b2 := true) ev_c (ev_cb (ev_cons (ev_var rfl) ev_nil) hl) (by rw [o_leD, decide_eq_true (by omega)]) ev_c (by rw [o_leD, decide_eq_true (by omega)])
  · have main : ∀ (w : List Nat) (x : Sl), (∀ c ∈ w, wsg c) → compD (tgN 0) (nX dYes) (nX (dCall (fun ds => noX (F_is_word_sign ds)) (dCons (dVar 0) dNil))) (w.map fun c => .str (S [c])) [x] = M.ret ((w.map fun _ => true).map PyData.bool) := by
      intro w
      induction w with
      | nil => intro x _; rfl
      | cons c w ih => intro x hw; exact ev_compC (δ' := [.vl (.str (S [c]))]) rfl (ev_call (ev_cons (ev_var rfl) ev_nil) (word_sign_ev (hw c List.mem_cons_self))) (ih _ fun d hd => hw d (List.mem_cons_of_mem _ hd))
    exact main w .un h.sg
theorem are_words_ev {ws : List (List Nat)} (h : ∀ w ∈ ws, Wq w) (h0 : ws ≠ []) (hz : tot ws ≤ 100000) : F_are_words [tx (jn 32 ws)] = M.ret (.bool true) := by
  have hs := o_split h0 (fun w hw => (h w hw).wd.no) (by omega)
  have hl := len_tot ws
  refine ev_run ?_
  unfold g_are_words
  refine ev_ret (ev_andV_t (ev_is (d := tx (jn 32 ws)) (ev_var rfl)) (ev_cb (ev_cons (x := .list ((ws.map fun _ => true).map PyData.bool)) (ev_compG (ds := ws.map fun l => .str (S l)) (ev_any (x := .list (ws.map fun l => .str (S l))) (ev_meth (ev_var rfl) (ev_cons ev_c ev_nil) hs) rfl) (small_of (by rw [List.length_map]; omega)) ?_) ev_nil) (o_allT ws)))
  clear hs hl hz h0
  have main : ∀ (ws : List (List Nat)) (x : Sl), (∀ w ∈ ws, Wq w) → compD (tgN 0) (nX dYes) (nX (dCall (fun ds => noX (F_is_word ds)) (dCons (dVar 0) dNil))) (ws.map fun l => .str (S l)) [x] = M.ret ((ws.map fun _ => true).map PyData.bool) := by
    intro w
    induction w with
    | nil => intro x _; rfl
    | cons c w ih => intro x hw; exact ev_compC (δ' := [.vl (tx c)]) rfl (ev_call (ev_cons (ev_var rfl) ev_nil) (is_word_ev (hw c List.mem_cons_self))) (ih _ fun d hd => hw d (List.mem_cons_of_mem _ hd))
  exact main ws .un h
structure Hd (h : List Nat) : Prop where
  ne : h ≠ []
  sg : ∀ c ∈ h, 97 ≤ c ∧ c ≤ 122
  len : h.length ≤ 8
theorem is_name_ev {h : List Nat} (hh : Hd h) : F_is_name [tx h] = M.ret (.bool true) := by
  have h2 := hh.len
  have hl := o_lenX (l := h) (by omega)
  have h1 := List.length_pos_iff.mpr hh.ne
  refine ev_run ?_
  unfold g_is_name
  refine ev_pass (b := false) (ev_or (b1 := false) (b2 := false) (ev_not (b := true) (ev_b (ev_is (d := tx h) (ev_var rfl)))) (ev_not (b := true) (ev_b ?_))) rfl ?_
  · exact ev_chain (x := .int 1) (y := .int ((h.length : Nat) : Int)) (w := .int 8) (b1 := true) (b2 := true) ev_c (ev_cb (ev_cons (ev_var rfl) ev_nil) hl) (by rw [o_leD, decide_eq_true (by omega)]) ev_c (by rw [o_leD, decide_eq_true (by omega)])
  · refine ev_ret (ev_cb (ev_cons (x := .list ((h.map fun _ => true).map PyData.bool)) (ev_compG (ds := h.map fun c => .str (S [c])) (ev_any (x := tx h) (ev_var rfl) (by show some (signsD (S h)) = _; rw [signs_S])) (small_of (by rw [List.length_map]; omega)) ?_) ev_nil) (o_allT h))
    have main : ∀ (w : List Nat) (x : Sl), (∀ c ∈ w, 97 ≤ c ∧ c ≤ 122) → compD (tgN 0) (nX dYes) (nX (dChain oLeD oLeD (dC (.str "a")) (dVar 0) (dC (.str "z")))) (w.map fun c => .str (S [c])) [x] = M.ret ((w.map fun _ => true).map PyData.bool) := by
      intro w
      induction w with
      | nil => intro x _; rfl
      | cons c w ih =>
        intro x hw
        have hc := hw c List.mem_cons_self
        exact ev_compC (δ' := [.vl (.str (S [c]))]) rfl (ev_chain (x := .str (S [97])) (y := .str (S [c])) (w := .str (S [122])) (b1 := true) (b2 := true) ev_c (ev_var rfl) (by rw [le_sign, decide_eq_true hc.1]) ev_c (by rw [le_sign, decide_eq_true hc.2])) (ih _ fun d hd => hw d (List.mem_cons_of_mem _ hd))
    exact main h .un hh.sg
def cu (b e : Int) (h w : List Nat) : D := .tuple [.int b, .int e, tx h, tx w]
theorem is_whole_ev (i : Int) : F_is_whole [.int i] = M.ret (.bool true) := rfl
theorem is_cue_ev {b e : Int} {h : List Nat} {ws : List (List Nat)} (hb : 0 ≤ b) (he : b < e) (hh : Hd h) (hw : ∀ w ∈ ws, Wq w) (h0 : ws ≠ []) (hz : tot ws ≤ 100000) : F_is_cue [cu b e h (jn 32 ws)] = M.ret (.bool true) := by
  have hn := is_name_ev hh
  have ha := are_words_ev hw h0 hz
  refine ev_run ?_
  unfold g_is_cue cu
  refine ev_pass (b := false) (ev_or (b1 := false) (b2 := false) (ev_not (b := true) (ev_b (ev_is (d := .tuple [.int b, .int e, tx h, tx (jn 32 ws)]) (ev_var rfl)))) (ev_b (ev_2 (ev_cb (ev_cons (ev_var rfl) ev_nil) o_lenT) ev_c rfl))) rfl ?_
  refine ev_pass (b := false) (ev_or (b1 := false) (b2 := false) (ev_not (b := true) (ev_b (ev_call (ds := [.int b]) (ev_cons (ev_2 (ev_var rfl) ev_c rfl) ev_nil) (is_whole_ev b)))) (ev_not (b := true) (ev_b (ev_call (ds := [.int e]) (ev_cons (ev_2 (ev_var rfl) ev_c rfl) ev_nil) (is_whole_ev e))))) rfl ?_
  refine ev_ret (ev_andV_t ?_ (ev_andV_t (ev_call (ds := [tx h]) (ev_cons (ev_2 (ev_var rfl) ev_c rfl) ev_nil) hn) (ev_call (ds := [tx (jn 32 ws)]) (ev_cons (ev_2 (ev_var rfl) ev_c rfl) ev_nil) ha)))
  exact ev_chain (x := .int 0) (y := .int b) (w := .int e) (b1 := true) (b2 := true) ev_c (ev_2 (ev_var rfl) ev_c rfl) (by rw [o_leD, decide_eq_true hb]) (ev_2 (ev_var rfl) ev_c rfl) (by rw [o_lt, decide_eq_true he])
end CT
namespace K15
open PySem PySem.Spec L2 DL CT
noncomputable def g__law_mixed : DS → M Out := (gRet (d2 oMod (d2 oMul (d2 oMod (dVar 0) (dC (.int 2147483647))) (dVar 1)) (dC (.int 2147483647))))
noncomputable def F__law_mixed : List D → M D := run 2 g__law_mixed
noncomputable def g__law_word : DS → M Out := (gSeq (gAsg (dC (.str "!\"#$&'()*+,-./0123456789:;<=>?@ABCDEFGHIJKLMNOPQRSTUVWXYZ")) (tgN 2))
    (gSeq (gAsg (d2 oAdd (dVar 2) (dC (.str "[\\]^_`abcdefghijklmnopqrstuvwxyz{|}~"))) (tgN 2))
    (gSeq (gAsg (dC (.str "")) (tgN 3))
    (gSeq (gForI (dRng rng1 (dCons (dVar 1) dNil)) (tgN 4) (gSeq (gAsg (d2 oMod (d2 oAdd (d2 oMul (dVar 0) (dC (.int 48271))) (dC (.int 11))) (dC (.int 2147483647))) (tgN 0))
    (gAsg (d2 oAdd (dVar 3) (d2 oIx (dVar 2) (d2 oMod (dVar 0) (dC (.int 93))))) (tgN 3))))
    (gRet (dVar 3))))))
noncomputable def F__law_word : List D → M D := run 5 g__law_word
noncomputable def b__law_words_0 : DS → M Out := (gSeq (gAsg (d2 oMod (d2 oAdd (d2 oMul (dVar 0) (dC (.int 69621))) (dC (.int 7))) (dC (.int 2147483629))) (tgN 0))
    (gApp 5 (dCall (fun ds => noX (F__law_word ds)) (dCons (dVar 0) (dCons (d2 oIx (dLst (dCons (d2 oAdd (dC (.int 1)) (d2 oMod (d2 oDiv (dVar 0) (dC (.int 64))) (dVar 4))) (dCons (dC (.int 29)) dNil))) (dCB oIntS (dCons (dVar 1) dNil))) dNil)))))
noncomputable def g__law_words : DS → M Out := (gSeq (gAsg (d2 oMod (dVar 0) (dC (.int 4))) (tgN 2))
    (gSeq (gAsg (d2 oIx (dLst (dCons (d2 oAdd (dC (.int 1)) (d2 oMod (d2 oDiv (dVar 0) (dC (.int 4))) (dC (.int 3)))) (dCons (d2 oAdd (dC (.int 1)) (d2 oMod (d2 oDiv (dVar 0) (dC (.int 4))) (dC (.int 2)))) (dCons (dC (.int 1)) (dCons (d2 oAdd (dC (.int 1)) (d2 oMod (d2 oDiv (dVar 0) (dC (.int 4))) (dC (.int 8)))) dNil))))) (dVar 2)) (tgN 3))
    (gSeq (gAsg (d2 oIx (dLst (dCons (dC (.int 5)) (dCons (dC (.int 12)) (dCons (dC (.int 30)) (dCons (dC (.int 3)) dNil))))) (dVar 2)) (tgN 4))
    (gSeq (gNewL 5 (nLst dNil))
    (gSeq (gForI (dRng rng1 (dCons (d2 oIx (dLst (dCons (dVar 3) (dCons (dC (.int 12)) dNil))) (dCB oIntS (dCons (dVar 1) dNil))) dNil)) (tgN 6) b__law_words_0)
    (gFrz 5 (gRet (dMeth sJoin (dC (.str " ")) (dCons (dVar 5) dNil)))))))))
noncomputable def F__law_words : List D → M D := run 7 g__law_words
noncomputable def b__law_hand_0 : DS → M Out := (gAsg (d2 oAdd (dVar 1) (d2 oIx (dC (.str "abcdefghijklmnopqrstuvwxyz")) (d2 oMod (d2 oDiv (dVar 0) (d2 oAdd (dVar 2) (dC (.int 1)))) (dC (.int 26))))) (tgN 1))
noncomputable def g__law_hand : DS → M Out := (gSeq (gAsg (dC (.str "")) (tgN 1))
    (gSeq (gForI (dRng rng1 (dCons (d2 oAdd (dC (.int 1)) (d2 oMod (dVar 0) (dC (.int 8)))) dNil)) (tgN 2) b__law_hand_0)
    (gRet (dVar 1))))
noncomputable def F__law_hand : List D → M D := run 3 g__law_hand
noncomputable def g__law_cue : DS → M Out := (gSeq (gAsg (dCall (fun ds => noX (F__law_mixed ds)) (dCons (dVar 0) (dCons (dC (.int 48271)) dNil))) (tgN 2))
    (gSeq (gAsg (d2 oIx (dLst (dCons (d2 oMod (dVar 2) (dC (.int 100000))) (dCons (d2 oMod (d2 oDiv (dVar 0) (dC (.int 2))) (d2 oPow (dC (.int 10)) (dC (.int 15)))) dNil))) (d2 oMod (dVar 0) (dC (.int 2)))) (tgN 3))
    (gSeq (gAsg (d2 oAdd (d2 oAdd (dVar 3) (dC (.int 1))) (d2 oIx (dLst (dCons (dC (.int 0)) (dCons (d2 oMod (d2 oDiv (dVar 2) (dC (.int 3))) (dC (.int 5000))) (dCons (d2 oMod (d2 oDiv (dVar 2) (dC (.int 3))) (d2 oPow (dC (.int 10)) (dC (.int 6)))) dNil)))) (d2 oMod (dVar 2) (dC (.int 3))))) (tgN 4))
    (gRet (dTup (dCons (dVar 3) (dCons (dVar 4) (dCons (dCall (fun ds => noX (F__law_hand ds)) (dCons (dCall (fun ds => noX (F__law_mixed ds)) (dCons (dVar 0) (dCons (dC (.int 69621)) dNil))) dNil)) (dCons (dCall (fun ds => noX (F__law_words ds)) (dCons (dCall (fun ds => noX (F__law_mixed ds)) (dCons (dVar 0) (dCons (dC (.int 16807)) dNil))) (dCons (dVar 1) dNil))) dNil)))))))))
noncomputable def F__law_cue : List D → M D := run 5 g__law_cue
noncomputable def g__law_no_words : DS → M Out := (gSeq (gAsg (d2 oMod (dVar 1) (d2 oAdd (dCB oLen (dCons (dVar 0) dNil)) (dC (.int 1)))) (tgN 2))
    (gSeq (gAsg (dLst (dCons (d2 oAdd (dC (.str " ")) (dVar 0)) (dCons (d2 oAdd (dVar 0) (dC (.str " "))) (dCons (dC (.str "")) (dCons (d2 oAdd (dVar 0) (dC (.str "  a"))) (dCons (d2 oAdd (d2 oAdd (dCutS (dVar 0) dNoPart (dPart (dVar 2))) (dC (.str "\n"))) (dCutS (dVar 0) (dPart (dVar 2)) dNoPart)) (dCons (d2 oAdd (d2 oAdd (dCutS (dVar 0) dNoPart (dPart (dVar 2))) (dC (.str "\t"))) (dCutS (dVar 0) (dPart (dVar 2)) dNoPart)) dNil))))))) (tgN 3))
    (gSeq (gAsg (d2 oAdd (dVar 3) (dLst (dCons (d2 oAdd (dVar 0) (d2 oMulS (dC (.str "a")) (dC (.int 30)))) (dCons (dC .none) (dCons (dLst (dCons (dVar 0) dNil)) (dCons (dC (.int 7)) (dCons (d2 oAdd (d2 oAdd (d2 oMulS (dC (.str "b")) (dC (.int 31))) (dC (.str " "))) (dVar 0)) dNil))))))) (tgN 3))
    (gRet (d2 oIx (dVar 3) (d2 oMod (d2 oDiv (dVar 1) (dC (.int 512))) (dC (.int 11))))))))
noncomputable def F__law_no_words : List D → M D := run 4 g__law_no_words
noncomputable def g__law_no_hand : DS → M Out := (gSeq (gAsg (d2 oMod (dVar 1) (dCB oLen (dCons (dVar 0) dNil))) (tgN 2))
    (gSeq (gAsg (dLst (dCons (dC (.str "")) (dCons (d2 oAdd (dVar 0) (dC (.str "abcdefgh"))) (dCons (d2 oAdd (d2 oAdd (dCutS (dVar 0) dNoPart (dPart (dVar 2))) (dC (.str "A"))) (dCutS (dVar 0) (dPart (d2 oAdd (dVar 2) (dC (.int 1)))) dNoPart)) (dCons (d2 oAdd (d2 oAdd (dCutS (dVar 0) dNoPart (dPart (dVar 2))) (dC (.str "1"))) (dCutS (dVar 0) (dPart (d2 oAdd (dVar 2) (dC (.int 1)))) dNoPart)) dNil))))) (tgN 3))
    (gSeq (gAsg (d2 oAdd (dVar 3) (dLst (dCons (d2 oAdd (d2 oAdd (dCutS (dVar 0) dNoPart (dPart (dVar 2))) (dC (.str " "))) (dCutS (dVar 0) (dPart (d2 oAdd (dVar 2) (dC (.int 1)))) dNoPart)) (dCons (dC .none) (dCons (dLst (dCons (dVar 0) dNil)) (dCons (dC (.int 0)) dNil)))))) (tgN 3))
    (gRet (d2 oIx (dVar 3) (d2 oMod (d2 oDiv (dVar 1) (dC (.int 512))) (dC (.int 8))))))))
noncomputable def F__law_no_hand : List D → M D := run 4 g__law_no_hand
noncomputable def g__law_spoiled : DS → M Out := (gSeq (gAsg (dVar 0) (tgTup 4 (tgCons (tgN 4) (tgCons (tgN 5) (tgCons (tgN 6) (tgCons (tgN 7) tgNil))))))
    (gSeq (gAsg (d2 oMod (dVar 1) (dC (.int 10))) (tgN 2))
    (gSeq (gAsg (d2 oDiv (dVar 1) (dC (.int 10))) (tgN 3))
    (gSeq (gIf (dB (d2 oEq (dVar 2) (dC (.int 0)))) (gRet (dTup (dCons (dVar 4) (dCons (d2 oSub (dVar 4) (d2 oMod (dVar 3) (dC (.int 2)))) (dCons (dVar 6) (dCons (dVar 7) dNil)))))) gNext)
    (gSeq (gIf (dB (d2 oEq (dVar 2) (dC (.int 1)))) (gRet (dTup (dCons (d2 oSub (d1 oNeg (dC (.int 1))) (d2 oMod (dVar 3) (dC (.int 1000)))) (dCons (dVar 5) (dCons (dVar 6) (dCons (dVar 7) dNil)))))) gNext)
    (gSeq (gIf (dB (d2 oEq (dVar 2) (dC (.int 2)))) (gRet (dTup (dCons (d2 oIx (dLst (dCons (dC (.bool false)) (dCons (dCB oStr (dCons (dVar 4) dNil)) (dCons (dC .none) (dCons (dLst (dCons (dVar 4) dNil)) dNil))))) (d2 oMod (dVar 3) (dC (.int 4)))) (dCons (dVar 5) (dCons (dVar 6) (dCons (dVar 7) dNil)))))) gNext)
    (gSeq (gIf (dB (d2 oEq (dVar 2) (dC (.int 3)))) (gRet (dTup (dCons (dC (.int 0)) (dCons (d2 oIx (dLst (dCons (dC (.bool true)) (dCons (dCB oStr (dCons (dVar 5) dNil)) (dCons (dC .none) (dCons (dTup (dCons (dVar 5) dNil)) dNil))))) (d2 oMod (dVar 3) (dC (.int 4)))) (dCons (dVar 6) (dCons (dVar 7) dNil)))))) gNext)
    (gSeq (gIf (dB (d2 oEq (dVar 2) (dC (.int 4)))) (gRet (d2 oAdd (dCutS (dVar 0) dNoPart (dPart (d2 oMod (dVar 3) (dC (.int 4))))) (dCutS (dVar 0) (dPart (d2 oAdd (d2 oMod (dVar 3) (dC (.int 4))) (dC (.int 1)))) dNoPart))) gNext)
    (gSeq (gIf (dB (d2 oEq (dVar 2) (dC (.int 5)))) (gRet (d2 oAdd (dVar 0) (dTup (dCons (d2 oIx (dLst (dCons (dVar 4) (dCons (dVar 6) (dCons (dVar 7) dNil)))) (d2 oMod (dVar 3) (dC (.int 3)))) dNil)))) gNext)
    (gSeq (gIf (dB (d2 oEq (dVar 2) (dC (.int 6)))) (gRet (d2 oIx (dLst (dCons (dCB oListOf (dCons (dVar 0) dNil)) (dCons (dC .none) (dCons (dVar 7) (dCons (dVar 4) dNil))))) (d2 oMod (dVar 3) (dC (.int 4))))) gNext)
    (gSeq (gIf (dB (d2 oEq (dVar 2) (dC (.int 7)))) (gRet (dTup (dCons (dVar 4) (dCons (dVar 5) (dCons (dCall (fun ds => noX (F__law_no_hand ds)) (dCons (dVar 6) (dCons (dVar 3) dNil))) (dCons (dVar 7) dNil)))))) gNext)
    (gRet (dTup (dCons (dVar 4) (dCons (dVar 5) (dCons (dVar 6) (dCons (dCall (fun ds => noX (F__law_no_words ds)) (dCons (dVar 7) (dCons (dVar 3) dNil))) dNil)))))))))))))))))
noncomputable def F__law_spoiled : List D → M D := run 8 g__law_spoiled
noncomputable def b_law_0 : DS → M Out := (gSeq (gAsg (dCall (fun ds => noX (F__law_cue ds)) (dCons (dVar 6) (dCons (d2 oEq (dVar 5) (d2 oMod (dCB oLen (dCons (dVar 0) dNil)) (dC (.int 4)))) dNil))) (tgN 7))
    (gSeq (gAsg (dCall (fun ds => noX (F__law_spoiled ds)) (dCons (dVar 7) (dCons (dCall (fun ds => noX (F__law_mixed ds)) (dCons (d2 oAdd (dVar 6) (dVar 5)) (dCons (dC (.int 39373)) dNil))) dNil))) (tgN 8))
    (gSeq (gIf (dOr (dB (d2 oIsNot (dCall (fun ds => noX (F_is_cue ds)) (dCons (dVar 7) dNil)) (dC (.bool true)))) (dB (d2 oIsNot (dCall (fun ds => noX (F_is_cue ds)) (dCons (dVar 8) dNil)) (dC (.bool false))))) (gRet (dC (.bool false))) gNext)
    (gSeq (gApp 1 (dVar 7))
    (gApp 2 (dVar 8))))))
noncomputable def g_law : DS → M Out := (gSeq (gNewL 1 (nLst dNil))
    (gSeq (gNewL 2 (nLst dNil))
    (gSeq (gForI (dEnum (dCons (d2 oAdd (dLst (dCons (dC (.int 0)) dNil)) (dCutS (dVar 0) dNoPart (dPart (dC (.int 30))))) dNil)) (tgTup 2 (tgCons (tgN 5) (tgCons (tgN 6) tgNil))) b_law_0)
    (gFrz 1 (gSortK 1 (gSeq (gIf (dOr (dB (d2 oIsNot (dCall (fun ds => noX (F_are_cues ds)) (dCons (dCB oListOf (dCons (dVar 1) dNil)) dNil)) (dC (.bool true)))) (dOr (dB (d2 oIsNot (dCall (fun ds => noX (F_are_cues ds)) (dCons (dLst dNil) dNil)) (dC (.bool true)))) (dB (d2 oIsNot (dCall (fun ds => noX (F_are_cues ds)) (dCons (dCB oTupOf (dCons (dVar 1) dNil)) dNil)) (dC (.bool false)))))) (gRet (dC (.bool false))) gNext)
    (gSeq (gAsg (dCall (fun ds => noX (F_are_cues ds)) (dCons (dCompG 1 [] (tgN 0) (dRevI (dCons (dVar 1) dNil)) dYes (dVar 0)) dNil)) (tgN 3))
    (gSeq (gIf (dOr (dNot (dB (dIs "bool" (dVar 3)))) (dB (d2 oNe (dVar 3) (d2 oEq (d2 oIx (d2 oIx (dVar 1) (dC (.int 0))) (dC (.int 0))) (d2 oIx (d2 oIx (dVar 1) (d1 oNeg (dC (.int 1)))) (dC (.int 0))))))) (gRet (dC (.bool false))) gNext)
    (gSeq (gAsg (d2 oMod (dCB oSumG (dCons (dCompG 1 [] (tgN 0) (dAny (dVar 1)) dYes (d2 oIx (dVar 0) (dC (.int 1)))) dNil)) (d2 oAdd (dCB oLen (dCons (dVar 1) dNil)) (dC (.int 1)))) (tgN 4))
    (gFrz 2 (gSeq (gIf (dB (d2 oIsNot (dCall (fun ds => noX (F_are_cues ds)) (dCons (d2 oAdd (d2 oAdd (dCutS (dVar 1) dNoPart (dPart (dVar 4))) (dLst (dCons (d2 oIx (dVar 2) (d2 oSub (dVar 4) (dC (.int 1)))) dNil))) (dCutS (dVar 1) (dPart (dVar 4)) dNoPart)) dNil)) (dC (.bool false)))) (gRet (dC (.bool false))) gNext)
    (gRet (dAndV (d2 oIs (dCall (fun ds => noX (F_are_cues ds)) (dCons (d2 oIx (dVar 2) (dC (.int 0))) dNil)) (dC (.bool false))) (dAndV (d2 oIs (dCall (fun ds => noX (F_are_cues ds)) (dCons (dC .none) dNil)) (dC (.bool false))) (d2 oIs (dCall (fun ds => noX (F_are_cues ds)) (dCons (dC (.str "")) dNil)) (dC (.bool false)))))))))))))))))
noncomputable def F_law : List D → M D := run 9 g_law
end K15
open PySem PySem.Spec L2 DL CT TX NumText
namespace K15
theorem mixed_ev (c b : Int) (b0 : 0 ≤ b) (b1 : b < 100000000) : ∃ m, (0 ≤ m ∧ m < 2147483647) ∧ F__law_mixed [.int c, .int b] = M.ret (.int m) := by
  refine ⟨c % 2147483647 * b % 2147483647, by omega, ev_run ?_⟩
  unfold g__law_mixed
  walk_at "ev"
theorem sign_of {l : List Nat} {i : Int} (hl : l.length ≤ 1000) (h0 : 0 ≤ i) (h1 : i < l.length) : ∃ c, c ∈ l ∧ oIx (.str (S l)) (.int i) = some (.str (S [c])) := by
  have hi : i.toNat < l.length := by omega
  exact ⟨l[i.toNat], List.getElem_mem hi, ix_sign hl h0 (List.getElem?_eq_getElem hi)⟩
theorem add_txt {a b : List Nat} (h : a.length + b.length ≤ 1000) : oAdd (.str (S a)) (.str (S b)) = some (.str (S (a ++ b))) := by
  rw [o_addS (small_of (by rw [S_len, S_len]; omega)), S_app]
def azS : List Nat := [97, 98, 99, 100, 101, 102, 103, 104, 105, 106, 107, 108, 109, 110, 111, 112, 113, 114, 115, 116, 117, 118, 119, 120, 121, 122]
end K15
open PySem PySem.Spec L2 DL
namespace DL
def pk (l : List Int) (i : Int) : Int := l.getD i.toNat 0
theorem ix_pick2 {a b i : Int} (h0 : 0 ≤ i) (h1 : i < 2) : oIx (.list [.int a, .int b]) (.int i) = some (.int (pk [a, b] i)) := by
  refine ix_nat h0 ?_
  have : i = 0 ∨ i = 1 := by omega
  rcases this with rfl | rfl <;> rfl
theorem ix_pick3 {a b c i : Int} (h0 : 0 ≤ i) (h1 : i < 3) : oIx (.list [.int a, .int b, .int c]) (.int i) = some (.int (pk [a, b, c] i)) := by
  refine ix_nat h0 ?_
  have : i = 0 ∨ i = 1 ∨ i = 2 := by omega
  rcases this with rfl | rfl | rfl <;> rfl
theorem ix_pick4 {a b c d i : Int} (h0 : 0 ≤ i) (h1 : i < 4) : oIx (.list [.int a, .int b, .int c, .int d]) (.int i) = some (.int (pk [a, b, c, d] i)) := by
  refine ix_nat h0 ?_
  have : i = 0 ∨ i = 1 ∨ i = 2 ∨ i = 3 := by omega
  rcases this with rfl | rfl | rfl | rfl <;> rfl
end DL
open PySem PySem.Spec L2 DL CT TX NumText
namespace K15
def m1 : List Nat := ("!\"#$&'()*+,-./0123456789:;<=>?@ABCDEFGHIJKLMNOPQRSTUVWXYZ" : Str).cps.toList
def m2 : List Nat := ("[\\]^_`abcdefghijklmnopqrstuvwxyz{|}~" : Str).cps.toList
theorem m1_is : ("!\"#$&'()*+,-./0123456789:;<=>?@ABCDEFGHIJKLMNOPQRSTUVWXYZ" : Str) = S m1 := (S_L _).symm
theorem m2_is : ("[\\]^_`abcdefghijklmnopqrstuvwxyz{|}~" : Str) = S m2 := (S_L _).symm
theorem m_len : (m1 ++ m2).length = 93 := by decide +kernel
theorem m_free : ∀ c ∈ m1 ++ m2, wsg c := by unfold wsg; decide +kernel
theorem m1_len : m1.length ≤ 100 := by decide +kernel
theorem m2_len : m2.length ≤ 100 := by decide +kernel
theorem word_ev (m : Int) (n : Nat) (m0 : 0 ≤ m) (h1 : 1 ≤ n) (h2 : n ≤ 30) : ∃ w, w.length = n ∧ (∀ c ∈ w, wsg c) ∧ F__law_word [.int m, .int (n : Int)] = M.ret (tx w) := by
  have hr : rng1 [.int (n : Int)] = some (rngD 0 n) := by
    show (if b62 (n : Int) = true then some (rngD 0 (n : Int).toNat) else none) = _
    rw [if_pos (by unfold b62; simp; omega), Int.toNat_natCast]
  have hlen : (rngD 0 n).length = n := by unfold rngD; rw [List.length_map, List.length_range]
  have hadd : oAdd (.str (S m1)) (.str (S m2)) = some (.str (S (m1 ++ m2))) := add_txt (by have := m1_len; have := m2_len; omega)
  have main : ∃ w, (w.length = n ∧ ∀ c ∈ w, wsg c) ∧ g__law_word (startD 5 [.int m, .int (n : Int)]) = M.ret (.rt (tx w)) := by
    unfold g__law_word
    have hbody := fun (p : List D) (d : D) (q : List D) (δ : DS) (e : rngD 0 n = p ++ d :: q) (hδ : ∃ (w : List Nat) (k : Int) (x4 : Sl), w.length = p.length ∧ (∀ c ∈ w, wsg c) ∧ 0 ≤ k ∧ δ = [.vl (.int k), .vl (.int (n : Int)), .vl (tx (m1 ++ m2)), .vl (tx w), x4]) => (show ∃ δ', bodyD (tgN 4) (gSeq (gAsg (d2 oMod (d2 oAdd (d2 oMul (dVar 0) (dC (.int 48271))) (dC (.int 11))) (dC (.int 2147483647))) (tgN 0))
    (gAsg (d2 oAdd (dVar 3) (d2 oIx (dVar 2) (d2 oMod (dVar 0) (dC (.int 93))))) (tgN 3))) d δ = M.ret (.nx δ') ∧ ∃ (w : List Nat) (k : Int) (x4 : Sl), w.length = (p ++ [d]).length ∧ (∀ c ∈ w, wsg c) ∧ 0 ≤ k ∧ δ' = [.vl (.int k), .vl (.int (n : Int)), .vl (tx (m1 ++ m2)), .vl (tx w), x4] from by
      obtain ⟨w, k, x4, q1, q2, q3, rfl⟩ := hδ
      have hp : p.length < n := by
        have := congrArg List.length e
        rw [hlen, List.length_append, List.length_cons] at this
        omega
      obtain ⟨K, hK⟩ : ∃ K, K = (k * 48271 + 11) % 2147483647 := ⟨_, rfl⟩
      obtain ⟨c, hc, hx⟩ := sign_of (l := m1 ++ m2) (i := K % 93) (by rw [m_len]; decide) (by omega) (by rw [m_len]; omega)
      have ha := add_txt (a := w) (b := [c]) (by show _ + 1 ≤ _; omega)
      refine ⟨[.vl (.int K), .vl (.int (n : Int)), .vl (tx (m1 ++ m2)), .vl (tx (w ++ [c])), .vl d], ?_, w ++ [c], K, _, by rw [List.length_append, List.length_append, q1]; rfl, fun x hx' => ?_, by omega, rfl⟩
      · refine ev_body (δ' := [.vl (.int k), .vl (.int (n : Int)), .vl (tx (m1 ++ m2)), .vl (tx w), .vl d]) rfl ?_
        refine ev_seq (ev_asg (d := .int K) (by rw [hK]; walk_at "ev")) ?_
        exact ev_asg (d := tx (w ++ [c])) (ev_2 (x := tx w) (y := .str (S [c])) (ev_var rfl) (ev_2 (x := tx (m1 ++ m2)) (y := .int (K % 93)) (ev_var rfl) (by walk_at "ev") hx) ha)
      · rcases List.mem_append.mp hx' with h | h
        · exact q2 x h
        · rw [List.mem_singleton] at h; rw [h]; exact m_free c hc)
    obtain ⟨δ', h3, w, k, x4, q1, q2, q3, rfl⟩ := forD_pre _ (rngD 0 n) [] [.vl (.int m), .vl (.int (n : Int)), .vl (tx (m1 ++ m2)), .vl (tx []), .un] ⟨[], m, _, rfl, (fun c hc => nomatch hc), m0, rfl⟩ hbody
    refine ⟨w, ⟨by rw [q1]; exact hlen, q2⟩, ?_⟩
    refine ev_seq (ev_asg (d := .str (S m1)) (by rw [← m1_is]; exact ev_c)) ?_
    refine ev_seq (ev_asg (d := .str (S (m1 ++ m2))) (ev_2 (ev_var rfl) (by rw [m2_is]; exact ev_c) hadd)) ?_
    refine ev_seq (ev_asg (d := .str (S [])) ev_c) ?_
    exact ev_seq (ev_forG (ev_rngS (ev_cons (ev_var rfl) ev_nil) hr) h3) (ev_ret (ev_var rfl))
  obtain ⟨w, ⟨h1, h2⟩, h3⟩ := main
  exact ⟨w, h1, h2, ev_run h3⟩
end K15
open PySem PySem.Spec L2 DL CT TX NumText
namespace K15
theorem rngS (j m : Nat) : rngD (j : Int) (m + 1) = .int (j : Int) :: rngD ((j + 1 : Nat) : Int) m := by
  unfold rngD
  rw [List.range_succ_eq_map, List.map_cons, List.map_map]
  refine congr (congrArg _ (congrArg _ (by push_cast; omega))) (List.map_congr_left fun i _ => ?_)
  show PyData.int _ = PyData.int _
  congr 1
  push_cast
  omega
theorem rng1N {n : Nat} (h : n ≤ 1000000) : rng1 [.int (n : Int)] = some (rngD ((0 : Nat) : Int) n) := by
  show (if b62 (n : Int) = true then some (rngD 0 (n : Int).toNat) else none) = _
  rw [if_pos (by unfold b62; simp; omega), Int.toNat_natCast]
  rfl
theorem az_is : ("abcdefghijklmnopqrstuvwxyz" : Str) = S azS := by kernel_rfl
theorem az_free : ∀ c ∈ azS, 97 ≤ c ∧ c ≤ 122 := by decide
theorem hand_loop (m : Int) (m0 : 0 ≤ m) : ∀ (n j : Nat) (w : List Nat) (x2 : Sl), (∀ c ∈ w, 97 ≤ c ∧ c ≤ 122) → w.length + n ≤ 100 → j + n ≤ 100 → ∃ (w' : List Nat) (y2 : Sl), (∀ c ∈ w', 97 ≤ c ∧ c ≤ 122) ∧ w'.length = w.length + n ∧ forD (bodyD (tgN 2) b__law_hand_0) (rngD (j : Int) n) [.vl (.int m), .vl (tx w), x2] = M.ret (.nx [.vl (.int m), .vl (tx w'), y2])
  | 0, j, w, x2, h, _, _ => ⟨w, x2, h, rfl, rfl⟩
  | n + 1, j, w, x2, h, hl, hj => by
    obtain ⟨z, hz, hx⟩ := sign_of (l := azS) (i := m / ((j : Int) + 1) % 26) (by decide) (by omega) (by show _ < ((26 : Nat) : Int); omega)
    obtain ⟨w', y2, h1, h2, hI⟩ := hand_loop m m0 n (j + 1) (w ++ [z]) (.vl (.int (j : Int))) (fun c hc => by
      rcases List.mem_append.mp hc with hc | hc
      · exact h c hc
      · rw [List.mem_singleton.mp hc]; exact az_free z hz) (by rw [List.length_append, List.length_singleton]; omega) (by omega)
    refine ⟨w', y2, h1, by rw [h2, List.length_append, List.length_singleton]; omega, ?_⟩
    rw [rngS]
    refine forD_cons (ev_body (δ' := [.vl (.int m), .vl (tx w), .vl (.int (j : Int))]) rfl ?_) hI
    unfold b__law_hand_0
    exact ev_asg (d := tx (w ++ [z])) (ev_2 (ev_var rfl) (ev_2 (x := .str (S azS)) (by rw [← az_is]; exact ev_c) (ev_2 (ev_2 (ev_var rfl) (ev_2 (ev_var rfl) ev_c o_add) (o_div (bDiv_of (by omega) (by omega)))) ev_c (o_mod (by decide))) hx) (add_txt (by show _ + 1 ≤ _; omega)))
theorem hand_ev (m : Int) (m0 : 0 ≤ m) : ∃ h : List Nat, Hd h ∧ F__law_hand [.int m] = M.ret (tx h) := by
  obtain ⟨k, hk⟩ : ∃ k : Nat, (k : Int) = 1 + m % 8 := ⟨(1 + m % 8).toNat, by omega⟩
  obtain ⟨w, y2, h1, h2, hL⟩ := hand_loop m m0 k 0 [] .un (fun c hc => nomatch hc) (by show 0 + _ ≤ _; omega) (by omega)
  have h2 : w.length = 0 + k := h2
  refine ⟨w, ⟨fun z => by rw [z] at h2; simp at h2; omega, h1, by omega⟩, ev_run ?_⟩
  unfold g__law_hand
  refine ev_seq (ev_asg (d := tx []) ev_c) ?_
  exact ev_seq (ev_forG (ev_rngS (xs := [.int (k : Int)]) (ev_cons (by rw [hk]; exact ev_2 ev_c (ev_2 (ev_var rfl) ev_c (o_mod (by decide))) o_add) ev_nil) (rng1N (by omega))) hL) (ev_ret (ev_var rfl))
def gi (g : Bool) : Int := if g then 1 else 0
theorem gi_in (g : Bool) : 0 ≤ gi g ∧ gi g < 2 := by cases g <;> decide
theorem o_gi (g : Bool) : oIntS [.bool g] = some (.int (gi g)) := by cases g <;> rfl
theorem pk2 {a b : Int} (g : Bool) {lo hi : Int} (ha : lo ≤ a ∧ a ≤ hi) (hb : lo ≤ b ∧ b ≤ hi) : lo ≤ pk [a, b] (gi g) ∧ pk [a, b] (gi g) ≤ hi := by
  cases g
  · exact ha
  · exact hb
theorem words_loop (g : Bool) (W K : Int) (mo : Nat) (mo0 : 1 ≤ mo) (mo1 : mo ≤ 30) : ∀ (n j : Nat) (m : Int) (ws : List (List Nat)) (x6 : Sl), 0 ≤ m → (∀ w ∈ ws, Wq w) → ws.length + n ≤ 100 → ∃ (m' : Int) (ws' : List (List Nat)) (y6 : Sl), (∀ w ∈ ws', Wq w) ∧ ws'.length = ws.length + n ∧ forD (bodyD (tgN 6) b__law_words_0) (rngD (j : Int) n) [.vl (.int m), .vl (.bool g), .vl (.int W), .vl (.int K), .vl (.int (mo : Int)), .ow (ws.map tx), x6] = M.ret (.nx [.vl (.int m'), .vl (.bool g), .vl (.int W), .vl (.int K), .vl (.int (mo : Int)), .ow (ws'.map tx), y6])
  | 0, j, m, ws, x6, _, h, _ => ⟨m, ws, x6, h, rfl, rfl⟩
  | n + 1, j, m, ws, x6, m0, h, hl => by
    obtain ⟨m2, hm2⟩ : ∃ m2 : Int, m2 = (m * 69621 + 7) % 2147483629 := ⟨_, rfl⟩
    have hm0 : 0 ≤ m2 := by omega
    have hb : m2 / 64 % (mo : Int) < (mo : Int) := Int.emod_lt_of_pos _ (by omega)
    have hb0 : 0 ≤ m2 / 64 % (mo : Int) := Int.emod_nonneg _ (by omega)
    have hg := gi_in g
    have p1 := pk2 (a := 1 + m2 / 64 % (mo : Int)) (b := 29) g (lo := 1) (hi := 30) (by omega) (by decide)
    have i1 := ix_pick2 (a := 1 + m2 / 64 % (mo : Int)) (b := 29) hg.1 hg.2
    generalize pk [1 + m2 / 64 % (mo : Int), 29] (gi g) = P at p1 i1
    obtain ⟨k, hk⟩ : ∃ k : Nat, (k : Int) = P := ⟨P.toNat, by omega⟩
    obtain ⟨w, w1, w2, hw⟩ := word_ev m2 k hm0 (by omega) (by omega)
    obtain ⟨m', ws', y6, h1, h2, hI⟩ := words_loop g W K mo mo0 mo1 n (j + 1) m2 (ws ++ [w]) (.vl (.int (j : Int))) hm0 (fun c hc => by
      rcases List.mem_append.mp hc with hc | hc
      · exact h c hc
      · rw [List.mem_singleton.mp hc]; exact ⟨fun z => by rw [z] at w1; simp at w1; omega, w2, by omega⟩) (by rw [List.length_append, List.length_singleton]; omega)
    refine ⟨m', ws', y6, h1, by rw [h2, List.length_append, List.length_singleton]; omega, ?_⟩
    rw [rngS]
    rw [List.map_append] at hI
    refine forD_cons (ev_body (δ' := [.vl (.int m), .vl (.bool g), .vl (.int W), .vl (.int K), .vl (.int (mo : Int)), .ow (ws.map tx), .vl (.int (j : Int))]) rfl ?_) hI
    unfold b__law_words_0
    refine ev_seq (ev_asg (d := .int m2) (by rw [hm2]; exact ev_2 (ev_2 (ev_2 (ev_var rfl) ev_c (o_mul (bMul_r (by decide) (by decide)))) ev_c o_add) ev_c (o_mod (by decide)))) ?_
    exact ev_app (ds := ws.map tx) (d := tx w) rfl (ev_call (ds := [.int m2, .int (k : Int)]) (ev_cons (ev_var rfl) (ev_cons (by rw [hk]; exact ev_2 (ev_lst (ev_cons (ev_2 ev_c (ev_2 (ev_2 (ev_var rfl) ev_c (o_div (bDiv_of (by decide) (by decide)))) (ev_var rfl) (o_mod (by omega))) o_add) (ev_cons ev_c ev_nil)) rfl) (ev_cb (ev_cons (ev_var rfl) ev_nil) (o_gi g)) i1) ev_nil)) hw) (small_of (by rw [List.length_map]; omega))
theorem pick4n {a b c d i : Int} {lo hi : Int} (h0 : 0 ≤ i) (h1 : i < 4) (ha : lo ≤ a ∧ a ≤ hi) (hb : lo ≤ b ∧ b ≤ hi) (hc : lo ≤ c ∧ c ≤ hi) (hd : lo ≤ d ∧ d ≤ hi) : lo ≤ pk [a, b, c, d] i ∧ pk [a, b, c, d] i ≤ hi := by
  have : i = 0 ∨ i = 1 ∨ i = 2 ∨ i = 3 := by omega
  rcases this with rfl | rfl | rfl | rfl
  · exact ha
  · exact hb
  · exact hc
  · exact hd
theorem tot_le {n : Nat} : ∀ {ws : List (List Nat)}, (∀ w ∈ ws, w.length ≤ n) → tot ws ≤ (n + 1) * ws.length
  | [], _ => Nat.zero_le _
  | w :: ws, h => by
    have := tot_le (n := n) (ws := ws) fun v hv => h v (List.mem_cons_of_mem _ hv)
    have := h w List.mem_cons_self
    rw [tot, List.length_cons, Nat.mul_succ]
    omega
def Wsq (ws : List (List Nat)) : Prop := (∀ w ∈ ws, Wq w) ∧ ws ≠ [] ∧ ws.length ≤ 12
theorem words_ev (m : Int) (g : Bool) (m0 : 0 ≤ m) : ∃ ws : List (List Nat), Wsq ws ∧ F__law_words [.int m, .bool g] = M.ret (tx (jn 32 ws)) := by
  obtain ⟨W, hW⟩ : ∃ W : Int, W = m % 4 := ⟨_, rfl⟩
  obtain ⟨K, hK⟩ : ∃ K : Int, K = (pk [(1 + ((m / 4) % 3)), (1 + ((m / 4) % 2)), 1, (1 + ((m / 4) % 8))] W) := ⟨_, rfl⟩
  obtain ⟨M0, hM⟩ : ∃ M0 : Int, M0 = (pk [5, 12, 30, 3] W) := ⟨_, rfl⟩
  have bK : 1 ≤ K ∧ K ≤ 12 := by rw [hK]; exact pick4n (by omega) (by omega) (by omega) (by omega) (by omega) (by omega)
  have bM : 1 ≤ M0 ∧ M0 ≤ 30 := by rw [hM]; exact pick4n (by omega) (by omega) (by omega) (by omega) (by omega) (by omega)
  have hg := gi_in g
  have p1 := pk2 (a := K) (b := 12) g bK (by decide)
  have i1 := ix_pick2 (a := K) (b := 12) hg.1 hg.2
  generalize pk [K, 12] (gi g) = P at p1 i1
  obtain ⟨k, hk⟩ : ∃ k : Nat, (k : Int) = P := ⟨P.toNat, by omega⟩
  obtain ⟨mo, hmo⟩ : ∃ mo : Nat, (mo : Int) = M0 := ⟨M0.toNat, by omega⟩
  obtain ⟨m', ws, y6, h1, h2, hL⟩ := words_loop g W K mo (by omega) (by omega) k 0 m [] .un m0 (fun w hw => nomatch hw) (by show 0 + _ ≤ _; omega)
  have h2 : ws.length = 0 + k := h2
  have hw0 : ws ≠ [] := by rintro rfl; simp at h2; omega
  have ht := tot_le (n := 30) (ws := ws) fun w hw => (h1 w hw).len
  have h31 : (30 + 1) * ws.length ≤ 31 * 12 := Nat.mul_le_mul (Nat.le_refl _) (by omega)
  refine ⟨ws, ⟨h1, hw0, by omega⟩, ev_run ?_⟩
  unfold g__law_words
  rw [hmo] at hL
  refine ev_seq (ev_asg (d := .int W) (by rw [hW]; exact (ev_2 (ev_var rfl) ev_c (o_mod (by first | decide | omega))))) ?_
  refine ev_seq (ev_asg (d := .int K) (by rw [hK]; exact (ev_2 (ev_lst (ev_cons (ev_2 ev_c (ev_2 (ev_2 (ev_var rfl) ev_c (o_div (bDiv_of (by first | decide | omega) (by first | decide | omega)))) ev_c (o_mod (by first | decide | omega))) o_add) (ev_cons (ev_2 ev_c (ev_2 (ev_2 (ev_var rfl) ev_c (o_div (bDiv_of (by first | decide | omega) (by first | decide | omega)))) ev_c (o_mod (by first | decide | omega))) o_add) (ev_cons ev_c (ev_cons (ev_2 ev_c (ev_2 (ev_2 (ev_var rfl) ev_c (o_div (bDiv_of (by first | decide | omega) (by first | decide | omega)))) ev_c (o_mod (by first | decide | omega))) o_add) ev_nil)))) rfl) (ev_var rfl) (ix_pick4 (by omega) (by omega))))) ?_
  refine ev_seq (ev_asg (d := .int M0) (by rw [hM]; exact (ev_2 (ev_lst (ev_cons ev_c (ev_cons ev_c (ev_cons ev_c (ev_cons ev_c ev_nil)))) rfl) (ev_var rfl) (ix_pick4 (by omega) (by omega))))) ?_
  refine ev_seq (ev_newL (ds := []) (ev_nLst ev_nil rfl)) ?_
  refine ev_seq (ev_forG (ev_rngS (xs := [.int (k : Int)]) (ev_cons (by rw [hk]; exact ev_2 (ev_lst (ev_cons (ev_var rfl) (ev_cons ev_c ev_nil)) rfl) (ev_cb (ev_cons (ev_var rfl) ev_nil) (o_gi g)) i1) ev_nil) (rng1N (by omega))) hL) (ev_frz ?_)
  exact ev_ret (ev_meth (z := S [32]) ev_c (ev_cons (x := .list (ws.map tx)) (ev_var rfl) ev_nil) (o_join (by omega)))
end K15
open PySem PySem.Spec L2 DL CT TX NumText
namespace CT
def wsb (c : Nat) : Bool := decide (33 ≤ c) && decide (c ≤ 126) && !decide (c = 37)
theorem wsb_iff {c : Nat} : wsb c = true ↔ wsg c := by unfold wsb wsg; simp; omega
theorem sign_gen (c : Nat) : F_is_word_sign [.str (S [c])] = M.ret (.bool (wsb c)) := by
  refine ev_run ?_
  unfold g_is_word_sign wsb
  refine ev_ret (ev_andV (b1 := decide (33 ≤ c) && decide (c ≤ 126)) (b2 := !decide (c = 37)) ?_ (ev_2 (x := .int (c : Int)) (ev_cb (ev_cons (ev_var rfl) ev_nil) (o_ord c)) ev_c ?_))
  · exact ev_chain (x := .str (S [33])) (y := .str (S [c])) (w := .str (S [126])) ev_c (ev_var rfl) (le_sign 33 c) ev_c (le_sign c 126)
  · rw [o_ne]
    congr 3
    exact decide_eq_decide.mpr (by omega)
theorem o_allB (l : List Bool) : oAll [.list (l.map PyData.bool)] = some (.bool (l.all id)) := by
  show (bools (l.map PyData.bool)).map _ = _
  rw [bools_mapQ]
  rfl
def isWb (w : List Nat) : Bool := (decide (1 ≤ w.length) && decide (w.length ≤ 30)) && w.all wsb
theorem isWb_iff {w : List Nat} : isWb w = true ↔ Wq w := by
  unfold isWb
  constructor
  · intro h
    rw [Bool.and_eq_true, Bool.and_eq_true, List.all_eq_true] at h
    exact ⟨fun z => by rw [z] at h; simp at h, fun c hc => wsb_iff.mp (h.2 c hc), of_decide_eq_true h.1.2⟩
  · intro h
    have := List.length_pos_iff.mpr h.ne
    rw [Bool.and_eq_true, Bool.and_eq_true, List.all_eq_true]
    exact ⟨⟨decide_eq_true (by omega), decide_eq_true h.len⟩, fun c hc => wsb_iff.mpr (h.sg c hc)⟩
theorem word_gen {w : List Nat} (hz : w.length ≤ 100000) : F_is_word [tx w] = M.ret (.bool (isWb w)) := by
  have hl := o_lenX (l := w) (by omega)
  refine ev_run ?_
  unfold g_is_word isWb
  refine ev_ret (ev_andV ?_ (ev_cb (ev_cons (x := .list ((w.map wsb).map PyData.bool)) (ev_compG (ds := w.map fun c => .str (S [c])) (ev_any (x := tx w) (ev_var rfl) (by show some (signsD (S w)) = _; rw [signs_S])) (small_of (by rw [List.length_map]; omega)) ?_) ev_nil) (by rw [o_allB]; congr 2; rw [List.all_map]; rfl)))
  · have := ev_chain (h := oLeD) (h' := oLeD) (f := dC (.int 1)) (g := dCB oLen (dCons (dVar 0) dNil)) (k := dC (.int 30)) (δ := [.vl (tx w)]) (x := .int 1) (y := .int ((w.length : Nat) : Int)) (w := .int 30) ev_c (ev_cb (ev_cons (ev_var rfl) ev_nil) hl) o_leD ev_c o_leD
    rw [show decide ((1 : Int) ≤ (w.length : Int)) = decide (1 ≤ w.length) from decide_eq_decide.mpr (by omega), show decide ((w.length : Int) ≤ 30) = decide (w.length ≤ 30) from decide_eq_decide.mpr (by omega)] at this
    exact this
  · have main : ∀ (w : List Nat) (x : Sl), compD (tgN 0) (nX dYes) (nX (dCall (fun ds => noX (F_is_word_sign ds)) (dCons (dVar 0) dNil))) (w.map fun c => .str (S [c])) [x] = M.ret ((w.map wsb).map PyData.bool) := by
      intro w
      induction w with
      | nil => exact fun _ => rfl
      | cons c w ih => exact fun x => ev_compC (δ' := [.vl (.str (S [c]))]) rfl (ev_call (ev_cons (ev_var rfl) ev_nil) (sign_gen c)) (ih _)
    exact main w .un
theorem words_gen {ws : List (List Nat)} (h : ∀ w ∈ ws, 32 ∉ w) (h0 : ws ≠ []) (hz : tot ws ≤ 100000) : F_are_words [tx (jn 32 ws)] = M.ret (.bool (ws.all isWb)) := by
  have hs := o_split h0 h (by omega)
  have hl := len_tot ws
  refine ev_run ?_
  unfold g_are_words
  refine ev_ret (ev_andV_t (ev_is (d := tx (jn 32 ws)) (ev_var rfl)) (ev_cb (ev_cons (x := .list ((ws.map isWb).map PyData.bool)) (ev_compG (ds := ws.map fun l => .str (S l)) (ev_any (x := .list (ws.map fun l => .str (S l))) (ev_meth (ev_var rfl) (ev_cons ev_c ev_nil) hs) rfl) (small_of (by rw [List.length_map]; omega)) ?_) ev_nil) (by rw [o_allB]; congr 2; rw [List.all_map]; rfl)))
  have main : ∀ (ws : List (List Nat)) (x : Sl), tot ws ≤ 100000 → compD (tgN 0) (nX dYes) (nX (dCall (fun ds => noX (F_is_word ds)) (dCons (dVar 0) dNil))) (ws.map fun l => .str (S l)) [x] = M.ret ((ws.map isWb).map PyData.bool) := by
    intro ws
    induction ws with
    | nil => exact fun _ _ => rfl
    | cons w ws ih =>
      intro x hz
      rw [tot] at hz
      exact ev_compC (δ' := [.vl (tx w)]) rfl (ev_call (ev_cons (ev_var rfl) ev_nil) (word_gen (by omega))) (ih _ (by omega))
  exact main ws .un hz
theorem jn_parts : ∀ t : List Nat, ∃ ws : List (List Nat), ws ≠ [] ∧ (∀ w ∈ ws, 32 ∉ w) ∧ jn 32 ws = t
  | [] => ⟨[[]], by simp, fun w hw => by rw [List.mem_singleton.mp hw]; exact List.not_mem_nil, rfl⟩
  | c :: t => by
    obtain ⟨ws, h0, h1, h2⟩ := jn_parts t
    by_cases hc : c = 32
    · refine ⟨[] :: ws, by simp, fun w hw => ?_, ?_⟩
      · rcases List.mem_cons.mp hw with rfl | hw
        · exact List.not_mem_nil
        · exact h1 w hw
      · rw [jn_cons 32 [] h0, h2, hc]; rfl
    · cases ws with
      | nil => exact absurd rfl h0
      | cons w ws =>
        refine ⟨(c :: w) :: ws, by simp, fun u hu => ?_, ?_⟩
        · rcases List.mem_cons.mp hu with rfl | hu
          · intro z
            rcases List.mem_cons.mp z with z | z
            · exact hc z.symm
            · exact h1 w List.mem_cons_self z
          · exact h1 u (List.mem_cons_of_mem _ hu)
        · cases ws with
          | nil => show c :: w = c :: t; rw [← h2]; rfl
          | cons u us => rw [jn_cons 32 (c :: w) (r := u :: us) (by simp), ← h2, jn_cons 32 w (r := u :: us) (by simp)]; rfl
theorem mem_jn {c : Nat} (hc : c ≠ 32) : ∀ {ws : List (List Nat)}, c ∈ jn 32 ws → ∃ w ∈ ws, c ∈ w
  | [], h => nomatch h
  | [a], h => ⟨a, List.mem_cons_self, h⟩
  | a :: b :: r, h => by
    rw [jn_cons 32 a (by simp)] at h
    rcases List.mem_append.mp h with h | h
    · exact ⟨a, List.mem_cons_self, h⟩
    · rcases List.mem_cons.mp h with h | h
      · exact absurd h hc
      · obtain ⟨w, hw, h⟩ := mem_jn hc h
        exact ⟨w, List.mem_cons_of_mem _ hw, h⟩
theorem not_all {ws : List (List Nat)} {w : List Nat} (hw : w ∈ ws) (h : ¬Wq w) : ws.all isWb = false := by
  cases q : ws.all isWb with
  | false => rfl
  | true => exact absurd (isWb_iff.mp (List.all_eq_true.mp q w hw)) h
theorem bad_sign {t : List Nat} {c : Nat} (hc : c ∈ t) (h1 : c ≠ 32) (h2 : ¬wsg c) (hz : t.length < 100000) : F_are_words [tx t] = M.ret (.bool false) := by
  obtain ⟨ws, h0, hn, rfl⟩ := jn_parts t
  have := jn_len 32 h0
  obtain ⟨w, hw, hcw⟩ := mem_jn h1 hc
  rw [words_gen hn h0 (by omega), not_all hw fun z => h2 (z.sg c hcw)]
theorem bad_part {ws : List (List Nat)} {w : List Nat} (hn : ∀ w ∈ ws, 32 ∉ w) (hw : w ∈ ws) (h : ¬Wq w) (hz : tot ws ≤ 100000) : F_are_words [tx (jn 32 ws)] = M.ret (.bool false) := by
  rw [words_gen hn (fun z => by rw [z] at hw; cases hw) hz, not_all hw h]
def azb (c : Nat) : Bool := decide (97 ≤ c) && decide (c ≤ 122)
theorem name_gen {h : List Nat} (hz : h.length ≤ 1000) : F_is_name [tx h] = M.ret (.bool ((decide (1 ≤ h.length) && decide (h.length ≤ 8)) && h.all azb)) := by
  have hl := o_lenX (l := h) (by omega)
  have hch := ev_chain (h := oLeD) (h' := oLeD) (f := dC (.int 1)) (g := dCB oLen (dCons (dVar 0) dNil)) (k := dC (.int 8)) (δ := [.vl (tx h)]) (x := .int 1) (y := .int ((h.length : Nat) : Int)) (w := .int 8) ev_c (ev_cb (ev_cons (ev_var rfl) ev_nil) hl) o_leD ev_c o_leD
  rw [show decide ((1 : Int) ≤ (h.length : Int)) = decide (1 ≤ h.length) from decide_eq_decide.mpr (by omega), show decide ((h.length : Int) ≤ 8) = decide (h.length ≤ 8) from decide_eq_decide.mpr (by omega)] at hch
  refine ev_run ?_
  unfold g_is_name
  generalize (decide (1 ≤ h.length) && decide (h.length ≤ 8)) = B at hch ⊢
  cases B with
  | false => exact ev_seqIf (b := true) (ev_or (b1 := false) (b2 := true) (ev_not (b := true) (ev_b (ev_is (d := tx h) (ev_var rfl)))) (ev_not (b := false) (ev_b hch))) (ite_T rfl (ev_seqR (ev_ret ev_c)))
  | true =>
    refine ev_pass (b := false) (ev_or (b1 := false) (b2 := false) (ev_not (b := true) (ev_b (ev_is (d := tx h) (ev_var rfl)))) (ev_not (b := true) (ev_b hch))) rfl ?_
    refine ev_ret (ev_cb (ev_cons (x := .list ((h.map azb).map PyData.bool)) (ev_compG (ds := h.map fun c => .str (S [c])) (ev_any (x := tx h) (ev_var rfl) (by show some (signsD (S h)) = _; rw [signs_S])) (small_of (by rw [List.length_map]; omega)) ?_) ev_nil) (by rw [o_allB]; congr 2; rw [List.all_map]; rfl))
    have main : ∀ (w : List Nat) (x : Sl), compD (tgN 0) (nX dYes) (nX (dChain oLeD oLeD (dC (.str "a")) (dVar 0) (dC (.str "z")))) (w.map fun c => .str (S [c])) [x] = M.ret ((w.map azb).map PyData.bool) := by
      intro w
      induction w with
      | nil => exact fun _ => rfl
      | cons c w ih => exact fun x => ev_compC (δ' := [.vl (.str (S [c]))]) rfl (ev_chain (x := .str (S [97])) (y := .str (S [c])) (w := .str (S [122])) ev_c (ev_var rfl) (le_sign 97 c) ev_c (le_sign c 122)) (ih _)
    exact main h .un
theorem no_name_len {h : List Nat} (hz : h.length ≤ 1000) (hl : h.length = 0 ∨ 8 < h.length) : F_is_name [tx h] = M.ret (.bool false) := by
  rw [name_gen hz]
  rcases hl with hl | hl
  · rw [decide_eq_false (by omega : ¬1 ≤ h.length)]; rfl
  · rw [decide_eq_false (by omega : ¬h.length ≤ 8), Bool.and_false]; rfl
theorem no_name_sign {h : List Nat} {c : Nat} (hz : h.length ≤ 1000) (hc : c ∈ h) (hb : azb c = false) : F_is_name [tx h] = M.ret (.bool false) := by
  have : h.all azb = false := by
    cases q : h.all azb with
    | false => rfl
    | true => rw [List.all_eq_true.mp q c hc] at hb; cases hb
  rw [name_gen hz, this, Bool.and_false]
theorem cue_no_tuple {d : D} (h : isD "tuple" d = false) (hi : noIns d = true) : F_is_cue [d] = M.ret (.bool false) := by
  refine ev_run ?_
  unfold g_is_cue
  exact ev_seqIf (b := true) (ev_or_t (ev_not (b := false) (ev_b (by rw [ev_is (ev_var rfl) hi, h])))) (ite_T rfl (ev_seqR (ev_ret ev_c)))
theorem cue_len {ds : List D} (h : ds.length ≠ 4) (hz : ds.length ≤ 100) : F_is_cue [.tuple ds] = M.ret (.bool false) := by
  refine ev_run ?_
  unfold g_is_cue
  exact ev_seqIf (b := true) (ev_or (b1 := false) (b2 := true) (ev_not (b := true) (ev_b (ev_is (d := .tuple ds) (ev_var rfl)))) (ev_b (ev_2 (ev_cb (ev_cons (ev_var rfl) ev_nil) o_lenT) ev_c (by rw [o_ne, decide_eq_false (by omega)]; rfl)))) (ite_T rfl (ev_seqR (ev_ret ev_c)))
theorem cue_whole {a b c d : D} {x y : Bool} (ha : F_is_whole [a] = M.ret (.bool x)) (hb : F_is_whole [b] = M.ret (.bool y)) (h : (x && y) = false) : F_is_cue [.tuple [a, b, c, d]] = M.ret (.bool false) := by
  refine ev_run ?_
  unfold g_is_cue
  refine ev_pass (b := false) (ev_or (b1 := false) (b2 := false) (ev_not (b := true) (ev_b (ev_is (d := .tuple [a, b, c, d]) (ev_var rfl)))) (ev_b (ev_2 (ev_cb (ev_cons (ev_var rfl) ev_nil) o_lenT) ev_c rfl))) rfl ?_
  refine ev_seqIf (b := true) ?_ (ite_T rfl (ev_seqR (ev_ret ev_c)))
  cases x with
  | false => exact ev_or_t (ev_not (b := false) (ev_b (ev_call (ds := [a]) (ev_cons (ev_2 (ev_var rfl) ev_c rfl) ev_nil) ha)))
  | true =>
    cases y with
    | false => exact ev_or (b1 := false) (b2 := true) (ev_not (b := true) (ev_b (ev_call (ds := [a]) (ev_cons (ev_2 (ev_var rfl) ev_c rfl) ev_nil) ha))) (ev_not (b := false) (ev_b (ev_call (ds := [b]) (ev_cons (ev_2 (ev_var rfl) ev_c rfl) ev_nil) hb)))
    | true => cases h
theorem cue_rest {b e : Int} {c d : D} {x : Bool} (h : 0 ≤ b ∧ b < e → dAndV (dCall (fun ds => noX (F_is_name ds)) (dCons (d2 oIx (dVar 0) (dC (.int 2))) dNil)) (dCall (fun ds => noX (F_are_words ds)) (dCons (d2 oIx (dVar 0) (dC (.int 3))) dNil)) [.vl (.tuple [.int b, .int e, c, d])] = M.ret (.bool false)) : F_is_cue [.tuple [.int b, .int e, c, d]] = M.ret (.bool false) := by
  refine ev_run ?_
  unfold g_is_cue
  refine ev_pass (b := false) (ev_or (b1 := false) (b2 := false) (ev_not (b := true) (ev_b (ev_is (d := .tuple [.int b, .int e, c, d]) (ev_var rfl)))) (ev_b (ev_2 (ev_cb (ev_cons (ev_var rfl) ev_nil) o_lenT) ev_c rfl))) rfl ?_
  refine ev_pass (b := false) (ev_or (b1 := false) (b2 := false) (ev_not (b := true) (ev_b (ev_call (ds := [.int b]) (ev_cons (ev_2 (ev_var rfl) ev_c rfl) ev_nil) (is_whole_ev b)))) (ev_not (b := true) (ev_b (ev_call (ds := [.int e]) (ev_cons (ev_2 (ev_var rfl) ev_c rfl) ev_nil) (is_whole_ev e))))) rfl ?_
  have hch := ev_chain (h := oLeD) (h' := oLt) (f := dC (.int 0)) (g := d2 oIx (dVar 0) (dC (.int 0))) (k := d2 oIx (dVar 0) (dC (.int 1))) (δ := [.vl (.tuple [.int b, .int e, c, d])]) (x := .int 0) (y := .int b) (w := .int e) ev_c (ev_2 (ev_var rfl) ev_c rfl) o_leD (ev_2 (ev_var rfl) ev_c rfl) o_lt
  by_cases q : 0 ≤ b ∧ b < e
  · rw [decide_eq_true q.1, decide_eq_true q.2] at hch
    exact ev_ret (ev_andV_t hch (h q))
  · have : (decide (0 ≤ b) && decide (b < e)) = false := by
      rw [← Bool.decide_and]
      exact decide_eq_false q
    rw [this] at hch
    exact ev_ret (ev_andV_f hch)
theorem cue_hand {b e : Int} {c d : D} (h : F_is_name [c] = M.ret (.bool false)) : F_is_cue [.tuple [.int b, .int e, c, d]] = M.ret (.bool false) :=
  cue_rest (x := true) fun _ => ev_andV_f (ev_call (ds := [c]) (ev_cons (ev_2 (ev_var rfl) ev_c rfl) ev_nil) h)
theorem cue_words {b e : Int} {c d : D} (hn : F_is_name [c] = M.ret (.bool true)) (h : F_are_words [d] = M.ret (.bool false)) : F_is_cue [.tuple [.int b, .int e, c, d]] = M.ret (.bool false) :=
  cue_rest (x := true) fun _ => ev_andV_t (ev_call (ds := [c]) (ev_cons (ev_2 (ev_var rfl) ev_c rfl) ev_nil) hn) (ev_call (ds := [d]) (ev_cons (ev_2 (ev_var rfl) ev_c rfl) ev_nil) h)
theorem cue_be {b e : Int} {c d : D} (h : ¬(0 ≤ b ∧ b < e)) : F_is_cue [.tuple [.int b, .int e, c, d]] = M.ret (.bool false) := cue_rest (x := true) fun z => absurd z h
end CT
open PySem PySem.Spec L2 DL CT TX NumText
namespace K15
theorem o_pow15' : oPow (.int 10) (.int 15) = some (.int 1000000000000000) := by kernel_rfl
theorem o_pow6' : oPow (.int 10) (.int 6) = some (.int 1000000) := by kernel_rfl
theorem pk_in {l : List Int} {i lo hi : Int} (h0 : 0 ≤ i) (h1 : i < l.length) (h : ∀ x ∈ l, lo ≤ x ∧ x ≤ hi) : lo ≤ pk l i ∧ pk l i ≤ hi := by
  unfold pk
  rw [List.getD_eq_getElem?_getD, List.getElem?_eq_getElem (by omega)]
  exact h _ (List.getElem_mem _)
structure Cv where
  b : Int
  e : Int
  h : List Nat
  ws : List (List Nat)
structure CvOk (c : Cv) : Prop where
  b0 : 0 ≤ c.b
  be : c.b < c.e
  b1 : c.b ≤ 1000000000000000
  e1 : c.e ≤ 2000000000000000
  hd : Hd c.h
  wq : Wsq c.ws
def cv (c : Cv) : D := cu c.b c.e c.h (jn 32 c.ws)
theorem CvOk.tot {c : Cv} (h : CvOk c) : tot c.ws ≤ 372 := by
  have := tot_le (n := 30) (ws := c.ws) fun w hw => (h.wq.1 w hw).len
  have h31 : (30 + 1) * c.ws.length ≤ 31 * 12 := Nat.mul_le_mul (Nat.le_refl _) h.wq.2.2
  omega
theorem CvOk.len {c : Cv} (h : CvOk c) : (jn 32 c.ws).length ≤ 400 := by
  have := jn_len 32 h.wq.2.1
  have := h.tot
  omega
theorem cue_ev (c : Int) (g : Bool) : ∃ v : Cv, CvOk v ∧ F__law_cue [.int c, .bool g] = M.ret (cv v) := by
  obtain ⟨n, ⟨n0, n1⟩, hn⟩ := mixed_ev c 48271 (by decide) (by decide)
  obtain ⟨m, ⟨m0, m1⟩, hm⟩ := mixed_ev c 69621 (by decide) (by decide)
  obtain ⟨k, ⟨k0, k1⟩, hk⟩ := mixed_ev c 16807 (by decide) (by decide)
  obtain ⟨h, hh, he⟩ := hand_ev m m0
  obtain ⟨ws, hw, hwe⟩ := words_ev k g k0
  obtain ⟨b, hb⟩ : ∃ b, b = pk [n % 100000, c / 2 % 1000000000000000] (c % 2) := ⟨_, rfl⟩
  obtain ⟨l, hl⟩ : ∃ l, l = pk [0, n / 3 % 5000, n / 3 % 1000000] (n % 3) := ⟨_, rfl⟩
  have b1 : 0 ≤ b ∧ b ≤ 1000000000000000 := by
    rw [hb]
    refine pk_in (by omega) (by show _ < ((2 : Nat) : Int); omega) fun x hx => ?_
    simp only [List.mem_cons, List.not_mem_nil, or_false] at hx
    rcases hx with rfl | rfl <;> omega
  have l1 : 0 ≤ l ∧ l ≤ 1000000 := by
    rw [hl]
    refine pk_in (by omega) (by show _ < ((3 : Nat) : Int); omega) fun x hx => ?_
    simp only [List.mem_cons, List.not_mem_nil, or_false] at hx
    rcases hx with rfl | rfl | rfl <;> omega
  refine ⟨⟨b, b + 1 + l, h, ws⟩, ⟨b1.1, by show b < b + 1 + l; omega, b1.2, by show b + 1 + l ≤ _; omega, hh, hw⟩, ev_run ?_⟩
  unfold g__law_cue
  refine ev_seq (ev_asg (d := .int n) (ev_call (ev_cons (ev_var rfl) (ev_cons ev_c ev_nil)) hn)) ?_
  refine ev_seq (ev_asg (d := .int b) (by rw [hb]; exact ev_2 (ev_lst (ev_cons (ev_2 (ev_var rfl) ev_c (o_mod (by decide))) (ev_cons (ev_2 (ev_2 (ev_var rfl) ev_c (o_div (bDiv_of (by decide) (by decide)))) (ev_2 ev_c ev_c o_pow15') (o_mod (by decide))) ev_nil)) rfl) (ev_2 (ev_var rfl) ev_c (o_mod (by decide))) (ix_pick2 (by omega) (by omega)))) ?_
  refine ev_seq (ev_asg (d := .int (b + 1 + l)) (by rw [hl]; exact ev_2 (ev_2 (ev_var rfl) ev_c o_add) (ev_2 (ev_lst (ev_cons ev_c (ev_cons (ev_2 (ev_2 (ev_var rfl) ev_c (o_div (bDiv_of (by decide) (by decide)))) ev_c (o_mod (by decide))) (ev_cons (ev_2 (ev_2 (ev_var rfl) ev_c (o_div (bDiv_of (by decide) (by decide)))) (ev_2 ev_c ev_c o_pow6') (o_mod (by decide))) ev_nil))) rfl) (ev_2 (ev_var rfl) ev_c (o_mod (by decide))) (ix_pick3 (by omega) (by omega))) o_add)) ?_
  exact ev_ret (ev_tup (ev_cons (ev_var rfl) (ev_cons (ev_var rfl) (ev_cons (ev_call (ev_cons (ev_call (ev_cons (ev_var rfl) (ev_cons ev_c ev_nil)) hm) ev_nil) he) (ev_cons (ev_call (ev_cons (ev_call (ev_cons (ev_var rfl) (ev_cons ev_c ev_nil)) hk) (ev_cons (ev_var rfl) ev_nil)) hwe) ev_nil)))) rfl)
theorem cHi_n {m n : Nat} (h : n ≤ m) : cHi m (some (n : Int)) = n := by
  show (max 0 (min (if (n : Int) < 0 then (n : Int) + m else n) m)).toNat = n
  rw [if_neg (by omega)]
  omega
theorem cLo_n {m n : Nat} (h : n ≤ m) : cLo m (some (n : Int)) = n := by
  show (max 0 (min (if (n : Int) < 0 then (n : Int) + m else n) m)).toNat = n
  rw [if_neg (by omega)]
  omega
theorem cut_h {l : List Nat} (hl : l.length ≤ 1000) {n : Nat} (hn : n ≤ l.length) : oCutS none (some (n : Int)) (tx l) = some (tx (l.take n)) := by
  rw [o_cut hl none (some (n : Int)), cHi_n hn]
  rfl
theorem cut_t {l : List Nat} (hl : l.length ≤ 1000) {n : Nat} (hn : n ≤ l.length) : oCutS (some (n : Int)) none (tx l) = some (tx (l.drop n)) := by
  rw [o_cut hl (some (n : Int)) none, cLo_n hn]
  show some (PyData.str (S ((l.drop n).take (l.length - n)))) = _
  rw [List.take_of_length_le (by rw [List.length_drop]; omega)]
theorem at_all {L : List D} {P : D → Prop} (h : ∀ x ∈ L, P x) {i : Int} (h0 : 0 ≤ i) (h1 : i < L.length) : ∃ d, oIx (.list L) (.int i) = some d ∧ P d := by
  have hi : i.toNat < L.length := by omega
  have := L2.atI_nat (List.getElem?_eq_getElem hi)
  rw [show ((i.toNat : Nat) : Int) = i by omega] at this
  exact ⟨_, this, h _ (List.getElem_mem hi)⟩
theorem mulA : oMulS (.str "a") (.int 30) = some (tx (List.replicate 30 97)) := by kernel_rfl
theorem mulB : oMulS (.str "b") (.int 31) = some (tx (List.replicate 31 98)) := by kernel_rfl
theorem wq_no {w : List Nat} (h : Wq w) : 32 ∉ w := h.wd.no
theorem no_text {d : D} (h : isD "str" d = false) (hi : noIns d = true) : F_are_words [d] = M.ret (.bool false) := by
  refine ev_run ?_
  unfold g_are_words
  exact ev_ret (ev_andV_f (by rw [ev_is (ev_var rfl) hi, h]))
theorem no_nm {d : D} (h : isD "str" d = false) (hi : noIns d = true) : F_is_name [d] = M.ret (.bool false) := by
  refine ev_run ?_
  unfold g_is_name
  exact ev_seqIf (b := true) (ev_or_t (ev_not (b := false) (ev_b (by rw [ev_is (ev_var rfl) hi, h])))) (ite_T rfl (ev_seqR (ev_ret ev_c)))
theorem nl_bad : ¬wsg 10 := by unfold wsg; omega
theorem tab_bad : ¬wsg 9 := by unfold wsg; omega
theorem jn_snoc (ws : List (List Nat)) (w : List Nat) (h : ws ≠ []) : jn 32 (ws ++ [w]) = jn 32 ws ++ 32 :: w := by
  induction ws with
  | nil => exact absurd rfl h
  | cons a r ih =>
    cases r with
    | nil => rfl
    | cons b r => rw [List.cons_append, jn_cons 32 a (by simp), ih (by simp), jn_cons 32 a (by simp)]; simp
theorem tot_app : ∀ (a b : List (List Nat)), tot (a ++ b) = tot a + tot b
  | [], b => by show tot b = 0 + tot b; omega
  | x :: a, b => by
    show x.length + 1 + tot (a ++ b) = x.length + 1 + tot a + tot b
    rw [tot_app a b]
    omega
theorem jn_last (ws : List (List Nat)) (u : List Nat) (h : ws ≠ []) : ∃ vs w, ws = vs ++ [w] ∧ jn 32 ws ++ u = jn 32 (vs ++ [w ++ u]) := by
  refine ⟨ws.dropLast, ws.getLast h, (List.dropLast_concat_getLast h).symm, ?_⟩
  obtain ⟨vs, w, e⟩ : ∃ vs w, ws = vs ++ [w] := ⟨_, _, (List.dropLast_concat_getLast h).symm⟩
  subst e
  rw [List.dropLast_concat, List.getLast_concat]
  cases vs with
  | nil => rfl
  | cons a r => rw [jn_snoc _ _ (by simp), jn_snoc _ _ (by simp), List.append_assoc]; rfl
theorem no_words_ev {c : Cv} (hc : CvOk c) (n : Int) : ∃ d, F__law_no_words [tx (jn 32 c.ws), .int n] = M.ret d ∧ F_are_words [d] = M.ret (.bool false) := by
  have hl := hc.len
  have ht := hc.tot
  have hne := hc.wq.2.1
  have hno : ∀ w ∈ c.ws, 32 ∉ w := fun w hw => wq_no (hc.wq.1 w hw)
  have nil_no : ¬Wq [] := fun z => z.ne rfl
  have w1 : F_are_words [tx (32 :: jn 32 c.ws)] = M.ret (.bool false) := by
    have := bad_part (ws := [] :: c.ws) (w := []) (fun w hw => by rcases List.mem_cons.mp hw with rfl | hw; exact List.not_mem_nil; exact hno w hw) List.mem_cons_self nil_no (by show 0 + 1 + tot c.ws ≤ _; omega)
    rw [jn_cons 32 [] hne] at this
    exact this
  have w2 : F_are_words [tx (jn 32 c.ws ++ [32])] = M.ret (.bool false) := by
    have := bad_part (ws := c.ws ++ [[]]) (w := []) (fun w hw => by rcases List.mem_append.mp hw with hw | hw; exact hno w hw; rw [List.mem_singleton.mp hw]; exact List.not_mem_nil) (List.mem_append_right _ List.mem_cons_self) nil_no (by rw [tot_app]; show _ + (0 + 1 + 0) ≤ _; omega)
    rw [jn_snoc _ _ hne] at this
    exact this
  have w3 : F_are_words [tx []] = M.ret (.bool false) := bad_part (ws := [[]]) (w := []) (fun w hw => by rw [List.mem_singleton.mp hw]; exact List.not_mem_nil) List.mem_cons_self nil_no (by decide)
  have w4 : F_are_words [tx (jn 32 c.ws ++ [32, 32, 97])] = M.ret (.bool false) := by
    have := bad_part (ws := c.ws ++ [[]] ++ [[97]]) (w := []) (fun w hw => by
      rcases List.mem_append.mp hw with hw | hw
      · rcases List.mem_append.mp hw with hw | hw
        · exact hno w hw
        · rw [List.mem_singleton.mp hw]; exact List.not_mem_nil
      · rw [List.mem_singleton.mp hw]; decide) (List.mem_append_left _ (List.mem_append_right _ List.mem_cons_self)) nil_no (by rw [tot_app, tot_app]; show _ + (0 + 1 + 0) + (1 + 1 + 0) ≤ _; omega)
    rw [jn_snoc _ _ (by simp), jn_snoc _ _ hne, List.append_assoc] at this
    exact this
  have w7 : F_are_words [tx (jn 32 c.ws ++ List.replicate 30 97)] = M.ret (.bool false) := by
    obtain ⟨vs, w, e1, e2⟩ := jn_last c.ws (List.replicate 30 97) hne
    rw [e2]
    have hw := hc.wq.1 w (by rw [e1]; exact List.mem_append_right _ List.mem_cons_self)
    have h1 := List.length_pos_iff.mpr hw.ne
    refine bad_part (w := w ++ List.replicate 30 97) (fun u hu => ?_) (List.mem_append_right _ List.mem_cons_self) (fun z => ?_) ?_
    · rcases List.mem_append.mp hu with hu | hu
      · exact hno u (by rw [e1]; exact List.mem_append_left _ hu)
      · rw [List.mem_singleton.mp hu]
        intro z
        rcases List.mem_append.mp z with z | z
        · exact wq_no hw z
        · have := List.eq_of_mem_replicate z; omega
    · have := z.len
      rw [List.length_append, List.length_replicate] at this
      omega
    · rw [e1, tot_app] at ht
      rw [tot_app]
      have : tot [w] = w.length + 1 + 0 := rfl
      have : tot [w ++ List.replicate 30 97] = (w ++ List.replicate 30 97).length + 1 + 0 := rfl
      rw [List.length_append, List.length_replicate] at this
      omega
  have w11 : F_are_words [tx (List.replicate 31 98 ++ 32 :: jn 32 c.ws)] = M.ret (.bool false) := by
    have := bad_part (ws := List.replicate 31 98 :: c.ws) (w := List.replicate 31 98) (fun w hw => by rcases List.mem_cons.mp hw with rfl | hw; decide; exact hno w hw) List.mem_cons_self (fun z => by have := z.len; rw [List.length_replicate] at this; omega) (by show (List.replicate 31 98).length + 1 + tot c.ws ≤ _; rw [List.length_replicate]; omega)
    rw [jn_cons 32 _ hne] at this
    exact this
  generalize hT : jn 32 c.ws = t at *
  have hlen := o_lenX (l := t) (by omega)
  obtain ⟨at', hat⟩ : ∃ a : Nat, (a : Int) = n % ((t.length : Int) + 1) := ⟨(n % ((t.length : Int) + 1)).toNat, by have := Int.emod_nonneg n (b := (t.length : Int) + 1) (by omega); omega⟩
  have hat1 : at' ≤ t.length := by have := Int.emod_lt_of_pos n (b := (t.length : Int) + 1) (by omega); omega
  have c1 := cut_h (l := t) (by omega) hat1
  have c2 := cut_t (l := t) (by omega) hat1
  have lt : (t.take at').length = at' := by rw [List.length_take]; omega
  have ld : (t.drop at').length = t.length - at' := List.length_drop
  have w5 : F_are_words [tx (t.take at' ++ [10] ++ t.drop at')] = M.ret (.bool false) := bad_sign (c := 10) (List.mem_append_left _ (List.mem_append_right _ List.mem_cons_self)) (by decide) nl_bad (by rw [List.length_append, List.length_append, lt, ld]; show at' + 1 + _ < _; omega)
  have w6 : F_are_words [tx (t.take at' ++ [9] ++ t.drop at')] = M.ret (.bool false) := bad_sign (c := 9) (List.mem_append_left _ (List.mem_append_right _ List.mem_cons_self)) (by decide) tab_bad (by rw [List.length_append, List.length_append, lt, ld]; show at' + 1 + _ < _; omega)
  have hall : ∀ x ∈ [tx ([32] ++ t), tx (t ++ [32]), tx [], tx (t ++ [32, 32, 97]), tx (t.take at' ++ [10] ++ t.drop at'), tx (t.take at' ++ [9] ++ t.drop at')] ++ [tx (t ++ List.replicate 30 97), PyData.none, PyData.list [tx t], PyData.int 7, tx (List.replicate 31 98 ++ [32] ++ t)], F_are_words [x] = M.ret (.bool false) := by
    intro x hx
    simp only [List.cons_append, List.nil_append, List.mem_cons, List.not_mem_nil, or_false] at hx
    rcases hx with rfl | rfl | rfl | rfl | rfl | rfl | rfl | rfl | rfl | rfl | rfl
    · exact w1
    · exact w2
    · exact w3
    · exact w4
    · rw [show t.take at' ++ [10] ++ t.drop at' = t.take at' ++ [10] ++ t.drop at' from rfl]; exact w5
    · exact w6
    · exact w7
    · exact no_text rfl rfl
    · exact no_text rfl rfl
    · exact no_text rfl rfl
    · rw [show List.replicate 31 98 ++ [32] ++ t = List.replicate 31 98 ++ 32 :: t by simp]; exact w11
  obtain ⟨d, hd, hp⟩ := at_all hall (i := n / 512 % 11) (by omega) (by show _ < ((11 : Nat) : Int); omega)
  refine ⟨d, ev_run ?_, hp⟩
  unfold g__law_no_words
  have ad : ∀ (a b : List Nat), a.length + b.length ≤ 1000 → oAdd (tx a) (tx b) = some (tx (a ++ b)) := fun a b h => add_txt h
  refine ev_seq (ev_asg (d := .int (at' : Int)) (by rw [hat]; exact ev_2 (ev_var rfl) (ev_2 (ev_cb (ev_cons (ev_var rfl) ev_nil) hlen) ev_c o_add) (o_mod (by omega)))) ?_
  have ins : ∀ (z : List Nat) (x3 : Sl), z.length ≤ 10 → d2 oAdd (d2 oAdd (dCutS (dVar 0) dNoPart (dPart (dVar 2))) (dC (tx z))) (dCutS (dVar 0) (dPart (dVar 2)) dNoPart) [.vl (tx t), .vl (.int n), .vl (.int (at' : Int)), x3] = M.ret (tx (t.take at' ++ z ++ t.drop at')) := fun z x3 hz => ev_2 (ev_2 (ev_cutS (ev_var rfl) ev_nopart (ev_part (ev_var rfl)) c1) ev_c (ad _ _ (by omega))) (ev_cutS (ev_var rfl) (ev_part (ev_var rfl)) ev_nopart c2) (ad _ _ (by rw [List.length_append]; omega))
  refine ev_seq (ev_asg (ev_lst (ev_cons (ev_2 (x := tx [32]) ev_c (ev_var rfl) (ad _ _ (by show 1 + _ ≤ _; omega))) (ev_cons (ev_2 (y := tx [32]) (ev_var rfl) ev_c (ad _ _ (by show _ + 1 ≤ _; omega))) (ev_cons (x := tx []) ev_c (ev_cons (ev_2 (y := tx [32, 32, 97]) (ev_var rfl) ev_c (ad _ _ (by show _ + 3 ≤ _; omega))) (ev_cons (ins [10] _ (by decide)) (ev_cons (ins [9] _ (by decide)) ev_nil)))))) rfl)) ?_
  refine ev_seq (ev_asg (ev_2 (ev_var rfl) (ev_lst (ev_cons (ev_2 (ev_var rfl) (ev_2 ev_c ev_c mulA) (ad _ _ (by rw [List.length_replicate]; omega))) (ev_cons ev_c (ev_cons (ev_lst (ev_cons (ev_var rfl) ev_nil) rfl) (ev_cons ev_c (ev_cons (ev_2 (ev_2 (y := tx [32]) (ev_2 ev_c ev_c mulB) ev_c (ad _ _ (by decide))) (ev_var rfl) (ad _ _ (by rw [List.length_append, List.length_replicate]; show 31 + 1 + _ ≤ _; omega))) ev_nil))))) rfl) (o_addL rfl))) ?_
  exact ev_ret (ev_2 (ev_var rfl) (ev_2 (ev_2 (ev_var rfl) ev_c (o_div (bDiv_of (by decide) (by decide)))) ev_c (o_mod (by decide))) hd)
end K15
open PySem PySem.Spec L2 DL CT TX NumText
namespace K15
theorem azb_A : azb 65 = false := by decide
theorem azb_1 : azb 49 = false := by decide
theorem azb_s : azb 32 = false := by decide
theorem no_hand_ev {h : List Nat} (hh : Hd h) (n : Int) : ∃ d, F__law_no_hand [tx h, .int n] = M.ret d ∧ F_is_name [d] = M.ret (.bool false) := by
  have hl := hh.len
  have h1 := List.length_pos_iff.mpr hh.ne
  have hlen := o_lenX (l := h) (by omega)
  obtain ⟨at', hat⟩ : ∃ a : Nat, (a : Int) = n % (h.length : Int) := ⟨(n % (h.length : Int)).toNat, by have := Int.emod_nonneg n (b := (h.length : Int)) (by omega); omega⟩
  have hat1 : at' < h.length := by have := Int.emod_lt_of_pos n (b := (h.length : Int)) (by omega); omega
  have c1 := cut_h (l := h) (by omega) (Nat.le_of_lt hat1)
  have c2 := cut_t (l := h) (by omega) (n := at' + 1) (by omega)
  have lt : (h.take at').length = at' := by rw [List.length_take]; omega
  have ld : (h.drop (at' + 1)).length = h.length - (at' + 1) := List.length_drop
  have hz : ∀ z : Nat, (h.take at' ++ [z] ++ h.drop (at' + 1)).length ≤ 1000 := fun z => by rw [List.length_append, List.length_append, lt, ld]; show at' + 1 + _ ≤ _; omega
  have sg : ∀ z : Nat, azb z = false → F_is_name [tx (h.take at' ++ [z] ++ h.drop (at' + 1))] = M.ret (.bool false) := fun z hb => no_name_sign (c := z) (hz z) (List.mem_append_left _ (List.mem_append_right _ List.mem_cons_self)) hb
  have ad : ∀ (a b : List Nat), a.length + b.length ≤ 1000 → oAdd (tx a) (tx b) = some (tx (a ++ b)) := fun a b h => add_txt h
  have hall : ∀ x ∈ [tx [], tx (h ++ [97, 98, 99, 100, 101, 102, 103, 104]), tx (h.take at' ++ [65] ++ h.drop (at' + 1)), tx (h.take at' ++ [49] ++ h.drop (at' + 1))] ++ [tx (h.take at' ++ [32] ++ h.drop (at' + 1)), PyData.none, PyData.list [tx h], PyData.int 0], F_is_name [x] = M.ret (.bool false) := by
    intro x hx
    simp only [List.cons_append, List.nil_append, List.mem_cons, List.not_mem_nil, or_false] at hx
    rcases hx with rfl | rfl | rfl | rfl | rfl | rfl | rfl | rfl
    · exact no_name_len (by decide) (.inl rfl)
    · exact no_name_len (by rw [List.length_append]; show _ + 8 ≤ _; omega) (.inr (by rw [List.length_append]; show _ < _ + 8; omega))
    · exact sg 65 azb_A
    · exact sg 49 azb_1
    · exact sg 32 azb_s
    · exact no_nm rfl rfl
    · exact no_nm rfl rfl
    · exact no_nm rfl rfl
  obtain ⟨d, hd, hp⟩ := at_all hall (i := n / 512 % 8) (by omega) (by show _ < ((8 : Nat) : Int); omega)
  refine ⟨d, ev_run ?_, hp⟩
  unfold g__law_no_hand
  have ins : ∀ (z : Nat) (x3 : Sl), d2 oAdd (d2 oAdd (dCutS (dVar 0) dNoPart (dPart (dVar 2))) (dC (tx [z]))) (dCutS (dVar 0) (dPart (d2 oAdd (dVar 2) (dC (.int 1)))) dNoPart) [.vl (tx h), .vl (.int n), .vl (.int (at' : Int)), x3] = M.ret (tx (h.take at' ++ [z] ++ h.drop (at' + 1))) := fun z x3 => ev_2 (ev_2 (ev_cutS (ev_var rfl) ev_nopart (ev_part (ev_var rfl)) c1) ev_c (ad _ _ (by show _ + 1 ≤ _; omega))) (ev_cutS (ev_var rfl) (ev_part (ev_2 (ev_var rfl) ev_c o_add)) ev_nopart c2) (ad _ _ (by rw [List.length_append]; show _ + 1 + _ ≤ _; omega))
  refine ev_seq (ev_asg (d := .int (at' : Int)) (by rw [hat]; exact ev_2 (ev_var rfl) (ev_cb (ev_cons (ev_var rfl) ev_nil) hlen) (o_mod (by omega)))) ?_
  refine ev_seq (ev_asg (ev_lst (ev_cons (x := tx []) ev_c (ev_cons (ev_2 (y := tx [97, 98, 99, 100, 101, 102, 103, 104]) (ev_var rfl) ev_c (ad _ _ (by show _ + 8 ≤ _; omega))) (ev_cons (ins 65 _) (ev_cons (ins 49 _) ev_nil)))) rfl)) ?_
  refine ev_seq (ev_asg (ev_2 (ev_var rfl) (ev_lst (ev_cons (ins 32 _) (ev_cons ev_c (ev_cons (ev_lst (ev_cons (ev_var rfl) ev_nil) rfl) (ev_cons ev_c ev_nil)))) rfl) (o_addL rfl))) ?_
  exact ev_ret (ev_2 (ev_var rfl) (ev_2 (ev_2 (ev_var rfl) ev_c (o_div (bDiv_of (by decide) (by decide)))) ev_c (o_mod (by decide))) hd)
theorem cues_no_list {d : D} (h : isD "list" d = false) (hi : noIns d = true) : F_are_cues [d] = M.ret (.bool false) := by
  refine ev_run ?_
  unfold g_are_cues
  exact ev_seqIf (b := true) (ev_or_t (ev_not (b := false) (ev_b (by rw [ev_is (ev_var rfl) hi, h])))) (ite_T rfl (ev_seqR (ev_ret ev_c)))
theorem all_cues {ds : List D} (k : D → Bool) (h : ∀ d ∈ ds, F_is_cue [d] = M.ret (.bool (k d))) (hz : ds.length ≤ 1000) : dCB oAll (dCons (dCompG 1 [] (tgN 0) (dAny (dVar 0)) dYes (dCall (fun ds => noX (F_is_cue ds)) (dCons (dVar 0) dNil))) dNil) [.vl (.list ds)] = M.ret (.bool (ds.all k)) := by
  refine ev_cb (ev_cons (x := .list (ds.map fun d => .bool (k d))) (ev_compG (ev_any (ev_var rfl) rfl) (small_of (by omega)) (ev_compM (h := fun d => .bool (k d)) (fun δ => ∃ s, δ = [s]) _ _ ⟨_, rfl⟩ fun d hd δ hδ => ?_)) ev_nil) ?_
  · obtain ⟨s, rfl⟩ := hδ
    exact ⟨[.vl d], rfl, ev_call (ev_cons (ev_var rfl) ev_nil) (h d hd), _, rfl⟩
  · have := o_allB (ds.map k)
    rw [List.map_map, List.all_map] at this
    exact this
theorem cues_not_all {ds : List D} (k : D → Bool) (h : ∀ d ∈ ds, F_is_cue [d] = M.ret (.bool (k d))) (hz : ds.length ≤ 1000) (hn : ds.all k = false) : F_are_cues [.list ds] = M.ret (.bool false) := by
  have ha := all_cues k h hz
  rw [hn] at ha
  refine ev_run ?_
  unfold g_are_cues
  exact ev_seqIf (b := true) (ev_or (b1 := false) (b2 := true) (ev_not (b := true) (ev_b (ev_is (d := .list ds) (ev_var rfl)))) (ev_not (b := false) (ev_b ha))) (ite_T rfl (ev_seqR (ev_ret ev_c)))
open Classical in
theorem cues_mixed {ds : List D} {x : D} (hx : x ∈ ds) (hn : F_is_cue [x] = M.ret (.bool false)) (h : ∀ d ∈ ds, F_is_cue [d] = M.ret (.bool true) ∨ F_is_cue [d] = M.ret (.bool false)) (hz : ds.length ≤ 1000) : F_are_cues [.list ds] = M.ret (.bool false) := by
  have tf : (M.ret (PyData.bool true) : M D) ≠ M.ret (.bool false) := by
    intro z
    unfold M.ret at z
    injection z with z
    injection z with z
    injection z with z
    cases z
  refine cues_not_all (fun d => decide (F_is_cue [d] = M.ret (.bool true))) (fun d hd => ?_) hz ?_
  · rcases h d hd with q | q
    · rw [decide_eq_true q]; exact q
    · rw [decide_eq_false (by rw [q]; exact tf.symm)]; exact q
  · cases q : ds.all fun d => decide (F_is_cue [d] = M.ret (.bool true)) with
    | false => rfl
    | true =>
      have := of_decide_eq_true (List.all_eq_true.mp q x hx)
      rw [hn] at this
      exact absurd this.symm tf
def Nc (d : D) : Prop := F_is_cue [d] = M.ret (.bool false) ∧ F_are_cues [d] = M.ret (.bool false)
theorem nc_tup {ds : List D} (h : F_is_cue [.tuple ds] = M.ret (.bool false)) : Nc (.tuple ds) := ⟨h, cues_no_list rfl rfl⟩
theorem nc_none : Nc .none := ⟨cue_no_tuple rfl rfl, cues_no_list rfl rfl⟩
theorem nc_str (s : Str) : Nc (.str s) := ⟨cue_no_tuple rfl rfl, cues_no_list rfl rfl⟩
theorem nc_int (i : Int) : Nc (.int i) := ⟨cue_no_tuple rfl rfl, cues_no_list rfl rfl⟩
theorem nc_lst (i : Int) {ds : List D} (h : ∀ d ∈ ds, F_is_cue [d] = M.ret (.bool false)) (hi : noIns (.list (.int i :: ds)) = true) (hz : ds.length ≤ 100) : Nc (.list (.int i :: ds)) := ⟨cue_no_tuple rfl hi, cues_not_all (fun _ => false) (fun d hd => by
  rcases List.mem_cons.mp hd with rfl | hd
  · exact (nc_int i).1
  · exact h d hd) (by rw [List.length_cons]; omega) rfl⟩
theorem way {P : D → Prop} {w j : Int} {f : DS → M D} {gt : DS → M Out} {δ : DS} (hw : δ[2]? = some (.vl (.int w))) (h1 : w = j → ∃ d, f δ = M.ret d ∧ P d) (h2 : w ≠ j → ∃ d, gt δ = M.ret (.rt d) ∧ P d) : ∃ d, gSeq (gIf (dB (d2 oEq (dVar 2) (dC (.int j)))) (gRet f) gNext) gt δ = M.ret (.rt d) ∧ P d := by
  by_cases q : w = j
  · obtain ⟨d, e, p⟩ := h1 q
    exact ⟨d, ev_seqIf (b := true) (ev_b (ev_2 (ev_var hw) ev_c (by rw [o_eq, decide_eq_true q]))) (ite_T rfl (ev_seqR (ev_ret e))), p⟩
  · obtain ⟨d, e, p⟩ := h2 q
    exact ⟨d, ev_pass (b := false) (ev_b (ev_2 (ev_var hw) ev_c (by rw [o_eq, decide_eq_false q]))) rfl e, p⟩
theorem o_strQ {v : Int} (h : v.natAbs < 1267650600228229401496703205376) : oStr [.int v] = some (.str (Str.ofString (toString v))) := by
  refine if_pos ?_
  by_cases hz : v.natAbs = 0
  · rw [hz]; decide
  · have : v.natAbs.log2 < 100 := (Nat.log2_lt hz).mpr (by
      have e : (2 : Nat) ^ 100 = 1267650600228229401496703205376 := by decide
      omega)
    omega
theorem spoiled_ev {c : Cv} (hc : CvOk c) (n : Int) : ∃ d, F__law_spoiled [cv c, .int n] = M.ret d ∧ Nc d := by
  have hb0 := hc.b0
  have hb1 := hc.b1
  have he1 := hc.e1
  have hbe := hc.be
  obtain ⟨w, hw⟩ : ∃ w : Int, w = n % 10 := ⟨_, rfl⟩
  obtain ⟨k, hk⟩ : ∃ k : Int, k = n / 10 := ⟨_, rfl⟩
  obtain ⟨hd, hde, hdn⟩ := no_hand_ev hc.hd k
  obtain ⟨wd, wde, wdn⟩ := no_words_ev hc k
  have hsb := o_strQ (v := c.b) (by omega)
  have hse := o_strQ (v := c.e) (by omega)
  suffices main : ∃ d, g__law_spoiled [.vl (cv c), .vl (.int n), .un, .un, .un, .un, .un, .un] = M.ret (.rt d) ∧ Nc d by
    obtain ⟨d, h1, h2⟩ := main
    exact ⟨d, ev_run h1, h2⟩
  have step : ∀ {g : DS → M Out} {δ δ' : DS} {f : DS → M Out}, f δ = M.ret (.nx δ') → (∃ d, g δ' = M.ret (.rt d) ∧ Nc d) → ∃ d, gSeq f g δ = M.ret (.rt d) ∧ Nc d := fun h1 ⟨d, h2, p⟩ => ⟨d, ev_seq h1 h2, p⟩
  unfold g__law_spoiled
  refine step (δ' := [.vl (cv c), .vl (.int n), .un, .un, .vl (.int c.b), .vl (.int c.e), .vl (tx c.h), .vl (tx (jn 32 c.ws))]) (ev_asgT (d := cv c) (ev_var rfl) rfl) ?_
  refine step (δ' := [.vl (cv c), .vl (.int n), .vl (.int w), .un, .vl (.int c.b), .vl (.int c.e), .vl (tx c.h), .vl (tx (jn 32 c.ws))]) (ev_asg (d := .int w) (by rw [hw]; exact ev_2 (ev_var rfl) ev_c (o_mod (by decide)))) ?_
  refine step (δ' := [.vl (cv c), .vl (.int n), .vl (.int w), .vl (.int k), .vl (.int c.b), .vl (.int c.e), .vl (tx c.h), .vl (tx (jn 32 c.ws))]) (ev_asg (d := .int k) (by rw [hk]; exact ev_2 (ev_var rfl) ev_c (o_div (bDiv_of (by decide) (by decide))))) ?_
  refine way rfl (fun _ => ?_) fun _ => ?_
  · exact ⟨_, ev_tup (ev_cons (ev_var rfl) (ev_cons (ev_2 (ev_var rfl) (ev_2 (ev_var rfl) ev_c (o_mod (by decide))) o_sub) (ev_cons (ev_var rfl) (ev_cons (ev_var rfl) ev_nil)))) rfl, nc_tup (cue_be (by omega))⟩
  refine way rfl (fun _ => ?_) fun _ => ?_
  · exact ⟨_, ev_tup (ev_cons (ev_2 (x := .int (-1)) (ev_1 (x := .int 1) ev_c rfl) (ev_2 (ev_var rfl) ev_c (o_mod (by decide))) o_sub) (ev_cons (ev_var rfl) (ev_cons (ev_var rfl) (ev_cons (ev_var rfl) ev_nil)))) rfl, nc_tup (cue_be (by omega))⟩
  refine way rfl (fun _ => ?_) fun _ => ?_
  · obtain ⟨x, hx, px⟩ := at_all (L := [.bool false, .str (Str.ofString (toString c.b)), .none, .list [.int c.b]]) (P := fun x => F_is_whole [x] = M.ret (.bool false)) (fun x hx => by
      simp only [List.mem_cons, List.not_mem_nil, or_false] at hx
      rcases hx with rfl | rfl | rfl | rfl <;> rfl) (i := k % 4) (by omega) (by show _ < ((4 : Nat) : Int); omega)
    exact ⟨_, ev_tup (ev_cons (ev_2 (ev_lst (ev_cons ev_c (ev_cons (ev_cb (ev_cons (ev_var rfl) ev_nil) hsb) (ev_cons ev_c (ev_cons (ev_lst (ev_cons (ev_var rfl) ev_nil) rfl) ev_nil)))) rfl) (ev_2 (ev_var rfl) ev_c (o_mod (by decide))) hx) (ev_cons (ev_var rfl) (ev_cons (ev_var rfl) (ev_cons (ev_var rfl) ev_nil)))) rfl, nc_tup (cue_whole (x := false) (y := true) px (is_whole_ev _) rfl)⟩
  refine way rfl (fun _ => ?_) fun _ => ?_
  · obtain ⟨x, hx, px⟩ := at_all (L := [.bool true, .str (Str.ofString (toString c.e)), .none, .tuple [.int c.e]]) (P := fun x => F_is_whole [x] = M.ret (.bool false)) (fun x hx => by
      simp only [List.mem_cons, List.not_mem_nil, or_false] at hx
      rcases hx with rfl | rfl | rfl | rfl <;> rfl) (i := k % 4) (by omega) (by show _ < ((4 : Nat) : Int); omega)
    exact ⟨_, ev_tup (ev_cons ev_c (ev_cons (ev_2 (ev_lst (ev_cons ev_c (ev_cons (ev_cb (ev_cons (ev_var rfl) ev_nil) hse) (ev_cons ev_c (ev_cons (ev_tup (ev_cons (ev_var rfl) ev_nil) rfl) ev_nil)))) rfl) (ev_2 (ev_var rfl) ev_c (o_mod (by decide))) hx) (ev_cons (ev_var rfl) (ev_cons (ev_var rfl) ev_nil)))) rfl, nc_tup (cue_whole (x := true) (y := false) (is_whole_ev _) px rfl)⟩
  refine way rfl (fun _ => ?_) fun _ => ?_
  · obtain ⟨x, y, z, hx⟩ : ∃ x y z : D, ∃ p q : D, oCutS none (some (k % 4)) (cv c) = some p ∧ oCutS (some (k % 4 + 1)) none (cv c) = some q ∧ oAdd p q = some (.tuple [x, y, z]) := by
      have : k % 4 = 0 ∨ k % 4 = 1 ∨ k % 4 = 2 ∨ k % 4 = 3 := by omega
      rcases this with e | e | e | e <;> rw [e]
      · exact ⟨_, _, _, _, _, rfl, rfl, rfl⟩
      · exact ⟨_, _, _, _, _, rfl, rfl, rfl⟩
      · exact ⟨_, _, _, _, _, rfl, rfl, rfl⟩
      · exact ⟨_, _, _, _, _, rfl, rfl, rfl⟩
    obtain ⟨p, q, h1, h2, h3⟩ := hx
    exact ⟨_, ev_2 (ev_cutS (ev_var rfl) ev_nopart (ev_part (ev_2 (ev_var rfl) ev_c (o_mod (by decide)))) h1) (ev_cutS (ev_var rfl) (ev_part (ev_2 (ev_2 (ev_var rfl) ev_c (o_mod (by decide))) ev_c o_add)) ev_nopart h2) h3, nc_tup (cue_len (by show 3 ≠ 4; decide) (by show 3 ≤ 100; decide))⟩
  refine way rfl (fun _ => ?_) fun _ => ?_
  · obtain ⟨x, hx, _⟩ := at_all (L := [.int c.b, tx c.h, tx (jn 32 c.ws)]) (P := fun _ => True) (fun _ _ => trivial) (i := k % 3) (by omega) (by show _ < ((3 : Nat) : Int); omega)
    exact ⟨.tuple [.int c.b, .int c.e, tx c.h, tx (jn 32 c.ws), x], ev_2 (x := cv c) (ev_var rfl) (ev_tup (ev_cons (ev_2 (ev_lst (ev_cons (ev_var rfl) (ev_cons (ev_var rfl) (ev_cons (ev_var rfl) ev_nil))) rfl) (ev_2 (ev_var rfl) ev_c (o_mod (by decide))) hx) ev_nil) rfl) rfl, nc_tup (cue_len (by show 5 ≠ 4; decide) (by show 5 ≤ 100; decide))⟩
  refine way rfl (fun _ => ?_) fun _ => ?_
  · obtain ⟨x, hx, px⟩ := at_all (L := [.list [.int c.b, .int c.e, tx c.h, tx (jn 32 c.ws)], .none, tx (jn 32 c.ws), .int c.b]) (P := Nc) (fun x hx => by
      simp only [List.mem_cons, List.not_mem_nil, or_false] at hx
      rcases hx with rfl | rfl | rfl | rfl
      · refine nc_lst _ (fun d hd => ?_) rfl (by show 3 ≤ 100; decide)
        simp only [List.mem_cons, List.not_mem_nil, or_false] at hd
        rcases hd with rfl | rfl | rfl
        · exact (nc_int _).1
        · exact (nc_str _).1
        · exact (nc_str _).1
      · exact nc_none
      · exact nc_str _
      · exact nc_int _) (i := k % 4) (by omega) (by show _ < ((4 : Nat) : Int); omega)
    exact ⟨x, ev_2 (ev_lst (ev_cons (ev_cb (ev_cons (x := cv c) (ev_var rfl) ev_nil) rfl) (ev_cons ev_c (ev_cons (ev_var rfl) (ev_cons (ev_var rfl) ev_nil)))) rfl) (ev_2 (ev_var rfl) ev_c (o_mod (by decide))) hx, px⟩
  refine way rfl (fun _ => ?_) fun _ => ?_
  · exact ⟨_, ev_tup (ev_cons (ev_var rfl) (ev_cons (ev_var rfl) (ev_cons (ev_call (ev_cons (ev_var rfl) (ev_cons (ev_var rfl) ev_nil)) hde) (ev_cons (ev_var rfl) ev_nil)))) rfl, nc_tup (cue_hand hdn)⟩
  exact ⟨_, ev_ret (ev_tup (ev_cons (ev_var rfl) (ev_cons (ev_var rfl) (ev_cons (ev_var rfl) (ev_cons (ev_call (ev_cons (ev_var rfl) (ev_cons (ev_var rfl) ev_nil)) wde) ev_nil)))) rfl), nc_tup (cue_words (is_name_ev hc.hd) wdn)⟩
end K15
open PySem PySem.Spec L2 DL CT TX NumText
namespace K15
theorem cv_ev {c : Cv} (h : CvOk c) : F_is_cue [cv c] = M.ret (.bool true) := is_cue_ev h.b0 h.be h.hd h.wq.1 h.wq.2.1 (by have := h.tot; omega)
def lz : Int → List Int → List Bool
  | _, [] => []
  | a, b :: r => decide (a ≤ b) :: lz b r
def asc : List Int → Bool
  | [] => true
  | a :: r => (lz a r).all id
theorem lz_iff : ∀ {a : Int} {r : List Int}, (lz a r).all id = true ↔ (a :: r).Pairwise (· ≤ ·)
  | a, [] => ⟨fun _ => List.pairwise_singleton _ _, fun _ => rfl⟩
  | a, b :: r => by
    show (decide (a ≤ b) && (lz b r).all id) = true ↔ _
    rw [Bool.and_eq_true, lz_iff, decide_eq_true_iff, List.pairwise_cons (a := a)]
    refine and_congr_left fun hp => ⟨fun h x hx => ?_, fun h => h b List.mem_cons_self⟩
    rcases List.mem_cons.mp hx with rfl | hx
    · exact h
    · exact Int.le_trans h (List.rel_of_pairwise_cons hp hx)
theorem asc_iff {l : List Int} : asc l = true ↔ l.Pairwise (· ≤ ·) := by
  cases l with
  | nil => exact ⟨fun _ => .nil, fun _ => rfl⟩
  | cons a r => exact lz_iff
theorem cues_asc {cs : List Cv} (h : ∀ c ∈ cs, CvOk c) (hz : cs.length ≤ 1000) : F_are_cues [.list (cs.map cv)] = M.ret (.bool (asc (cs.map (·.b)))) := by
  have ha := all_cues (ds := cs.map cv) (fun _ => true) (fun d hd => by
    obtain ⟨c, hc, rfl⟩ := List.mem_map.mp hd
    exact cv_ev (h c hc)) (by rw [List.length_map]; exact hz)
  rw [List.all_eq_true.mpr (fun _ _ => rfl)] at ha
  refine ev_run ?_
  unfold g_are_cues
  refine ev_pass (b := false) (ev_or (b1 := false) (b2 := false) (ev_not (b := true) (ev_b (ev_is (d := .list (cs.map cv)) (ev_var rfl)))) (ev_not (b := true) (ev_b ha))) rfl ?_
  cases cs with
  | nil => exact ev_ret (ev_cb (ev_cons (x := .list []) (ev_compG (ds := []) (ev_zipS (xs := []) (ys := []) (ev_cons (ev_var rfl) (ev_cons (ev_cutS (ev_var rfl) (ev_part ev_c) ev_nopart rfl) ev_nil))) rfl ev_compN) ev_nil) rfl)
  | cons c r =>
    refine ev_ret (ev_cb (ev_cons (x := .list ((lz c.b (r.map (·.b))).map PyData.bool)) (ev_compG (ev_zipS (xs := (c :: r).map cv) (ys := r.map cv) ?_) (small_of ?_) ?_) ev_nil) (o_allB _))
    · refine ev_cons (ev_var rfl) (ev_cons (ev_cutS (ev_var rfl) (ev_part ev_c) ev_nopart (d := .list (r.map cv)) ?_) ev_nil)
      show some (PyData.list (cutD (cv c :: r.map cv) (some ((1 : Nat) : Int)) none)) = _
      rw [cut_drop]
      rfl
    · unfold zipD
      rw [List.length_zipWith, List.length_map, List.length_map]
      rw [List.length_cons] at hz ⊢
      omega
    · have main : ∀ (r : List Cv) (c : Cv) (x0 x1 : Sl), compD (tgTup 2 (tgCons (tgN 0) (tgCons (tgN 1) tgNil))) (nX dYes) (nX (d2 oLeD (d2 oIx (dVar 0) (dC (.int 0))) (d2 oIx (dVar 1) (dC (.int 0))))) (zipD ((c :: r).map cv) (r.map cv)) [x0, x1] = M.ret ((lz c.b (r.map (·.b))).map PyData.bool) := by
        intro r
        induction r with
        | nil => exact fun _ _ _ => rfl
        | cons d r ih => exact fun c x0 x1 => ev_compC (δ' := [.vl (cv c), .vl (cv d)]) rfl (ev_2 (x := .int c.b) (y := .int d.b) (ev_2 (x := cv c) (ev_var rfl) ev_c rfl) (ev_2 (x := cv d) (ev_var rfl) ev_c rfl) o_leD) (ih d _ _)
      exact main r c .un .un
theorem law_loop (S : List D) : ∀ (ns : List Int) (k : Nat) (cs : List Cv) (ds : List D) (x5 x6 x7 x8 : Sl), (∀ c ∈ cs, CvOk c) → (∀ d ∈ ds, Nc d) → ds.length = cs.length → cs.length + ns.length ≤ 40 → ∃ (cs' : List Cv) (ds' : List D) (y5 y6 y7 y8 : Sl), (∀ c ∈ cs', CvOk c) ∧ (∀ d ∈ ds', Nc d) ∧ cs'.length = cs.length + ns.length ∧ ds'.length = cs'.length ∧
    forD (bodyD (tgTup 2 (tgCons (tgN 5) (tgCons (tgN 6) tgNil))) b_law_0) (enumD k (ns.map PyData.int)) [.vl (.list S), .ow (cs.map cv), .ow ds, .un, .un, x5, x6, x7, x8] = M.ret (.nx [.vl (.list S), .ow (cs'.map cv), .ow ds', .un, .un, y5, y6, y7, y8])
  | [], k, cs, ds, x5, x6, x7, x8, h1, h2, h3, _ => ⟨cs, ds, x5, x6, x7, x8, h1, h2, rfl, h3, rfl⟩
  | n :: ns, k, cs, ds, x5, x6, x7, x8, h1, h2, h3, hz => by
    rw [List.length_cons] at hz
    obtain ⟨v, hv, he⟩ := cue_ev n (decide ((k : Int) = (S.length : Int) % 4))
    obtain ⟨m, _, hm⟩ := mixed_ev (n + (k : Int)) 39373 (by decide) (by decide)
    obtain ⟨d, hd, hN⟩ := spoiled_ev hv m
    obtain ⟨cs', ds', y5, y6, y7, y8, g1, g2, g3, g4, hI⟩ := law_loop S ns (k + 1) (cs ++ [v]) (ds ++ [d]) (.vl (.int (k : Int))) (.vl (.int n)) (.vl (cv v)) (.vl d) (fun c hc => by
      rcases List.mem_append.mp hc with hc | hc
      · exact h1 c hc
      · rw [List.mem_singleton.mp hc]; exact hv) (fun c hc => by
      rcases List.mem_append.mp hc with hc | hc
      · exact h2 c hc
      · rw [List.mem_singleton.mp hc]; exact hN) (by rw [List.length_append, List.length_append, h3]; rfl) (by rw [List.length_append, List.length_singleton]; omega)
    refine ⟨cs', ds', y5, y6, y7, y8, g1, g2, by rw [g3, List.length_append, List.length_singleton, List.length_cons]; omega, g4, ?_⟩
    rw [List.map_append] at hI
    refine forD_cons (ev_body (δ' := [.vl (.list S), .ow (cs.map cv), .ow ds, .un, .un, .vl (.int (k : Int)), .vl (.int n), x7, x8]) rfl ?_) hI
    unfold b_law_0
    refine ev_seq (ev_asg (d := cv v) (ev_call (ds := [.int n, .bool _]) (ev_cons (ev_var rfl) (ev_cons (ev_2 (ev_var rfl) (ev_2 (ev_cb (ev_cons (ev_var rfl) ev_nil) o_lenL) ev_c (o_mod (by decide))) o_eq) ev_nil)) he)) ?_
    refine ev_seq (ev_asg (d := d) (ev_call (ds := [cv v, .int m]) (ev_cons (ev_var rfl) (ev_cons (ev_call (ev_cons (ev_2 (ev_var rfl) (ev_var rfl) o_add) (ev_cons ev_c ev_nil)) hm) ev_nil)) hd)) ?_
    refine ev_pass (b := false) (ev_or (b1 := false) (b2 := false) (ev_b (ev_2 (ev_call (ev_cons (ev_var rfl) ev_nil) (cv_ev hv)) ev_c rfl)) (ev_b (ev_2 (ev_call (ev_cons (ev_var rfl) ev_nil) hN.1) ev_c rfl))) rfl ?_
    exact ev_seq (ev_app (ds := cs.map cv) rfl (ev_var rfl) (small_of (by rw [List.length_map]; omega))) (ev_app (ds := ds) rfl (ev_var rfl) (small_of (by omega)))
theorem perm_map {α β : Type} {f : α → β} {l m : List β} (h : l.Perm m) : ∀ cs : List α, m = cs.map f → ∃ cs' : List α, cs'.Perm cs ∧ l = cs'.map f := by
  induction h with
  | nil => exact fun cs e => ⟨[], by rw [List.map_eq_nil_iff.mp e.symm], rfl⟩
  | cons x _ ih =>
    intro cs e
    cases cs with
    | nil => cases e
    | cons c cs =>
      rw [List.map_cons] at e
      injection e with e1 e2
      obtain ⟨cs', p, q⟩ := ih cs e2
      exact ⟨c :: cs', p.cons c, by rw [List.map_cons, e1, q]⟩
  | swap x y l =>
    intro cs e
    match cs, e with
    | c :: d :: cs, e =>
      rw [List.map_cons, List.map_cons] at e
      injection e with e1 e2
      injection e2 with e2 e3
      exact ⟨d :: c :: cs, .swap c d cs, by rw [List.map_cons, List.map_cons, e1, e2, e3]⟩
    | [c], e => cases e
    | [], e => cases e
  | trans _ _ i1 i2 =>
    intro cs e
    obtain ⟨cs', p, q⟩ := i2 cs e
    obtain ⟨cs'', p', q'⟩ := i1 cs' q
    exact ⟨cs'', p'.trans p, q'⟩
theorem sorted_cv {cs : List Cv} {ys : List D} (h : SortD (cs.map (·.b)) (cs.map cv) ys) : ∃ gs : List Cv, gs.Perm cs ∧ ys = gs.map cv ∧ (gs.map (·.b)).Pairwise (· ≤ ·) := by
  obtain ⟨qs, hp, hy, hs⟩ := h
  have e : (cs.map (·.b)).zip (cs.map cv) = cs.map fun c => (c.b, cv c) := by
    rw [List.zip_map', ]
  rw [e] at hp
  obtain ⟨gs, p, q⟩ := perm_map hp cs rfl
  refine ⟨gs, p, by rw [hy, q, List.map_map]; rfl, ?_⟩
  rw [q, List.pairwise_map] at hs
  rw [List.pairwise_map]
  exact hs
theorem ix_end {ds : List D} {d : D} (h : ds.getLast? = some d) : oIx (.list ds) (.int (-1)) = some d := by
  show L2.atI ds (-1) = some d
  have hne : ds ≠ [] := by rintro rfl; cases h
  have hp := List.length_pos_iff.mpr hne
  unfold L2.atI L2.ixN
  rw [if_neg (by omega), if_pos (by omega)]
  show ds[_]? = _
  rw [List.getLast?_eq_getElem?] at h
  rw [← h]
  congr 1
  omega
theorem sum_is (l : List Int) : oSumG [.list (l.map PyData.int)] = some (.int l.sum) := by
  show (intsOf (l.map PyData.int)).map _ = _
  rw [ints_of]
  rfl
theorem asc_rev {a z : Int} {r : List Int} (hs : (a :: r).Pairwise (· ≤ ·)) (hz : (a :: r).getLast? = some z) : asc (a :: r).reverse = decide (a = z) := by
  have hm : z ∈ a :: r := List.mem_of_getLast? hz
  have h1 : ∀ x ∈ a :: r, a ≤ x := fun x hx => by
    rcases List.mem_cons.mp hx with rfl | hx
    · exact Int.le_refl _
    · exact List.rel_of_pairwise_cons hs hx
  have h2 : ∀ x ∈ a :: r, x ≤ z := by
    obtain ⟨p, e⟩ : ∃ p, a :: r = p ++ [z] := by
      obtain ⟨ys, e⟩ := List.getLast?_eq_some_iff.mp hz
      exact ⟨ys, e⟩
    rw [e] at hs ⊢
    intro x hx
    rcases List.mem_append.mp hx with hx | hx
    · exact (List.pairwise_append.mp hs).2.2 x hx z List.mem_cons_self
    · rw [List.mem_singleton.mp hx]; exact Int.le_refl _
  by_cases q : a = z
  · rw [decide_eq_true q, asc_iff, List.pairwise_reverse]
    exact hs.imp_of_mem fun hx hy _ => by
      have := h1 _ hx
      have := h2 _ hy
      omega
  · rw [decide_eq_false q]
    cases w : asc (a :: r).reverse with
    | false => rfl
    | true =>
      rw [asc_iff, List.pairwise_reverse] at w
      rcases List.mem_cons.mp hm with e | e
      · exact absurd e.symm q
      · exact absurd (Int.le_antisymm (h1 z hm) (List.rel_of_pairwise_cons w e)) q
theorem law_true (ns : List Int) (hl : ns.length ≤ 63) : F_law [.list (ns.map PyData.int)] = M.ret (.bool true) := by
  obtain ⟨cs, ds, y5, y6, y7, y8, hcs, hds, hcl, hdl, hL⟩ := law_loop (ns.map PyData.int) (0 :: ns.take 30) 0 [] [] .un .un .un .un (fun c hc => nomatch hc) (fun c hc => nomatch hc) rfl (by rw [List.length_cons, List.length_take]; show 0 + _ ≤ _; omega)
  have hcl : cs.length = 0 + ((ns.take 30).length + 1) := hcl
  rw [List.length_take] at hcl
  refine ev_run ?_
  unfold g_law
  refine ev_seq (ev_newL (ds := []) (ev_nLst ev_nil rfl)) ?_
  refine ev_seq (ev_newL (ds := []) (ev_nLst ev_nil rfl)) ?_
  refine ev_seq (ev_forG (ev_enumS (xs := (0 :: ns.take 30).map PyData.int) (ev_cons (ev_2 (ev_lst (ev_cons ev_c ev_nil) rfl) (ev_cutS (ev_var rfl) ev_nopart (ev_part ev_c) (d := .list ((ns.take 30).map PyData.int)) ?_) (o_addL (small_of ?_))) ev_nil)) hL) ?_
  · show some (PyData.list (cutD (ns.map PyData.int) none (some ((30 : Nat) : Int)))) = _
    rw [cut_take, ← List.map_take]
  · rw [List.length_map, List.length_take]; show 1 + _ ≤ _; omega
  refine ev_frz ?_
  refine ev_sortK (ds := cs.map cv) (kz := cs.map (·.b)) rfl (by rw [List.length_map]; omega) ⟨by rw [List.length_map, List.length_map], fun j k hk => ?_⟩ fun ys hy => ?_
  · rw [List.getElem?_map] at hk ⊢
    cases q : cs[j]? with
    | none => rw [q] at hk; cases hk
    | some c =>
      rw [q] at hk
      cases hk
      exact ⟨_, rfl⟩
  obtain ⟨gs, hp, rfl, hs⟩ := sorted_cv hy
  have hgs : ∀ c ∈ gs, CvOk c := fun c hc => hcs c (hp.mem_iff.mp hc)
  have hgl : gs.length = cs.length := hp.length_eq
  have c1 := cues_asc hgs (by omega)
  rw [asc_iff.mpr hs] at c1
  have c2 : F_are_cues [.list []] = M.ret (.bool true) := cues_asc (cs := []) (fun c hc => nomatch hc) (by decide)
  have c3 : F_are_cues [.tuple (gs.map cv)] = M.ret (.bool false) := cues_no_list rfl rfl
  have c4 := cues_asc (cs := gs.reverse) (fun c hc => hgs c (List.mem_reverse.mp hc)) (by rw [List.length_reverse]; omega)
  obtain ⟨c, r, rfl⟩ : ∃ c r, gs = c :: r := by
    cases gs with
    | nil => rw [List.length_nil] at hgl; omega
    | cons c r => exact ⟨c, r, rfl⟩
  obtain ⟨z, hz⟩ : ∃ z, (c :: r).getLast? = some z := ⟨_, List.getLast?_eq_some_getLast (by simp)⟩
  have hrv : asc ((c :: r).map fun x => x.b).reverse = decide (c.b = z.b) := asc_rev hs (by
    have : ((c :: r).map fun x : Cv => x.b).getLast? = some z.b := by rw [List.getLast?_map, hz]; rfl
    exact this)
  rw [List.map_reverse, List.map_reverse, hrv] at c4
  have hlast : oIx (.list ((c :: r).map cv)) (.int (-1)) = some (cv z) := ix_end (by rw [List.getLast?_map, hz]; rfl)
  generalize hG : (c :: r).map cv = G at *
  have hGl : G.length = cs.length := by rw [← hG, List.length_map]; exact hgl
  have hfirst : oIx (.list G) (.int 0) = some (cv c) := by rw [← hG]; exact ix_nat (by decide) rfl
  have hGc : ∀ d ∈ G, F_is_cue [d] = M.ret (.bool true) := fun d hd => by
    rw [← hG] at hd
    obtain ⟨x, hx, rfl⟩ := List.mem_map.mp hd
    exact cv_ev (hgs x hx)
  refine ev_pass (b := false) (ev_or (b1 := false) (b2 := false) (ev_b (ev_2 (ev_call (ds := [.list G]) (ev_cons (ev_cb (ev_cons (ev_var rfl) ev_nil) rfl) ev_nil) c1) ev_c rfl)) (ev_or (b1 := false) (b2 := false) (ev_b (ev_2 (ev_call (ds := [.list []]) (ev_cons (ev_lst ev_nil rfl) ev_nil) c2) ev_c rfl)) (ev_b (ev_2 (ev_call (ds := [.tuple G]) (ev_cons (ev_cb (ev_cons (ev_var rfl) ev_nil) rfl) ev_nil) c3) ev_c rfl)))) rfl ?_
  refine ev_seq (ev_asg (d := .bool (decide (c.b = z.b))) (ev_call (ds := [.list G.reverse]) (ev_cons ?_ ev_nil) c4)) ?_
  · have := ev_compG (n := 1) (js := []) (t := tgN 0) (c := dYes) (f := dVar 0) (fi := dRevI (dCons (dVar 1) dNil)) (ds := G.reverse) (δ := [.vl (.list (ns.map PyData.int)), .vl (.list G), .ow ds, .un, .un, y5, y6, y7, y8]) (ev_revI (ev_cons (ev_var rfl) ev_nil)) (small_of (by rw [List.length_reverse]; omega)) (ev_compM (h := fun d => d) (fun δ => ∃ s, δ = [s]) _ _ ⟨_, rfl⟩ fun d hd δ hδ => by
      obtain ⟨s, rfl⟩ := hδ
      exact ⟨[.vl d], rfl, ev_var rfl, _, rfl⟩)
    rw [List.map_id'] at this
    exact this
  refine ev_pass (b := false) (ev_or (b1 := false) (b2 := false) (ev_not (b := true) (ev_b (ev_is (d := .bool (decide (c.b = z.b))) (ev_var rfl)))) (ev_b (ev_2 (y := .bool (decide (c.b = z.b))) (ev_var rfl) (ev_2 (x := .int c.b) (y := .int z.b) (ev_2 (x := cv c) (ev_2 (ev_var rfl) ev_c hfirst) ev_c rfl) (ev_2 (x := cv z) (ev_2 (ev_var rfl) (ev_1 (x := .int 1) ev_c rfl) hlast) ev_c rfl) o_eq) (by cases decide (c.b = z.b) <;> rfl)))) rfl ?_
  obtain ⟨a, ha⟩ : ∃ a : Nat, (a : Int) = ((c :: r).map fun x => x.e).sum % ((G.length : Int) + 1) := ⟨(((c :: r).map fun x => x.e).sum % ((G.length : Int) + 1)).toNat, by have := Int.emod_nonneg ((c :: r).map fun x => x.e).sum (b := (G.length : Int) + 1) (by omega); omega⟩
  have ha1 : a ≤ G.length := by have := Int.emod_lt_of_pos ((c :: r).map fun x => x.e).sum (b := (G.length : Int) + 1) (by omega); omega
  refine ev_seq (ev_asg (d := .int (a : Int)) ?_) (ev_frz ?_)
  · rw [ha]
    refine ev_2 (ev_cb (ev_cons (x := .list (((c :: r).map fun x => x.e).map PyData.int)) (ev_compG (ds := G) (ev_any (ev_var rfl) rfl) (small_of (by omega)) ?_) ev_nil) (sum_is _)) (ev_2 (ev_cb (ev_cons (ev_var rfl) ev_nil) o_lenL) ev_c o_add) (o_mod (by omega))
    rw [← hG]
    have main : ∀ (l : List Cv) (x : Sl), compD (tgN 0) (nX dYes) (nX (d2 oIx (dVar 0) (dC (.int 1)))) (l.map cv) [x] = M.ret ((l.map fun x => x.e).map PyData.int) := by
      intro l
      induction l with
      | nil => exact fun _ => rfl
      | cons c l ih => exact fun x => ev_compC (δ' := [.vl (cv c)]) rfl (ev_2 (x := cv c) (ev_var rfl) ev_c rfl) (ih _)
    exact main (c :: r) .un
  obtain ⟨d0, hd0, hN0⟩ := at_all hds (i := 0) (by decide) (by omega)
  obtain ⟨d, hd, hN⟩ : ∃ d, oIx (.list ds) (.int ((a : Int) - 1)) = some d ∧ Nc d := by
    by_cases q : a = 0
    · rw [q]
      obtain ⟨d, hd⟩ : ∃ d, ds.getLast? = some d := ⟨_, List.getLast?_eq_some_getLast (by rintro rfl; rw [List.length_nil] at hdl; omega)⟩
      exact ⟨d, ix_end hd, hds d (List.mem_of_getLast? hd)⟩
    · exact at_all hds (by omega) (by omega)
  have c5 : F_are_cues [.list (G.take a ++ [d] ++ G.drop a)] = M.ret (.bool false) := cues_mixed (x := d) (List.mem_append_left _ (List.mem_append_right _ List.mem_cons_self)) hN.1 (fun x hx => by
    rcases List.mem_append.mp hx with hx | hx
    · rcases List.mem_append.mp hx with hx | hx
      · exact .inl (hGc x (List.mem_of_mem_take hx))
      · rw [List.mem_singleton.mp hx]; exact .inr hN.1
    · exact .inl (hGc x (List.mem_of_mem_drop hx))) (by rw [List.length_append, List.length_append, List.length_take, List.length_drop, List.length_singleton]; omega)
  refine ev_pass (b := false) (ev_b (ev_2 (ev_call (ds := [.list (G.take a ++ [d] ++ G.drop a)]) (ev_cons (ev_2 (ev_2 (ev_cutS (ev_var rfl) ev_nopart (ev_part (ev_var rfl)) (d := .list (G.take a)) ?_) (ev_lst (ev_cons (ev_2 (ev_var rfl) (ev_2 (ev_var rfl) ev_c o_sub) hd) ev_nil) rfl) (o_addL (small_of ?_))) (ev_cutS (ev_var rfl) (ev_part (ev_var rfl)) ev_nopart (d := .list (G.drop a)) ?_) (o_addL (small_of ?_))) ev_nil) c5) ev_c rfl)) rfl ?_
  · show some (PyData.list (cutD G none (some (a : Int)))) = _
    rw [cut_take]
  · rw [List.length_take]; show _ + 1 ≤ _; omega
  · show some (PyData.list (cutD G (some (a : Int)) none)) = _
    rw [cut_drop]
  · rw [List.length_append, List.length_take, List.length_drop, List.length_singleton]; omega
  exact ev_ret (ev_andV_t (ev_2 (ev_call (ds := [d0]) (ev_cons (ev_2 (ev_var rfl) ev_c hd0) ev_nil) hN0.2) ev_c rfl) (ev_andV_t (ev_2 (ev_call (ds := [.none]) (ev_cons ev_c ev_nil) nc_none.2) ev_c rfl) (ev_2 (ev_call (ds := [.str ""]) (ev_cons ev_c ev_nil) (nc_str _).2) ev_c rfl)))
end K15
namespace K15
open PySem PySem.Spec PyProof.Rows L2 DL CT
def top (i : Nat) : Stmt := PySem.Challenge.pw_cuetimer_k15_what_is_a_cue.main.body.getD i (.Pass ⟨0, 0, 0, 0⟩)
section
variable {P : Program} {w : World} {K : PySem.W.Frag} {mg : Str → Option Value} {base : Heap}
theorem sc_is_whole : FnScope ["thing"] ["thing"] (defScope (top 2)) := ⟨rfl, rfl, rfl, by decide +kernel, rfl, by decide +kernel, by decide +kernel⟩
theorem d_is_whole {f : Addr} {fd : FuncData} (F0 : Fun K "is_whole" "is_whole" (top 2) f fd) (hm : mg "is_whole" = some (.ref f)) (z_isinstance : mg "isinstance" = none) (z_int : mg "int" = none) (z_bool : mg "bool" = none) : Def P w K mg base 1 "is_whole" 1 F_is_whole := by
  have S := sc_is_whole
  refine def_of (N := ["thing"]) (ps := ["thing"]) (k := 0) (g := g_is_whole) F0 S hm (F0.binds fun _ _ _ _ _ _ us hl => match us, hl with | [_], _ => rfl) fun cdv A outer s H E hr => ?_
  unfold g_is_whole
  exact (pds_one (pd_ret (pd_and (pd_isinst rfl (kit_int _) rfl z_isinstance rfl z_int PyProof.Rows.boot_int (pd_var (pv 0))) (pd_one (pd_not (pd_isinst rfl (kit_bool _) rfl z_isinstance rfl z_bool PyProof.Rows.boot_bool (pd_var (pv 0))))))))
theorem sc_is_name : FnScope ["thing"] ["thing"] (defScope (top 3)) := ⟨rfl, rfl, rfl, by decide +kernel, rfl, by decide +kernel, by decide +kernel⟩
theorem d_is_name {f : Addr} {fd : FuncData} (F0 : Fun K "is_name" "is_name" (top 3) f fd) (hm : mg "is_name" = some (.ref f)) (z_isinstance : mg "isinstance" = none) (z_str : mg "str" = none) (z_len : mg "len" = none) (z_all : mg "all" = none) : Def P w K mg base 1 "is_name" 1 F_is_name := by
  have S := sc_is_name
  refine def_of (N := ["thing"]) (ps := ["thing"]) (k := 0) (g := g_is_name) F0 S hm (F0.binds fun _ _ _ _ _ _ us hl => match us, hl with | [_], _ => rfl) fun cdv A outer s H E hr => ?_
  unfold g_is_name
  exact (pds_cons (pd_ifS (PDW.t (pdw_or (pdt_not (pdt_val (pd_isinst rfl (kit_str _) rfl z_isinstance rfl z_str PyProof.Rows.boot_str (pd_var (pv 0))))) (pdw_or1 (pdt_not (pdt_chain dop_leD dop_leD pd_int (pd_callB dcall_len rfl z_len PySem.boot_len (pda_cons (pd_var (pv 0)) pda_nil)) pd_int))))) (pds_one (pd_ret pd_bl)) pds_nil)
    (pds_one (pd_ret (pd_callB (dcall_all rfl) rfl z_all PyProof.Rows.boot_all (pda_cons (pd_compG (fr := []) (tn := ["sign"]) rfl rfl (by decide +kernel) (by rfl) (fun _ _ h => h) (hhas_of (by rfl)) fr_nil (by decide +kernel) (pdi_any (pd_var (pv 0))) (fun C s3 H3 fp => (pdg_name (pg_name (i := 0) (show (["sign"] : List Str).Nodup from by decide +kernel) rfl (by first | exact Or.inl rfl | exact Or.inr rfl)))) (fun C s3 H3 fp => pdts_nil) (fun C s3 H3 fp => (pd_chain dop_leD dop_leD pd_str (pd_var (pv 0)) pd_str))) pda_nil)))))
theorem sc_is_word_sign : FnScope ["sign"] ["sign"] (defScope (top 6)) := ⟨rfl, rfl, rfl, by decide +kernel, rfl, by decide +kernel, by decide +kernel⟩
theorem d_is_word_sign {f : Addr} {fd : FuncData} (F0 : Fun K "is_word_sign" "is_word_sign" (top 6) f fd) (hm : mg "is_word_sign" = some (.ref f)) {t_PERCENT : Tok} (m_PERCENT : mg "PERCENT" = some (.int 37 t_PERCENT)) (z_ord : mg "ord" = none) : Def P w K mg base 1 "is_word_sign" 1 F_is_word_sign := by
  have S := sc_is_word_sign
  refine def_of (N := ["sign"]) (ps := ["sign"]) (k := 0) (g := g_is_word_sign) F0 S hm (F0.binds fun _ _ _ _ _ _ us hl => match us, hl with | [_], _ => rfl) fun cdv A outer s H E hr => ?_
  unfold g_is_word_sign
  exact (pds_one (pd_ret (pd_and (pd_chain dop_leD dop_leD pd_str (pd_var (pv 0)) pd_str) (pd_one (pd_cmp (dop_ne hr.units) (pd_callB dcall_ord rfl z_ord PyProof.Rows.boot_ord (pda_cons (pd_var (pv 0)) pda_nil)) (pd_globI rfl m_PERCENT) (nomark _))))))
theorem sc_is_word : FnScope ["text"] ["text"] (defScope (top 5)) := ⟨rfl, rfl, rfl, by decide +kernel, rfl, by decide +kernel, by decide +kernel⟩
theorem d_is_word {f : Addr} {fd : FuncData} (F0 : Fun K "is_word" "is_word" (top 5) f fd) (hm : mg "is_word" = some (.ref f)) (d_is_word_sign : Def P w K mg base 1 "is_word_sign" 1 F_is_word_sign) (z_len : mg "len" = none) (z_all : mg "all" = none) : Def P w K mg base 2 "is_word" 1 F_is_word := by
  have S := sc_is_word
  refine def_of (N := ["text"]) (ps := ["text"]) (k := 1) (g := g_is_word) F0 S hm (F0.binds fun _ _ _ _ _ _ us hl => match us, hl with | [_], _ => rfl) fun cdv A outer s H E hr => ?_
  unfold g_is_word
  exact (pds_one (pd_ret (pd_and (pd_chain dop_leD dop_leD pd_int (pd_callB dcall_len rfl z_len PySem.boot_len (pda_cons (pd_var (pv 0)) pda_nil)) pd_int) (pd_one (pd_callB (dcall_all rfl) rfl z_all PyProof.Rows.boot_all (pda_cons (pd_compG (fr := []) (tn := ["sign"]) rfl rfl (by decide +kernel) (by rfl) (fun _ _ h => h) (hhas_of (by rfl)) fr_nil (by decide +kernel) (pdi_any (pd_var (pv 0))) (fun C s3 H3 fp => (pdg_name (pg_name (i := 0) (show (["sign"] : List Str).Nodup from by decide +kernel) rfl (by first | exact Or.inl rfl | exact Or.inr rfl)))) (fun C s3 H3 fp => pdts_nil) (fun C s3 H3 fp => (pd_call d_is_word_sign (hr.mono (by decide)) rfl rfl (pda_cons (pd_var (pv 0)) pda_nil)))) pda_nil))))))
theorem sc_are_words : FnScope ["thing"] ["thing"] (defScope (top 4)) := ⟨rfl, rfl, rfl, by decide +kernel, rfl, by decide +kernel, by decide +kernel⟩
theorem d_are_words {f : Addr} {fd : FuncData} (F0 : Fun K "are_words" "are_words" (top 4) f fd) (hm : mg "are_words" = some (.ref f)) (d_is_word : Def P w K mg base 2 "is_word" 1 F_is_word) (z_isinstance : mg "isinstance" = none) (z_str : mg "str" = none) (z_all : mg "all" = none) : Def P w K mg base 3 "are_words" 1 F_are_words := by
  have S := sc_are_words
  refine def_of (N := ["thing"]) (ps := ["thing"]) (k := 2) (g := g_are_words) F0 S hm (F0.binds fun _ _ _ _ _ _ us hl => match us, hl with | [_], _ => rfl) fun cdv A outer s H E hr => ?_
  unfold g_are_words
  exact (pds_one (pd_ret (pd_and (pd_isinst rfl (kit_str _) rfl z_isinstance rfl z_str PyProof.Rows.boot_str (pd_var (pv 0))) (pd_one (pd_callB (dcall_all rfl) rfl z_all PyProof.Rows.boot_all (pda_cons (pd_compG (fr := []) (tn := ["part"]) rfl rfl (by decide +kernel) (by rfl) (fun _ _ h => h) (hhas_of (by rfl)) fr_nil (by decide +kernel) (pdi_any (pd_meth PySem.F.slot_str_split PySem.F.type_str_split dmt_split (pd_var (pv 0)) (pda_cons pd_str pda_nil))) (fun C s3 H3 fp => (pdg_name (pg_name (i := 0) (show (["part"] : List Str).Nodup from by decide +kernel) rfl (by first | exact Or.inl rfl | exact Or.inr rfl)))) (fun C s3 H3 fp => pdts_nil) (fun C s3 H3 fp => (pd_call d_is_word (hr.mono (by decide)) rfl rfl (pda_cons (pd_var (pv 0)) pda_nil)))) pda_nil))))))
theorem sc_is_cue : FnScope ["thing"] ["thing"] (defScope (top 8)) := ⟨rfl, rfl, rfl, by decide +kernel, rfl, by decide +kernel, by decide +kernel⟩
theorem d_is_cue {f : Addr} {fd : FuncData} (F0 : Fun K "is_cue" "is_cue" (top 8) f fd) (hm : mg "is_cue" = some (.ref f)) (d_is_whole : Def P w K mg base 1 "is_whole" 1 F_is_whole) (d_is_name : Def P w K mg base 1 "is_name" 1 F_is_name) (d_are_words : Def P w K mg base 3 "are_words" 1 F_are_words) (z_isinstance : mg "isinstance" = none) (z_tuple : mg "tuple" = none) (z_len : mg "len" = none) : Def P w K mg base 4 "is_cue" 1 F_is_cue := by
  have S := sc_is_cue
  refine def_of (N := ["thing"]) (ps := ["thing"]) (k := 3) (g := g_is_cue) F0 S hm (F0.binds fun _ _ _ _ _ _ us hl => match us, hl with | [_], _ => rfl) fun cdv A outer s H E hr => ?_
  unfold g_is_cue
  exact (pds_cons (pd_ifS (PDW.t (pdw_or (pdt_not (pdt_val (pd_isinst rfl (kit_tuple _) rfl z_isinstance rfl z_tuple PyProof.Rows.boot_tuple (pd_var (pv 0))))) (pdw_or1 (pdt_cmp (dop_ne hr.units) (pd_callB dcall_len rfl z_len PySem.boot_len (pda_cons (pd_var (pv 0)) pda_nil)) pd_int (nomark _))))) (pds_one (pd_ret pd_bl)) pds_nil)
    (pds_cons (pd_ifS (PDW.t (pdw_or (pdt_not (pdt_val (pd_call d_is_whole (hr.mono (by decide)) rfl rfl (pda_cons (pd_ix (pd_var (pv 0)) pd_int (fun _ _ => rfl)) pda_nil)))) (pdw_or1 (pdt_not (pdt_val (pd_call d_is_whole (hr.mono (by decide)) rfl rfl (pda_cons (pd_ix (pd_var (pv 0)) pd_int (fun _ _ => rfl)) pda_nil))))))) (pds_one (pd_ret pd_bl)) pds_nil)
    (pds_one (pd_ret (pd_and (pd_chain dop_leD dop_lt pd_int (pd_ix (pd_var (pv 0)) pd_int (fun _ _ => rfl)) (pd_ix (pd_var (pv 0)) pd_int (fun _ _ => rfl))) (pd_and (pd_call d_is_name (hr.mono (by decide)) rfl rfl (pda_cons (pd_ix (pd_var (pv 0)) pd_int (fun _ _ => rfl)) pda_nil)) (pd_one (pd_call d_are_words (hr.mono (by decide)) rfl rfl (pda_cons (pd_ix (pd_var (pv 0)) pd_int (fun _ _ => rfl)) pda_nil)))))))))
theorem sc_are_cues : FnScope ["things"] ["things"] (defScope (top 9)) := ⟨rfl, rfl, rfl, by decide +kernel, rfl, by decide +kernel, by decide +kernel⟩
theorem d_are_cues {f : Addr} {fd : FuncData} (F0 : Fun K "are_cues" "are_cues" (top 9) f fd) (hm : mg "are_cues" = some (.ref f)) (d_is_cue : Def P w K mg base 4 "is_cue" 1 F_is_cue) (z_isinstance : mg "isinstance" = none) (z_list : mg "list" = none) (z_all : mg "all" = none) (z_zip : mg "zip" = none) : Def P w K mg base 5 "are_cues" 1 F_are_cues := by
  have S := sc_are_cues
  refine def_of (N := ["things"]) (ps := ["things"]) (k := 4) (g := g_are_cues) F0 S hm (F0.binds fun _ _ _ _ _ _ us hl => match us, hl with | [_], _ => rfl) fun cdv A outer s H E hr => ?_
  unfold g_are_cues
  exact (pds_cons (pd_ifS (PDW.t (pdw_or (pdt_not (pdt_val (pd_isinst rfl (kit_list _) rfl z_isinstance rfl z_list PyProof.Rows.boot_list (pd_var (pv 0))))) (pdw_or1 (pdt_not (pdt_val (pd_callB (dcall_all rfl) rfl z_all PyProof.Rows.boot_all (pda_cons (pd_compG (fr := []) (tn := ["thing"]) rfl rfl (by decide +kernel) (by rfl) (fun _ _ h => h) (hhas_of (by rfl)) fr_nil (by decide +kernel) (pdi_any (pd_var (pv 0))) (fun C s3 H3 fp => (pdg_name (pg_name (i := 0) (show (["thing"] : List Str).Nodup from by decide +kernel) rfl (by first | exact Or.inl rfl | exact Or.inr rfl)))) (fun C s3 H3 fp => pdts_nil) (fun C s3 H3 fp => (pd_call d_is_cue (hr.mono (by decide)) rfl rfl (pda_cons (pd_var (pv 0)) pda_nil)))) pda_nil))))))) (pds_one (pd_ret pd_bl)) pds_nil)
    (pds_one (pd_ret (pd_callB (dcall_all rfl) rfl z_all PyProof.Rows.boot_all (pda_cons (pd_compG (fr := []) (tn := ["one", "other"]) rfl rfl (by decide +kernel) (by rfl) (fun _ _ h => h) (hhas_of (by rfl)) fr_nil (by decide +kernel) (pdi_zip rfl z_zip (pda_cons (pd_var (pv 0)) (pda_cons (pd_cutS (pd_var (pv 0)) (pdo_some pd_int) pdo_none) pda_nil))) (fun C s3 H3 fp => (pdg_tup rfl (pdgs_cons (pdg_name (pg_name (i := 0) (show (["one", "other"] : List Str).Nodup from by decide +kernel) rfl (by first | exact Or.inl rfl | exact Or.inr rfl))) (pdgs_cons (pdg_name (pg_name (i := 1) (show (["one", "other"] : List Str).Nodup from by decide +kernel) rfl (by first | exact Or.inl rfl | exact Or.inr rfl))) pdgs_nil)))) (fun C s3 H3 fp => pdts_nil) (fun C s3 H3 fp => (pd_cmp dop_leD (pd_ix (pd_var (pv 0)) pd_int (fun _ _ => rfl)) (pd_ix (pd_var (pv 1)) pd_int (fun _ _ => rfl)) (nomark _)))) pda_nil)))))
theorem sc__law_mixed : FnScope ["_law_cell", "_law_by"] ["_law_cell", "_law_by"] (defScope (top 11)) := ⟨rfl, rfl, rfl, by decide +kernel, rfl, by decide +kernel, by decide +kernel⟩
theorem d__law_mixed {f : Addr} {fd : FuncData} (F0 : Fun K "_law_mixed" "_law_mixed" (top 11) f fd) (hm : mg "_law_mixed" = some (.ref f)) : Def P w K mg base 1 "_law_mixed" 2 F__law_mixed := by
  have S := sc__law_mixed
  refine def_of (N := ["_law_cell", "_law_by"]) (ps := ["_law_cell", "_law_by"]) (k := 0) (g := g__law_mixed) F0 S hm (F0.binds fun _ _ _ _ _ _ us hl => match us, hl with | [_, _], _ => rfl) fun cdv A outer s H E hr => ?_
  unfold g__law_mixed
  exact (pds_one (pd_ret (pd_op dop_mod (pd_op dop_mul (pd_op dop_mod (pd_var (pv 0)) pd_int) (pd_var (pv 1))) pd_int)))
theorem sc__law_word : FnScope ["_law_number", "_law_size", "_law_some", "_law_word_here", "_law_k"] ["_law_number", "_law_size"] (defScope (top 12)) := ⟨rfl, rfl, rfl, by decide +kernel, rfl, by decide +kernel, by decide +kernel⟩
theorem d__law_word {f : Addr} {fd : FuncData} (F0 : Fun K "_law_word" "_law_word" (top 12) f fd) (hm : mg "_law_word" = some (.ref f)) (z_range : mg "range" = none) : Def P w K mg base 1 "_law_word" 2 F__law_word := by
  have S := sc__law_word
  refine def_of (N := ["_law_number", "_law_size", "_law_some", "_law_word_here", "_law_k"]) (ps := ["_law_number", "_law_size"]) (k := 0) (g := g__law_word) F0 S hm (F0.binds fun _ _ _ _ _ _ us hl => match us, hl with | [_, _], _ => rfl) fun cdv A outer s H E hr => ?_
  unfold g__law_word
  exact (pds_cons (pd_set (i := 2) S.nd rfl (by first | exact Or.inl rfl | exact Or.inr rfl) pd_str)
    (pds_cons (pd_set (i := 2) S.nd rfl (by first | exact Or.inl rfl | exact Or.inr rfl) (pd_op dop_add (pd_var (pv 2)) pd_str))
    (pds_cons (pd_set (i := 3) S.nd rfl (by first | exact Or.inl rfl | exact Or.inr rfl) pd_str)
    (pds_cons (pd_forI PassesOwn.never rfl (pdi_rng1 rfl z_range (pda_cons (pd_var (pv 1)) pda_nil)) (pdg_name (pg_name (i := 4) S.nd rfl (by first | exact Or.inl rfl | exact Or.inr rfl))) (pds_cons (pd_set (i := 0) S.nd rfl (by first | exact Or.inl rfl | exact Or.inr rfl) (pd_op dop_mod (pd_op dop_add (pd_op dop_mul (pd_var (pv 0)) pd_int) pd_int) pd_int))
    (pds_one (pd_set (i := 3) S.nd rfl (by first | exact Or.inl rfl | exact Or.inr rfl) (pd_op dop_add (pd_var (pv 3)) (pd_ix (pd_var (pv 2)) (pd_op dop_mod (pd_var (pv 0)) pd_int) (fun _ _ => rfl)))))))
    (pds_one (pd_ret (pd_var (pv 3))))))))
theorem sc__law_words : FnScope ["_law_number", "_law_great", "_law_way", "_law_many", "_law_most", "_law_words_here", "_law_k"] ["_law_number", "_law_great"] (defScope (top 13)) := ⟨rfl, rfl, rfl, by decide +kernel, rfl, by decide +kernel, by decide +kernel⟩
theorem d__law_words {f : Addr} {fd : FuncData} (F0 : Fun K "_law_words" "_law_words" (top 13) f fd) (hm : mg "_law_words" = some (.ref f)) (d__law_word : Def P w K mg base 1 "_law_word" 2 F__law_word) (z_int : mg "int" = none) (z_range : mg "range" = none) : Def P w K mg base 2 "_law_words" 2 F__law_words := by
  have S := sc__law_words
  refine def_of (N := ["_law_number", "_law_great", "_law_way", "_law_many", "_law_most", "_law_words_here", "_law_k"]) (ps := ["_law_number", "_law_great"]) (k := 1) (g := g__law_words) F0 S hm (F0.binds fun _ _ _ _ _ _ us hl => match us, hl with | [_, _], _ => rfl) fun cdv A outer s H E hr => ?_
  unfold g__law_words b__law_words_0
  exact (pds_cons (pd_set (i := 2) S.nd rfl (by first | exact Or.inl rfl | exact Or.inr rfl) (pd_op dop_mod (pd_var (pv 0)) pd_int))
    (pds_cons (pd_set (i := 3) S.nd rfl (by first | exact Or.inl rfl | exact Or.inr rfl) (pd_ix (pd_lst (pda_cons (pd_op dop_add pd_int (pd_op dop_mod (pd_op dop_div (pd_var (pv 0)) pd_int) pd_int)) (pda_cons (pd_op dop_add pd_int (pd_op dop_mod (pd_op dop_div (pd_var (pv 0)) pd_int) pd_int)) (pda_cons pd_int (pda_cons (pd_op dop_add pd_int (pd_op dop_mod (pd_op dop_div (pd_var (pv 0)) pd_int) pd_int)) pda_nil))))) (pd_var (pv 2)) (fun _ _ => rfl)))
    (pds_cons (pd_set (i := 4) S.nd rfl (by first | exact Or.inl rfl | exact Or.inr rfl) (pd_ix (pd_lst (pda_cons pd_int (pda_cons pd_int (pda_cons pd_int (pda_cons pd_int pda_nil))))) (pd_var (pv 2)) (fun _ _ => rfl)))
    (pds_cons (pd_newL (i := 5) S.nd rfl (by first | exact Or.inl rfl | exact Or.inr rfl) (pdn_lst pda_nil))
    (pds_cons (pd_forI PassesOwn.never rfl (pdi_rng1 rfl z_range (pda_cons (pd_ix (pd_lst (pda_cons (pd_var (pv 3)) (pda_cons pd_int pda_nil))) (pd_callTy dcall_intS rfl z_int PyProof.Rows.boot_int (pda_cons (pd_var (pv 1)) pda_nil)) (fun _ _ => rfl)) pda_nil)) (pdg_name (pg_name (i := 6) S.nd rfl (by first | exact Or.inl rfl | exact Or.inr rfl))) (pds_cons (pd_set (i := 0) S.nd rfl (by first | exact Or.inl rfl | exact Or.inr rfl) (pd_op dop_mod (pd_op dop_add (pd_op dop_mul (pd_var (pv 0)) pd_int) pd_int) pd_int))
    (pds_one (pd_app (i := 5) (pv 5) (pd_call d__law_word (hr.mono (by decide)) rfl rfl (pda_cons (pd_var (pv 0)) (pda_cons (pd_ix (pd_lst (pda_cons (pd_op dop_add pd_int (pd_op dop_mod (pd_op dop_div (pd_var (pv 0)) pd_int) (pd_var (pv 4)))) (pda_cons pd_int pda_nil))) (pd_callTy dcall_intS rfl z_int PyProof.Rows.boot_int (pda_cons (pd_var (pv 1)) pda_nil)) (fun _ _ => rfl)) pda_nil)))))))
    (pds_frz 5 (pds_one (pd_ret (pd_meth PySem.F.slot_str_join PySem.F.type_str_join dmt_join pd_str (pda_cons (pd_var (pv 5)) pda_nil))))))))))
theorem sc__law_hand : FnScope ["_law_number", "_law_hand_here", "_law_k"] ["_law_number"] (defScope (top 14)) := ⟨rfl, rfl, rfl, by decide +kernel, rfl, by decide +kernel, by decide +kernel⟩
theorem d__law_hand {f : Addr} {fd : FuncData} (F0 : Fun K "_law_hand" "_law_hand" (top 14) f fd) (hm : mg "_law_hand" = some (.ref f)) (z_range : mg "range" = none) : Def P w K mg base 1 "_law_hand" 1 F__law_hand := by
  have S := sc__law_hand
  refine def_of (N := ["_law_number", "_law_hand_here", "_law_k"]) (ps := ["_law_number"]) (k := 0) (g := g__law_hand) F0 S hm (F0.binds fun _ _ _ _ _ _ us hl => match us, hl with | [_], _ => rfl) fun cdv A outer s H E hr => ?_
  unfold g__law_hand b__law_hand_0
  exact (pds_cons (pd_set (i := 1) S.nd rfl (by first | exact Or.inl rfl | exact Or.inr rfl) pd_str)
    (pds_cons (pd_forI PassesOwn.never rfl (pdi_rng1 rfl z_range (pda_cons (pd_op dop_add pd_int (pd_op dop_mod (pd_var (pv 0)) pd_int)) pda_nil)) (pdg_name (pg_name (i := 2) S.nd rfl (by first | exact Or.inl rfl | exact Or.inr rfl))) (pds_one (pd_set (i := 1) S.nd rfl (by first | exact Or.inl rfl | exact Or.inr rfl) (pd_op dop_add (pd_var (pv 1)) (pd_ix pd_str (pd_op dop_mod (pd_op dop_div (pd_var (pv 0)) (pd_op dop_add (pd_var (pv 2)) pd_int)) pd_int) (fun _ _ => rfl))))))
    (pds_one (pd_ret (pd_var (pv 1))))))
theorem sc__law_cue : FnScope ["_law_cell", "_law_great", "_law_number", "_law_begin", "_law_end"] ["_law_cell", "_law_great"] (defScope (top 15)) := ⟨rfl, rfl, rfl, by decide +kernel, rfl, by decide +kernel, by decide +kernel⟩
theorem d__law_cue {f : Addr} {fd : FuncData} (F0 : Fun K "_law_cue" "_law_cue" (top 15) f fd) (hm : mg "_law_cue" = some (.ref f)) (d__law_mixed : Def P w K mg base 1 "_law_mixed" 2 F__law_mixed) (d__law_hand : Def P w K mg base 1 "_law_hand" 1 F__law_hand) (d__law_words : Def P w K mg base 2 "_law_words" 2 F__law_words) : Def P w K mg base 3 "_law_cue" 2 F__law_cue := by
  have S := sc__law_cue
  refine def_of (N := ["_law_cell", "_law_great", "_law_number", "_law_begin", "_law_end"]) (ps := ["_law_cell", "_law_great"]) (k := 2) (g := g__law_cue) F0 S hm (F0.binds fun _ _ _ _ _ _ us hl => match us, hl with | [_, _], _ => rfl) fun cdv A outer s H E hr => ?_
  unfold g__law_cue
  exact (pds_cons (pd_set (i := 2) S.nd rfl (by first | exact Or.inl rfl | exact Or.inr rfl) (pd_call d__law_mixed (hr.mono (by decide)) rfl rfl (pda_cons (pd_var (pv 0)) (pda_cons pd_int pda_nil))))
    (pds_cons (pd_set (i := 3) S.nd rfl (by first | exact Or.inl rfl | exact Or.inr rfl) (pd_ix (pd_lst (pda_cons (pd_op dop_mod (pd_var (pv 2)) pd_int) (pda_cons (pd_op dop_mod (pd_op dop_div (pd_var (pv 0)) pd_int) (pd_op dop_pow pd_int pd_int)) pda_nil))) (pd_op dop_mod (pd_var (pv 0)) pd_int) (fun _ _ => rfl)))
    (pds_cons (pd_set (i := 4) S.nd rfl (by first | exact Or.inl rfl | exact Or.inr rfl) (pd_op dop_add (pd_op dop_add (pd_var (pv 3)) pd_int) (pd_ix (pd_lst (pda_cons pd_int (pda_cons (pd_op dop_mod (pd_op dop_div (pd_var (pv 2)) pd_int) pd_int) (pda_cons (pd_op dop_mod (pd_op dop_div (pd_var (pv 2)) pd_int) (pd_op dop_pow pd_int pd_int)) pda_nil)))) (pd_op dop_mod (pd_var (pv 2)) pd_int) (fun _ _ => rfl))))
    (pds_one (pd_ret (pd_tup (pda_cons (pd_var (pv 3)) (pda_cons (pd_var (pv 4)) (pda_cons (pd_call d__law_hand (hr.mono (by decide)) rfl rfl (pda_cons (pd_call d__law_mixed (hr.mono (by decide)) rfl rfl (pda_cons (pd_var (pv 0)) (pda_cons pd_int pda_nil))) pda_nil)) (pda_cons (pd_call d__law_words (hr.mono (by decide)) rfl rfl (pda_cons (pd_call d__law_mixed (hr.mono (by decide)) rfl rfl (pda_cons (pd_var (pv 0)) (pda_cons pd_int pda_nil))) (pda_cons (pd_var (pv 1)) pda_nil))) pda_nil))))))))))
theorem sc__law_no_words : FnScope ["_law_words_here", "_law_number", "_law_at", "_law_some"] ["_law_words_here", "_law_number"] (defScope (top 16)) := ⟨rfl, rfl, rfl, by decide +kernel, rfl, by decide +kernel, by decide +kernel⟩
theorem d__law_no_words {f : Addr} {fd : FuncData} (F0 : Fun K "_law_no_words" "_law_no_words" (top 16) f fd) (hm : mg "_law_no_words" = some (.ref f)) (z_len : mg "len" = none) : Def P w K mg base 1 "_law_no_words" 2 F__law_no_words := by
  have S := sc__law_no_words
  refine def_of (N := ["_law_words_here", "_law_number", "_law_at", "_law_some"]) (ps := ["_law_words_here", "_law_number"]) (k := 0) (g := g__law_no_words) F0 S hm (F0.binds fun _ _ _ _ _ _ us hl => match us, hl with | [_, _], _ => rfl) fun cdv A outer s H E hr => ?_
  unfold g__law_no_words
  exact (pds_cons (pd_set (i := 2) S.nd rfl (by first | exact Or.inl rfl | exact Or.inr rfl) (pd_op dop_mod (pd_var (pv 1)) (pd_op dop_add (pd_callB dcall_len rfl z_len PySem.boot_len (pda_cons (pd_var (pv 0)) pda_nil)) pd_int)))
    (pds_cons (pd_set (i := 3) S.nd rfl (by first | exact Or.inl rfl | exact Or.inr rfl) (pd_lst (pda_cons (pd_op dop_add pd_str (pd_var (pv 0))) (pda_cons (pd_op dop_add (pd_var (pv 0)) pd_str) (pda_cons pd_str (pda_cons (pd_op dop_add (pd_var (pv 0)) pd_str) (pda_cons (pd_op dop_add (pd_op dop_add (pd_cutS (pd_var (pv 0)) pdo_none (pdo_some (pd_var (pv 2)))) pd_str) (pd_cutS (pd_var (pv 0)) (pdo_some (pd_var (pv 2))) pdo_none)) (pda_cons (pd_op dop_add (pd_op dop_add (pd_cutS (pd_var (pv 0)) pdo_none (pdo_some (pd_var (pv 2)))) pd_str) (pd_cutS (pd_var (pv 0)) (pdo_some (pd_var (pv 2))) pdo_none)) pda_nil))))))))
    (pds_cons (pd_set (i := 3) S.nd rfl (by first | exact Or.inl rfl | exact Or.inr rfl) (pd_op dop_add (pd_var (pv 3)) (pd_lst (pda_cons (pd_op dop_add (pd_var (pv 0)) (pd_op dop_mulS pd_str pd_int)) (pda_cons pd_non (pda_cons (pd_lst (pda_cons (pd_var (pv 0)) pda_nil)) (pda_cons pd_int (pda_cons (pd_op dop_add (pd_op dop_add (pd_op dop_mulS pd_str pd_int) pd_str) (pd_var (pv 0))) pda_nil))))))))
    (pds_one (pd_ret (pd_ix (pd_var (pv 3)) (pd_op dop_mod (pd_op dop_div (pd_var (pv 1)) pd_int) pd_int) (fun _ _ => rfl)))))))
theorem sc__law_no_hand : FnScope ["_law_hand_here", "_law_number", "_law_at", "_law_some"] ["_law_hand_here", "_law_number"] (defScope (top 17)) := ⟨rfl, rfl, rfl, by decide +kernel, rfl, by decide +kernel, by decide +kernel⟩
theorem d__law_no_hand {f : Addr} {fd : FuncData} (F0 : Fun K "_law_no_hand" "_law_no_hand" (top 17) f fd) (hm : mg "_law_no_hand" = some (.ref f)) (z_len : mg "len" = none) : Def P w K mg base 1 "_law_no_hand" 2 F__law_no_hand := by
  have S := sc__law_no_hand
  refine def_of (N := ["_law_hand_here", "_law_number", "_law_at", "_law_some"]) (ps := ["_law_hand_here", "_law_number"]) (k := 0) (g := g__law_no_hand) F0 S hm (F0.binds fun _ _ _ _ _ _ us hl => match us, hl with | [_, _], _ => rfl) fun cdv A outer s H E hr => ?_
  unfold g__law_no_hand
  exact (pds_cons (pd_set (i := 2) S.nd rfl (by first | exact Or.inl rfl | exact Or.inr rfl) (pd_op dop_mod (pd_var (pv 1)) (pd_callB dcall_len rfl z_len PySem.boot_len (pda_cons (pd_var (pv 0)) pda_nil))))
    (pds_cons (pd_set (i := 3) S.nd rfl (by first | exact Or.inl rfl | exact Or.inr rfl) (pd_lst (pda_cons pd_str (pda_cons (pd_op dop_add (pd_var (pv 0)) pd_str) (pda_cons (pd_op dop_add (pd_op dop_add (pd_cutS (pd_var (pv 0)) pdo_none (pdo_some (pd_var (pv 2)))) pd_str) (pd_cutS (pd_var (pv 0)) (pdo_some (pd_op dop_add (pd_var (pv 2)) pd_int)) pdo_none)) (pda_cons (pd_op dop_add (pd_op dop_add (pd_cutS (pd_var (pv 0)) pdo_none (pdo_some (pd_var (pv 2)))) pd_str) (pd_cutS (pd_var (pv 0)) (pdo_some (pd_op dop_add (pd_var (pv 2)) pd_int)) pdo_none)) pda_nil))))))
    (pds_cons (pd_set (i := 3) S.nd rfl (by first | exact Or.inl rfl | exact Or.inr rfl) (pd_op dop_add (pd_var (pv 3)) (pd_lst (pda_cons (pd_op dop_add (pd_op dop_add (pd_cutS (pd_var (pv 0)) pdo_none (pdo_some (pd_var (pv 2)))) pd_str) (pd_cutS (pd_var (pv 0)) (pdo_some (pd_op dop_add (pd_var (pv 2)) pd_int)) pdo_none)) (pda_cons pd_non (pda_cons (pd_lst (pda_cons (pd_var (pv 0)) pda_nil)) (pda_cons pd_int pda_nil)))))))
    (pds_one (pd_ret (pd_ix (pd_var (pv 3)) (pd_op dop_mod (pd_op dop_div (pd_var (pv 1)) pd_int) pd_int) (fun _ _ => rfl)))))))
theorem sc__law_spoiled : FnScope ["_law_cue_here", "_law_number", "_law_way", "_law_part", "_law_begin", "_law_end", "_law_hand_here", "_law_words_here"] ["_law_cue_here", "_law_number"] (defScope (top 18)) := ⟨rfl, rfl, rfl, by decide +kernel, rfl, by decide +kernel, by decide +kernel⟩
theorem d__law_spoiled {f : Addr} {fd : FuncData} (F0 : Fun K "_law_spoiled" "_law_spoiled" (top 18) f fd) (hm : mg "_law_spoiled" = some (.ref f)) (d__law_no_hand : Def P w K mg base 1 "_law_no_hand" 2 F__law_no_hand) (d__law_no_words : Def P w K mg base 1 "_law_no_words" 2 F__law_no_words) (z_str : mg "str" = none) (z_list : mg "list" = none) : Def P w K mg base 2 "_law_spoiled" 2 F__law_spoiled := by
  have S := sc__law_spoiled
  refine def_of (N := ["_law_cue_here", "_law_number", "_law_way", "_law_part", "_law_begin", "_law_end", "_law_hand_here", "_law_words_here"]) (ps := ["_law_cue_here", "_law_number"]) (k := 1) (g := g__law_spoiled) F0 S hm (F0.binds fun _ _ _ _ _ _ us hl => match us, hl with | [_, _], _ => rfl) fun cdv A outer s H E hr => ?_
  unfold g__law_spoiled
  exact (pds_cons (pd_asg (pd_var (pv 0)) (pdg_tup rfl (pdgs_cons (pdg_name (pg_name (i := 4) S.nd rfl (by first | exact Or.inl rfl | exact Or.inr rfl))) (pdgs_cons (pdg_name (pg_name (i := 5) S.nd rfl (by first | exact Or.inl rfl | exact Or.inr rfl))) (pdgs_cons (pdg_name (pg_name (i := 6) S.nd rfl (by first | exact Or.inl rfl | exact Or.inr rfl))) (pdgs_cons (pdg_name (pg_name (i := 7) S.nd rfl (by first | exact Or.inl rfl | exact Or.inr rfl))) pdgs_nil))))))
    (pds_cons (pd_set (i := 2) S.nd rfl (by first | exact Or.inl rfl | exact Or.inr rfl) (pd_op dop_mod (pd_var (pv 1)) pd_int))
    (pds_cons (pd_set (i := 3) S.nd rfl (by first | exact Or.inl rfl | exact Or.inr rfl) (pd_op dop_div (pd_var (pv 1)) pd_int))
    (pds_cons (pd_ifS (pdt_cmp (dop_eq hr.units) (pd_var (pv 2)) pd_int (nomark _)) (pds_one (pd_ret (pd_tup (pda_cons (pd_var (pv 4)) (pda_cons (pd_op dop_sub (pd_var (pv 4)) (pd_op dop_mod (pd_var (pv 3)) pd_int)) (pda_cons (pd_var (pv 6)) (pda_cons (pd_var (pv 7)) pda_nil))))))) pds_nil)
    (pds_cons (pd_ifS (pdt_cmp (dop_eq hr.units) (pd_var (pv 2)) pd_int (nomark _)) (pds_one (pd_ret (pd_tup (pda_cons (pd_op dop_sub (pd_neg pd_int) (pd_op dop_mod (pd_var (pv 3)) pd_int)) (pda_cons (pd_var (pv 5)) (pda_cons (pd_var (pv 6)) (pda_cons (pd_var (pv 7)) pda_nil))))))) pds_nil)
    (pds_cons (pd_ifS (pdt_cmp (dop_eq hr.units) (pd_var (pv 2)) pd_int (nomark _)) (pds_one (pd_ret (pd_tup (pda_cons (pd_ix (pd_lst (pda_cons pd_bl (pda_cons (pd_callTy dcall_str rfl z_str PyProof.Rows.boot_str (pda_cons (pd_var (pv 4)) pda_nil)) (pda_cons pd_non (pda_cons (pd_lst (pda_cons (pd_var (pv 4)) pda_nil)) pda_nil))))) (pd_op dop_mod (pd_var (pv 3)) pd_int) (fun _ _ => rfl)) (pda_cons (pd_var (pv 5)) (pda_cons (pd_var (pv 6)) (pda_cons (pd_var (pv 7)) pda_nil))))))) pds_nil)
    (pds_cons (pd_ifS (pdt_cmp (dop_eq hr.units) (pd_var (pv 2)) pd_int (nomark _)) (pds_one (pd_ret (pd_tup (pda_cons pd_int (pda_cons (pd_ix (pd_lst (pda_cons pd_bl (pda_cons (pd_callTy dcall_str rfl z_str PyProof.Rows.boot_str (pda_cons (pd_var (pv 5)) pda_nil)) (pda_cons pd_non (pda_cons (pd_tup (pda_cons (pd_var (pv 5)) pda_nil)) pda_nil))))) (pd_op dop_mod (pd_var (pv 3)) pd_int) (fun _ _ => rfl)) (pda_cons (pd_var (pv 6)) (pda_cons (pd_var (pv 7)) pda_nil))))))) pds_nil)
    (pds_cons (pd_ifS (pdt_cmp (dop_eq hr.units) (pd_var (pv 2)) pd_int (nomark _)) (pds_one (pd_ret (pd_op dop_add (pd_cutS (pd_var (pv 0)) pdo_none (pdo_some (pd_op dop_mod (pd_var (pv 3)) pd_int))) (pd_cutS (pd_var (pv 0)) (pdo_some (pd_op dop_add (pd_op dop_mod (pd_var (pv 3)) pd_int) pd_int)) pdo_none)))) pds_nil)
    (pds_cons (pd_ifS (pdt_cmp (dop_eq hr.units) (pd_var (pv 2)) pd_int (nomark _)) (pds_one (pd_ret (pd_op dop_add (pd_var (pv 0)) (pd_tup (pda_cons (pd_ix (pd_lst (pda_cons (pd_var (pv 4)) (pda_cons (pd_var (pv 6)) (pda_cons (pd_var (pv 7)) pda_nil)))) (pd_op dop_mod (pd_var (pv 3)) pd_int) (fun _ _ => rfl)) pda_nil))))) pds_nil)
    (pds_cons (pd_ifS (pdt_cmp (dop_eq hr.units) (pd_var (pv 2)) pd_int (nomark _)) (pds_one (pd_ret (pd_ix (pd_lst (pda_cons (pd_callTy dcall_list rfl z_list PyProof.Rows.boot_list (pda_cons (pd_var (pv 0)) pda_nil)) (pda_cons pd_non (pda_cons (pd_var (pv 7)) (pda_cons (pd_var (pv 4)) pda_nil))))) (pd_op dop_mod (pd_var (pv 3)) pd_int) (fun _ _ => rfl)))) pds_nil)
    (pds_cons (pd_ifS (pdt_cmp (dop_eq hr.units) (pd_var (pv 2)) pd_int (nomark _)) (pds_one (pd_ret (pd_tup (pda_cons (pd_var (pv 4)) (pda_cons (pd_var (pv 5)) (pda_cons (pd_call d__law_no_hand (hr.mono (by decide)) rfl rfl (pda_cons (pd_var (pv 6)) (pda_cons (pd_var (pv 3)) pda_nil))) (pda_cons (pd_var (pv 7)) pda_nil))))))) pds_nil)
    (pds_one (pd_ret (pd_tup (pda_cons (pd_var (pv 4)) (pda_cons (pd_var (pv 5)) (pda_cons (pd_var (pv 6)) (pda_cons (pd_call d__law_no_words (hr.mono (by decide)) rfl rfl (pda_cons (pd_var (pv 7)) (pda_cons (pd_var (pv 3)) pda_nil))) pda_nil))))))))))))))))))
theorem sc_law : FnScope ["_law_script", "_law_good", "_law_bad", "_law_backward", "_law_at", "_law_k", "_law_cell", "_law_cue_here", "_law_other"] ["_law_script"] (defScope (top 19)) := ⟨rfl, rfl, rfl, by decide +kernel, rfl, by decide +kernel, by decide +kernel⟩
theorem fn_law {f c Pt : Addr} {fd : FuncData} (hc : fd.code = .ref c) (hch : PySem.W.CodeHd base c Pt) (hbi : base.BuiltinsAt mg Pt) (z_sorted : mg "sorted" = none) (F0 : Fun K "law" "law" (top 19) f fd) (d__law_cue : Def P w K mg base 3 "_law_cue" 2 F__law_cue) (d__law_mixed : Def P w K mg base 1 "_law_mixed" 2 F__law_mixed) (d__law_spoiled : Def P w K mg base 2 "_law_spoiled" 2 F__law_spoiled) (d_is_cue : Def P w K mg base 4 "is_cue" 1 F_is_cue) (d_are_cues : Def P w K mg base 5 "are_cues" 1 F_are_cues) (z_len : mg "len" = none) (z_enumerate : mg "enumerate" = none) (z_list : mg "list" = none) (z_tuple : mg "tuple" = none) (z_reversed : mg "reversed" = none) (z_isinstance : mg "isinstance" = none) (z_bool : mg "bool" = none) (z_sum : mg "sum" = none) : FnOk P w K mg base CX0 6 f fd ["_law_script"] (spL K Pt F_law) := by
  have S := sc_law
  refine fn_ofL (N := ["_law_script", "_law_good", "_law_bad", "_law_backward", "_law_at", "_law_k", "_law_cell", "_law_cue_here", "_law_other"]) (ps := ["_law_script"]) (k := 5) (g := g_law) F0 S rfl hc fun A outer s H E hr => ?_
  unfold g_law b_law_0
  exact (pdl_cons (pd_newL (i := 1) S.nd rfl (by first | exact Or.inl rfl | exact Or.inr rfl) (pdn_lst pda_nil))
    (pdl_cons (pd_newL (i := 2) S.nd rfl (by first | exact Or.inl rfl | exact Or.inr rfl) (pdn_lst pda_nil))
    (pdl_cons (pd_forI PassesOwn.never rfl (pdi_enum rfl z_enumerate (pda_cons (pd_op dop_add (pd_lst (pda_cons pd_int pda_nil)) (pd_cutS (pd_var (pv 0)) pdo_none (pdo_some pd_int))) pda_nil)) (pdg_tup rfl (pdgs_cons (pdg_name (pg_name (i := 5) S.nd rfl (by first | exact Or.inl rfl | exact Or.inr rfl))) (pdgs_cons (pdg_name (pg_name (i := 6) S.nd rfl (by first | exact Or.inl rfl | exact Or.inr rfl))) pdgs_nil))) (pds_cons (pd_set (i := 7) S.nd rfl (by first | exact Or.inl rfl | exact Or.inr rfl) (pd_call d__law_cue (hr.mono (by decide)) rfl rfl (pda_cons (pd_var (pv 6)) (pda_cons (pd_cmp (dop_eq hr.units) (pd_var (pv 5)) (pd_op dop_mod (pd_callB dcall_len rfl z_len PySem.boot_len (pda_cons (pd_var (pv 0)) pda_nil)) pd_int) (nomark _)) pda_nil))))
    (pds_cons (pd_set (i := 8) S.nd rfl (by first | exact Or.inl rfl | exact Or.inr rfl) (pd_call d__law_spoiled (hr.mono (by decide)) rfl rfl (pda_cons (pd_var (pv 7)) (pda_cons (pd_call d__law_mixed (hr.mono (by decide)) rfl rfl (pda_cons (pd_op dop_add (pd_var (pv 6)) (pd_var (pv 5))) (pda_cons pd_int pda_nil))) pda_nil))))
    (pds_cons (pd_ifS (PDW.t (pdw_or (pdt_cmp dop_isnot (pd_call d_is_cue (hr.mono (by decide)) rfl rfl (pda_cons (pd_var (pv 7)) pda_nil)) pd_bl (nomark _)) (pdw_or1 (pdt_cmp dop_isnot (pd_call d_is_cue (hr.mono (by decide)) rfl rfl (pda_cons (pd_var (pv 8)) pda_nil)) pd_bl (nomark _))))) (pds_one (pd_ret pd_bl)) pds_nil)
    (pds_cons (pd_app (i := 1) (pv 1) (pd_var (pv 7)))
    (pds_one (pd_app (i := 2) (pv 2) (pd_var (pv 8)))))))))
    (pdl_frz 1 (pdl_sort (i := 1) S.nd rfl (by first | exact Or.inl rfl | exact Or.inr rfl) (pe_sortK rfl rfl z_sorted (pv 1) ⟨⟨_, _, _, _, _, _, rfl, rfl, rfl, rfl, by decide, rfl, fun _ => rfl, fun _ => rfl, rfl, fun _ _ _ _ _ _ => rfl⟩⟩ rfl hch hbi (Nat.lt_of_le_of_lt (Nat.le_trans (Nat.le_add_right _ _) (Nat.le_add_right _ _)) hr.dp) (fun _ => rfl)) rfl (.inl rfl) (pds_cons (pd_ifS (PDW.t (pdw_or (pdt_cmp dop_isnot (pd_call d_are_cues (hr.mono (by decide)) rfl rfl (pda_cons (pd_callTy dcall_list rfl z_list PyProof.Rows.boot_list (pda_cons (pd_var (pv 1)) pda_nil)) pda_nil)) pd_bl (nomark _)) (pdw_or (pdt_cmp dop_isnot (pd_call d_are_cues (hr.mono (by decide)) rfl rfl (pda_cons (pd_lst pda_nil) pda_nil)) pd_bl (nomark _)) (pdw_or1 (pdt_cmp dop_isnot (pd_call d_are_cues (hr.mono (by decide)) rfl rfl (pda_cons (pd_callTy dcall_tuple rfl z_tuple PyProof.Rows.boot_tuple (pda_cons (pd_var (pv 1)) pda_nil)) pda_nil)) pd_bl (nomark _)))))) (pds_one (pd_ret pd_bl)) pds_nil)
    (pds_cons (pd_set (i := 3) S.nd rfl (by first | exact Or.inl rfl | exact Or.inr rfl) (pd_call d_are_cues (hr.mono (by decide)) rfl rfl (pda_cons (pd_compG (fr := []) (tn := ["_law_cue_here"]) rfl rfl (by decide +kernel) (by rfl) (fun _ _ h => h) (hhas_of (by rfl)) fr_nil (by decide +kernel) (pdi_rev rfl z_reversed (pda_cons (pd_var (pv 1)) pda_nil)) (fun C s3 H3 fp => (pdg_name (pg_name (i := 0) (show (["_law_cue_here"] : List Str).Nodup from by decide +kernel) rfl (by first | exact Or.inl rfl | exact Or.inr rfl)))) (fun C s3 H3 fp => pdts_nil) (fun C s3 H3 fp => (pd_var (pv 0)))) pda_nil)))
    (pds_cons (pd_ifS (PDW.t (pdw_or (pdt_not (pdt_val (pd_isinst rfl (kit_bool _) rfl z_isinstance rfl z_bool PyProof.Rows.boot_bool (pd_var (pv 3))))) (pdw_or1 (pdt_cmp (dop_ne hr.units) (pd_var (pv 3)) (pd_cmp (dop_eq hr.units) (pd_ix (pd_ix (pd_var (pv 1)) pd_int (fun _ _ => rfl)) pd_int (fun _ _ => rfl)) (pd_ix (pd_ix (pd_var (pv 1)) (pd_neg pd_int) (fun _ _ => rfl)) pd_int (fun _ _ => rfl)) (nomark _)) (nomark _))))) (pds_one (pd_ret pd_bl)) pds_nil)
    (pds_cons (pd_set (i := 4) S.nd rfl (by first | exact Or.inl rfl | exact Or.inr rfl) (pd_op dop_mod (pd_callB (dcall_sumG rfl) rfl z_sum PyProof.Rows.boot_sum (pda_cons (pd_compG (fr := []) (tn := ["_law_cue_here"]) rfl rfl (by decide +kernel) (by rfl) (fun _ _ h => h) (hhas_of (by rfl)) fr_nil (by decide +kernel) (pdi_any (pd_var (pv 1))) (fun C s3 H3 fp => (pdg_name (pg_name (i := 0) (show (["_law_cue_here"] : List Str).Nodup from by decide +kernel) rfl (by first | exact Or.inl rfl | exact Or.inr rfl)))) (fun C s3 H3 fp => pdts_nil) (fun C s3 H3 fp => (pd_ix (pd_var (pv 0)) pd_int (fun _ _ => rfl)))) pda_nil)) (pd_op dop_add (pd_callB dcall_len rfl z_len PySem.boot_len (pda_cons (pd_var (pv 1)) pda_nil)) pd_int)))
    (pds_frz 2 (pds_cons (pd_ifS (pdt_cmp dop_isnot (pd_call d_are_cues (hr.mono (by decide)) rfl rfl (pda_cons (pd_op dop_add (pd_op dop_add (pd_cutS (pd_var (pv 1)) pdo_none (pdo_some (pd_var (pv 4)))) (pd_lst (pda_cons (pd_ix (pd_var (pv 2)) (pd_op dop_sub (pd_var (pv 4)) pd_int) (fun _ _ => rfl)) pda_nil))) (pd_cutS (pd_var (pv 1)) (pdo_some (pd_var (pv 4))) pdo_none)) pda_nil)) pd_bl (nomark _)) (pds_one (pd_ret pd_bl)) pds_nil)
    (pds_one (pd_ret (pd_and (pd_cmp dop_is (pd_call d_are_cues (hr.mono (by decide)) rfl rfl (pda_cons (pd_ix (pd_var (pv 2)) pd_int (fun _ _ => rfl)) pda_nil)) pd_bl (nomark _)) (pd_and (pd_cmp dop_is (pd_call d_are_cues (hr.mono (by decide)) rfl rfl (pda_cons pd_non pda_nil)) pd_bl (nomark _)) (pd_one (pd_cmp dop_is (pd_call d_are_cues (hr.mono (by decide)) rfl rfl (pda_cons pd_str pda_nil)) pd_bl (nomark _))))))))))))))))))
end
theorem all_mk {l : PySem.W.OpenLaw} {cl Pt : Addr} {w : World} {K : PySem.W.Frag} {h : Heap} {mg : Str → Option Value} {fa f0 f1 f2 f3 f4 f5 f6 f7 f8 f9 f10 f11 f12 f13 f14 f15 : Addr} (X : K.In h) (G : h.Ns mainGlobals mg) (hfa : mg "law" = some (.ref fa))
    {od0 an0 od1 an1 od2 an2 od3 an3 od4 an4 od5 an5 od6 an6 od7 an7 od8 an8 od9 an9 od10 an10 od11 an11 od12 an12 od13 an13 od14 an14 od15 an15 : Option Addr} {sl0 sl1 sl2 sl3 sl4 sl5 sl6 sl7 sl8 sl9 sl10 sl11 sl12 sl13 sl14 sl15 : Array (Option Value)} {oc0 kV0 dc0 pm0 cd0 ct0 oc1 kV1 dc1 pm1 cd1 ct1 oc2 kV2 dc2 pm2 cd2 ct2 oc3 kV3 dc3 pm3 cd3 ct3 oc4 kV4 dc4 pm4 cd4 ct4 oc5 kV5 dc5 pm5 cd5 ct5 oc6 kV6 dc6 pm6 cd6 ct6 oc7 kV7 dc7 pm7 cd7 ct7 oc8 kV8 dc8 pm8 cd8 ct8 oc9 kV9 dc9 pm9 cd9 ct9 oc10 kV10 dc10 pm10 cd10 ct10 oc11 kV11 dc11 pm11 cd11 ct11 oc12 kV12 dc12 pm12 cd12 ct12 oc13 kV13 dc13 pm13 cd13 ct13 oc14 kV14 dc14 pm14 cd14 ct14 oc15 kV15 dc15 pm15 ct15 : Value}
    (a0 : PySem.W.nsIn K mainGlobals "is_whole" = some (some (.ref f0))) (l0 : K.lookup f0 = some ⟨oc0, od0, .func (PySem.W.fnOf "is_whole" "is_whole" (defArgs (top 2)) (defBody (top 2)) (defScope (top 2)) .none kV0 dc0 pm0 an0 cd0 ct0), sl0⟩) (c0 : PySem.W.codeIn K cd0 "is_whole" = true) (k0 : PySem.W.keepIn K (.ref f0) = true)
    (a1 : PySem.W.nsIn K mainGlobals "is_name" = some (some (.ref f1))) (l1 : K.lookup f1 = some ⟨oc1, od1, .func (PySem.W.fnOf "is_name" "is_name" (defArgs (top 3)) (defBody (top 3)) (defScope (top 3)) .none kV1 dc1 pm1 an1 cd1 ct1), sl1⟩) (c1 : PySem.W.codeIn K cd1 "is_name" = true) (k1 : PySem.W.keepIn K (.ref f1) = true)
    (a2 : PySem.W.nsIn K mainGlobals "is_word_sign" = some (some (.ref f2))) (l2 : K.lookup f2 = some ⟨oc2, od2, .func (PySem.W.fnOf "is_word_sign" "is_word_sign" (defArgs (top 6)) (defBody (top 6)) (defScope (top 6)) .none kV2 dc2 pm2 an2 cd2 ct2), sl2⟩) (c2 : PySem.W.codeIn K cd2 "is_word_sign" = true) (k2 : PySem.W.keepIn K (.ref f2) = true)
    (a3 : PySem.W.nsIn K mainGlobals "is_word" = some (some (.ref f3))) (l3 : K.lookup f3 = some ⟨oc3, od3, .func (PySem.W.fnOf "is_word" "is_word" (defArgs (top 5)) (defBody (top 5)) (defScope (top 5)) .none kV3 dc3 pm3 an3 cd3 ct3), sl3⟩) (c3 : PySem.W.codeIn K cd3 "is_word" = true) (k3 : PySem.W.keepIn K (.ref f3) = true)
    (a4 : PySem.W.nsIn K mainGlobals "are_words" = some (some (.ref f4))) (l4 : K.lookup f4 = some ⟨oc4, od4, .func (PySem.W.fnOf "are_words" "are_words" (defArgs (top 4)) (defBody (top 4)) (defScope (top 4)) .none kV4 dc4 pm4 an4 cd4 ct4), sl4⟩) (c4 : PySem.W.codeIn K cd4 "are_words" = true) (k4 : PySem.W.keepIn K (.ref f4) = true)
    (a5 : PySem.W.nsIn K mainGlobals "is_cue" = some (some (.ref f5))) (l5 : K.lookup f5 = some ⟨oc5, od5, .func (PySem.W.fnOf "is_cue" "is_cue" (defArgs (top 8)) (defBody (top 8)) (defScope (top 8)) .none kV5 dc5 pm5 an5 cd5 ct5), sl5⟩) (c5 : PySem.W.codeIn K cd5 "is_cue" = true) (k5 : PySem.W.keepIn K (.ref f5) = true)
    (a6 : PySem.W.nsIn K mainGlobals "are_cues" = some (some (.ref f6))) (l6 : K.lookup f6 = some ⟨oc6, od6, .func (PySem.W.fnOf "are_cues" "are_cues" (defArgs (top 9)) (defBody (top 9)) (defScope (top 9)) .none kV6 dc6 pm6 an6 cd6 ct6), sl6⟩) (c6 : PySem.W.codeIn K cd6 "are_cues" = true) (k6 : PySem.W.keepIn K (.ref f6) = true)
    (a7 : PySem.W.nsIn K mainGlobals "_law_mixed" = some (some (.ref f7))) (l7 : K.lookup f7 = some ⟨oc7, od7, .func (PySem.W.fnOf "_law_mixed" "_law_mixed" (defArgs (top 11)) (defBody (top 11)) (defScope (top 11)) .none kV7 dc7 pm7 an7 cd7 ct7), sl7⟩) (c7 : PySem.W.codeIn K cd7 "_law_mixed" = true) (k7 : PySem.W.keepIn K (.ref f7) = true)
    (a8 : PySem.W.nsIn K mainGlobals "_law_word" = some (some (.ref f8))) (l8 : K.lookup f8 = some ⟨oc8, od8, .func (PySem.W.fnOf "_law_word" "_law_word" (defArgs (top 12)) (defBody (top 12)) (defScope (top 12)) .none kV8 dc8 pm8 an8 cd8 ct8), sl8⟩) (c8 : PySem.W.codeIn K cd8 "_law_word" = true) (k8 : PySem.W.keepIn K (.ref f8) = true)
    (a9 : PySem.W.nsIn K mainGlobals "_law_words" = some (some (.ref f9))) (l9 : K.lookup f9 = some ⟨oc9, od9, .func (PySem.W.fnOf "_law_words" "_law_words" (defArgs (top 13)) (defBody (top 13)) (defScope (top 13)) .none kV9 dc9 pm9 an9 cd9 ct9), sl9⟩) (c9 : PySem.W.codeIn K cd9 "_law_words" = true) (k9 : PySem.W.keepIn K (.ref f9) = true)
    (a10 : PySem.W.nsIn K mainGlobals "_law_hand" = some (some (.ref f10))) (l10 : K.lookup f10 = some ⟨oc10, od10, .func (PySem.W.fnOf "_law_hand" "_law_hand" (defArgs (top 14)) (defBody (top 14)) (defScope (top 14)) .none kV10 dc10 pm10 an10 cd10 ct10), sl10⟩) (c10 : PySem.W.codeIn K cd10 "_law_hand" = true) (k10 : PySem.W.keepIn K (.ref f10) = true)
    (a11 : PySem.W.nsIn K mainGlobals "_law_cue" = some (some (.ref f11))) (l11 : K.lookup f11 = some ⟨oc11, od11, .func (PySem.W.fnOf "_law_cue" "_law_cue" (defArgs (top 15)) (defBody (top 15)) (defScope (top 15)) .none kV11 dc11 pm11 an11 cd11 ct11), sl11⟩) (c11 : PySem.W.codeIn K cd11 "_law_cue" = true) (k11 : PySem.W.keepIn K (.ref f11) = true)
    (a12 : PySem.W.nsIn K mainGlobals "_law_no_words" = some (some (.ref f12))) (l12 : K.lookup f12 = some ⟨oc12, od12, .func (PySem.W.fnOf "_law_no_words" "_law_no_words" (defArgs (top 16)) (defBody (top 16)) (defScope (top 16)) .none kV12 dc12 pm12 an12 cd12 ct12), sl12⟩) (c12 : PySem.W.codeIn K cd12 "_law_no_words" = true) (k12 : PySem.W.keepIn K (.ref f12) = true)
    (a13 : PySem.W.nsIn K mainGlobals "_law_no_hand" = some (some (.ref f13))) (l13 : K.lookup f13 = some ⟨oc13, od13, .func (PySem.W.fnOf "_law_no_hand" "_law_no_hand" (defArgs (top 17)) (defBody (top 17)) (defScope (top 17)) .none kV13 dc13 pm13 an13 cd13 ct13), sl13⟩) (c13 : PySem.W.codeIn K cd13 "_law_no_hand" = true) (k13 : PySem.W.keepIn K (.ref f13) = true)
    (a14 : PySem.W.nsIn K mainGlobals "_law_spoiled" = some (some (.ref f14))) (l14 : K.lookup f14 = some ⟨oc14, od14, .func (PySem.W.fnOf "_law_spoiled" "_law_spoiled" (defArgs (top 18)) (defBody (top 18)) (defScope (top 18)) .none kV14 dc14 pm14 an14 cd14 ct14), sl14⟩) (c14 : PySem.W.codeIn K cd14 "_law_spoiled" = true) (k14 : PySem.W.keepIn K (.ref f14) = true)
    (a15 : PySem.W.nsIn K mainGlobals "law" = some (some (.ref f15))) (l15 : K.lookup f15 = some ⟨oc15, od15, .func (PySem.W.fnOf "law" "law" (defArgs (top 19)) (defBody (top 19)) (defScope (top 19)) .none kV15 dc15 pm15 an15 (.ref cl) ct15), sl15⟩) (c15 : PySem.W.codeIn K (.ref cl) "law" = true) (k15 : PySem.W.keepIn K (.ref f15) = true)
    (z_isinstance : PySem.W.nsIn K mainGlobals "isinstance" = some none)
    (z_int : PySem.W.nsIn K mainGlobals "int" = some none)
    (z_bool : PySem.W.nsIn K mainGlobals "bool" = some none)
    (z_str : PySem.W.nsIn K mainGlobals "str" = some none)
    (z_len : PySem.W.nsIn K mainGlobals "len" = some none)
    (z_all : PySem.W.nsIn K mainGlobals "all" = some none)
    (z_ord : PySem.W.nsIn K mainGlobals "ord" = some none)
    (z_tuple : PySem.W.nsIn K mainGlobals "tuple" = some none)
    (z_list : PySem.W.nsIn K mainGlobals "list" = some none)
    (z_zip : PySem.W.nsIn K mainGlobals "zip" = some none)
    (z_range : PySem.W.nsIn K mainGlobals "range" = some none)
    (z_enumerate : PySem.W.nsIn K mainGlobals "enumerate" = some none)
    (z_reversed : PySem.W.nsIn K mainGlobals "reversed" = some none)
    (z_sum : PySem.W.nsIn K mainGlobals "sum" = some none)
    {t_PERCENT : Tok} (n_PERCENT : PySem.W.nsIn K mainGlobals "PERCENT" = some (some (.int 37 t_PERCENT))) (ch : PySem.W.codeHdIn K cl Pt = true) (z_sorted : PySem.W.nsIn K mainGlobals "sorted" = some none) :
    ∃ fd : FuncData, (∀ (s : Shared) (v : Value), BindsTo s fd ⟨[v], []⟩ [("_law_script", v)]) ∧ (∃ c, PySem.W.CodeHd h c Pt) ∧ ∀ base : Heap, K.In base → base.Ns mainGlobals mg → base.BuiltinsAt mg Pt → FnOk l.prog w K mg base CX0 6 fa fd ["_law_script"] (spL K Pt F_law) := by
  have e := hfa.symm.trans (PySem.W.mg_of X G a15)
  cases e
  have zz_isinstance := PySem.W.mg_none_of X G z_isinstance
  have zz_int := PySem.W.mg_none_of X G z_int
  have zz_bool := PySem.W.mg_none_of X G z_bool
  have zz_str := PySem.W.mg_none_of X G z_str
  have zz_len := PySem.W.mg_none_of X G z_len
  have zz_all := PySem.W.mg_none_of X G z_all
  have zz_ord := PySem.W.mg_none_of X G z_ord
  have zz_tuple := PySem.W.mg_none_of X G z_tuple
  have zz_list := PySem.W.mg_none_of X G z_list
  have zz_zip := PySem.W.mg_none_of X G z_zip
  have zz_range := PySem.W.mg_none_of X G z_range
  have zz_enumerate := PySem.W.mg_none_of X G z_enumerate
  have zz_reversed := PySem.W.mg_none_of X G z_reversed
  have zz_sorted := PySem.W.mg_none_of X G z_sorted
  have zz_sum := PySem.W.mg_none_of X G z_sum
  refine ⟨PySem.W.fnOf "law" "law" (defArgs (top 19)) (defBody (top 19)) (defScope (top 19)) .none kV15 dc15 pm15 an15 (.ref cl) ct15, fun s v => .of_eq rfl, ⟨cl, PySem.W.codeHd_of_K X ch⟩, fun base kb _ hbi => ?_⟩
  have m_PERCENT := PySem.W.mg_of X G n_PERCENT
  have D0 : Def l.prog w K mg base 1 "is_whole" 1 F_is_whole := d_is_whole (fun_mk l0 c0 k0) (PySem.W.mg_of X G a0) zz_isinstance zz_int zz_bool
  have D1 : Def l.prog w K mg base 1 "is_name" 1 F_is_name := d_is_name (fun_mk l1 c1 k1) (PySem.W.mg_of X G a1) zz_isinstance zz_str zz_len zz_all
  have D2 : Def l.prog w K mg base 1 "is_word_sign" 1 F_is_word_sign := d_is_word_sign (fun_mk l2 c2 k2) (PySem.W.mg_of X G a2) m_PERCENT zz_ord
  have D3 : Def l.prog w K mg base 2 "is_word" 1 F_is_word := d_is_word (fun_mk l3 c3 k3) (PySem.W.mg_of X G a3) D2 zz_len zz_all
  have D4 : Def l.prog w K mg base 3 "are_words" 1 F_are_words := d_are_words (fun_mk l4 c4 k4) (PySem.W.mg_of X G a4) D3 zz_isinstance zz_str zz_all
  have D5 : Def l.prog w K mg base 4 "is_cue" 1 F_is_cue := d_is_cue (fun_mk l5 c5 k5) (PySem.W.mg_of X G a5) D0 D1 D4 zz_isinstance zz_tuple zz_len
  have D6 : Def l.prog w K mg base 5 "are_cues" 1 F_are_cues := d_are_cues (fun_mk l6 c6 k6) (PySem.W.mg_of X G a6) D5 zz_isinstance zz_list zz_all zz_zip
  have D7 : Def l.prog w K mg base 1 "_law_mixed" 2 F__law_mixed := d__law_mixed (fun_mk l7 c7 k7) (PySem.W.mg_of X G a7)
  have D8 : Def l.prog w K mg base 1 "_law_word" 2 F__law_word := d__law_word (fun_mk l8 c8 k8) (PySem.W.mg_of X G a8) zz_range
  have D9 : Def l.prog w K mg base 2 "_law_words" 2 F__law_words := d__law_words (fun_mk l9 c9 k9) (PySem.W.mg_of X G a9) D8 zz_int zz_range
  have D10 : Def l.prog w K mg base 1 "_law_hand" 1 F__law_hand := d__law_hand (fun_mk l10 c10 k10) (PySem.W.mg_of X G a10) zz_range
  have D11 : Def l.prog w K mg base 3 "_law_cue" 2 F__law_cue := d__law_cue (fun_mk l11 c11 k11) (PySem.W.mg_of X G a11) D7 D10 D9
  have D12 : Def l.prog w K mg base 1 "_law_no_words" 2 F__law_no_words := d__law_no_words (fun_mk l12 c12 k12) (PySem.W.mg_of X G a12) zz_len
  have D13 : Def l.prog w K mg base 1 "_law_no_hand" 2 F__law_no_hand := d__law_no_hand (fun_mk l13 c13 k13) (PySem.W.mg_of X G a13) zz_len
  have D14 : Def l.prog w K mg base 2 "_law_spoiled" 2 F__law_spoiled := d__law_spoiled (fun_mk l14 c14 k14) (PySem.W.mg_of X G a14) D13 D12 zz_str zz_list
  exact fn_law rfl (PySem.W.codeHd_of_K kb ch) hbi zz_sorted (fun_mk l15 c15 k15) D11 D7 D14 D5 D6 zz_len zz_enumerate zz_list zz_tuple zz_reversed zz_isinstance zz_bool zz_sum
end K15
def PySem.W.Fast.tw4289374789536074919 : Nat := 0
def PySem.W.Fast.tw6830833626782382195 : Nat := 0
def PySem.W.Fast.tw2883051246267472885 : Nat := 0
def PySem.W.Fast.tw14220593209215642813 : Nat := 0
def PySem.W.Fast.tw17808744521821815041 : Nat := 0
open PySem PySem.W PyProof.Rows
set_option maxRecDepth 100000 in
set_option maxHeartbeats 0 in
theorem PySem.Challenge.cw_cuetimer_k15_what_is_a_cue_holds : PySem.Challenge.rw_cuetimer_k15_what_is_a_cue.Holds := by
  w_on; o_law; k_head; (case hw => w_witness2)
  k_fill
  refine L2.walk_ofT (l := PySem.Challenge.rw_cuetimer_k15_what_is_a_cue) (n := 63) (k := 6) (Pt := 113) (x := "_law_script") rfl (by decide) rfl ⟨rfl, by decide, by decide⟩ (fun w h Y => ⟨PySem.W.km_in_of Y, PySem.W.km_tabs_of Y _ (by simp)⟩) ?P ?T (fun w H a ns hl hS hT => DL.law_spL (K15.law_true ns hl) hS hT)
  case P =>
    intro w
    kernel_rfl
  case T =>
    intro w mg fa h KX G hmg
    refine' K15.all_mk KX G hmg ?a0 ?l0 ?c0 ?k0 ?a1 ?l1 ?c1 ?k1 ?a2 ?l2 ?c2 ?k2 ?a3 ?l3 ?c3 ?k3 ?a4 ?l4 ?c4 ?k4 ?a5 ?l5 ?c5 ?k5 ?a6 ?l6 ?c6 ?k6 ?a7 ?l7 ?c7 ?k7 ?a8 ?l8 ?c8 ?k8 ?a9 ?l9 ?c9 ?k9 ?a10 ?l10 ?c10 ?k10 ?a11 ?l11 ?c11 ?k11 ?a12 ?l12 ?c12 ?k12 ?a13 ?l13 ?c13 ?k13 ?a14 ?l14 ?c14 ?k14 ?a15 ?l15 ?c15 ?k15 ?z_isinstance ?z_int ?z_bool ?z_str ?z_len ?z_all ?z_ord ?z_tuple ?z_list ?z_zip ?z_range ?z_enumerate ?z_reversed ?z_sum ?n_PERCENT ?ch ?z_sorted
    (case ch => kernel_rfl)
    (case z_sorted => k_is)
    (case a0 => k_is)
    (case l0 => k_is)
    (case c0 => k_is)
    (case k0 => k_is)
    (case a1 => k_is)
    (case l1 => k_is)
    (case c1 => k_is)
    (case k1 => k_is)
    (case a2 => k_is)
    (case l2 => k_is)
    (case c2 => k_is)
    (case k2 => k_is)
    (case a3 => k_is)
    (case l3 => k_is)
    (case c3 => k_is)
    (case k3 => k_is)
    (case a4 => k_is)
    (case l4 => k_is)
    (case c4 => k_is)
    (case k4 => k_is)
    (case a5 => k_is)
    (case l5 => k_is)
    (case c5 => k_is)
    (case k5 => k_is)
    (case a6 => k_is)
    (case l6 => k_is)
    (case c6 => k_is)
    (case k6 => k_is)
    (case a7 => k_is)
    (case l7 => k_is)
    (case c7 => k_is)
    (case k7 => k_is)
    (case a8 => k_is)
    (case l8 => k_is)
    (case c8 => k_is)
    (case k8 => k_is)
    (case a9 => k_is)
    (case l9 => k_is)
    (case c9 => k_is)
    (case k9 => k_is)
    (case a10 => k_is)
    (case l10 => k_is)
    (case c10 => k_is)
    (case k10 => k_is)
    (case a11 => k_is)
    (case l11 => k_is)
    (case c11 => k_is)
    (case k11 => k_is)
    (case a12 => k_is)
    (case l12 => k_is)
    (case c12 => k_is)
    (case k12 => k_is)
    (case a13 => k_is)
    (case l13 => k_is)
    (case c13 => k_is)
    (case k13 => k_is)
    (case a14 => k_is)
    (case l14 => k_is)
    (case c14 => k_is)
    (case k14 => k_is)
    (case a15 => k_is)
    (case l15 => k_is)
    (case c15 => k_is)
    (case k15 => k_is)
    (case z_isinstance => k_is)
    (case z_int => k_is)
    (case z_bool => k_is)
    (case z_str => k_is)
    (case z_len => k_is)
    (case z_all => k_is)
    (case z_ord => k_is)
    (case z_tuple => k_is)
    (case z_list => k_is)
    (case z_zip => k_is)
    (case z_range => k_is)
    (case z_enumerate => k_is)
    (case z_reversed => k_is)
    (case z_sum => k_is)
    (case n_PERCENT => k_is)
#print axioms PySem.Challenge.cw_cuetimer_k15_what_is_a_cue_holds
