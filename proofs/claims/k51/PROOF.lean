import PyProof.Rows.All
import Wide.All
import OpenK.AllK
import Wide.FinOn
import Lean
import PyProof.EqAt
import PyProof.EqKinds
import PyProof.TupleCall
import PySem.Challenge.RW_cuetimer_k51_what_the_checker_lets_by
set_option Elab.async false
set_option linter.all false
set_option maxRecDepth 100000
set_option maxHeartbeats 4000000
namespace L2
open PySem PySem.Spec PyProof.Rows

abbrev Key := Sum Int Str
def keyIs : Key -> Value -> Bool
 | .inl k, v => Value.isInt k v
 | .inr x, v => Value.isStrOf x v
def keyH (w : World) : Key -> Int
 | .inl k => hashInt k
 | .inr x => hashStr w x
theorem a3f : ∀ {k : Key} {v : Value}, keyIs k v = true -> (∃ i t, k = Sum.inl i /\ v = Value.int i t) \/ (∃ x t, k = Sum.inr x /\ v = Value.str x t)
 | .inl i, v, h => by
  obtain ⟨t, e⟩ := Value.isInt_shape (k := i) (v := v) h
  exact .inl ⟨i, t, rfl, e⟩
 | .inr x, v, h => by
  obtain ⟨t, e⟩ := Value.isStrOf_shape (x := x) (v := v) h
  exact .inr ⟨x, t, rfl, e⟩
theorem key_ll (a b : Int) : decide ((Sum.inl a : Key) = Sum.inl b) = (a == b) := by
 by_cases e : a = b
 ·subst e; simp
 ·have h : ¬ (Sum.inl a : Key) = Sum.inl b := fun q => e (Sum.inl.inj q)
  rw [decide_eq_false h]
  exact (beq_eq_false_iff_ne.mpr e).symm
theorem key_rr (a b : Str) : decide ((Sum.inr a : Key) = Sum.inr b) = decide (a = b) := by
 by_cases e : a = b
 ·subst e; simp
 ·have h : ¬ (Sum.inr a : Key) = Sum.inr b := fun q => e (Sum.inr.inj q)
  rw [decide_eq_false h, decide_eq_false e]
theorem key_lr (a : Int) (b : Str) : decide ((Sum.inl a : Key) = Sum.inr b) = false := decide_eq_false (fun q => nomatch q)
theorem key_rl (a : Str) (b : Int) : decide ((Sum.inr a : Key) = Sum.inl b) = false := decide_eq_false (fun q => nomatch q)

def mixKind (prog : Program) (w : World) : PySem.KeyKind prog w Key where
 is := keyIs
 hash := keyH w
 inj := fun v a b ha hb => by
  rcases a3f ha with ⟨i, t, rfl, rfl⟩ | ⟨x, t, rfl, rfl⟩
  ·rcases a3f hb with ⟨j, u, rfl, e⟩ | ⟨y, u, rfl, e⟩
   ·injection e with e1 _; rw [e1]
   ·exact nomatch e
  ·rcases a3f hb with ⟨j, u, rfl, e⟩ | ⟨y, u, rfl, e⟩
   ·exact nomatch e
   ·injection e with e1 _; rw [e1]
 byValue := fun k v h => by
  rcases a3f h with ⟨i, t, rfl, rfl⟩ | ⟨x, t, rfl, rfl⟩ <;> rfl
 pyHash := fun hv h => by
  rcases a3f hv with ⟨i, t, rfl, rfl⟩ | ⟨x, t, rfl, rfl⟩
  ·exact wpAny_pyHash_int h
  ·exact wpAny_pyHash_str h
 eqBool := fun hu hv h => by
  rcases a3f hu with ⟨i, t, rfl, rfl⟩ | ⟨x, t, rfl, rfl⟩
  ·rcases a3f hv with ⟨j, u, rfl, rfl⟩ | ⟨y, u, rfl, rfl⟩
   ·rw [key_ll] at h; exact wpAny_eqBool_int h
   ·rw [key_lr] at h; exact SeqAt.EqAt.int_str i t y u _ _ _ _ h
  ·rcases a3f hv with ⟨j, u, rfl, rfl⟩ | ⟨y, u, rfl, rfl⟩
   ·rw [key_rl] at h; exact SeqAt.EqAt.str_int x t j u _ _ _ _ h
   ·rw [key_rr] at h; exact wpAny_eqBool_str h
 «strs» := fun k x t v h => by
  rcases a3f h with ⟨i, u, rfl, e⟩ | ⟨y, u, rfl, e⟩
  ·exact nomatch e
  ·injection e with e1 _
   subst e1
   cases v <;> rfl

end L2

namespace L2
open PySem PySem.Spec PyProof.Rows

inductive V where
 | non | bl (b : Bool) | int (i : Int) | str (x : Str) | byt (b : Array UInt8) | flt (b : UInt64) | ref (a : Addr) | ty (n : String)
 deriving DecidableEq

def RelV : V -> Value -> Prop
 | .non, u => u = Value.none
 | .bl b, u => u = Value.bool b
 | .int i, u => ∃ t, u = Value.int i t
 | .str x, u => ∃ t, u = Value.str x t
 | .byt b, u => ∃ t, u = Value.bytes b t
 | .flt b, u => ∃ t, u = Value.float b t
 | .ref a, u => u = Value.ref a
 | .ty n, u => u = Value.type n

abbrev Vals : List V -> List Value -> Prop := Paired RelV
theorem Vals.length {xs : List V} {us : List Value} (r : Vals xs us) : xs.length = us.length := Paired.length r
theorem Vals.get : ∀ {xs : List V} {us : List Value} {i : Nat} {x : V}, Vals xs us -> xs[i]? = some x -> ∃ u, us[i]? = some u /\ RelV x u
 | _, _, _, _, .nil, e => by simp at e
 | _, _, 0, _, .cons r _, e => by simp at e; subst e; exact ⟨_, rfl, r⟩
 | _, _, i + 1, x, .cons _ t, e => by
  obtain ⟨u, h1, h2⟩ := Vals.get (i := i) (x := x) t (by simpa using e)
  exact ⟨u, by simpa using h1, h2⟩
theorem Vals.set {x : V} {u : Value} (r : RelV x u) : ∀ {xs : List V} {us : List Value} (i : Nat), Vals xs us -> Vals (xs.set i x) (us.set i u)
 | _, _, _, .nil => .nil
 | _, _, 0, .cons _ t => .cons r t
 | _, _, i + 1, .cons q t => .cons q (Vals.set r i t)
theorem Vals.append : ∀ {xs ys : List V} {us ws : List Value}, Vals xs us -> Vals ys ws -> Vals (xs ++ ys) (us ++ ws)
 | _, _, _, _, .nil, s => s
 | _, _, _, _, .cons r t, s => .cons r (Vals.append t s)
theorem Vals.take : ∀ {xs : List V} {us : List Value} (n : Nat), Vals xs us -> Vals (xs.take n) (us.take n)
 | _, _, 0, _ => .nil
 | _, _, _ + 1, .nil => .nil
 | _, _, n + 1, .cons r t => .cons r (Vals.take n t)
theorem Vals.drop : ∀ {xs : List V} {us : List Value} (n : Nat), Vals xs us -> Vals (xs.drop n) (us.drop n)
 | _, _, 0, r => r
 | _, _, _ + 1, .nil => .nil
 | _, _, n + 1, .cons _ t => Vals.drop n t
def RelO : Option V -> Option Value -> Prop
 | some v, some u => RelV v u
 | none, none => True
 | _, _ => False
def KV {κ : Type} : List (κ × V) -> List (κ × Value) -> Prop := Paired fun (p : κ × V) (q : κ × Value) => p.1 = q.1 /\ RelV p.2 q.2

def kV : Key -> V
 | .inl i => .int i
 | .inr x => .str x

inductive HO where
 /-- a list -/
 | lst (xs : List V)
 /-- a tuple (never changes) -/
 | tup (xs : List V)
 /-- a dict whose keys are ints and texts; one whose keys are tuples of ints and texts (the empty one is both) -/
 | dK (kvs : List (Key × V)) | dT (kvs : List (List Key × V))
 /-- a set of ints: its members, its size -/
 | set (S : Int -> Bool) (n : Nat)
 /-- an instance of the class at C, its dict at dx, its attributes -/
 | ins (C dx : Addr) (fs : List (Str × V))
 /-- the dict of the instance at x -/
 | own (x : Addr)
 /-- the dict of an exception -/
 | xd (fs : List (Str × V))
 /-- a bound method, f of x -/
 | met (f x : Addr)
 /-- a range object lo, lo + 1, .. below hi -/
 | rng (lo hi : Int)
 /-- a thing that is known to the object (the script; a dict while a loop walks it): read, never written while it is so -/
 | frz (o : Obj) (u : HO)
 /-- a code object's table -/
 | tbl (ps : Array Value)
 /-- any other thing, by what is true of its one object (a def of one's own: SetO a S n := HO.ext fun h => ..) -/
 | ext (φ : Heap -> Prop)

abbrev Hp := Addr -> Option HO
def upd (H : Hp) (a : Addr) (o : HO) : Hp := fun b => if b = a then some o else H b
theorem a1i {H : Hp} {a : Addr} {o : HO} : upd H a o a = some o := by unfold upd; rw [if_pos rfl]
theorem upd_ne {H : Hp} {a b : Addr} {o : HO} (h : b ≠ a) : upd H a o b = H b := by unfold upd; rw [if_neg h]
theorem ne_of {H : Hp} {a b : Addr} {o u : HO} (h : H a = some o) (h' : H b = some u) (d : o ≠ u) : a ≠ b := by
 intro e; subst e; rw [h] at h'; exact d (Option.some.inj h')
theorem a0v {H : Hp} {a b : Addr} {o : HO} (h : H a = some o) (h' : H b = none) : a ≠ b := by
 intro e; subst e; rw [h] at h'; cases h'

section
variable (P : Program) (w : World)
def ObjOk (H : Hp) (h : Heap) (a : Addr) : HO -> Prop
 | .lst xs => xs.length <= sizeLine /\ ∃ (its : List Value) (n : Nat), Vals xs its /\ h.get? a = some { cls := .type "list", data := .seq its.toArray n }
 | .tup xs => xs.length <= sizeLine /\ ∃ its : List Value, Vals xs its /\ IsTup h a its.toArray
 | .dK kvs => kvs.length <= sizeLine /\ (a == sysModules) = false /\ ∃ vs, KV kvs vs /\ h.DictOf (mixKind P w) a vs
 | .dT kvs => kvs.length <= sizeLine /\ (a == sysModules) = false /\ ∃ xs : List (List Key × Addr × Value),
   Paired (fun (p : List Key × V) (q : List Key × Addr × Value) => p.1 = q.1 /\ H q.2.1 = some (.tup (p.1.map kV)) /\ RelV p.2 q.2.2) kvs xs /\
   ∃ o es ep, h.get? a = some o /\ o.ExactDict /\ o.data = .dict es ep /\ es.toList = xs.map (entryOfKey (tupleKind (mixKind P w))) /\ (xs.map (·.1)).Nodup
 | .set S n => h.SetOf (intKind P w) a S n
 | .ins C dx fs => H dx = some (.own a) /\ fs.length <= 1000 /\ dx ≠ a /\ h.get? a = some (PySem.W.instObj C dx) /\
   ∃ mA, h.Ns1 dx mA /\ (∀ f, RelO (fs.lookup f) (mA f)) /\ PySem.Within mA (fs.map (·.1))
 | .own _ => ∃ o, h.get? a = some o
 | .xd fs => ∃ mA, h.Ns1 a mA /\ ∀ f, RelO (fs.lookup f) (mA f)
 | .rng lo hi => ∃ t u v, h.get? a = some { cls := .type "range", data := .fields #[.int lo t, .int hi u, .int 1 v] }
 | .frz o u => h.get? a = some o /\ ObjOk H h a u
 | .tbl ps => h.get? a = some { cls := .none, data := .fields ps }
 | .met f x => h.get? a = some (PySem.W.methodObj (.ref f) (.ref x))
 | .ext φ => φ h /\ (∃ o, h.get? a = some o) /\ ∀ h1 h2 : Heap, φ h1 -> (∀ o, h1.get? a = some o -> h2.get? a = some o) -> φ h2
def HOk (H : Hp) (h : Heap) : Prop := ∀ a o, H a = some o -> ObjOk P w H h a o
end

section
variable {P : Program} {w : World} {H H' : Hp} {h h' : Heap} {a : Addr} {o : HO}
theorem ObjOk.lt (x : ObjOk P w H h a o) : a < h.objs.size := by
 cases o with
 | lst xs => obtain ⟨_, _, _, _, e⟩ := x; exact Heap.lt_size e
 | tup xs => obtain ⟨_, _, _, p⟩ := x; exact p.lt
 | dK kvs => obtain ⟨_, _, _, _, o, _, _, e, _⟩ := x; exact Heap.lt_size e
 | dT kvs => obtain ⟨_, _, _, _, o, _, _, e, _⟩ := x; exact Heap.lt_size e
 | set S n => obtain ⟨o, _, _, _, e, _⟩ := x; exact Heap.lt_size e
 | ins C dx fs => obtain ⟨_, _, _, e, _⟩ := x; exact Heap.lt_size e
 | own y => obtain ⟨_, e⟩ := x; exact Heap.lt_size e
 | xd fs => obtain ⟨_, ⟨_, _, _, e, _⟩, _⟩ := x; exact Heap.lt_size e
 | rng lo hi => obtain ⟨_, _, _, e⟩ := x; exact Heap.lt_size e
 | frz ob u => obtain ⟨e, _⟩ := x; exact Heap.lt_size e
 | tbl ps => exact Heap.lt_size (show h.get? a = some _ from x)
 | met f y => exact Heap.lt_size (show h.get? a = some _ from x)
 | ext φ => obtain ⟨_, ⟨_, e⟩, _⟩ := x; exact Heap.lt_size e
theorem Paired.mapP {α β : Type} {F G : α -> β -> Prop} : ∀ {l₁ : List α} {l₂ : List β}, Paired F l₁ l₂ -> (∀ a b, F a b -> G a b) -> Paired G l₁ l₂
 | _, _, .nil, _ => .nil
 | _, _, .cons r t, f => .cons (f _ _ r) (Paired.mapP t f)
theorem ObjOk.stay (x : ObjOk P w H h a o) (k : ∀ b u, (b = a \/ H b = some (.own a)) -> h.get? b = some u -> h'.get? b = some u)
  (ho : ∀ b, H b = some (.own a) -> H' b = some (.own a)) (ht : ∀ b xs, H b = some (.tup xs) -> H' b = some (.tup xs)) : ObjOk P w H' h' a o := by
 induction o with
 | lst xs => obtain ⟨z, its, n, r, e⟩ := x; exact ⟨z, its, n, r, k _ _ (.inl rfl) e⟩
 | tup xs => obtain ⟨z, its, r, ob, e, c⟩ := x; exact ⟨z, its, r, ob, k _ _ (.inl rfl) e, c⟩
 | dK kvs => obtain ⟨z, y, vs, r, ob, es, ep, e, c⟩ := x; exact ⟨z, y, vs, r, ob, es, ep, k _ _ (.inl rfl) e, c⟩
 | dT kvs =>
  obtain ⟨z, y, xs, r, ob, es, ep, e, c⟩ := x
  exact ⟨z, y, xs, Paired.mapP r fun p q z => ⟨z.1, ht _ _ z.2.1, z.2.2⟩, ob, es, ep, k _ _ (.inl rfl) e, c⟩
 | set S n => obtain ⟨ob, es, ep, t, e, c⟩ := x; exact ⟨ob, es, ep, t, k _ _ (.inl rfl) e, c⟩
 | ins C dx fs =>
  obtain ⟨d, z, ne, e, mA, ⟨od, es, ep, e2, c⟩, r⟩ := x
  exact ⟨ho _ d, z, ne, k _ _ (.inl rfl) e, mA, ⟨od, es, ep, k _ _ (.inr d) e2, c⟩, r⟩
 | own y => obtain ⟨ob, e⟩ := x; exact ⟨ob, k _ _ (.inl rfl) e⟩
 | xd fs => obtain ⟨mA, ⟨od, es, ep, e, c⟩, r⟩ := x; exact ⟨mA, ⟨od, es, ep, k _ _ (.inl rfl) e, c⟩, r⟩
 | rng lo hi => obtain ⟨t, u, v, e⟩ := x; exact ⟨t, u, v, k _ _ (.inl rfl) e⟩
 | frz ob u ih => obtain ⟨e, q⟩ := x; exact ⟨k _ _ (.inl rfl) e, ih q⟩
 | tbl ps =>
  have e : h.get? a = some { cls := .none, data := .fields ps } := x
  show h'.get? a = some { cls := .none, data := .fields ps }
  exact k a _ (.inl rfl) e
 | met f y =>
  have e : h.get? a = some (PySem.W.methodObj (.ref f) (.ref y)) := x
  show h'.get? a = some (PySem.W.methodObj (.ref f) (.ref y))
  exact k a _ (.inl rfl) e
 | ext φ => obtain ⟨p, ⟨o, e⟩, st⟩ := x; exact ⟨st _ _ p fun o q => k _ _ (.inl rfl) q, ⟨o, k _ _ (.inl rfl) e⟩, st⟩
theorem HOk.lt (x : HOk P w H h) (e : H a = some o) : a < h.objs.size := (x a o e).lt
theorem HOk.fresh (x : HOk P w H h) (e : h.objs.size <= a) : H a = none := by
 cases q : H a with
 | none => rfl
 | some u => exact absurd (Nat.lt_of_lt_of_le (x.lt q) e) (Nat.lt_irrefl _)
theorem HOk.kept (x : HOk P w H h) (k : ∀ b u, h.get? b = some u -> h'.get? b = some u) : HOk P w H h' := fun a o e =>
 (x a o e).stay (fun b u _ q => k b u q) (fun _ q => q) fun _ _ q => q
theorem HOk.laid (x : HOk P w H h) (k : ∀ b u, h.get? b = some u -> h'.get? b = some u) (hp : h.objs.size <= a) (new : ObjOk P w (upd H a o) h' a o) : HOk P w (upd H a o) h' := fun b u e => by
 have hn := x.fresh hp
 by_cases hb : b = a
 ·subst hb; rw [a1i] at e; cases e; exact new
 ·rw [upd_ne hb] at e
  exact (x b u e).stay (fun c v _ q => k c v q) (fun c q => by rw [upd_ne (a0v q hn)]; exact q) fun c xs q => by rw [upd_ne (a0v q hn)]; exact q
end

def Rd (H : Hp) (a : Addr) (u : HO) : Prop := H a = some u \/ ∃ o, H a = some (.frz o u)
theorem Rd.ok {P : Program} {w : World} {H : Hp} {h : Heap} {a : Addr} {u : HO} (r : Rd H a u) (x : HOk P w H h) : ObjOk P w H h a u := by
 rcases r with r | ⟨o, r⟩
 ·exact x a u r
 ·obtain ⟨_, q⟩ := x a _ r
  exact q
def Mut : Option HO -> Prop
 | some (.lst _) => True
 | some (.dK _) => True
 | some (.dT _) => True
 | some (.set _ _) => True
 | some (.ins _ _ _) => True
 | some (.ext _) => True
 | _ => False
section
variable {P : Program} {w : World} {H : Hp} {h h' : Heap} {x e : Addr} {o' : HO}
theorem HOk.write (ok : HOk P w H h) (mu : Mut (H x)) (he : e = x \/ H e = some (.own x)) (k : ∀ b u, b ≠ e -> h.get? b = some u -> h'.get? b = some u) (heo : ∃ u, h'.get? e = some u)
  (new : ObjOk P w (upd H x o') h' x o') : HOk P w (upd H x o') h' := fun b u q => by
 have nown : ∀ c y, H c = some (.own y) -> c ≠ x := fun c y r z => by subst z; rw [r] at mu; exact mu
 have ntup : ∀ c xs, H c = some (.tup xs) -> c ≠ x := fun c xs r z => by subst z; rw [r] at mu; exact mu
 by_cases hb : b = x
 ·subst hb; rw [a1i] at q; cases q; exact new
 ·rw [upd_ne hb] at q
  by_cases hbe : b = e
  ·have q' : H b = some (.own x) := by
    rcases he with z | z
    ·exact absurd (hbe.trans z) hb
    ·rw [hbe]; exact z
   rw [q] at q'; cases q'
   obtain ⟨v, hv⟩ := heo
   exact ⟨v, by rw [hbe]; exact hv⟩
  ·refine (ok b u q).stay (fun c v hc r => k c v ?_ r) (fun c r => by rw [upd_ne (nown c b r)]; exact r) fun c xs r => by rw [upd_ne (ntup c xs r)]; exact r
   rcases hc with rfl | hc
   ·exact hbe
   ·rintro rfl
    rcases he with z | z
    ·exact nown c b hc z
    ·rw [hc] at z; cases z; exact hb rfl
end

structure Un (fs ex : List Addr) (H H' : Hp) (h h' : Heap) : Prop where
 keep : ∀ b o, h.get? b = some o -> H b = none -> b ∉ fs -> b ∉ ex -> h'.get? b = some o
 slot : ∀ b o, h.get? b = some o -> H b = none -> b ∈ fs -> b ∉ ex -> ∃ sl, h'.get? b = some { o with slots := sl }
 free : ∀ b o, h.get? b = some o -> H b = none -> b ∉ ex -> H' b = none
 there : ∀ b o, h.get? b = some o -> b ∉ ex -> ∃ o', h'.get? b = some o'
 tups : ∀ b xs, H b = some (.tup xs) -> H' b = some (.tup xs)
 frzs : ∀ b o u, H b = some (.frz o u) -> H' b = some (.frz o u)
 tbls : ∀ b ps, H b = some (.tbl ps) -> ∃ more, H' b = some (.tbl (ps ++ more))
section
variable {fs fs' ex ex' : List Addr} {H H1 H2 : Hp} {h h1 h2 h' : Heap} {a x e : Addr} {o : HO}
theorem Un.any (u : Un fs ex H H1 h h1) {b : Addr} {ob : Obj} (q : h.get? b = some ob) (n : H b = none) (hx : b ∉ ex) : ∃ sl, h1.get? b = some { ob with slots := sl } := by
 by_cases hb : b ∈ fs
 ·exact u.slot b ob q n hb hx
 ·exact ⟨ob.slots, u.keep b ob q n hb hx⟩
theorem Un.kept (k : ∀ b u, h.get? b = some u -> h'.get? b = some u) : Un fs ex H H h h' :=
 ⟨fun b ob q _ _ _ => k b ob q, fun b ob q _ _ _ => ⟨ob.slots, k b ob q⟩, fun _ _ _ n _ => n, fun b ob q _ => ⟨ob, k b ob q⟩, fun _ _ q => q, fun _ _ _ q => q, fun _ ps q => ⟨#[], by rw [q]; simp⟩⟩
theorem Un.refl : Un fs ex H H h h := Un.kept fun _ _ q => q
theorem Un.laid (k : ∀ b u, h.get? b = some u -> h'.get? b = some u) (hp : h.objs.size <= a) (hn : H a = none) : Un fs ex H (upd H a o) h h' where
 keep := fun b u q _ _ _ => k b u q
 slot := fun b u q _ _ _ => ⟨u.slots, k b u q⟩
 free := fun b u q n _ => by rw [upd_ne (Nat.ne_of_lt (Nat.lt_of_lt_of_le (Heap.lt_size q) hp))]; exact n
 there := fun b u q _ => ⟨u, k b u q⟩
 tups := fun b xs q => by rw [upd_ne (a0v q hn)]; exact q
 frzs := fun b u xs q => by rw [upd_ne (a0v q hn)]; exact q
 tbls := fun b ps q => ⟨#[], by rw [upd_ne (a0v q hn), q]; simp⟩
theorem Un.write (mu : Mut (H x)) (he : e = x \/ H e = some (.own x)) (k : ∀ b u, b ≠ e -> h.get? b = some u -> h'.get? b = some u) (heo : ∃ u, h'.get? e = some u) : Un fs ex H (upd H x o) h h' := by
 have hx : ∀ b, H b = none -> b ≠ x := fun b n z => by subst z; rw [n] at mu; exact mu
 have hb : ∀ b, H b = none -> b ≠ e := fun b n z => by
  subst z
  rcases he with r | r
  ·exact hx b n r
  ·rw [n] at r; cases r
 have hm : ∀ b u, H b = some u -> ¬ Mut (some u) -> b ≠ x := fun b u q nm z => by subst z; rw [q] at mu; exact nm mu
 refine ⟨fun b u q n _ _ => k b u (hb b n) q, fun b u q n _ _ => ⟨u.slots, k b u (hb b n) q⟩, fun b u q n _ => by rw [upd_ne (hx b n)]; exact n, fun b u q _ => ?_,
  fun b xs q => by rw [upd_ne (hm b _ q fun z => z)]; exact q, fun b u xs q => by rw [upd_ne (hm b _ q fun z => z)]; exact q, fun b ps q => ⟨#[], by rw [upd_ne (hm b _ q fun z => z), q]; simp⟩⟩
 by_cases hbe : b = e
 ·subst hbe; exact heo
 ·exact ⟨u, k b u hbe q⟩
end

def trk (h : Heap) (H : Hp) : List Addr := (List.range h.objs.size).filter fun a => (H a).isSome
def hidT (h : Heap) (H : Hp) : Heap := PySem.W.hideAll h (trk h H)
theorem hidT_size (h : Heap) (H : Hp) : (hidT h H).objs.size = h.objs.size := PySem.W.hideAll_size _ _
theorem hidT_get {h : Heap} {H : Hp} {b : Addr} {o : Obj} (e : h.get? b = some o) (n : H b = none) : (hidT h H).get? b = some o :=
 PySem.W.hideAll_get _ e fun hm => by
  have q : (H b).isSome = true := (List.mem_filter.mp hm).2
  rw [n] at q; simp at q
theorem of_hidT {h : Heap} {H : Hp} {b : Addr} {o : Obj} (e : (hidT h H).get? b = some o) : h.get? b = some o /\ H b = none := by
 have e' : h.get? b = some o := PySem.W.of_hideAll (trk h H) e
 refine ⟨e', ?_⟩
 cases q : H b with
 | none => rfl
 | some x =>
  have hm : b ∈ trk h H := List.mem_filter.mpr ⟨List.mem_range.mpr (Heap.lt_size e'), by simp [q]⟩
  have z : (hidT h H).get? b = none := PySem.W.hideAll_none (trk h H) hm
  rw [z] at e; cases e

def allNews (g h : Heap) (L : Addr) : List (Addr × Obj) := (List.range h.objs.size).filterMap fun a => if a = L \/ (g.get? a).isSome = true then none else (h.get? a).map fun o => (a, o)
def rest (g h : Heap) (L d : Addr) : List (Addr × Obj) := (allNews g h L).filter fun p => decide (p.1 ≠ d)
end L2

namespace L2
open PySem PySem.Spec PyProof.Rows

structure Mod (K : PySem.W.Frag) (mg : Str -> Option Value) (base : Heap) : Prop where
 kin : K.In base
 glob : base.Ns mainGlobals mg
 blt : ∃ mb, base.Ns builtinsNs mb /\ ∀ x : Str, x ≠ "__name__" -> mb x = bootBuiltins x
 nolimit : base.NoLimit

structure Cx where
 prog : Program
 w : World
 K : PySem.W.Frag
 mg : Str -> Option Value
 base : Heap
 A : Around
 N : List Str
 s₀ : Shared
 H₀ : Hp
 env : Env
 outer : List Env
 stack : List Env
 ex : List Addr
 fn : Str -> Bool
 calm : Bool
 pn : List (Addr × Obj)
 xe : Value -> Shared -> Prop
def frs (l : List Env) : List Addr := l.filterMap (·.frame)
abbrev Cx.fs (X : Cx) : List Addr := frs X.outer

def Vis (sc : Scope) (x : Str) : Prop := sc.names.lookup x = some .local \/ sc.names.lookup x = some .cell \/ sc.names.lookup x = some .free
def Loc (sc : Scope) (x : Str) : Prop := sc.names.lookup x = some .local \/ sc.names.lookup x = some .cell
def Look (env : Env) (h : Heap) (m : Str -> Option Value) (x : Str) (u : Value) : Prop :=
 (env.kindOf x = some .local /\ m x = some u) \/ ((env.kindOf x = some .cell \/ env.kindOf x = some .free) /\ ∃ c, env.cells.lookup x = some c /\ h.IsCell c (some u))

structure Cx.Ok (X : Cx) : Prop where
 mod : Mod X.K X.mg X.base
 kind : X.env.scope.kind = .function
 glob : X.env.globals = mainGlobals
 blt : X.env.builtins = builtinsNs
 above : X.s₀.heap.objs.size <= X.env.locals
 inj : ∀ x y c, X.env.cells.lookup x = some c -> X.env.cells.lookup y = some c -> x = y
 has : ∀ x, (X.env.kindOf x = some .cell \/ X.env.kindOf x = some .free) -> ∃ c, X.env.cells.lookup x = some c
 cab : ∀ x c, X.fn x = true -> X.env.cells.lookup x = some c -> X.s₀.heap.objs.size <= c
 hd : X.calm = true -> X.A.handled = none
 frames : X.A.frames = some X.stack
 stk : X.stack = X.outer \/ (X.stack = X.env :: X.outer /\ X.env.frame = some X.env.locals)
 exf : ∀ b ∈ X.ex, b ≠ X.env.locals /\ ∀ x c, X.env.cells.lookup x = some c -> c ≠ b
 bs : ∀ b o, X.base.get? b = some o -> X.s₀.heap.get? b = some o /\ X.H₀ b = none
 bsz : X.base.objs.size <= X.s₀.heap.objs.size
 noex : ∀ b o, X.base.get? b = some o -> b ∉ X.ex
 exfs : ∀ b ∈ X.ex, b ∉ X.fs
 funs : X.s₀.heap.FunFrames X.base X.outer
 frf : ∀ b ∈ X.fs, X.H₀ b = none

structure Inv (X : Cx) (pins : List (Addr × Obj)) (σ : List (Option V)) (H : Hp) (s : Shared) : Prop where
 ok : X.Ok
 os : s.os = X.s₀.os
 bare : AllBare s.gens
 base : Un X.fs X.ex X.H₀ H X.s₀.heap s.heap
 loc : ∃ m, s.heap.Ns X.env.locals m /\ ∀ (i : Nat) (x : Str) (v : V), X.N[i]? = some x -> σ[i]? = some (some v) -> Vis X.env.scope x -> ∃ u, RelV v u /\ Look X.env s.heap m x u
 cell : ∀ x c, X.env.cells.lookup x = some c -> ∃ v, s.heap.IsCell c v
 free : H X.env.locals = none
 freeC : ∀ x c, X.env.cells.lookup x = some c -> H c = none
 pin : ∀ p ∈ X.pn ++ pins, s.heap.get? p.1 = some p.2 /\ H p.1 = none /\ p.1 ≠ X.env.locals /\ p.1 ∉ X.fs /\ ∀ v, p.2.data ≠ .cell v
 hok : HOk X.prog X.w H s.heap
 len : σ.length = X.N.length

section
variable {X : Cx} {pins : List (Addr × Obj)} {σ : List (Option V)} {H H' : Hp} {s : Shared} {h' : Heap}

theorem Cx.Ok.nofr (ok : X.Ok) {b : Addr} {o : Obj} (e : X.base.get? b = some o) : b ∉ X.fs := fun hb => by
 have := (ok.funs.mem hb).1
 rw [e] at this; cases this
theorem Inv.bs (I : Inv X pins σ H s) : ∀ b o, X.base.get? b = some o -> s.heap.get? b = some o /\ H b = none := fun b o e =>
 ⟨I.base.keep b o (I.ok.bs b o e).1 (I.ok.bs b o e).2 (I.ok.nofr e) (I.ok.noex b o e), I.base.free b o (I.ok.bs b o e).1 (I.ok.bs b o e).2 (I.ok.noex b o e)⟩
theorem Inv.bk (I : Inv X pins σ H s) : ∀ b o, X.base.get? b = some o -> s.heap.get? b = some o := fun b o e => (I.bs b o e).1
theorem Inv.mod (I : Inv X pins σ H s) : Mod X.K X.mg X.base := I.ok.mod
theorem Inv.kIn (I : Inv X pins σ H s) : X.K.In s.heap := I.ok.mod.kin.keeps I.bk
theorem Inv.lt (I : Inv X pins σ H s) : X.env.locals < s.heap.objs.size := let ⟨_, hn, _⟩ := I.loc; hn.lt
theorem Inv.sz (I : Inv X pins σ H s) : X.s₀.heap.objs.size <= s.heap.objs.size := Nat.le_trans I.ok.above (Nat.le_of_lt I.lt)
theorem Inv.nofs (I : Inv X pins σ H s) {a : Addr} (h : s.heap.objs.size <= a) : a ∉ X.fs := fun hb => by
 obtain ⟨_, o, ho, _⟩ := I.ok.funs.mem hb
 exact absurd (Nat.lt_of_lt_of_le (Heap.lt_size ho) (Nat.le_trans I.sz h)) (Nat.lt_irrefl _)
theorem Inv.cne (I : Inv X pins σ H s) : ∀ x c, X.env.cells.lookup x = some c -> c ≠ X.env.locals := fun x c e z => by
 obtain ⟨v, o, ho, hd⟩ := I.cell x c e
 obtain ⟨m, ⟨o', es, ep, ho', hd', _⟩, _⟩ := I.loc
 rw [z, ho'] at ho; cases ho; rw [hd'] at hd; cases hd
theorem Inv.funs (I : Inv X pins σ H s) : s.heap.FunFrames X.base X.outer := by
 have all : ∀ (l : List Env), (∀ b ∈ frs l, b ∈ X.fs) -> X.s₀.heap.FunFrames X.base l -> s.heap.FunFrames X.base l := by
  intro l
  induction l with
  | nil => intro _ _; trivial
  | cons env r ih =>
   intro hs hl
   obtain ⟨hk, ⟨L, o, hf, hn, ho, hd⟩, hr⟩ := hl
   have hL : L ∈ X.fs := hs L (by unfold frs; rw [List.filterMap_cons, hf]; exact List.mem_cons_self)
   obtain ⟨sl, e⟩ := I.base.slot L o ho (I.ok.frf L hL) hL fun z => I.ok.exfs L z hL
   exact ⟨hk, ⟨L, _, hf, hn, e, hd⟩, ih (fun b hb => hs b (by unfold frs; rw [List.filterMap_cons, hf]; exact List.mem_cons_of_mem _ hb)) hr⟩
 exact all X.outer (fun _ hb => hb) I.ok.funs

theorem Inv.stack (I : Inv X pins σ H s) : s.heap.FunFrames X.base X.stack := by
 rcases I.ok.stk with e | ⟨e, hf⟩
 ·rw [e]; exact I.funs
 ·rw [e]
  obtain ⟨m, hn, _⟩ := I.loc
  refine .cons (by rw [I.ok.kind]; decide) hf hn ?_ I.funs
  exact Heap.get?_none_of_le (Nat.le_trans I.ok.bsz I.ok.above)
theorem Inv.stkSub (I : Inv X pins σ H s) : ∀ b ∈ frs X.stack, b ∈ X.env.locals :: X.fs := fun b hb => by
 rcases I.ok.stk with e | ⟨e, hf⟩
 ·rw [e] at hb; exact List.mem_cons_of_mem _ hb
 ·rw [e] at hb
  unfold frs at hb
  rw [List.filterMap_cons, hf] at hb
  exact hb
theorem Inv.stkFree (I : Inv X pins σ H s) : ∀ b ∈ frs X.stack, H b = none := fun b hb => by
 rcases List.mem_cons.mp (I.stkSub b hb) with e | hb
 ·rw [e]; exact I.free
 ·obtain ⟨_, o, ho, _⟩ := I.ok.funs.mem hb
  exact I.base.free b o ho (I.ok.frf b hb) fun z => I.ok.exfs b z hb

theorem Inv.step {g' : Array GenState} {t' : Nat} {d' : Drawn} {ch : List Addr} (I : Inv X pins σ H s)
  (hch : ∀ b ∈ ch, (b ∈ X.ex \/ X.s₀.heap.objs.size <= b) /\ b ≠ X.env.locals /\ (∀ x c, X.env.cells.lookup x = some c -> c ≠ b) /\ ∀ p ∈ X.pn ++ pins, p.1 ≠ b)
  (keep : ∀ b o, b ≠ X.env.locals -> b ∉ X.fs -> b ∉ ch -> s.heap.get? b = some o -> H b = none -> h'.get? b = some o)
  (slot : ∀ b o, b ≠ X.env.locals -> b ∈ X.fs -> b ∉ ch -> s.heap.get? b = some o -> H b = none -> ∃ sl, h'.get? b = some { o with slots := sl }) (free : ∀ b o, b ∉ ch -> s.heap.get? b = some o -> H b = none -> H' b = none)
  (there : ∀ b o, b ∉ ch -> s.heap.get? b = some o -> ∃ o', h'.get? b = some o')
  (tups : ∀ b xs, H b = some (.tup xs) -> H' b = some (.tup xs)) (frzs : ∀ b o u, H b = some (.frz o u) -> H' b = some (.frz o u)) (tbls : ∀ b ps, H b = some (.tbl ps) -> ∃ more, H' b = some (.tbl (ps ++ more)))
  (ns : ∀ m, s.heap.Ns X.env.locals m -> h'.Ns X.env.locals m) (hok : HOk X.prog X.w H' h') (hg : AllBare g') :
  Inv X pins σ H' { s with heap := h', gens := g', drawn := d', toks := t' } := by
 have neL : ∀ b o, X.s₀.heap.get? b = some o -> b ≠ X.env.locals := fun b o e => Nat.ne_of_lt (Nat.lt_of_lt_of_le (Heap.lt_size e) I.ok.above)
 have neC : ∀ b o, X.s₀.heap.get? b = some o -> b ∉ X.ex -> b ∉ ch := fun b o e hx hb => by
  rcases (hch b hb).1 with z | z
  ·exact hx z
  ·exact absurd (Nat.lt_of_lt_of_le (Heap.lt_size e) z) (Nat.lt_irrefl _)
 have cellK : ∀ x c, X.env.cells.lookup x = some c -> ∀ v, s.heap.IsCell c v -> h'.IsCell c v := fun x c e v ⟨o, ho, hd⟩ => by
  have nch : c ∉ ch := fun z => (hch c z).2.2.1 x c e rfl
  by_cases hc : c ∈ X.fs
  ·obtain ⟨sl, q⟩ := slot c o (I.cne x c e) hc nch ho (I.freeC x c e)
   exact ⟨_, q, hd⟩
  ·exact ⟨o, keep c o (I.cne x c e) hc nch ho (I.freeC x c e), hd⟩
 refine ⟨I.ok, I.os, hg, ⟨fun b o e n hb hx => ?_, fun b o e n hb hx => ?_, fun b o e n hx => ?_, fun b o e hx => ?_, fun b xs e => tups b xs (I.base.tups b xs e), fun b o xs e => frzs b o xs (I.base.frzs b o xs e), fun b ps e => ?_⟩, ?_, fun x c e => ?_, ?_, fun x c e => ?_, fun p hp => ?_, hok, I.len⟩
 ·exact keep b o (neL b o e) hb (neC b o e hx) (I.base.keep b o e n hb hx) (I.base.free b o e n hx)
 ·obtain ⟨sl, e1⟩ := I.base.slot b o e n hb hx
  obtain ⟨sl', e2⟩ := slot b _ (neL b o e) hb (neC b o e hx) e1 (I.base.free b o e n hx)
  exact ⟨sl', e2⟩
 ·obtain ⟨o', e1⟩ := I.base.there b o e hx
  exact free b o' (neC b o e hx) e1 (I.base.free b o e n hx)
 ·obtain ⟨o', e1⟩ := I.base.there b o e hx
  exact there b o' (neC b o e hx) e1
 ·obtain ⟨m1, e1⟩ := I.base.tbls b ps e
  obtain ⟨m2, e2⟩ := tbls b _ e1
  exact ⟨m1 ++ m2, by rw [e2, Array.append_assoc]⟩
 ·obtain ⟨m, hn, hl⟩ := I.loc
  refine ⟨m, ns m hn, fun i x v e1 e2 e3 => ?_⟩
  obtain ⟨u, r, l⟩ := hl i x v e1 e2 e3
  refine ⟨u, r, ?_⟩
  rcases l with l | ⟨k, c, e, z⟩
  ·exact .inl l
  ·exact .inr ⟨k, c, e, cellK x c e _ z⟩
 ·obtain ⟨v, z⟩ := I.cell x c e
  exact ⟨v, cellK x c e v z⟩
 ·obtain ⟨m, ⟨o, _, _, ho, _⟩, _⟩ := I.loc
  exact free _ o (fun z => (hch _ z).2.1 rfl) ho I.free
 ·obtain ⟨v, o, ho, hd⟩ := I.cell x c e
  exact free c o (fun z => (hch c z).2.2.1 x c e rfl) ho (I.freeC x c e)
 ·obtain ⟨e, n, ne, nf, d⟩ := I.pin p hp
  have nch : p.1 ∉ ch := fun z => (hch p.1 z).2.2.2 p hp rfl
  exact ⟨keep p.1 p.2 ne nf nch e n, free p.1 p.2 nch e n, ne, nf, d⟩
theorem Inv.un {t' : Nat} (I : Inv X pins σ H s) (u : Un X.fs [] H H' s.heap h') (hok : HOk X.prog X.w H' h') : Inv X pins σ H' { s with heap := h', toks := t' } := by
 obtain ⟨m, ⟨o, es, ep, ho, r⟩, _⟩ := id I.loc
 obtain ⟨sl, hL⟩ := u.any ho I.free (by simp)
 exact I.step (g' := s.gens) (d' := s.drawn) (ch := []) (fun _ z => nomatch z) (fun b o _ hb _ e n => u.keep b o e n hb (by simp)) (fun b o _ hb _ e n => u.slot b o e n hb (by simp)) (fun b o _ e n => u.free b o e n (by simp)) (fun b o _ e => u.there b o e (by simp)) u.tups u.frzs u.tbls (fun m' hm => by
  obtain ⟨o', es', ep', ho', r'⟩ := hm
  rw [ho] at ho'; cases ho'
  exact ⟨_, es', ep', hL, r'⟩) hok I.bare
theorem Inv.call {g' : Array GenState} {t' : Nat} {d' : Drawn} {ch : List Addr} (I : Inv X pins σ H s) (u : Un (frs X.stack) ch H H' s.heap h') (hok : HOk X.prog X.w H' h') (hg : AllBare g')
  (hch : ∀ b ∈ ch, (b ∈ X.ex \/ X.s₀.heap.objs.size <= b) /\ b ≠ X.env.locals /\ (∀ x c, X.env.cells.lookup x = some c -> c ≠ b) /\ ∀ p ∈ X.pn ++ pins, p.1 ≠ b) :
  Inv X pins σ H' { s with heap := h', gens := g', drawn := d', toks := t' } := by
 obtain ⟨m, ⟨o, es, ep, ho, r⟩, _⟩ := id I.loc
 obtain ⟨sl, hL⟩ := u.any ho I.free fun z => (hch _ z).2.1 rfl
 exact I.step (ch := ch) hch (fun b o hL hb hc e n => u.keep b o e n (fun z => (List.mem_cons.mp (I.stkSub b z)).elim hL hb) hc) (fun b o _ _ hc e n => u.any e n hc) (fun b o hc e n => u.free b o e n hc) (fun b o hc e => u.there b o e hc) u.tups u.frzs u.tbls (fun m' hm => by
  obtain ⟨o', es', ep', ho', r'⟩ := hm
  rw [ho] at ho'; cases ho'
  exact ⟨_, es', ep', hL, r'⟩) hok hg
theorem Inv.turned {t' : Nat} {it : Addr} (I : Inv X pins σ H s) (k : ∀ b o, b ≠ it -> s.heap.get? b = some o -> h'.get? b = some o) (hn : H it = none) (hL : it ≠ X.env.locals)
  (h1 : it ∈ X.ex \/ X.s₀.heap.objs.size <= it) (h2 : ∀ x c, X.env.cells.lookup x = some c -> c ≠ it) (h3 : ∀ p ∈ X.pn ++ pins, p.1 ≠ it) : Inv X pins σ H { s with heap := h', toks := t' } := by
 have nit : ∀ b u, H b = some u -> b ≠ it := fun b u e z => by rw [z, hn] at e; cases e
 refine I.step (g' := s.gens) (d' := s.drawn) (ch := [it]) (fun b hb => ?_) (fun b o _ _ hc e _ => k b o (fun z => hc (by simp [z])) e) (fun b o _ _ hc e _ => ⟨o.slots, k b o (fun z => hc (by simp [z])) e⟩) (fun _ _ _ _ n => n)
  (fun b o hc e => ⟨o, k b o (fun z => hc (by simp [z])) e⟩) (fun _ _ e => e) (fun _ _ _ e => e) (fun b ps e => ⟨#[], by rw [e]; simp⟩) (fun m hm => ?_) (fun b u e => ?_) I.bare
 ·have e : b = it := by simpa using hb
  subst e
  exact ⟨h1, hL, h2, h3⟩
 ·obtain ⟨o, es, ep, ho, r⟩ := hm
  exact ⟨o, es, ep, k _ o (Ne.symm hL) ho, r⟩
 ·refine (I.hok b u e).stay (fun c v hc q => k c v ?_ q) (fun _ q => q) fun _ _ q => q
  rcases hc with z | z
  ·rw [z]; exact nit b u e
  ·exact nit c _ z
theorem Inv.tok (I : Inv X pins σ H s) (t : Nat) : Inv X pins σ H { s with toks := t } := I.un (h' := s.heap) (t' := t) Un.refl I.hok
theorem Inv.kept {t' : Nat} (I : Inv X pins σ H s) (k : ∀ b u, s.heap.get? b = some u -> h'.get? b = some u) : Inv X pins σ H { s with heap := h', toks := t' } := I.un (Un.kept k) (I.hok.kept k)
theorem Inv.laid {a : Addr} {o : HO} {t' : Nat} (I : Inv X pins σ H s) (k : ∀ b u, s.heap.get? b = some u -> h'.get? b = some u) (hp : s.heap.objs.size <= a) (new : ObjOk X.prog X.w (upd H a o) h' a o) :
  Inv X pins σ (upd H a o) { s with heap := h', toks := t' } := I.un (Un.laid k hp (I.hok.fresh hp)) (I.hok.laid k hp new)
theorem Inv.write {x e : Addr} {o : HO} {t' : Nat} (I : Inv X pins σ H s) (mu : Mut (H x)) (he : e = x \/ H e = some (.own x)) (k : ∀ b u, b ≠ e -> s.heap.get? b = some u -> h'.get? b = some u) (heo : ∃ u, h'.get? e = some u)
  (new : ObjOk X.prog X.w (upd H x o) h' x o) : Inv X pins σ (upd H x o) { s with heap := h', toks := t' } := I.un (Un.write mu he k heo) (I.hok.write mu he k heo new)
theorem Inv.weak {σ' : List (Option V)} (I : Inv X pins σ H s) (hl : σ'.length = σ.length) (w : ∀ (i : Nat) v, σ'[i]? = some (some v) -> σ[i]? = some (some v)) : Inv X pins σ' H s :=
 ⟨I.ok, I.os, I.bare, I.base, let ⟨m, hn, hl'⟩ := I.loc; ⟨m, hn, fun i x v e1 e2 e3 => hl' i x v e1 (w i v e2) e3⟩, I.cell, I.free, I.freeC, I.pin, I.hok, hl.trans I.len⟩
theorem Inv.pins_of {pins' : List (Addr × Obj)} (I : Inv X pins σ H s) (h : ∀ p ∈ pins', s.heap.get? p.1 = some p.2 /\ H p.1 = none /\ p.1 ≠ X.env.locals /\ p.1 ∉ X.fs /\ ∀ v, p.2.data ≠ .cell v) : Inv X pins' σ H s :=
 ⟨I.ok, I.os, I.bare, I.base, I.loc, I.cell, I.free, I.freeC, fun p hp => (List.mem_append.mp hp).elim (fun z => I.pin p (List.mem_append_left _ z)) (h p), I.hok, I.len⟩

theorem nodup_ix {N : List Str} (hN : N.Nodup) {i j : Nat} {x : Str} (a : N[i]? = some x) (b : N[j]? = some x) : i = j := by
 obtain ⟨h1, e1⟩ := List.getElem?_eq_some_iff.mp a
 obtain ⟨h2, e2⟩ := List.getElem?_eq_some_iff.mp b
 exact (List.getElem_inj hN).mp (e1.trans e2.symm)

theorem store_ok2 {M : Model} {A : Around} {E : Value -> Shared -> Prop} {i : Nat} {x : Str} {v : V} {u : Value} {Q : Unit -> Shared -> Prop} (I : Inv X pins σ H s) (hN : X.N.Nodup) (hi : X.N[i]? = some x) (hx : Loc X.env.scope x) (r : RelV v u)
  (h : ∀ s', Inv X pins (σ.set i (some v)) H s' -> (∃ a, Heap.SameBut a s.heap s'.heap /\ (a = X.env.locals \/ X.env.cells.lookup x = some a)) -> Q () s') (hf : X.fn x = true \/ X.env.scope.names.lookup x = some .local := by first | exact .inl rfl | exact .inr rfl | assumption) : wpAny M A (storeName X.env x u) Q E s := by
 obtain ⟨m, hn, hl⟩ := id I.loc
 have hcls : (X.env.scope.kind == .class || (X.env.scope.kind == .module && X.env.locals != X.env.globals)) = false := by rw [I.ok.kind]; rfl
 have hiσ : i < σ.length := by rw [I.len]; exact (List.getElem?_eq_some_iff.mp hi).1
 have cne := I.cne
 have tracked : ∀ {a : Addr} {h' : Heap}, (∃ o, s.heap.get? a = some o /\ H a = none) -> Heap.SameBut a s.heap h' -> HOk X.prog X.w H h' := fun {a h'} ha hs b ob e => by
  obtain ⟨_, _, hfree⟩ := ha
  refine (I.hok b ob e).stay (fun c w' hc q => (hs.2 c ?_).trans q) (fun _ q => q) fun _ _ q => q
  rintro rfl
  rcases hc with rfl | hc
  ·rw [hfree] at e; cases e
  ·rw [hfree] at hc; cases hc
 rcases hx with hk | hk
 ·refine wpAny_storeName_local hk hn (fun h' hn' hs => ?_) hcls
  obtain ⟨oL, _, _, hoL, _⟩ := id hn
  refine h _ ⟨I.ok, I.os, I.bare, ⟨fun b o e n hb hx => ?_, fun b o e n hb hx => ?_, I.base.free, fun b o e hx => ?_, I.base.tups, I.base.frzs, I.base.tbls⟩, ⟨_, hn', fun j y v' e1 e2 e3 => ?_⟩, fun y c e => ?_, I.free, I.freeC, fun p hp => ?_, tracked ⟨oL, hoL, I.free⟩ hs, by simpa using I.len⟩ ⟨_, hs, .inl rfl⟩
  ·exact (hs.2 b (Nat.ne_of_lt (Nat.lt_of_lt_of_le (Heap.lt_size e) I.ok.above))).trans (I.base.keep b o e n hb hx)
  ·obtain ⟨sl, e1⟩ := I.base.slot b o e n hb hx
   exact ⟨sl, (hs.2 b (Nat.ne_of_lt (Nat.lt_of_lt_of_le (Heap.lt_size e) I.ok.above))).trans e1⟩
  ·obtain ⟨o', e1⟩ := I.base.there b o e hx
   exact ⟨o', (hs.2 b (Nat.ne_of_lt (Nat.lt_of_lt_of_le (Heap.lt_size e) I.ok.above))).trans e1⟩
  ·by_cases hj : j = i
   ·subst hj
    rw [hi] at e1; cases e1
    rw [List.getElem?_set_self hiσ] at e2
    cases e2
    exact ⟨u, r, .inl ⟨hk, by simp⟩⟩
   ·rw [List.getElem?_set_ne (Ne.symm hj)] at e2
    obtain ⟨u', r', q⟩ := hl j y v' e1 e2 e3
    refine ⟨u', r', ?_⟩
    rcases q with ⟨k, e⟩ | ⟨k, c, e, z⟩
    ·refine .inl ⟨k, ?_⟩
     have : y ≠ x := fun e => hj (nodup_ix hN e1 (e ▸ hi))
     simp [this, e]
    ·exact .inr ⟨k, c, e, z.sameBut hs (cne y c e)⟩
  ·obtain ⟨w', z⟩ := I.cell y c e
   exact ⟨w', z.sameBut hs (cne y c e)⟩
  ·obtain ⟨e, n, ne, nf, d⟩ := I.pin p hp
   exact ⟨(hs.2 p.1 ne).trans e, n, ne, nf, d⟩
 ·have hfn : X.fn x = true := by
   rcases hf with z | z
   ·exact z
   ·rw [z] at hk; cases hk
  obtain ⟨c, hc⟩ := I.ok.has x (.inl hk)
  obtain ⟨w', z⟩ := I.cell x c hc
  refine wpAny_storeName_cell I.ok.kind hk hc z (fun h' hc' hs => ?_)
  obtain ⟨oc, hoc, hocd⟩ := id z
  refine h { s with heap := h' } ⟨I.ok, I.os, I.bare, ⟨fun b o e n hb hx => ?_, fun b o e n hb hx => ?_, I.base.free, fun b o e hx => ?_, I.base.tups, I.base.frzs, I.base.tbls⟩, ⟨m, hn.sameBut hs (Ne.symm (cne x c hc)), fun j y v' e1 e2 e3 => ?_⟩, fun y c' e => ?_, I.free, I.freeC, fun p hp => ?_, tracked ⟨oc, hoc, I.freeC x c hc⟩ hs, by simpa using I.len⟩ ⟨c, hs, .inr hc⟩
  ·exact (hs.2 b (Nat.ne_of_lt (Nat.lt_of_lt_of_le (Heap.lt_size e) (I.ok.cab x c hfn hc)))).trans (I.base.keep b o e n hb hx)
  ·obtain ⟨sl, e1⟩ := I.base.slot b o e n hb hx
   exact ⟨sl, (hs.2 b (Nat.ne_of_lt (Nat.lt_of_lt_of_le (Heap.lt_size e) (I.ok.cab x c hfn hc)))).trans e1⟩
  ·obtain ⟨o', e1⟩ := I.base.there b o e hx
   exact ⟨o', (hs.2 b (Nat.ne_of_lt (Nat.lt_of_lt_of_le (Heap.lt_size e) (I.ok.cab x c hfn hc)))).trans e1⟩
  ·by_cases hj : j = i
   ·subst hj
    rw [hi] at e1; cases e1
    rw [List.getElem?_set_self hiσ] at e2
    cases e2
    exact ⟨u, r, .inr ⟨.inl hk, c, hc, hc'⟩⟩
   ·rw [List.getElem?_set_ne (Ne.symm hj)] at e2
    obtain ⟨u', r', q⟩ := hl j y v' e1 e2 e3
    refine ⟨u', r', ?_⟩
    rcases q with q | ⟨k, c', e, z'⟩
    ·exact .inl q
    ·refine .inr ⟨k, c', e, z'.sameBut hs ?_⟩
     rintro rfl
     exact hj (nodup_ix hN e1 (I.ok.inj _ _ _ e hc ▸ hi))
  ·by_cases hcc : c' = c
   ·subst hcc; exact ⟨_, hc'⟩
   ·obtain ⟨w2, z2⟩ := I.cell y c' e
    exact ⟨w2, z2.sameBut hs hcc⟩
  ·obtain ⟨e, n, ne, nf, d⟩ := I.pin p hp
   refine ⟨(hs.2 p.1 ?_).trans e, n, ne, nf, d⟩
   intro q
   rw [q, hoc] at e
   have q' : oc = p.2 := Option.some.inj e
   exact d w' (by rw [<- q']; exact hocd)
theorem b2g {M : Model} {A : Around} {E : Value -> Shared -> Prop} {i : Nat} {x : Str} {v : V} {u : Value} {Q : Unit -> Shared -> Prop} (I : Inv X pins σ H s) (hN : X.N.Nodup) (hi : X.N[i]? = some x) (hx : Loc X.env.scope x) (r : RelV v u)
  (h : ∀ s', Inv X pins (σ.set i (some v)) H s' -> Q () s') (hf : X.fn x = true \/ X.env.scope.names.lookup x = some .local := by first | exact .inl rfl | exact .inr rfl | assumption) : wpAny M A (storeName X.env x u) Q E s :=
 store_ok2 I hN hi hx r (fun s' I' _ => h s' I') hf
theorem Inv.call' {s' : Shared} {ch : List Addr} (I : Inv X pins σ H s) (ho : s'.os = s.os) (u : Un (frs X.stack) ch H H' s.heap s'.heap) (hok : HOk X.prog X.w H' s'.heap) (hg : AllBare s'.gens)
  (hch : ∀ b ∈ ch, (b ∈ X.ex \/ X.s₀.heap.objs.size <= b) /\ b ≠ X.env.locals /\ (∀ x c, X.env.cells.lookup x = some c -> c ≠ b) /\ ∀ p ∈ X.pn ++ pins, p.1 ≠ b) : Inv X pins σ H' s' := by
 obtain ⟨h', g', d', t', o'⟩ := s'
 have e : o' = s.os := ho
 subst e
 exact I.call (g' := g') (t' := t') (d' := d') u hok hg hch
end

abbrev XK := Value -> Option Addr -> Hp -> Prop
abbrev St := List (Option V)
abbrev VK := V -> Hp -> Prop
abbrev TE := St -> Hp -> VK -> Prop
abbrev TT := St -> Hp -> (Bool -> Hp -> Prop) -> Prop
abbrev TA := St -> Hp -> (List V -> Hp -> Prop) -> Prop
structure Ends where
 nx : St -> Hp -> Prop
 rt : VK
 bk : St -> Hp -> Prop := fun _ _ => False
 ct : St -> Hp -> Prop := fun _ _ => False
abbrev TS := Ends -> St -> Hp -> Prop

def EP (X : Cx) (pins : List (Addr × Obj)) (σ : St) (Q : VK) (u : Value) (s' : Shared) : Prop := ∃ v H', Inv X pins σ H' s' /\ RelV v u /\ Q v H'
def TP (X : Cx) (pins : List (Addr × Obj)) (σ : St) (Q : Bool -> Hp -> Prop) (b : Bool) (s' : Shared) : Prop := ∃ H', Inv X pins σ H' s' /\ Q b H'
def AP (X : Cx) (pins : List (Addr × Obj)) (σ : St) (Q : List V -> Hp -> Prop) (us : List Value) (s' : Shared) : Prop := ∃ vs H', Inv X pins σ H' s' /\ Vals vs us /\ Q vs H'
def SP (X : Cx) (pins : List (Addr × Obj)) (D : Ends) (f : Flow) (s' : Shared) : Prop :=
 match f with
 | .next => ∃ σ' H', Inv X pins σ' H' s' /\ D.nx σ' H'
 | .brk => ∃ σ' H', Inv X pins σ' H' s' /\ D.bk σ' H'
 | .cont => ∃ σ' H', Inv X pins σ' H' s' /\ D.ct σ' H'
 | .ret u => ∃ v σ' H', Inv X pins σ' H' s' /\ RelV v u /\ D.rt v H'

def PE (X : Cx) (e : Expr) (t : TE) : Prop :=
 ∀ (pins : List (Addr × Obj)) (s : Shared) (σ : St) (H : Hp) (Q : VK), Inv X pins σ H s -> t σ H Q -> wpAny (model X.prog X.w) X.A (eval e X.env) (EP X pins σ Q) X.xe s
def PT (X : Cx) (e : Expr) (t : TT) : Prop :=
 ∀ (pins : List (Addr × Obj)) (s : Shared) (σ : St) (H : Hp) (Q : Bool -> Hp -> Prop), Inv X pins σ H s -> t σ H Q -> wpAny (model X.prog X.w) X.A (isTrue e X.env (eval e X.env)) (TP X pins σ Q) X.xe s
def PW (X : Cx) (e : Expr) (t : TT) : Prop :=
 ∀ (whole : Sem Value) (pins : List (Addr × Obj)) (s : Shared) (σ : St) (H : Hp) (Q : Bool -> Hp -> Prop), Inv X pins σ H s -> t σ H Q -> wpAny (model X.prog X.w) X.A (isTrue e X.env whole) (TP X pins σ Q) X.xe s
theorem PW.pt {X : Cx} {e : Expr} {t : TT} (h : PW X e t) : PT X e t := h _
def PA (X : Cx) (es : List Expr) (t : TA) : Prop :=
 ∀ (pos : Pos) (pins : List (Addr × Obj)) (s : Shared) (σ : St) (H : Hp) (Q : List V -> Hp -> Prop), Inv X pins σ H s -> t σ H Q -> wpAny (model X.prog X.w) X.A (spliced (backTo pos (starEach es X.env))) (AP X pins σ Q) X.xe s
def PS (X : Cx) (st : Stmt) (t : TS) : Prop :=
 ∀ (pins : List (Addr × Obj)) (s : Shared) (σ : St) (H : Hp) (D : Ends), Inv X pins σ H s -> t D σ H -> wpAny (model X.prog X.w) X.A (exec st X.env) (SP X pins D) X.xe s
def PSs (X : Cx) (st : List Stmt) (t : TS) : Prop :=
 ∀ (pins : List (Addr × Obj)) (s : Shared) (σ : St) (H : Hp) (D : Ends), Inv X pins σ H s -> t D σ H -> wpAny (model X.prog X.w) X.A (execs st X.env) (SP X pins D) X.xe s
theorem thn {α : Type} {t : Sem α} {Q Q' : α -> Shared -> Prop} {M : Model} {A : Around} {E : Value -> Shared -> Prop} {s : Shared} (h : wpAny M A t Q E s) (hQ : ∀ a s, Q a s -> Q' a s) : wpAny M A t Q' E s := wpAny_mono h hQ fun _ _ x => x
end L2

namespace L2
open PySem PySem.Spec PyProof.Rows
section
variable {X : Cx}

def tVar (i : Nat) : TE := fun σ H Q => ∃ v, σ[i]? = some (some v) /\ Q v H
def tC (v : V) : TE := fun _ H Q => Q v H
theorem pe_var {i : Nat} {x : Str} {pos : Pos} (hN : X.N[i]? = some x) (hv : Vis X.env.scope x) (hd : (x == ("__debug__" : Str)) = false := by decide) (hcd : (x == ("__classdict__" : Str)) = false := by decide) : PE X (.Name x pos) (tVar i) := by
 intro pins s σ H Q I h
 obtain ⟨v, e, h⟩ := h
 obtain ⟨m, hn, hl⟩ := I.loc
 obtain ⟨u, r, l⟩ := hl i x v hN e hv
 have fin : EP X pins σ Q u s := ⟨v, H, I, r, h⟩
 rcases l with ⟨hk, hm⟩ | ⟨hk, c, hc, hcell⟩
 ·exact wpAny_Name (wpAny_loadName_local I.ok.kind hk hn hm fin) hd
 ·rcases hk with hk | hk
  ·exact wpAny_Name (wpAny_loadName_cell I.ok.kind hk hc hcell fin) hd
  ·exact wpAny_Name (wpAny_loadName_free I.ok.kind hk hc hcell fin hcd) hd
theorem pe_int {i j pos} : PE X (.Constant (.int i) j pos) (tC (.int i)) := fun _ _ _ H _ I h => wpAny_Constant_int ⟨.int i, H, I.tok _, ⟨_, rfl⟩, h⟩
theorem pe_bl {b j pos} : PE X (.Constant (.bool b) j pos) (tC (.bl b)) := fun _ _ _ H _ I h => Constant_bool ⟨.bl b, H, I, rfl, h⟩
theorem pe_non {j pos} : PE X (.Constant .none j pos) (tC .non) := fun _ _ _ H _ I h => Constant_none ⟨.non, H, I, rfl, h⟩
theorem pe_str {x j pos} : PE X (.Constant (.str x) j pos) (tC (.str x)) := fun _ _ _ H _ I h => Calls.Constant_str ⟨.str x, H, I.tok _, ⟨_, rfl⟩, h⟩

def Gl (X : Cx) (x : Str) : Prop := X.env.kindOf x = some .globalImplicit
theorem ld_glob {E : Value -> Shared -> Prop} {pins : List (Addr × Obj)} {s : Shared} {σ : St} {H : Hp} {x : Str} {u : Value} {pos : Pos} {Q : Value -> Shared -> Prop} (I : Inv X pins σ H s) (hg : Gl X x) (hm : X.mg x = some u) (h : Q u s)
  (hd : (x == ("__debug__" : Str)) = false := by decide) : wpAny (model X.prog X.w) X.A (eval (.Name x pos) X.env) Q E s :=
 Calls.Name_function_global I.ok.kind hg (Calls.loadGlobal_global (by rw [I.ok.glob]; exact I.mod.glob.keeps I.bk) hm h) hd
theorem a7w {E : Value -> Shared -> Prop} {pins : List (Addr × Obj)} {s : Shared} {σ : St} {H : Hp} {x : Str} {u : Value} {pos : Pos} {Q : Value -> Shared -> Prop} (I : Inv X pins σ H s) (hg : Gl X x) (hm : X.mg x = none) (hv : bootBuiltins x = some u) (h : Q u s)
  (hn : x ≠ "__name__" := by decide) (hd : (x == ("__debug__" : Str)) = false := by decide) : wpAny (model X.prog X.w) X.A (eval (.Name x pos) X.env) Q E s := by
 obtain ⟨mb, h1, h2⟩ := I.mod.blt
 exact Calls.Name_function_global I.ok.kind hg (Calls.loadGlobal_builtin (by rw [I.ok.glob]; exact I.mod.glob.keeps I.bk) hm (by rw [I.ok.blt]; exact h1.keeps I.bk) ((h2 x hn).trans hv) h) hd
theorem pe_bltn {x : Str} {v : V} {u : Value} {pos : Pos} (hg : Gl X x) (hm : X.mg x = none) (hv : bootBuiltins x = some u) (r : RelV v u) (hn : x ≠ "__name__" := by decide) (hd : (x == ("__debug__" : Str)) = false := by decide) : PE X (.Name x pos) (tC v) :=
 fun _ _ _ H _ I h => a7w I hg hm hv ⟨v, H, I, r, h⟩ hn hd

variable {a b : Expr} {ta tb : TE} {pos : Pos}
def tB (t : TE) : TT := fun σ H Q => t σ H fun x H1 => ∃ c, x = .bl c /\ Q c H1
theorem pt_val {e : Expr} {t : TE} (h : PE X e t) (he : ∀ whole, isTrue e X.env whole = (do let v <- whole; standAt e.pos; holding [v] (truthy v)) := by intro _; rfl) : PT X e (tB t) := by
 intro pins s σ H Q I hw
 refine isTrue_plain (thn (h pins s σ H _ I hw) fun v s1 ⟨x, H1, I1, r1, q1⟩ => ?_) (he _)
 obtain ⟨d, rfl, q⟩ := q1
 cases r1
 exact wpAny_truthy_bool ⟨H1, I1, q⟩

variable {tA tB' : TT} {rest : List Expr}
def tAnd (t u : TT) : TT := fun σ H Q => t σ H fun c H1 => if c = true then u σ H1 Q else Q false H1
def tOr (t u : TT) : TT := fun σ H Q => t σ H fun c H1 => if c = true then Q true H1 else u σ H1 Q
def tNot (t : TT) : TT := fun σ H Q => t σ H fun c H1 => Q (!c) H1
theorem pw_and1 (ha : PT X a tA) : PW X (.BoolOp .And [a] pos) tA := by
 intro wh pins s σ H Q I h
 refine isTrue_and (thn (ha pins s σ H Q I h) fun c s1 e => ?_)
 cases c with
 | true => exact isTrue_and_nil e
 | false => exact e
theorem pw_or1 (ha : PT X a tA) : PW X (.BoolOp .Or [a] pos) tA := by
 intro wh pins s σ H Q I h
 refine isTrue_or (thn (ha pins s σ H Q I h) fun c s1 e => ?_)
 cases c with
 | false => exact isTrue_or_nil e
 | true => exact e
theorem pw_and (ha : PT X a tA) (hb : PW X (.BoolOp .And (b :: rest) pos) tB') : PW X (.BoolOp .And (a :: b :: rest) pos) (tAnd tA tB') := by
 intro wh pins s σ H Q I h
 refine isTrue_and (thn (ha pins s σ H _ I h) fun c s1 ⟨H1, I1, q1⟩ => ?_)
 cases c with
 | true => exact hb wh pins s1 σ H1 Q I1 q1
 | false => exact ⟨H1, I1, q1⟩
theorem pw_or (ha : PT X a tA) (hb : PW X (.BoolOp .Or (b :: rest) pos) tB') : PW X (.BoolOp .Or (a :: b :: rest) pos) (tOr tA tB') := by
 intro wh pins s σ H Q I h
 refine isTrue_or (thn (ha pins s σ H _ I h) fun c s1 ⟨H1, I1, q1⟩ => ?_)
 cases c with
 | true => exact ⟨H1, I1, q1⟩
 | false => exact hb wh pins s1 σ H1 Q I1 q1
theorem pt_not (ha : PT X a tA) : PT X (.UnaryOp .Not a pos) (tNot tA) := by
 intro pins s σ H Q I h
 exact isTrue_not (ha pins s σ H (fun c H1 => Q (!c) H1) I h)
def tAndV (ta tb : TE) : TE := fun σ H Q => ta σ H fun x H1 => ∃ c, x = .bl c /\ if c = true then tb σ H1 Q else Q (.bl false) H1
def tOrV (ta tb : TE) : TE := fun σ H Q => ta σ H fun x H1 => ∃ c, x = .bl c /\ if c = true then Q (.bl true) H1 else tb σ H1 Q
def tNotV (ta : TE) : TE := fun σ H Q => ta σ H fun x H1 => ∃ c, x = .bl c /\ Q (.bl (!c)) H1
theorem pe_one {op} {t : TE} (h : PE X a t) : PE X (.BoolOp op [a] pos) t := fun pins s σ H Q I hw => BoolOp_one (h pins s σ H Q I hw)
theorem pe_and (ha : PE X a ta) (hb : PE X (.BoolOp .And (b :: rest) pos) tb) : PE X (.BoolOp .And (a :: b :: rest) pos) (tAndV ta tb) := by
 intro pins s σ H Q I h
 refine BoolOp_and (thn (ha pins s σ H _ I h) fun v s1 ⟨x, H1, I1, r1, q1⟩ => ?_)
 obtain ⟨c, rfl, q1⟩ := q1
 cases r1
 refine wpAny_truthy_bool ?_
 cases c with
 | true => exact hb pins s1 σ H1 Q I1 q1
 | false => exact ⟨.bl false, H1, I1, rfl, q1⟩
theorem pe_or (ha : PE X a ta) (hb : PE X (.BoolOp .Or (b :: rest) pos) tb) : PE X (.BoolOp .Or (a :: b :: rest) pos) (tOrV ta tb) := by
 intro pins s σ H Q I h
 refine BoolOp_or (thn (ha pins s σ H _ I h) fun v s1 ⟨x, H1, I1, r1, q1⟩ => ?_)
 obtain ⟨c, rfl, q1⟩ := q1
 cases r1
 refine wpAny_truthy_bool ?_
 cases c with
 | false => exact hb pins s1 σ H1 Q I1 q1
 | true => exact ⟨.bl true, H1, I1, rfl, q1⟩
theorem pe_not (ha : PE X a ta) : PE X (.UnaryOp .Not a pos) (tNotV ta) := by
 intro pins s σ H Q I h
 refine UnaryOp_ (thn (ha pins s σ H _ I h) fun v s1 ⟨x, H1, I1, r1, q1⟩ => ?_)
 obtain ⟨c, rfl, q1⟩ := q1
 cases r1
 exact not_of (wpAny_truthy_bool ⟨.bl (!c), H1, I1, rfl, q1⟩)
def tIf (t : TT) (ta tb : TE) : TE := fun σ H Q => t σ H fun c H1 => if c = true then ta σ H1 Q else tb σ H1 Q
theorem pe_ifExp {c : Expr} (hc : PT X c tA) (ha : PE X a ta) (hb : PE X b tb) : PE X (.IfExp c a b pos) (tIf tA ta tb) := by
 intro pins s σ H Q I h
 refine wpAny_IfExp (thn (hc pins s σ H _ I h) fun d s1 ⟨H1, I1, q1⟩ => ?_)
 cases d with
 | true => exact ha pins s1 σ H1 Q I1 q1
 | false => exact hb pins s1 σ H1 Q I1 q1
end
end L2

namespace L2
open PySem PySem.Spec PyProof.Rows

def SqL (K : PySem.W.Frag) (H : Hp) (a : Addr) (xs : List V) : Prop :=
 Rd H a (.lst xs) \/
  ∃ (o : Obj) (its : Array Value) (n : Nat), K.lookup a = some o /\ o.cls = .type "list" /\ o.dict = none /\ o.data = .seq its n /\ its.size <= sizeLine /\ Vals xs its.toList
def SqT (K : PySem.W.Frag) (H : Hp) (a : Addr) (xs : List V) : Prop :=
 Rd H a (.tup xs) \/
  ∃ (o : Obj) (its : Array Value) (n : Nat), K.lookup a = some o /\ o.cls = .type "tuple" /\ o.data = .seq its n /\ its.size <= sizeLine /\ Vals xs its.toList
def absV : Value -> Option V
 | .none => some .non
 | .bool b => some (.bl b)
 | .int i _ => some (.int i)
 | .str x _ => some (.str x)
 | .bytes b _ => some (.byt b)
 | .float b _ => some (.flt b)
 | .ref a => some (.ref a)
 | .type n => some (.ty n)
 | _ => none
theorem RelV.abs {x : V} {u : Value} (r : RelV x u) : absV u = some x := by
 cases x with
 | non => cases r; rfl
 | bl _ => cases r; rfl
 | int _ => obtain ⟨t, rfl⟩ := r; rfl
 | str _ => obtain ⟨t, rfl⟩ := r; rfl
 | byt _ => obtain ⟨t, rfl⟩ := r; rfl
 | flt _ => obtain ⟨t, rfl⟩ := r; rfl
 | ref _ => cases r; rfl
 | ty _ => cases r; rfl
theorem RelV.inj {x y : V} {u : Value} (r : RelV x u) (q : RelV y u) : x = y := Option.some.inj (r.abs.symm.trans q.abs)
theorem Vals.inj : ∀ {xs ys : List V} {us : List Value}, Vals xs us -> Vals ys us -> xs = ys
 | _, _, _, .nil, .nil => rfl
 | _, _, _, .cons r t, .cons r' t' => by rw [r.inj r', Vals.inj t t']
section
variable {X : Cx} {pins : List (Addr × Obj)} {σ : St} {H : Hp} {s : Shared} {a : Addr} {xs ys : List V}
theorem SqT.of {K : PySem.W.Frag} (h : H a = some (.tup xs)) : SqT K H a xs := .inl (.inl h)
theorem Inv.list (I : Inv X pins σ H s) (h : SqL X.K H a xs) : ∃ its : List Value, Vals xs its /\ PlainL s.heap a its.toArray /\ xs.length <= sizeLine := by
 rcases h with h | ⟨o, its, n, hk, hc, hd, hs, hz, r⟩
 ·obtain ⟨z, its, n, r, e⟩ := h.ok I.hok
  exact ⟨its, r, ⟨_, n, e, rfl, rfl, rfl⟩, z⟩
 ·refine ⟨its.toList, r, ⟨o, n, I.kIn a o hk, hc, hd, by simpa using hs⟩, ?_⟩
  have e := r.length
  simp only [Array.length_toList] at e
  omega
theorem Inv.tuple (I : Inv X pins σ H s) (h : SqT X.K H a xs) : ∃ its : List Value, Vals xs its /\ IsTup s.heap a its.toArray /\ xs.length <= sizeLine := by
 rcases h with h | ⟨o, its, n, hk, hc, hs, hz, r⟩
 ·obtain ⟨z, its, r, p⟩ := h.ok I.hok
  exact ⟨its, r, p, z⟩
 ·refine ⟨its.toList, r, ⟨o, I.kIn a o hk, hc, n, by simpa using hs⟩, ?_⟩
  have e := r.length
  simp only [Array.length_toList] at e
  omega
theorem Inv.list_inj (I : Inv X pins σ H s) (h : SqL X.K H a xs) (h' : SqL X.K H a ys) : xs = ys := by
 obtain ⟨its, r, ⟨o, n, e, _, _, d⟩, _⟩ := I.list h
 obtain ⟨its', r', ⟨o', n', e', _, _, d'⟩, _⟩ := I.list h'
 rw [e] at e'; cases e'
 rw [d] at d'
 injection d' with d1 _
 have : its = its' := by simpa using congrArg Array.toList d1
 subst this
 exact r.inj r'
theorem Inv.tuple_inj (I : Inv X pins σ H s) (h : SqT X.K H a xs) (h' : SqT X.K H a ys) : xs = ys := by
 obtain ⟨its, r, ⟨o, e, _, n, d⟩, _⟩ := I.tuple h
 obtain ⟨its', r', ⟨o', e', _, n', d'⟩, _⟩ := I.tuple h'
 rw [e] at e'; cases e'
 rw [d] at d'
 injection d' with d1 _
 have : its = its' := by simpa using congrArg Array.toList d1
 subst this
 exact r.inj r'
end

abbrev Cx.wish (X : Cx) (E : Value -> Shared -> Prop) : Cx := { X with xe := E }
abbrev Cx.nox (X : Cx) : Cx := X.wish fun _ _ => False
theorem Cx.Ok.wish {X : Cx} (ok : X.Ok) (E : Value -> Shared -> Prop) : (X.wish E).Ok :=
 ⟨ok.mod, ok.kind, ok.glob, ok.blt, ok.above, ok.inj, ok.has, ok.cab, ok.hd, ok.frames, ok.stk, ok.exf, ok.bs, ok.bsz, ok.noex, ok.exfs, ok.funs, ok.frf⟩
theorem Cx.Ok.unwish {X : Cx} {E : Value -> Shared -> Prop} (ok : (X.wish E).Ok) : X.Ok :=
 ⟨ok.mod, ok.kind, ok.glob, ok.blt, ok.above, ok.inj, ok.has, ok.cab, ok.hd, ok.frames, ok.stk, ok.exf, ok.bs, ok.bsz, ok.noex, ok.exfs, ok.funs, ok.frf⟩
section
variable {X : Cx} {pins : List (Addr × Obj)} {σ : St} {H : Hp} {s : Shared} {E : Value -> Shared -> Prop}
theorem Inv.wish (I : Inv X pins σ H s) (E : Value -> Shared -> Prop) : Inv (X.wish E) pins σ H s := ⟨I.ok.wish E, I.os, I.bare, I.base, I.loc, I.cell, I.free, I.freeC, I.pin, I.hok, I.len⟩
theorem Inv.unwish (I : Inv (X.wish E) pins σ H s) : Inv X pins σ H s := ⟨I.ok.unwish, I.os, I.bare, I.base, I.loc, I.cell, I.free, I.freeC, I.pin, I.hok, I.len⟩
theorem SP.unwish {D : Ends} {f : Flow} {s' : Shared} (h : SP (X.wish E) pins D f s') : SP X pins D f s' := by
 cases f with
 | next => obtain ⟨σ', H', I, q⟩ := h; exact ⟨σ', H', I.unwish, q⟩
 | brk => obtain ⟨σ', H', I, q⟩ := h; exact ⟨σ', H', I.unwish, q⟩
 | cont => obtain ⟨σ', H', I, q⟩ := h; exact ⟨σ', H', I.unwish, q⟩
 | ret u => obtain ⟨v, σ', H', I, r, q⟩ := h; exact ⟨v, σ', H', I.unwish, r, q⟩
theorem PSs.nox {st : List Stmt} {t : TS} (h : PSs X.nox st t) : PSs X st t := fun pins s σ H D I hw =>
 wpAny_mono (h pins s σ H D (I.wish _) hw) (fun _ _ q => q.unwish) fun _ _ z => False.elim z
end

section
variable {X : Cx} {st : Stmt} {rest : List Stmt} {t u : TS} {e : Expr} {te : TE} {pos : Pos}
def tNext : TS := fun D σ H => D.nx σ H
def tSeq (t u : TS) : TS := fun D σ H => t { D with nx := u D } σ H
theorem pss_nil : PSs X [] tNext := fun _ _ σ H _ I h => wpAny_execs_nil ⟨σ, H, I, h⟩
theorem b2t (h1 : PS X st t) (h2 : PSs X rest u) : PSs X (st :: rest) (tSeq t u) := by
 intro pins s σ H D I h
 refine wpAny_execs_cons (thn (h1 pins s σ H { D with nx := u D } I h) fun f s1 q => ?_)
 cases f with
 | next =>
  obtain ⟨σ', H', I', q⟩ := q
  exact h2 pins s1 σ' H' D I' q
 | ret v => exact q
 | brk => exact q
 | cont => exact q
theorem pss_one (h1 : PS X st t) : PSs X [st] t := by
 intro pins s σ H D I h
 refine wpAny_execs_cons (thn (h1 pins s σ H D I h) fun f s1 q => ?_)
 cases f with
 | next => exact wpAny_execs_nil q
 | ret v => exact q
 | brk => exact q
 | cont => exact q
theorem Inv.quiet {pins : List (Addr × Obj)} {σ : St} {H : Hp} {s : Shared} (I : Inv X pins σ H s) : interactive X.env = false := by simp [interactive, I.ok.kind]
def tDrop (te : TE) : TS := fun D σ H => te σ H fun _ H1 => D.nx σ H1
theorem ps_expr (he : PE X e te) (hs : swapsWith e none pos.line X.env = pure false := by rfl) : PS X (.Expr e pos) (tDrop te) := by
 intro pins s σ H D I h
 exact wpAny_Expr_any (thn (he pins s σ H _ I h) fun v s1 ⟨x, H1, I1, r1, q1⟩ => ⟨σ, H1, I1, q1⟩) I.quiet hs
def tRet (te : TE) : TS := fun D σ H => te σ H D.rt
theorem ps_ret (he : PE X e te) : PS X (.Return (some e) pos) (tRet te) := by
 intro pins s σ H D I h
 exact wpAny_Return_some (thn (he pins s σ H _ I h) fun v s1 ⟨x, H1, I1, r1, q1⟩ => ⟨x, σ, H1, I1, r1, q1⟩)
def tIfS (c : TT) (t u : TS) : TS := fun D σ H => c σ H fun b H1 => if b = true then t D σ H1 else u D σ H1
theorem ps_if {c : Expr} {a b : List Stmt} {tc : TT} (hc : PT X c tc) (ha : PSs X a t) (hb : PSs X b u) : PS X (.If c a b pos) (tIfS tc t u) := by
 intro pins s σ H D I h
 refine wpAny_If (thn (hc pins s σ H _ I h) fun d s1 ⟨H1, I1, q1⟩ => ?_)
 cases d with
 | true => exact ha pins s1 σ H1 D I1 q1
 | false => exact hb pins s1 σ H1 D I1 q1
end

abbrev TG := V -> St -> Hp -> (St -> Hp -> Prop) -> Prop
abbrev TGs := List V -> St -> Hp -> (St -> Hp -> Prop) -> Prop
def PG (X : Cx) (target : Expr) (t : TG) : Prop :=
 ∀ (pins : List (Addr × Obj)) (s : Shared) (σ : St) (H : Hp) (v : V) (u : Value) (Q : St -> Hp -> Prop), Inv X pins σ H s -> RelV v u -> t v σ H Q ->
  wpAny (model X.prog X.w) X.A (assign target X.env u) (fun _ s' => ∃ σ' H', Inv X pins σ' H' s' /\ Q σ' H') X.xe s
def PGs (X : Cx) (ts : List Expr) (t : TGs) : Prop :=
 ∀ (pins : List (Addr × Obj)) (s : Shared) (σ : St) (H : Hp) (vs : List V) (us : List Value) (Q : St -> Hp -> Prop), Inv X pins σ H s -> Vals vs us -> t vs σ H Q ->
  wpAny (model X.prog X.w) X.A (assignInOrder ((assignEach ts X.env).map (·.2)) us) (fun _ s' => ∃ σ' H', Inv X pins σ' H' s' /\ Q σ' H') X.xe s
abbrev TSet := V -> V -> V -> Hp -> (Hp -> Prop) -> Prop
def PSet (X : Cx) (t : TSet) : Prop :=
 ∀ (pins : List (Addr × Obj)) (s : Shared) (σ : St) (H : Hp) (o i v : V) (ov iv u : Value) (Q : Hp -> Prop), Inv X pins σ H s -> RelV o ov -> RelV i iv -> RelV v u -> t o i v H Q ->
  wpAny (model X.prog X.w) X.A (setItem ov iv u) (fun _ s' => ∃ H', Inv X pins σ H' s' /\ Q H') X.xe s
abbrev TIp := V -> V -> Hp -> VK -> Prop
def PIp (X : Cx) (op : Operator) (t : TIp) : Prop :=
 ∀ (pins : List (Addr × Obj)) (s : Shared) (σ : St) (H : Hp) (x y : V) (v u : Value) (Q : VK), Inv X pins σ H s -> RelV x v -> RelV y u -> t x y H Q ->
  wpAny (model X.prog X.w) X.A (inplaceOp op v u) (EP X pins σ Q) X.xe s
section
variable {X : Cx} {pos : Pos}
def gName (i : Nat) : TG := fun v σ H Q => Q (σ.set i (some v)) H
theorem a1d {i : Nat} {x : Str} (hN : X.N.Nodup) (hi : X.N[i]? = some x) (hx : Loc X.env.scope x) (hf : X.fn x = true \/ X.env.scope.names.lookup x = some .local := by first | exact .inl rfl | exact .inr rfl | assumption) : PG X (.Name x pos) (gName i) := by
 intro pins s σ H v u Q I r h
 exact wpAny_assign_Name (b2g I hN hi hx r (fun s' I' => ⟨_, H, I', h⟩) hf)
def gNil : TGs := fun vs σ H Q => vs = [] /\ Q σ H
def gCons (t : TG) (u : TGs) : TGs := fun vs σ H Q => ∃ v r, vs = v :: r /\ t v σ H fun σ' H' => u r σ' H' Q
theorem pgs_nil : PGs X [] gNil := by
 intro pins s σ H vs us Q I r h
 obtain ⟨e, h⟩ := h
 subst e
 cases r
 exact assignInOrder_nil ⟨σ, H, I, h⟩
theorem pgs_cons {e : Expr} {es : List Expr} {t : TG} {u : TGs} (h1 : PG X e t) (h2 : PGs X es u)
  (hs : (assignEach (e :: es) X.env).map (·.2) = assign e X.env :: (assignEach es X.env).map (·.2) := by rfl) : PGs X (e :: es) (gCons t u) := by
 intro pins s σ H vs us Q I r h
 obtain ⟨v, vr, e1, h⟩ := h
 subst e1
 cases r with
 | cons r rr =>
  rw [hs]
  refine assignInOrder_cons (thn (h1 pins s σ H _ _ _ I r h) fun _ s1 ⟨σ1, H1, I1, q1⟩ => ?_)
  exact h2 pins s1 σ1 H1 _ _ Q I1 rr q1
def gTup (K : PySem.W.Frag) (n : Nat) (t : TGs) : TG := fun v σ H Q => ∃ a xs, v = .ref a /\ SqT K H a xs /\ xs.length = n /\ t xs σ H Q
theorem pg_tup {es : List Expr} {k : Nat} {t : TGs} {n : Nat} (hc : X.calm = true) (h : PGs X es t)
  (hn : (assignEach es X.env).length = n := by rfl) (hst : (assignEach es X.env).findIdx? (·.1) = none := by rfl) : PG X (.Tuple es k pos) (gTup X.K n t) := by
 intro pins s σ H v u Q I r hw
 obtain ⟨a, xs, e1, hq, hl, hw⟩ := hw
 subst e1
 cases r
 obtain ⟨its, rv, ht, hz⟩ := I.tuple hq
 refine assign_Tuple_tuple (I.ok.hd hc) ht (by simp [hn, <- hl, rv.length]) hst fun h' hx => ?_
 have I1 : Inv X pins σ H { s with heap := h' } := I.kept (t' := s.toks) fun b o e => hx b o (Nat.ne_of_lt (Heap.lt_size e)) e
 exact h pins _ σ H xs _ Q I1 (by simpa using rv) hw
def gSub (to ti : TE) (t : TSet) : TG := fun v σ H Q => to σ H fun o H1 => ti σ H1 fun i H2 => t o i v H2 fun H3 => Q σ H3
theorem pg_sub {o i : Expr} {to ti : TE} {t : TSet} (ho : PE X o to) (hi : PE X i ti) (hs : PSet X t)
  (ha : ∀ v, assign (.Subscript o i pos) X.env v = (do
   let ov <- holding [v] (eval o X.env)
   let iv <- holding [v, ov] (eval i X.env)
   standAt pos
   holding [v, ov, iv] (setItem ov iv v)
   release [v, ov, iv] []) := by intro _; rfl) : PG X (.Subscript o i pos) (gSub to ti t) := by
 intro pins s σ H v u Q I r h
 rw [ha]
 refine wpAny_bind (wpAny_holding (thn (ho pins s σ H _ I h) fun ov s1 ⟨x, H1, I1, r1, q1⟩ => ?_))
 refine wpAny_bind (wpAny_holding (thn (hi pins s1 σ H1 _ I1 q1) fun iv s2 ⟨y, H2, I2, r2, q2⟩ => ?_))
 refine wpAny_bind (wpAny_standAt (wpAny_bind (wpAny_holding (thn (hs pins s2 σ H2 x y v ov iv u _ I2 r1 r2 r q2) fun _ s3 ⟨H3, I3, q3⟩ => ?_))))
 exact wpAny_release ⟨σ, H3, I3, q3⟩
def tAsg (te : TE) (g : TG) : TS := fun D σ H => te σ H fun x H1 => g x σ H1 D.nx
theorem ps_asg {tg e : Expr} {te : TE} {g : TG} (he : PE X e te) (hg : PG X tg g) (hs : swapsWithSole [tg] e pos.line X.env = pure false := by rfl) (hw : swappedStores [tg] e X.env = pure none := by rfl)
  (h1 : (assignEach [tg] X.env).map (·.2) = [assign tg X.env] := by rfl) : PS X (.Assign [tg] e pos) (tAsg te g) := by
 intro pins s σ H D I h
 refine wpAny_Assign_stores (thn (he pins s σ H _ I h) fun v s1 ⟨x, H1, I1, r1, q1⟩ => ?_) hs hw
 rw [h1]
 exact thn (hg pins s1 σ H1 x v _ I1 r1 q1) fun _ s2 q => q
theorem ps_set {i : Nat} {x : Str} {e : Expr} {te : TE} {pos' : Pos} (hN : X.N.Nodup) (hi : X.N[i]? = some x) (hx : Loc X.env.scope x) (he : PE X e te) (hs : swapsWith e (some (.Name x pos')) pos.line X.env = pure false := by rfl) (hf : X.fn x = true \/ X.env.scope.names.lookup x = some .local := by first | exact .inl rfl | exact .inr rfl | assumption) :
  PS X (.Assign [.Name x pos'] e pos) (tAsg te (gName i)) := by
 intro pins s σ H D I h
 refine wpAny_Assign_Name (thn (he pins s σ H _ I h) fun v s1 ⟨y, H1, I1, r1, q1⟩ => ?_) hs
 exact b2g I1 hN hi hx r1 (fun s2 I2 => ⟨_, H1, I2, q1⟩) hf
def tAug (i : Nat) (te : TE) (ti : TIp) : TS := fun D σ H => ∃ x, σ[i]? = some (some x) /\ te σ H fun y H1 => ti x y H1 fun z H2 => D.nx (σ.set i (some z)) H2
theorem ps_aug {i : Nat} {x : Str} {e : Expr} {te : TE} {op : Operator} {ti : TIp} {pos' : Pos} (hN : X.N.Nodup) (hi : X.N[i]? = some x) (hx : Loc X.env.scope x) (he : PE X e te) (ho : PIp X op ti) (hf : X.fn x = true \/ X.env.scope.names.lookup x = some .local := by first | exact .inl rfl | exact .inr rfl | assumption) :
  PS X (.AugAssign (.Name x pos') op e pos) (tAug i te ti) := by
 intro pins s σ H D I h
 obtain ⟨v, e1, h⟩ := h
 obtain ⟨m, hn, hl⟩ := I.loc
 have vis : Vis X.env.scope x := by rcases hx with k | k; exact .inl k; exact .inr (.inl k)
 obtain ⟨u, r, l⟩ := hl i x v hi e1 vis
 refine wpAny_AugAssign_Name ?_
 have go : wpAny (model X.prog X.w) X.A (eval e X.env) (fun w s₂ => wpAny (model X.prog X.w) X.A (inplaceOp op u w) (fun r s₃ => wpAny (model X.prog X.w) X.A (storeName X.env x r) (fun _ => SP X pins D .next) X.xe s₃) X.xe s₂) X.xe s := by
  refine thn (he pins s σ H _ I h) fun w s1 ⟨y, H1, I1, r1, q1⟩ => ?_
  refine thn (ho pins s1 σ H1 v y u w _ I1 r r1 q1) fun z s2 ⟨zv, H2, I2, r2, q2⟩ => ?_
  exact b2g I2 hN hi hx r2 (fun s3 I3 => ⟨_, H2, I3, q2⟩) hf
 rcases l with ⟨hk, hm⟩ | ⟨hk, c, hc, hcell⟩
 ·exact wpAny_loadName_local I.ok.kind hk hn hm go
 ·rcases hk with hk | hk
  ·exact wpAny_loadName_cell I.ok.kind hk hc hcell go
  ·rcases hx with k | k
   ·have : X.env.scope.names.lookup x = some .free := hk
    rw [k] at this; cases this
   ·have : X.env.scope.names.lookup x = some .free := hk
    rw [k] at this; cases this
def ipI (f : Int -> Int -> Int) : TIp := fun x y H Q => ∃ i j, x = .int i /\ y = .int j /\ Q (.int (f i j)) H
theorem ip_add : PIp X .Add (ipI fun i j => i + j) := by
 intro pins s σ H x y v u Q I r1 r2 h
 obtain ⟨i, j, e1, e2, q⟩ := h
 subst e1; subst e2
 obtain ⟨t, rfl⟩ := r1
 obtain ⟨t', rfl⟩ := r2
 exact iadd_int ⟨.int _, H, I.tok _, ⟨_, rfl⟩, q⟩
theorem ip_sub : PIp X .Sub (ipI fun i j => i - j) := by
 intro pins s σ H x y v u Q I r1 r2 h
 obtain ⟨i, j, e1, e2, q⟩ := h
 subst e1; subst e2
 obtain ⟨t, rfl⟩ := r1
 obtain ⟨t', rfl⟩ := r2
 exact isub_int ⟨.int _, H, I.tok _, ⟨_, rfl⟩, q⟩
end

section
variable {X : Cx} {pos : Pos}
def tWhile (c : TT) (tb : TS) : TS := fun D σ H => ∃ W : Nat -> St -> Hp -> Prop, (∃ m, W m σ H) /\ ∀ m σ H, W m σ H ->
 c σ H fun b H1 => if b = true then ∃ N : St -> Hp -> Prop, (∀ σ' H', N σ' H' -> ∃ m', m' < m /\ W m' σ' H') /\ tb { D with nx := N, ct := N, bk := D.nx } σ H1 else D.nx σ H1
theorem ps_while {c : Expr} {body : List Stmt} {tc : TT} {tb : TS} (hp : PassesOwn (model X.prog X.w) X.A X.env X.xe) (hc : PT X c tc) (hb : PSs X body tb) : PS X (.While c body [] pos) (tWhile tc tb) := by
 intro pins s σ H D I h
 obtain ⟨W, ⟨m0, w0⟩, turn⟩ := h
 refine wpAny_While (codeAny_whileLoop (fun n s' => ∃ σ' H', Inv X pins σ' H' s' /\ W n σ' H') ?_ m0 ⟨σ, H, I, w0⟩)
 rintro n s1 ⟨σ1, H1, I1, w1⟩
 refine wpAny_passesOwn hp (thn (hc pins s1 σ1 H1 _ I1 (turn n σ1 H1 w1)) fun b s2 ⟨H2, I2, q2⟩ => ?_)
 cases b with
 | true =>
  obtain ⟨N, hN, q2⟩ := q2
  rw [if_pos rfl]
  refine wpAny_passesOwn hp (thn (hb pins s2 σ1 H2 _ I2 q2) fun f s3 q3 => ?_)
  cases f with
  | next =>
   obtain ⟨σ3, H3, I3, n3⟩ := q3
   obtain ⟨m', hm, w3⟩ := hN σ3 H3 n3
   exact ⟨m', hm, σ3, H3, I3, w3⟩
  | cont =>
   obtain ⟨σ3, H3, I3, n3⟩ := q3
   obtain ⟨m', hm, w3⟩ := hN σ3 H3 n3
   exact ⟨m', hm, σ3, H3, I3, w3⟩
  | brk => exact q3
  | ret v => exact q3
 | false =>
  rw [if_neg Bool.false_ne_true]
  exact wpAny_execs_nil ⟨σ1, H2, I2, q2⟩
end

structure It where
 go : Nat -> Hp -> Prop
 yld : Nat -> Hp -> V -> Hp -> Prop
 stop : Nat -> Hp -> Prop
def FpOk (X : Cx) (pins : List (Addr × Obj)) (H : Hp) (b : Addr) : Prop :=
 H b = none /\ b ≠ X.env.locals /\ b ∉ X.fs /\ (b ∈ X.ex \/ X.s₀.heap.objs.size <= b) /\ (∀ x c, X.env.cells.lookup x = some c -> c ≠ b) /\ ∀ p ∈ X.pn ++ pins, p.1 ≠ b
theorem Inv.fpOk {X : Cx} {pins : List (Addr × Obj)} {σ : St} {H H' : Hp} {s : Shared} {b : Addr} (I : Inv X pins σ H s) (hb : s.heap.objs.size <= b) (hn : H' b = none) : FpOk X pins H' b := by
 refine ⟨hn, Nat.ne_of_gt (Nat.lt_of_lt_of_le I.lt hb), I.nofs hb, .inr (Nat.le_trans I.sz hb), fun x c e z => ?_, fun p hp z => ?_⟩
 ·obtain ⟨v, q⟩ := I.cell x c e
  exact absurd (Nat.lt_of_lt_of_le q.lt (by rw [z]; exact hb)) (Nat.lt_irrefl _)
 ·exact absurd (Nat.lt_of_lt_of_le (Heap.lt_size (I.pin p hp).1) (by rw [z]; exact hb)) (Nat.lt_irrefl _)
structure Turn (P : Program) (w : World) (K : PySem.W.Frag) (tg : Expr) (J : It) (fp : List Addr) (it : Addr) (tn : Nat -> Heap -> Prop) : Prop where
 mem : it ∈ fp
 obj : ∀ i h, tn i h -> ∀ b ∈ fp, ∃ o, h.get? b = some o /\ ∀ v, o.data ≠ .cell v
 keep : ∀ i h h', tn i h -> (∀ b ∈ fp, ∀ o, h.get? b = some o -> h'.get? b = some o) -> tn i h'
 item : ∀ (X : Cx), X.prog = P -> X.w = w -> X.K = K -> X.calm = true -> ∀ (i : Nat) (pins : List (Addr × Obj)) (s : Shared) (σ : St) (H : Hp) (E : Value -> Shared -> Prop), Inv X pins σ H s -> (∀ b ∈ fp, FpOk X pins H b) -> tn i s.heap -> J.go i H ->
  wpAny (model P w) X.A (pyNext (.ref it)) (fun r s1 => ∃ u, r = some u /\
   wpAny (model P w) X.A (letOwnedTupleGo tg (.ref it) u) (fun _ s2 => ∃ x H', Inv X pins σ H' s2 /\ RelV x u /\ J.yld i H x H' /\ tn (i + 1) s2.heap /\ ∀ b ∈ fp, H' b = none) E s1) E s
 done : ∀ (X : Cx), X.prog = P -> X.w = w -> X.K = K -> X.calm = true -> ∀ (i : Nat) (pins : List (Addr × Obj)) (s : Shared) (σ : St) (H : Hp) (E : Value -> Shared -> Prop), Inv X pins σ H s -> (∀ b ∈ fp, FpOk X pins H b) -> tn i s.heap -> J.stop i H ->
  wpAny (model P w) X.A (pyNext (.ref it)) (fun r s1 => r = none /\ Inv X pins σ H s1) E s
 self : ∀ (A : Around) (i : Nat) (s : Shared) (Q : Value -> Shared -> Prop) (E : Value -> Shared -> Prop), tn i s.heap -> Q (.ref it) s -> wpAny (model P w) A (pyIter (.ref it)) Q E s
abbrev TI := St -> Hp -> (It -> Hp -> Prop) -> Prop
def PIE (X : Cx) (pins : List (Addr × Obj)) (σ : St) (tg : Expr) (R : It -> Hp -> Prop) (itv : Value) (s2 : Shared) : Prop :=
 ∃ (it : Addr) (fp : List Addr) (tn : Nat -> Heap -> Prop) (J : It) (H' : Hp), itv = .ref it /\ Inv X pins σ H' s2 /\ Turn X.prog X.w X.K tg J fp it tn /\ tn 0 s2.heap /\ (∀ b ∈ fp, FpOk X pins H' b) /\ R J H'
def PI (X : Cx) (tg iter : Expr) (wi : TI) : Prop :=
 ∀ (pins : List (Addr × Obj)) (s : Shared) (σ : St) (H : Hp) (R : It -> Hp -> Prop), Inv X pins σ H s -> wi σ H R ->
  wpAny (model X.prog X.w) X.A (eval iter X.env) (fun v s1 => wpAny (model X.prog X.w) X.A (pyIter v) (PIE X pins σ tg R) X.xe s1) X.xe s

theorem go_of {M : Model} {A : Around} {E : Value -> Shared -> Prop} {s : Shared} {tg : Expr} {it : Addr} {u : Value} {o : Obj} {n : String} {vs : Array Value} {Q : Unit -> Shared -> Prop} (ho : s.heap.get? it = some o) (hc : o.cls = .type n) (hd : o.data = .fields vs)
    (hn : ["enumerate", "zip", "dict_itemiterator", "dict_reverseitemiterator", "odict_iterator", "itertools.zip_longest", "itertools.pairwise"].contains n = false) (hQ : Q () s) : wpAny M A (letOwnedTupleGo tg (.ref it) u) Q E s := by
  unfold letOwnedTupleGo
  cases tg <;> first
    | exact wpAny_pure hQ
    | (cases u <;> first
        | exact wpAny_pure hQ
        | (refine wpAny_bind (wpAny_load ho ?_)
           rw [hc, hd]
           show wpAny M A (if (["enumerate", "zip", "dict_itemiterator", "dict_reverseitemiterator", "odict_iterator", "itertools.zip_longest", "itertools.pairwise"].contains n && vs[0]? == some (rawInt _)) = true then _ else _) Q E s
           rw [if_neg (by intro h; rw [hn, Bool.false_and] at h; cases h)]
           exact wpAny_pure hQ))

def Itl (K : PySem.W.Frag) (a : Addr) : It :=
 ⟨fun i H => ∃ xs x, SqL K H a xs /\ xs[i]? = some x, fun i H x H' => H' = H /\ ∀ xs, SqL K H a xs -> xs[i]? = some x, fun i H => ∃ xs, SqL K H a xs /\ xs.length <= i⟩
def Itt (K : PySem.W.Frag) (a : Addr) : It :=
 ⟨fun i H => ∃ xs x, SqT K H a xs /\ xs[i]? = some x, fun i H x H' => H' = H /\ ∀ xs, SqT K H a xs -> xs[i]? = some x, fun i H => ∃ xs, SqT K H a xs /\ xs.length <= i⟩
def Itr (lo : Int) (n : Nat) : It := ⟨fun i _ => i < n, fun i H x H' => H' = H /\ x = .int (lo + i), fun i _ => n <= i⟩
theorem turn_list {P : Program} {w : World} {K : PySem.W.Frag} {tg : Expr} (a it : Addr) : Turn P w K tg (Itl K a) [it] it (fun i h => h.IsListIter it a i) where
 mem := by simp
 obj := fun i h st b hb => by
  have e : b = it := by simpa using hb
  subst e
  obtain ⟨o, e, c, d⟩ := st
  exact ⟨o, e, fun v z => by rw [d] at z; cases z⟩
 keep := fun i h h' st k => st.at fun o e => k it (by simp) o e
 item := by
  intro X hP hw hK hc i pins s σ H E I hf st hg
  subst hP hw hK
  obtain ⟨xs, x, hq, hx⟩ := hg
  obtain ⟨its, rv, p, hz⟩ := I.list hq
  obtain ⟨u, hu, ru⟩ := rv.get hx
  obtain ⟨f0, f1, f2, f3, f4, f5⟩ := hf it (by simp)
  refine wpAny_pyNext_list_item st p.isList (x := u) (by simpa using hu) fun h' st' sb => ?_
  have I1 : Inv X pins σ H { s with heap := h' } := I.turned (t' := s.toks) (fun b o hb e => (sb.2 b hb).trans e) f0 f1 f3 f4 f5
  obtain ⟨o, e, c, d⟩ := id st'
  exact ⟨u, rfl, go_of (s := { s with heap := h' }) e c d (by decide) ⟨x, H, I1, ru, ⟨rfl, fun ys hy => by rw [I.list_inj hy hq]; exact hx⟩, st', fun b hb => (hf b hb).1⟩⟩
 done := by
  intro X hP hw hK hc i pins s σ H E I hf st hg
  subst hP hw hK
  obtain ⟨xs, hq, hx⟩ := hg
  obtain ⟨its, rv, p, hz⟩ := I.list hq
  obtain ⟨f0, f1, f2, f3, f4, f5⟩ := hf it (by simp)
  have hl := rv.length
  exact wpAny_pyNext_list_end (I.ok.hd hc) st p.isList (by simp; omega) fun h' eb => ⟨rfl, I.turned (t' := s.toks) (fun b o hb e => eb b o hb e) f0 f1 f3 f4 f5⟩
 self := fun _ _ _ _ _ st h => wpAny_pyIter_listiter st h
theorem turn_tuple {P : Program} {w : World} {K : PySem.W.Frag} {tg : Expr} (a it : Addr) : Turn P w K tg (Itt K a) [it] it (fun i h => h.IsTupleIter it a i) where
 mem := by simp
 obj := fun i h st b hb => by
  have e : b = it := by simpa using hb
  subst e
  obtain ⟨o, e, c, d⟩ := st
  exact ⟨o, e, fun v z => by rw [d] at z; cases z⟩
 keep := fun i h h' st k => st.at fun o e => k it (by simp) o e
 item := by
  intro X hP hw hK hc i pins s σ H E I hf st hg
  subst hP hw hK
  obtain ⟨xs, x, hq, hx⟩ := hg
  obtain ⟨its, rv, p, hz⟩ := I.tuple hq
  obtain ⟨u, hu, ru⟩ := rv.get hx
  obtain ⟨f0, f1, f2, f3, f4, f5⟩ := hf it (by simp)
  refine wpAny_pyNext_tuple_item st (show s.heap.IsTuple a its.toArray from p) (x := u) (by simpa using hu) fun h' st' sb => ?_
  have I1 : Inv X pins σ H { s with heap := h' } := I.turned (t' := s.toks) (fun b o hb e => (sb.2 b hb).trans e) f0 f1 f3 f4 f5
  obtain ⟨o, e, c, d⟩ := id st'
  exact ⟨u, rfl, go_of (s := { s with heap := h' }) e c d (by decide) ⟨x, H, I1, ru, ⟨rfl, fun ys hy => by rw [I.tuple_inj hy hq]; exact hx⟩, st', fun b hb => (hf b hb).1⟩⟩
 done := by
  intro X hP hw hK hc i pins s σ H E I hf st hg
  subst hP hw hK
  obtain ⟨xs, hq, hx⟩ := hg
  obtain ⟨its, rv, p, hz⟩ := I.tuple hq
  obtain ⟨f0, f1, f2, f3, f4, f5⟩ := hf it (by simp)
  have hl := rv.length
  exact wpAny_pyNext_tuple_end (I.ok.hd hc) st (show s.heap.IsTuple a its.toArray from p) (by simp; omega) fun h' eb => ⟨rfl, I.turned (t' := s.toks) (fun b o hb e => eb b o hb e) f0 f1 f3 f4 f5⟩
 self := fun _ _ _ _ _ st h => wpAny_pyIter_tupleiter st h
theorem turn_range {P : Program} {w : World} {K : PySem.W.Frag} {tg : Expr} (it : Addr) (lo : Int) (n : Nat) : Turn P w K tg (Itr lo n) [it] it (fun i h => IsRangeIter h it (lo + (i : Nat) * 1) ((n : Int) - (i : Nat)) 1) where
 mem := by simp
 obj := fun i h st b hb => by
  have e : b = it := by simpa using hb
  subst e
  exact ⟨_, st, fun v z => by
   have z' : Data.fields _ = Data.cell v := z
   cases z'⟩
 keep := fun i h h' st k => k it (by simp) _ st
 item := by
  intro X hP hw hK hc i pins s σ H E I hf st hg
  subst hP hw hK
  obtain ⟨f0, f1, f2, f3, f4, f5⟩ := hf it (by simp)
  have W := Walks.range (prog := X.prog) (w := X.w) (I.ok.hd hc) it lo 1 n
  refine W.item i s _ _ hg st fun v h' tk hv st' kk => ?_
  obtain ⟨t, rfl⟩ := hv
  have I1 : Inv X pins σ H { s with heap := h', toks := tk } := I.turned (fun b o hb e => kk b o (by simpa using hb) e) f0 f1 f3 f4 f5
  refine ⟨_, rfl, go_of (s := { s with heap := h', toks := tk }) (n := "range_iterator") st' rfl rfl (by decide) ⟨.int (lo + i), H, I1, ⟨t, ?_⟩, ⟨rfl, rfl⟩, st', fun b hb => (hf b hb).1⟩⟩
  rw [Int.mul_one]
 done := by
  intro X hP hw hK hc i pins s σ H E I hf st hg
  subst hP hw hK
  obtain ⟨f0, f1, f2, f3, f4, f5⟩ := hf it (by simp)
  exact wpAny_pyNext_range_end (I.ok.hd hc) st (by have : n <= i := hg; omega) fun h' eb => ⟨rfl, I.turned (t' := s.toks) (fun b o hb e => eb b o hb e) f0 f1 f3 f4 f5⟩
 self := fun _ _ _ _ _ st h => wpAny_pyIter_rangeiter st h
end L2

namespace L2
open PySem PySem.Spec PyProof.Rows
section
variable {X : Cx} {tg : Expr}
theorem range_it {pins : List (Addr × Obj)} {σ : St} {H : Hp} {s : Shared} {R : It -> Hp -> Prop} {E : Value -> Shared -> Prop} {lo hi : Int} {t u v : Tok} {tk : Nat} (I : Inv X pins σ H s) (h1 : -(2 ^ 62) <= lo) (h2 : lo < 2 ^ 62) (h3 : -(2 ^ 62) <= hi) (h4 : hi < 2 ^ 62)
  (q : R (Itr lo (hi - lo).toNat) H) : wpAny (model X.prog X.w) X.A (pyIter (.ref s.heap.objs.size)) (PIE X pins σ tg R) E { s with heap := s.heap.push { cls := .type "range", data := .fields #[.int lo t, .int hi u, .int 1 v] }, toks := tk } := by
 refine wpAny_pyIter_range (IsRange.new ..) (small_one h1 h2 h3 h4) ?_
 have I1 : Inv X pins σ H { s with heap := s.heap.push { cls := .type "range", data := .fields #[.int lo t, .int hi u, .int 1 v] }, toks := tk } := I.kept fun b o e => Heap.get?_push_of_some _ e
 refine ⟨(s.heap.push { cls := .type "range", data := .fields #[.int lo t, .int hi u, .int 1 v] }).objs.size, [(s.heap.push { cls := .type "range", data := .fields #[.int lo t, .int hi u, .int 1 v] }).objs.size], _, _, H, rfl,
  I1.kept (t' := tk) fun b o e => Heap.get?_push_of_some _ e, turn_range _ lo (hi - lo).toNat, ?_, fun b hb => ?_, q⟩
 ·have e1 : lo + ((0 : Nat) : Int) * 1 = lo := by simp
  have e2 : (((hi - lo).toNat : Nat) : Int) - ((0 : Nat) : Int) = Builtin.Range.rangeSize lo hi 1 := by rw [rangeSize_one]; split <;> omega
  show IsRangeIter _ _ (lo + ((0 : Nat) : Int) * 1) ((((hi - lo).toNat : Nat) : Int) - ((0 : Nat) : Int)) 1
  rw [e1, e2]
  exact Heap.get?_push_size _ rfl
 ·have e : b = (s.heap.push { cls := .type "range", data := .fields #[.int lo t, .int hi u, .int 1 v] }).objs.size := by simpa using hb
  subst e
  exact I1.fpOk (Nat.le_refl _) (I1.hok.fresh (Nat.le_refl _))
def iRng1 (ta : TA) : TI := fun σ H R => ta σ H fun vs H1 => ∃ j : Int, vs = [.int j] /\ -(2 ^ 62) <= j /\ j < 2 ^ 62 /\ R (Itr 0 j.toNat) H1
def iRng2 (ta : TA) : TI := fun σ H R => ta σ H fun vs H1 => ∃ i j : Int, vs = [.int i, .int j] /\ (-(2 ^ 62) <= i /\ i < 2 ^ 62 /\ -(2 ^ 62) <= j /\ j < 2 ^ 62) /\ R (Itr i (j - i).toNat) H1
theorem pi_range1 {a : Expr} {ta : TA} {p pos : Pos} (hg : Gl X "range") (hm : X.mg "range" = none) (ha : PA X [a] ta) (hs : starEach [a] X.env = [(false, eval a X.env)] := by rfl) : PI X tg (.Call (.Name "range" p) [a] [] pos) (iRng1 ta) := by
 intro pins s σ H R I h
 refine Call_ (a7w I hg hm boot_range (PyProof.Rows.callWith_type1 (thn (ha pos pins s σ H _ I h) fun us s1 ⟨vs, H1, I1, r1, q1⟩ => ?_) hs rfl))
 obtain ⟨j, e, q1, q2, q⟩ := q1
 subst e
 cases r1 with
 | cons r rr =>
  cases rr
  obtain ⟨t, rfl⟩ := r
  exact call_range_1 (range_it I1 (by omega) (by omega) q1 q2 (by simpa using q))
theorem pi_range2 {a b : Expr} {ta : TA} {p pos : Pos} (hg : Gl X "range") (hm : X.mg "range" = none) (ha : PA X [a, b] ta) (hs : starEach [a, b] X.env = [(false, eval a X.env), (false, eval b X.env)] := by rfl) (hs2 : starEach [b] X.env = [(false, eval b X.env)] := by rfl) :
  PI X tg (.Call (.Name "range" p) [a, b] [] pos) (iRng2 ta) := by
 intro pins s σ H R I h
 refine Call_ (a7w I hg hm boot_range (PyProof.Rows.callWith_type1 (thn (ha pos pins s σ H _ I h) fun us s1 ⟨vs, H1, I1, r1, q1⟩ => ?_) (by rw [hs, hs2]) (by rw [hs2]; rfl)))
 obtain ⟨i, j, e, ⟨q1, q2, q3, q4⟩, q⟩ := q1
 subst e
 cases r1 with
 | cons r rr =>
  cases rr with
  | cons r' rr =>
   cases rr
   obtain ⟨t, rfl⟩ := r
   obtain ⟨t', rfl⟩ := r'
   exact call_range_2 (range_it I1 q1 q2 q3 q4 q)

def tFor (wi : TI) (g : TG) (tb : TS) : TS := fun D σ H => wi σ H fun J H1 => ∃ W : Nat -> Nat -> St -> Hp -> Prop, (∃ m, W 0 m σ H1) /\ ∀ i m σ H, W i m σ H ->
 (J.stop i H /\ D.nx σ H) \/ (J.go i H /\ ∃ N : St -> Hp -> Prop, (∀ σ' H', N σ' H' -> ∃ m', m' < m /\ W (i + 1) m' σ' H') /\ ∀ x H', J.yld i H x H' -> g x σ H' fun σ2 H2 => tb { D with nx := N, ct := N, bk := D.nx } σ2 H2)
def pinsAt (fp : List Addr) (h : Heap) : List (Addr × Obj) := fp.filterMap fun b => (h.get? b).map fun o => (b, o)
theorem a5y {fp : List Addr} {h : Heap} {b : Addr} {o : Obj} (hb : b ∈ fp) (e : h.get? b = some o) : (b, o) ∈ pinsAt fp h := List.mem_filterMap.mpr ⟨b, hb, by rw [e]; rfl⟩
theorem of_pinsAt {fp : List Addr} {h : Heap} {p : Addr × Obj} (hp : p ∈ pinsAt fp h) : p.1 ∈ fp /\ h.get? p.1 = some p.2 := by
 obtain ⟨b, hb, e⟩ := List.mem_filterMap.mp hp
 cases q : h.get? b with
 | none => rw [q] at e; cases e
 | some o =>
  rw [q] at e
  have e' : (b, o) = p := Option.some.inj e
  subst e'
  exact ⟨hb, q⟩
theorem Inv.pinned {pins : List (Addr × Obj)} {σ : St} {H : Hp} {s : Shared} {fp : List Addr} (I : Inv X pins σ H s) (hf : ∀ b ∈ fp, FpOk X pins H b) (ho : ∀ b ∈ fp, ∃ o, s.heap.get? b = some o /\ ∀ v, o.data ≠ .cell v) : Inv X (pins ++ pinsAt fp s.heap) σ H s :=
 I.pins_of fun p hp => (List.mem_append.mp hp).elim (fun z => I.pin p (List.mem_append_right _ z)) fun z => by
  obtain ⟨hb, e⟩ := of_pinsAt z
  obtain ⟨f0, f1, f2, _⟩ := hf p.1 hb
  obtain ⟨o, e', d⟩ := ho p.1 hb
  rw [e] at e'; cases e'
  exact ⟨e, f0, f1, f2, d⟩
theorem Inv.unpinned {pins pl : List (Addr × Obj)} {σ : St} {H : Hp} {s : Shared} (I : Inv X (pins ++ pl) σ H s) : Inv X pins σ H s := I.pins_of fun p hp => I.pin p (List.mem_append_right _ (List.mem_append_left _ hp))
theorem ps_for {iter : Expr} {body : List Stmt} {wi : TI} {g : TG} {tb : TS} {pos : Pos} (hp : PassesOwn (model X.prog X.w) X.A X.env X.xe) (hc : X.calm = true) (hi : PI X tg iter wi) (hg : PG X tg g) (hb : PSs X body tb)
  (hs : ∀ x, foldedSetIterable iter X.env x = pure x := by intro _; rfl) : PS X (.For tg iter body [] pos) (tFor wi g tb) := by
 intro pins s σ H D I h
 refine wpAny_For (thn (hi pins s σ H _ I h) fun v s1 h1 => thn h1 fun itv s2 h2 => ?_) hs
 obtain ⟨it, fp, tn, J, H2, e, I2, T, st2, f2, W, ⟨m0, w0⟩, turn⟩ := h2
 subst e
 have stat : ∀ {H' : Hp}, (∀ b ∈ fp, H' b = none) -> ∀ b ∈ fp, FpOk X pins H' b := fun hn b hb => ⟨hn b hb, (f2 b hb).2⟩
 refine codeAny_forLoop_any (fun n s' => ∃ i σ' H', Inv X pins σ' H' s' /\ tn i s'.heap /\ (∀ b ∈ fp, H' b = none) /\ W i n σ' H') ?_ m0 ⟨0, σ, H2, I2, st2, fun b hb => (f2 b hb).1, w0⟩
 rintro n s3 ⟨i, σ3, H3, I3, st3, fr3, w3⟩
 rcases turn i n σ3 H3 w3 with ⟨stop, qn⟩ | ⟨go, N, hN, step⟩
 ·refine wpAny_passesOwn hp (thn (T.done X rfl rfl rfl hc i pins s3 σ3 H3 X.xe I3 (stat fr3) st3 stop) fun r s4 ⟨hr, I4⟩ => ?_)
  subst hr
  exact wpAny_execs_nil ⟨σ3, H3, I4, qn⟩
 ·refine wpAny_passesOwn hp (thn (T.item X rfl rfl rfl hc i pins s3 σ3 H3 X.xe I3 (stat fr3) st3 go) fun r s4 ⟨u, hr, h4⟩ => ?_)
  subst hr
  refine wpAny_passesOwn hp (thn h4 fun _ s5 ⟨x, H5, I5, r5, y5, st5, fr5⟩ => ?_)
  have I5' := I5.pinned (stat fr5) (T.obj _ _ st5)
  refine wpAny_passesOwn hp (thn (hg _ s5 σ3 H5 x u _ I5' r5 (step x H5 y5)) fun _ s6 ⟨σ6, H6, I6, q6⟩ => ?_)
  refine wpAny_passesOwn hp (thn (hb _ s6 σ6 H6 _ I6 q6) fun f s7 q7 => ?_)
  have again : ∀ {σ7 : St} {H7 : Hp}, Inv X (pins ++ pinsAt fp s5.heap) σ7 H7 s7 -> N σ7 H7 -> ∃ m, m < n /\ ∃ i σ' H', Inv X pins σ' H' s7 /\ tn i s7.heap /\ (∀ b ∈ fp, H' b = none) /\ W i m σ' H' := fun {σ7 H7} I7 n7 => by
   obtain ⟨m', hm, w7⟩ := hN σ7 H7 n7
   refine ⟨m', hm, i + 1, σ7, H7, I7.unpinned, T.keep _ _ _ st5 fun b hb o e => (I7.pin (b, o) (List.mem_append_right _ (List.mem_append_right _ (a5y hb e)))).1, fun b hb => ?_, w7⟩
   obtain ⟨o, e, d⟩ := T.obj _ _ st5 b hb
   exact (I7.pin (b, o) (List.mem_append_right _ (List.mem_append_right _ (a5y hb e)))).2.1
  cases f with
  | next => obtain ⟨σ7, H7, I7, n7⟩ := q7; exact again I7 n7
  | cont => obtain ⟨σ7, H7, I7, n7⟩ := q7; exact again I7 n7
  | brk => obtain ⟨σ7, H7, I7, q7⟩ := q7; exact ⟨σ7, H7, I7.unpinned, q7⟩
  | ret v => obtain ⟨x7, σ7, H7, I7, r7, q7⟩ := q7; exact ⟨x7, σ7, H7, I7.unpinned, r7, q7⟩
end

end L2

namespace L2
open PySem PySem.Spec PyProof.Rows

abbrev R2 := V -> V -> Hp -> VK -> Prop
def OpR (X : Cx) (f : Value -> Value -> Sem Value) (r : R2) : Prop :=
 ∀ (pins : List (Addr × Obj)) (s : Shared) (σ : St) (H : Hp) (x y : V) (v u : Value) (Q : VK), Inv X pins σ H s -> RelV x v -> RelV y u -> r x y H Q ->
  wpAny (model X.prog X.w) X.A (f v u) (EP X pins σ Q) X.xe s
def UnR (X : Cx) (f : Value -> Sem Value) (r : V -> Hp -> VK -> Prop) : Prop :=
 ∀ (pins : List (Addr × Obj)) (s : Shared) (σ : St) (H : Hp) (x : V) (v : Value) (Q : VK), Inv X pins σ H s -> RelV x v -> r x H Q ->
  wpAny (model X.prog X.w) X.A (f v) (EP X pins σ Q) X.xe s
def CallR (X : Cx) (f : Value) (r : List V -> Hp -> VK -> Prop) : Prop :=
 ∀ (pins : List (Addr × Obj)) (s : Shared) (σ : St) (H : Hp) (xs : List V) (us : List Value) (Q : VK), Inv X pins σ H s -> Vals xs us -> r xs H Q ->
  wpAny (model X.prog X.w) X.A (call f us) (EP X pins σ Q) X.xe s
def tOp (r : R2) (ta tb : TE) : TE := fun σ H Q => ta σ H fun x H1 => tb σ H1 fun y H2 => r x y H2 Q
def tUn (r : V -> Hp -> VK -> Prop) (ta : TE) : TE := fun σ H Q => ta σ H fun x H1 => r x H1 Q
def rI (C : Int -> Int -> Prop) (g : Int -> Int -> V) : R2 := fun x y H Q => ∃ i j, x = .int i /\ y = .int j /\ C i j /\ Q (g i j) H
def rI0 (g : Int -> Int -> V) : R2 := fun x y H Q => ∃ i j, x = .int i /\ y = .int j /\ Q (g i j) H
def rU (g : Int -> V) : V -> Hp -> VK -> Prop := fun x H Q => ∃ i, x = .int i /\ Q (g i) H

section
variable {X : Cx} {a b c : Expr} {ta tb tc : TE} {pos : Pos}

theorem binT (ha : PE X a ta) (hb : PE X b tb) {pins : List (Addr × Obj)} {s : Shared} {σ : St} {H : Hp} {R : V -> V -> Hp -> Prop} (I : Inv X pins σ H s)
  (h : ta σ H fun x H1 => tb σ H1 fun y H2 => R x y H2) {Q : Value -> Shared -> Prop} {f : Value -> Value -> Sem Value}
  (hf : ∀ v u s2 x y H2, Inv X pins σ H2 s2 -> RelV x v -> RelV y u -> R x y H2 -> wpAny (model X.prog X.w) X.A (f v u) Q X.xe s2) :
  wpAny (model X.prog X.w) X.A (eval a X.env) (fun v s₁ => wpAny (model X.prog X.w) X.A (eval b X.env) (fun u s₂ => wpAny (model X.prog X.w) X.A (f v u) Q X.xe s₂) X.xe s₁) X.xe s := by
 refine thn (ha pins s σ H _ I h) fun v s1 ⟨x, H1, I1, r1, q1⟩ => ?_
 refine thn (hb pins s1 σ H1 _ I1 q1) fun u s2 ⟨y, H2, I2, r2, q2⟩ => ?_
 exact hf v u s2 x y H2 I2 r1 r2 q2

theorem pe_op {op : Operator} {r : R2} (ho : OpR X (binaryOp op) r) (ha : PE X a ta) (hb : PE X b tb) : PE X (.BinOp a op b pos) (tOp r ta tb) := by
 intro pins s σ H Q I h
 exact wpAny_BinOp (binT ha hb I h fun v u s2 x y H2 I2 rx ry q => ho pins s2 σ H2 x y v u Q I2 rx ry q)
theorem pe_un {op : UnaryOp} {r : V -> Hp -> VK -> Prop} (ho : UnR X (unaryOp op) r) (ha : PE X a ta) : PE X (.UnaryOp op a pos) (tUn r ta) := by
 intro pins s σ H Q I h
 exact UnaryOp_ (thn (ha pins s σ H _ I h) fun v s1 ⟨x, H1, I1, r1, q1⟩ => ho pins s1 σ H1 x v Q I1 r1 q1)
theorem opI {f : Value -> Value -> Sem Value} {C : Int -> Int -> Prop} {g : Int -> Int -> Int}
  (rule : ∀ (i j : Int) (t u : Tok) (s : Shared) (Q : Value -> Shared -> Prop) (E : Value -> Shared -> Prop), C i j -> Q (.int (g i j) s.toks) { s with toks := s.toks + 1 } -> wpAny (model X.prog X.w) X.A (f (.int i t) (.int j u)) Q E s) :
  OpR X f (rI C fun i j => .int (g i j)) := by
 intro pins s σ H x y v u Q I rx ry h
 obtain ⟨i, j, rfl, rfl, hc, q⟩ := h
 obtain ⟨t, rfl⟩ := rx
 obtain ⟨t', rfl⟩ := ry
 exact rule i j t t' s _ _ hc ⟨.int (g i j), H, I.tok _, ⟨_, rfl⟩, q⟩
theorem opI0 {f : Value -> Value -> Sem Value} {g : Int -> Int -> Int}
  (rule : ∀ (i j : Int) (t u : Tok) (s : Shared) (Q : Value -> Shared -> Prop) (E : Value -> Shared -> Prop), Q (.int (g i j) s.toks) { s with toks := s.toks + 1 } -> wpAny (model X.prog X.w) X.A (f (.int i t) (.int j u)) Q E s) :
  OpR X f (rI0 fun i j => .int (g i j)) := by
 intro pins s σ H x y v u Q I rx ry h
 obtain ⟨i, j, rfl, rfl, q⟩ := h
 obtain ⟨t, rfl⟩ := rx
 obtain ⟨t', rfl⟩ := ry
 exact rule i j t t' s _ _ ⟨.int (g i j), H, I.tok _, ⟨_, rfl⟩, q⟩
theorem opB0 {f : Value -> Value -> Sem Value} {g : Int -> Int -> Bool}
  (rule : ∀ (i j : Int) (t u : Tok) (s : Shared) (Q : Value -> Shared -> Prop) (E : Value -> Shared -> Prop), Q (.bool (g i j)) s -> wpAny (model X.prog X.w) X.A (f (.int i t) (.int j u)) Q E s) :
  OpR X f (rI0 fun i j => .bl (g i j)) := by
 intro pins s σ H x y v u Q I rx ry h
 obtain ⟨i, j, rfl, rfl, q⟩ := h
 obtain ⟨t, rfl⟩ := rx
 obtain ⟨t', rfl⟩ := ry
 exact rule i j t t' s _ _ ⟨.bl (g i j), H, I, rfl, q⟩

def CPow (i j : Int) : Prop := 0 <= j /\ j <= 1000000 /\ i.natAbs < 2 ^ 64
def CMul (i j : Int) : Prop := (-(2 ^ 64) < i /\ i < 2 ^ 64) \/ (-(2 ^ 64) < j /\ j < 2 ^ 64)
theorem CMul.ok {i j : Int} (h : CMul i j) : IntMulOk i j := by
 rcases h with ⟨h1, h2⟩ | ⟨h1, h2⟩
 ·exact .of_left (intBits_le_64 h1 h2)
 ·exact .of_right (intBits_le_64 h1 h2)
theorem op_add : OpR X (binaryOp .Add) (rI0 fun i j => .int (i + j)) := opI0 fun _ _ _ _ _ _ _ q => add_int q
theorem op_sub : OpR X (binaryOp .Sub) (rI0 fun i j => .int (i - j)) := opI0 fun _ _ _ _ _ _ _ q => sub_int q
theorem op_mul : OpR X (binaryOp .Mult) (rI CMul fun i j => .int (i * j)) := opI fun _ _ _ _ _ _ _ hc q => mul_int q hc.ok
theorem op_mod : OpR X (binaryOp .Mod) (rI (fun _ j => 0 < j) fun i j => .int (i % j)) := opI fun i j _ _ _ _ _ hc q => by
 have h1 : (0 : Int) < j := hc
 exact mod_int' (by omega) (by rw [Int.fmod_eq_emod_of_nonneg i (by omega)]; exact q)
theorem op_pow : OpR X (binaryOp .Pow) (rI CPow fun i j => .int (i ^ j.toNat)) := opI fun _ _ _ _ _ _ _ hc q => pow_int_small hc.1 hc.2.1 hc.2.2 q
theorem unI {f : Value -> Sem Value} {g : Int -> Int}
  (rule : ∀ (i : Int) (t : Tok) (s : Shared) (Q : Value -> Shared -> Prop) (E : Value -> Shared -> Prop), Q (.int (g i) s.toks) { s with toks := s.toks + 1 } -> wpAny (model X.prog X.w) X.A (f (.int i t)) Q E s) :
  UnR X f (rU fun i => .int (g i)) := by
 intro pins s σ H x v Q I rx h
 obtain ⟨i, rfl, q⟩ := h
 obtain ⟨t, rfl⟩ := rx
 exact rule i t s _ _ ⟨.int (g i), H, I.tok _, ⟨_, rfl⟩, q⟩
theorem un_neg : UnR X (unaryOp .USub) (rU fun i => .int (-i)) := unI fun _ _ _ _ _ q => neg_int q
end

section
variable {X : Cx} {a b c : Expr} {ta tb tc : TE} {pos : Pos}
theorem fin_bl {pins : List (Addr × Obj)} {σ : St} {H : Hp} {s : Shared} {Q : VK} {k k' : Bool} (I : Inv X pins σ H s) (q : Q (.bl k) H) (e : k = k') : EP X pins σ Q (.bool k') s := by
 subst e
 exact ⟨.bl k, H, I, rfl, q⟩
theorem op_lt : OpR X (compareOp .Lt) (rI0 fun i j => .bl (decide (i < j))) := opB0 fun _ _ _ _ _ _ _ q => lt_int q
theorem op_le : OpR X (compareOp .LtE) (rI0 fun i j => .bl (decide (i <= j))) := opB0 fun _ _ _ _ _ _ _ q => le_int q
theorem op_gt : OpR X (compareOp .Gt) (rI0 fun i j => .bl (decide (j < i))) := opB0 fun _ _ _ _ _ _ _ q => gt_int q
theorem op_in_str : OpR X (compareOp .In) (fun x y H Q => ∃ i j, x = .str i /\ y = .str j /\ Q (.bl (!(Builtin.Str.occurrences j i 0 j.length 1).isEmpty)) H) := by
 intro pins s σ H x y v u Q I rx ry h
 obtain ⟨i, j, rfl, rfl, q⟩ := h
 obtain ⟨t, rfl⟩ := rx
 obtain ⟨t', rfl⟩ := ry
 exact in_str (fin_bl I q rfl)

theorem op_isN : OpR X (compareOp .Is) (fun x y H Q => y = .non /\ Q (.bl (decide (x = .non))) H) := by
 intro pins s σ H x y v u Q I rx ry h
 obtain ⟨rfl, q⟩ := h
 cases ry
 refine is_none_gen (fin_bl I q ?_)
 cases x <;> first
  | (cases rx; rfl)
  | (obtain ⟨t, rfl⟩ := rx; rfl)
theorem op_notN : OpR X (compareOp .IsNot) (fun x y H Q => y = .non /\ Q (.bl (!decide (x = .non))) H) := by
 intro pins s σ H x y v u Q I rx ry h
 obtain ⟨rfl, q⟩ := h
 cases ry
 refine isnot_none_gen (fin_bl I q ?_)
 cases x <;> first
  | (cases rx; rfl)
  | (obtain ⟨t, rfl⟩ := rx; rfl)

theorem OpR.or {f : Value -> Value -> Sem Value} {r r' : R2} (h : OpR X f r) (h' : OpR X f r') : OpR X f (fun x y H Q => r x y H Q \/ r' x y H Q) := by
 intro pins s σ H x y v u Q I rx ry q
 rcases q with q | q
 ·exact h pins s σ H x y v u Q I rx ry q
 ·exact h' pins s σ H x y v u Q I rx ry q

theorem nomark (b : Expr) {op : CmpOp} (h : op ≠ .In := by decide) (h2 : op ≠ .NotIn := by decide) : behindInMarks op b = false := by
 have e1 : (op == CmpOp.In) = false := by cases op <;> first | rfl | exact absurd rfl h
 have e2 : (op == CmpOp.NotIn) = false := by cases op <;> first | rfl | exact absurd rfl h2
 cases b <;> simp [behindInMarks, e1, e2]
theorem pe_cmpR {op : CmpOp} {r : R2} (ho : OpR X (compareOp op) r) (ha : PE X a ta) (hb : PE X b tb) (hm : behindInMarks op b = false) : PE X (.Compare a [op] [b] pos) (tOp r ta tb) := by
 intro pins s σ H Q I h
 exact wpAny_Compare1 (binT ha hb I h fun v u s2 x y H2 I2 rx ry q => ho pins s2 σ H2 x y v u Q I2 rx ry q) hm
def tTest (t : TE) : TT := fun σ H Q => t σ H fun x H' => ∃ k, x = .bl k /\ Q k H'
theorem pt_cmpR {op : CmpOp} {r : R2} (ho : OpR X (compareOp op) r) (ha : PE X a ta) (hb : PE X b tb) (hm : behindInMarks op b = false) : PT X (.Compare a [op] [b] pos) (tTest (tOp r ta tb)) := by
 intro pins s σ H Q I h
 refine wpAny_isTrue_Compare1 (thn (ha pins s σ H _ I h) fun v s1 ⟨x, H1, I1, r1, q1⟩ => thn (hb pins s1 σ H1 _ I1 q1) fun u s2 ⟨y, H2, I2, r2, q2⟩ =>
  thn (ho pins s2 σ H2 x y v u _ I2 r1 r2 q2) fun c s3 ⟨z, H3, I3, r3, k, e, q3⟩ => ?_) hm
 subst e
 cases r3
 exact wpAny_truthy_bool ⟨H3, I3, q3⟩
theorem line63 : (sizeLine : Nat) < 2 ^ 63 := by rw [sizeLine_eq]; decide
theorem op_add_str : OpR X (binaryOp .Add) (fun x y H Q => ∃ i j, x = .str i /\ y = .str j /\ i.length + j.length <= sizeLine /\ Q (.str (i ++ j)) H) := by
 intro pins s σ H x y v u Q I rx ry h
 obtain ⟨i, j, rfl, rfl, hz, q⟩ := h
 obtain ⟨t, rfl⟩ := rx
 obtain ⟨t', rfl⟩ := ry
 exact add_str (fun t' tk => ⟨.str (i ++ j), H, I.tok _, ⟨_, rfl⟩, q⟩) hz
theorem vals1 {x : V} {us : List Value} (r : Vals [x] us) : ∃ u, us = [u] /\ RelV x u := by
 cases r with
 | cons r1 r2 => cases r2; exact ⟨_, rfl, r1⟩
theorem vals2 {x y : V} {us : List Value} (r : Vals [x, y] us) : ∃ u w', us = [u, w'] /\ RelV x u /\ RelV y w' := by
 cases r with
 | cons r1 r2 =>
  cases r2 with
  | cons r3 r4 => cases r4; exact ⟨_, _, rfl, r1, r3⟩
theorem call_int1 : CallR X (.type "int") (fun xs H Q => (∃ i, xs = [.int i] /\ Q (.int i) H) \/ ∃ k, xs = [.bl k] /\ Q (.int (if k then 1 else 0)) H) := by
 intro pins s σ H xs us Q I r h
 rcases h with ⟨i, rfl, q⟩ | ⟨k, rfl, q⟩
 ·obtain ⟨u, rfl, t, rfl⟩ := vals1 r
  exact call_int_int ⟨.int i, H, I, ⟨_, rfl⟩, q⟩
 ·obtain ⟨u, rfl, r1⟩ := vals1 r
  cases r1
  exact call_int_bool ⟨.int (if k then 1 else 0), H, I.tok _, ⟨_, rfl⟩, q⟩
end
end L2

namespace L2
open PySem PySem.Spec PyProof.Rows

section
variable {prog : Program} {w : World} {A : Around} {E : Value -> Shared -> Prop} {s : Shared} {K : PySem.W.Frag} {x dx C f : Addr} {mA : Str -> Option Value} {name : Str} {v : Value}

end

section
variable {P : Program} {w : World} {H H' : Hp} {h h' : Heap} {a C dx : Addr} {fs fs' : List (Str × V)}
end

section
variable {X : Cx} {pins : List (Addr × Obj)} {σ : St} {H : Hp} {s : Shared} {a C dx : Addr} {fs : List (Str × V)} {f : Str} {v : V} {A : Around} {E : Value -> Shared -> Prop}

end

section
variable {X : Cx} {o e value : Expr} {f : Str} {pos pos' tpos : Pos} {ta tv : TE}
end

section
variable {X : Cx} {pins : List (Addr × Obj)} {σ : St} {H : Hp} {s : Shared} {A : Around} {E : Value -> Shared -> Prop} {Q : Value -> Shared -> Prop} {c : Value} {b : Bool}
end
end L2

namespace L2
open PySem PySem.Spec PyProof.Rows

structure Room (k : Nat) (A : Around) : Prop where
 hd : A.handled = none
 dp : A.depth + 3 * k + 5 < recursionLimit
 un : A.units + 16 * k + 200 < cLine
theorem Room.mono {j k : Nat} {A : Around} (r : Room k A) (h : j <= k) : Room j A := ⟨r.hd, by have := r.dp; omega, by have := r.un; omega⟩
theorem Room.deeper {k : Nat} {A : Around} (r : Room (k + 1) A) (env : Env) : Room k (A.deeper env) :=
 ⟨r.hd, by have := r.dp; show A.depth + 1 + 3 * k + 5 < _; omega, by have := r.un; show A.units + 3 + 16 * k + 200 < _; omega⟩
theorem Room.depth {k : Nat} {A : Around} (r : Room k A) : A.depth < recursionLimit := by have := r.dp; omega
theorem Room.units {k : Nat} {A : Around} (r : Room k A) : A.units + 64 < cLine := by have := r.un; omega
def tNil : TA := fun _ H Q => Q [] H
def tCons (ta : TE) (tr : TA) : TA := fun σ H Q => ta σ H fun x H1 => tr σ H1 fun xs H2 => Q (x :: xs) H2
section
variable {X : Cx} {e : Expr} {es : List Expr} {te : TE} {t : TA} {pos : Pos}
theorem pa_nil : PA X [] tNil := fun _ _ _ _ H Q I h => Calls.spliced_nil ⟨[], H, I, .nil, h⟩
theorem b0p (ha : PE X e te) (hr : PA X es t) (hs : starEach (e :: es) X.env = (false, eval e X.env) :: starEach es X.env := by rfl) : PA X (e :: es) (tCons te t) := by
 intro pos pins s σ H Q I h
 rw [hs]
 show wpAny _ _ (spliced ((false, eval e X.env) :: backTo pos (starEach es X.env))) _ _ s
 refine Calls.spliced_cons (thn (ha pins s σ H _ I h) fun u s1 ⟨x, H1, I1, r1, q1⟩ => ?_)
 exact thn (hr pos pins s1 σ H1 _ I1 q1) fun us s2 ⟨xs, H2, I2, r2, q2⟩ => ⟨x :: xs, H2, I2, .cons r1 r2, q2⟩

def tTup (t : TA) : TE := fun σ H Q => t σ H fun xs H1 => xs.length <= sizeLine /\ ∀ p, H1 p = none -> Q (.ref p) (upd H1 p (.tup xs))
def tLst (t : TA) : TE := fun σ H Q => t σ H fun xs H1 => xs.length <= sizeLine /\ ∀ p, H1 p = none -> Q (.ref p) (upd H1 p (.lst xs))
theorem pe_tup {x1} (h : PA X es t) : PE X (.Tuple es x1 pos) (tTup t) := by
 intro pins s σ H Q I hq
 refine wpAny_Tuple_spliced (thn (h pos pins s σ H _ I hq) fun us s1 ⟨xs, H1, I1, r, z, q⟩ => ⟨by rw [<- r.length]; exact z, ?_⟩)
 have hf : H1 s1.heap.objs.size = none := I1.hok.fresh (Nat.le_refl _)
 refine ⟨.ref s1.heap.objs.size, upd H1 s1.heap.objs.size (.tup xs), I1.laid (t' := s1.toks) (fun b u e => Heap.get?_push_of_some _ e) (Nat.le_refl _) ?_, rfl, q _ hf⟩
 exact ⟨z, us, r, ⟨_, Heap.get?_push_size _ rfl, rfl, _, rfl⟩⟩
theorem pe_lst (h : PA X es t) : PE X (.List es pos) (tLst t) := by
 intro pins s σ H Q I hq
 refine wpAny_List_spliced (thn (h pos pins s σ H _ I hq) fun us s1 ⟨xs, H1, I1, r, z, q⟩ => ⟨by rw [<- r.length]; exact z, ?_⟩)
 have hf : H1 s1.heap.objs.size = none := I1.hok.fresh (Nat.le_refl _)
 refine ⟨.ref s1.heap.objs.size, upd H1 s1.heap.objs.size (.lst xs), I1.laid (t' := s1.toks) (fun b u e => Heap.get?_push_of_some _ e) (Nat.le_refl _) ?_, rfl, q _ hf⟩
 exact ⟨z, us, 0, r, Heap.get?_push_size _ rfl⟩
end

abbrev Sp := List V -> Hp -> VK -> XK -> Prop
abbrev CXT := List Env -> Hp -> Shared -> XK -> Value -> Shared -> Prop

structure Env0 (P : Program) (w : World) (K : PySem.W.Frag) (mg : Str -> Option Value) (base : Heap) (A : Around) (outer : List Env) (s : Shared) (H : Hp) : Prop where
 frames : A.frames = some outer
 mod : Mod K mg base
 bs : ∀ b o, base.get? b = some o -> s.heap.get? b = some o /\ H b = none
 bsz : base.objs.size <= s.heap.objs.size
 funs : s.heap.FunFrames base outer
 frf : ∀ b ∈ frs outer, H b = none
 hok : HOk P w H s.heap
 bare : AllBare s.gens
def CE (outer : List Env) (P : Program) (w : World) (H : Hp) (s : Shared) (Q : VK) (u : Value) (s' : Shared) : Prop :=
 ∃ v H', s'.os = s.os /\ AllBare s'.gens /\ Un (frs outer) [] H H' s.heap s'.heap /\ HOk P w H' s'.heap /\ RelV v u /\ Q v H'
def CR (CX : CXT) (outer : List Env) (P : Program) (w : World) (H : Hp) (s : Shared) (Q : VK) (E : XK) (r : Result) (s' : Shared) : Prop :=
 match r with
 | .ok (.ret u) => CE outer P w H s Q u s'
 | .ok _ => False
 | .error e => CX outer H s E e s'
structure FnOk (P : Program) (w : World) (K : PySem.W.Frag) (mg : Str -> Option Value) (base : Heap) (CX : CXT) (k : Nat) (f : Addr) (fd : FuncData) (ps : List Str) (sp : Sp) : Prop where
 len : ∀ vs H Q E, sp vs H Q E -> vs.length = ps.length
 run : ∀ (A : Around) (outer : List Env) (s : Shared) (H : Hp) (args : Args) (us : List Value) (vs : List V) (Q : VK) (E : XK), Room k A -> Env0 P w K mg base A outer s H -> BindsTo s fd args (ps.zip us) -> Vals vs us -> sp vs H Q E ->
  codeAny (model P w) A (.call (.ref f) args) (CR CX outer P w H s Q E) s
theorem FnOk.imp {P : Program} {w : World} {K : PySem.W.Frag} {mg : Str -> Option Value} {base : Heap} {CX : CXT} {k : Nat} {f : Addr} {fd : FuncData} {ps : List Str} {sp sp' : Sp} (F : FnOk P w K mg base CX k f fd ps sp)
  (h : ∀ vs H Q E, sp' vs H Q E -> sp vs H Q E) : FnOk P w K mg base CX k f fd ps sp' :=
 ⟨fun vs H Q E q => F.len vs H Q E (h _ _ _ _ q), fun A outer s H args us vs Q E hr he hb hv hs => F.run A outer s H args us vs Q E hr he hb hv (h _ _ _ _ hs)⟩

section
variable {X : Cx} {pins : List (Addr × Obj)} {σ : St} {H : Hp} {s s' : Shared}
theorem Inv.env0 (I : Inv X pins σ H s) : Env0 X.prog X.w X.K X.mg X.base X.A X.stack s H :=
 ⟨I.ok.frames, I.ok.mod, I.bs, Nat.le_trans I.ok.bsz I.sz, I.stack, I.stkFree, I.hok, I.bare⟩
theorem Inv.after {Q : VK} {u : Value} (I : Inv X pins σ H s) (h : CE X.stack X.prog X.w H s Q u s') : EP X pins σ Q u s' := by
 obtain ⟨v, H', os, bare, un, hok, r, q⟩ := h
 obtain ⟨hh, g, d, t, os'⟩ := s'
 obtain rfl : os' = s.os := os
 exact ⟨v, H', I.call (h' := hh) (g' := g) (d' := d) (t' := t) (ch := []) un hok bare (fun b z => absurd z (by simp)), r, q⟩
end

def tCall (sp : Sp) (dvs : List V) (E : XK) (t : TA) : TE := fun σ H Q => t σ H fun vs H1 => sp (vs ++ dvs) H1 Q E
def Binds (K : PySem.W.Frag) (fd : FuncData) (ps : List Str) (ds : List Value) : Prop :=
 ∀ (s : Shared) (us : List Value), K.In s.heap -> (us ++ ds).length = ps.length -> BindsTo s fd ⟨us, []⟩ (ps.zip (us ++ ds))
theorem Binds.all {K : PySem.W.Frag} {fd : FuncData} {ps : List Str} (h : ∀ us : List Value, us.length = ps.length -> bindArgs fd ⟨us, []⟩ = pure (ps.zip us)) : Binds K fd ps [] := fun s us _ hl => by
 rw [List.append_nil] at hl ⊢
 exact .of_eq (h us hl)

def Passes (CX : CXT) (X : Cx) (E : XK) : Prop := ∀ (pins : List (Addr × Obj)) (σ : St) (H : Hp) (s : Shared) (e : Value) (s' : Shared), Inv X pins σ H s -> CX X.stack H s E e s' -> X.xe e s'

section
variable {X : Cx} {CX : CXT} {k : Nat} {f C : Addr} {fd : FuncData} {ps : List Str} {sp : Sp} {dvs : List V} {ds : List Value} {E : XK} {x m : Str} {p pos apos : Pos} {e o : Expr} {es : List Expr} {ta : TE} {t : TA}

theorem run_fn {pins : List (Addr × Obj)} {σ : St} {H : Hp} {s : Shared} {Q : VK} {us : List Value} {vs : List V} (F : FnOk X.prog X.w X.K X.mg X.base CX k f fd ps sp) (hr : Room k X.A) (hb : Binds X.K fd ps ds) (hd : Vals dvs ds) (hx : Passes CX X E)
  (I : Inv X pins σ H s) (r : Vals vs us) (h : sp (vs ++ dvs) H Q E) : wpAny (model X.prog X.w) X.A (call (.ref f) us) (EP X pins σ Q) X.xe s := by
 have r2 : Vals (vs ++ dvs) (us ++ ds) := r.append hd
 have hl : (us ++ ds).length = ps.length := by rw [<- r2.length]; exact F.len _ _ _ _ h
 refine wpAny_call (codeAny_mono (F.run X.A X.stack s H ⟨us, []⟩ (us ++ ds) (vs ++ dvs) Q E hr I.env0 (hb s us I.kIn hl) r2 h) fun r s' hq => ?_)
 cases r with
 | error e => exact hx pins σ H s e s' I hq
 | ok fl =>
  cases fl with
  | ret u => exact I.after hq
  | next => exact False.elim hq
  | brk => exact False.elim hq
  | cont => exact False.elim hq

theorem pe_call (F : FnOk X.prog X.w X.K X.mg X.base CX k f fd ps sp) (hr : Room k X.A) (hg : Gl X x) (hm : X.mg x = some (.ref f)) (hk : PySem.W.keepIn X.K (.ref f) = true) (hb : Binds X.K fd ps ds) (hd : Vals dvs ds) (hx : Passes CX X E)
  (ha : PA X (e :: es) t) (hdb : (x == ("__debug__" : Str)) = false := by decide) (he : starEach (e :: es) X.env = (false, eval e X.env) :: starEach es X.env := by rfl) (hpl : (backTo pos (starEach es X.env)).any (·.1) = false := by rfl) :
  PE X (.Call (.Name x p) (e :: es) [] pos) (tCall sp dvs E t) := by
 intro pins s σ H Q I h
 refine wpAny_Call_Name_kw (ld_glob I hg hm ?_ hdb)
 refine PySem.W.callWith_K (h₀ := X.base) I.ok.mod.kin hk (thn (ha pos pins s σ H _ I h) fun us s1 ⟨vs, H1, I1, r, q⟩ => ⟨I1.kIn, ?_⟩) he hpl
 exact run_fn F hr hb hd hx I1 r q
end

section
variable {X : Cx} {CX : CXT} {k : Nat} {f C : Addr} {fd : FuncData} {ps ks : List Str} {sp : Sp} {E : XK} {x m : Str} {p pos apos kpos : Pos} {e o : Expr} {es : List Expr} {kws : List Keyword} {te ta : TE} {t tk : TA} {nm : Option Str}
variable {g : List Value -> List Value -> List Value} {gV : List V -> List V -> List V}
end

structure FnScope (N P : List Str) (sc : Scope) : Prop where
 kind : sc.kind = .function
 co : sc.isCoroutine = false
 gen : sc.isGenerator = false
 nd : N.Nodup
 pre : N.take P.length = P
 par : ∀ x ∈ P, sc.names.lookup x = some .local \/ sc.names.lookup x = some .cell
 nofree : ∀ y ∈ sc.names, y.2 ≠ .free

theorem bindL_out {kindOf : Str -> Option NameKind} {x : Str} : ∀ {binds : List (Str × Value)} {m : Str -> Option Value}, (∀ v, (x, v) ∉ binds) -> bindL kindOf binds m x = m x
 | [], _, _ => rfl
 | (n, v) :: r, m, h => by
  unfold bindL
  rw [bindL_out fun w hw => h w (List.mem_cons_of_mem _ hw)]
  split
  ·have : x ≠ n := by rintro rfl; exact h v List.mem_cons_self
   simp [this]
  ·rfl
theorem bindC_out {kindOf : Str -> Option NameKind} {x : Str} : ∀ {binds : List (Str × Value)} {m : Str -> Option Value}, (∀ v, (x, v) ∉ binds) -> bindC kindOf binds m x = m x
 | [], _, _ => rfl
 | (n, v) :: r, m, h => by
  unfold bindC
  rw [bindC_out fun w hw => h w (List.mem_cons_of_mem _ hw)]
  split
  ·rfl
  ·have : x ≠ n := by rintro rfl; exact h v List.mem_cons_self
   simp [this]
theorem bindL_get {kindOf : Str -> Option NameKind} {x : Str} {v : Value} : ∀ {P : List Str} {vs : List Value} {i : Nat} {m : Str -> Option Value}, P.Nodup -> P[i]? = some x -> vs[i]? = some v -> kindOf x = some .local ->
  bindL kindOf (P.zip vs) m x = some v
 | [], _, _, _, _, h, _, _ => by simp at h
 | _ :: _, [], _, _, _, _, h, _ => by simp at h
 | p :: P, w :: vs, 0, m, nd, h1, h2, hk => by
  simp at h1 h2; subst h1; subst h2
  show bindL kindOf ((p, w) :: P.zip vs) m p = _
  unfold bindL
  rw [bindL_out fun v hv => (List.nodup_cons.mp nd).1 (List.of_mem_zip hv).1, if_pos hk]
  simp
 | p :: P, w :: vs, i + 1, m, nd, h1, h2, hk => by
  show bindL kindOf ((p, w) :: P.zip vs) m x = _
  unfold bindL
  exact bindL_get (i := i) (List.nodup_cons.mp nd).2 (by simpa using h1) (by simpa using h2) hk
theorem bindC_get {kindOf : Str -> Option NameKind} {x : Str} {v : Value} : ∀ {P : List Str} {vs : List Value} {i : Nat} {m : Str -> Option Value}, P.Nodup -> P[i]? = some x -> vs[i]? = some v -> kindOf x ≠ some .local ->
  bindC kindOf (P.zip vs) m x = some v
 | [], _, _, _, _, h, _, _ => by simp at h
 | _ :: _, [], _, _, _, _, h, _ => by simp at h
 | p :: P, w :: vs, 0, m, nd, h1, h2, hk => by
  simp at h1 h2; subst h1; subst h2
  show bindC kindOf ((p, w) :: P.zip vs) m p = _
  unfold bindC
  rw [bindC_out fun v hv => (List.nodup_cons.mp nd).1 (List.of_mem_zip hv).1, if_neg hk]
  simp
 | p :: P, w :: vs, i + 1, m, nd, h1, h2, hk => by
  show bindC kindOf ((p, w) :: P.zip vs) m x = _
  unfold bindC
  exact bindC_get (i := i) (List.nodup_cons.mp nd).2 (by simpa using h1) (by simpa using h2) hk

def start (N : List Str) (vs : List V) : St := vs.map some ++ List.replicate (N.length - vs.length) none

def cxOf (CX : CXT) (P : Program) (w : World) (K : PySem.W.Frag) (mg : Str -> Option Value) (base : Heap) (N : List Str) (qual : Str) (scope : Scope) (f : Addr) (cd : Value) (A : Around) (outer : List Env) (s : Shared) (H : Hp) (E : XK) : Cx where
 prog := P
 w := w
 K := K
 mg := mg
 base := base
 A := A.deeper (envOfC qual scope s.heap.objs.size f cd)
 N := N
 s₀ := s
 H₀ := H
 env := envOfC qual scope s.heap.objs.size f cd
 outer := outer
 stack := envOfC qual scope s.heap.objs.size f cd :: outer
 ex := []
 calm := true
 fn := fun _ => true
 pn := []
 xe := fun e s' => wpAny (model P w) (A.deeper (envOfC qual scope s.heap.objs.size f cd)) (leaving (envOfC qual scope s.heap.objs.size f cd) e) (fun _ s'' => CX outer H s E e s'') (fun e' s'' => CX outer H s E e' s'') s'

theorem cell_has {sc : Scope} {n : Nat} {x : Str} (h : sc.names.lookup x = some .cell) : ∃ c, (cellsFrom n sc.names []).lookup x = some c := by
 have q := PySem.W.cellsFrom_some sc.names n [] (.inl h)
 exact Option.isSome_iff_exists.mp q

theorem inv_start {CX : CXT} {P : Program} {w : World} {K : PySem.W.Frag} {mg : Str -> Option Value} {base : Heap} {N ps : List Str} {qual : Str} {scope : Scope} {f : Addr} {cd : Value} {A : Around} {outer : List Env} {s s1 : Shared} {H : Hp} {E : XK} {us : List Value} {vs : List V}
  (S : FnScope N ps scope) (hd : A.handled = none) (e0 : Env0 P w K mg base A outer s H) (hl : vs.length = ps.length) (r : Vals vs us)
  (x : InCallC s s.heap.objs.size (bindL (envOfC qual scope s.heap.objs.size f cd).kindOf (ps.zip us) fun _ => none) (cellsFrom (s.heap.objs.size + 1) scope.names []) (bindC (envOfC qual scope s.heap.objs.size f cd).kindOf (ps.zip us) fun _ => none) s1) :
  Inv (cxOf CX P w K mg base N qual scope f cd A outer s H E) [] (start N vs) H s1 := by
 have hpl : ps.length <= N.length := by have := congrArg List.length S.pre; rw [List.length_take] at this; omega
 obtain ⟨h1, tk, rfl, hk⟩ := x.done
 have noA : ∀ b : Addr, b ∉ (cxOf CX P w K mg base N qual scope f cd A outer s H E).ex := fun b z => absurd (show b ∈ ([] : List Addr) from z) (by simp)
 refine ⟨⟨e0.mod, S.kind, rfl, rfl, Nat.le_refl _, fun y z c h1 h2 => ?_, fun y hy => ?_, fun y c _ h => ?_, fun _ => hd, Around.frames_deeper e0.frames, .inr ⟨rfl, rfl⟩, fun b z => absurd z (noA b), e0.bs, e0.bsz, fun b _ _ => noA b, fun b z => absurd z (noA b), e0.funs, e0.frf⟩,
  rfl, e0.bare, Un.kept hk, ⟨_, x.toInCall.ns, fun i y v h1 h2 h3 => ?_⟩, fun y c h => ⟨_, x.cell y c h⟩, e0.hok.fresh (Nat.le_refl _), fun y c h => ?_, fun p hp => absurd (show p ∈ ([] : List (Addr × Obj)) from hp) (by simp), e0.hok.kept hk, ?_⟩
 ·exact name_of_addr x.apart (PySem.mem_of_lookup h1) (PySem.mem_of_lookup h2)
 ·have hy : scope.names.lookup y = some .cell \/ scope.names.lookup y = some .free := hy
  rcases hy with hy | hy
  ·exact cell_has hy
  ·exact absurd rfl (S.nofree _ (PySem.mem_of_lookup hy))
 ·exact Nat.le_of_lt (x.above y c (PySem.mem_of_lookup h))
 ·have hi : i < vs.length := by
   unfold start at h2
   by_cases hi : i < vs.length
   ·exact hi
   ·rw [List.getElem?_append_right (by simpa using hi)] at h2
    rw [List.getElem?_replicate] at h2
    split at h2 <;> cases h2
  have ha : vs[i]? = some v := by
   unfold start at h2
   rw [List.getElem?_append_left (by simpa using hi), List.getElem?_map] at h2
   cases e : vs[i]? with
   | none => rw [e] at h2; cases h2
   | some a => rw [e] at h2; cases h2; rfl
  obtain ⟨u, hu, rv⟩ := r.get ha
  have hp : ps[i]? = some y := by
   rw [<- S.pre, List.getElem?_take_of_lt (by omega)]; exact h1
  have ndP : ps.Nodup := by rw [<- S.pre]; exact S.nd.sublist (List.take_sublist _ _)
  refine ⟨u, rv, ?_⟩
  rcases S.par y (List.mem_of_getElem? hp) with k | k
  ·exact .inl ⟨k, bindL_get ndP hp hu k⟩
  ·obtain ⟨c, e⟩ := cell_has (n := s.heap.objs.size + 1) k
   refine .inr ⟨.inl k, c, e, ?_⟩
   have q := x.cell y c e
   rw [bindC_get ndP hp hu (by show scope.names.lookup y ≠ _; rw [k]; decide)] at q
   exact q
 ·exact e0.hok.fresh (Nat.le_of_lt (x.above y c (PySem.mem_of_lookup h)))
 ·unfold start
  show _ = N.length
  rw [List.length_append, List.length_map, List.length_replicate]
  omega

theorem fn_of {CX : CXT} {P : Program} {w : World} {K : PySem.W.Frag} {mg : Str -> Option Value} {base : Heap} {k : Nat} {f : Addr} {name qual : Str} {params : Arguments} {body : List Stmt} {scope : Scope} {dV kV doc pm cdv ct oc : Value} {an od : Option Addr}
  {osl : Array (Option Value)} {N ps : List Str} {sp : Sp} (lk : K.lookup f = some ⟨oc, od, .func (PySem.W.fnOf name qual params body scope dV kV doc pm an cdv ct), osl⟩) (hcd : PySem.W.codeIn K cdv qual = true) (S : FnScope N ps scope)
  (len : ∀ vs H Q E, sp vs H Q E -> vs.length = ps.length)
  (hbody : ∀ (A : Around) (outer : List Env) (s : Shared) (H : Hp) (vs : List V) (Q : VK) (E : XK), Room k (A.deeper (envOfC qual scope s.heap.objs.size f cdv)) -> sp vs H Q E ->
   ∃ t, PSs (cxOf CX P w K mg base N qual scope f cdv A outer s H E) body t /\ t { nx := fun _ H' => Q .non H', rt := Q } (start N vs) H) :
  FnOk P w K mg base CX (k + 1) f (PySem.W.fnOf name qual params body scope dV kV doc pm an cdv ct) ps sp := by
 refine ⟨len, fun A outer s H args us vs Q E hr e0 hb r hsp => ?_⟩
 have hl := len _ _ _ _ hsp
 have KX : K.In s.heap := e0.mod.kin.keeps fun b o e => (e0.bs b o e).1
 have lim : s.heap.NoLimit := e0.mod.nolimit.keeps fun b o e => (e0.bs b o e).1
 have hkind : ∀ y ∈ ps.zip us, scope.names.lookup y.1 = some .local \/ (scope.names.lookup y.1 = some .cell /\ ((cellsFrom (s.heap.objs.size + 1) scope.names []).lookup y.1).isSome = true) := fun ⟨n, v⟩ hy => by
  rcases S.par n (List.of_mem_zip hy).1 with q | q
  ·exact .inl q
  ·exact .inr ⟨q, PySem.W.cellsFrom_some _ _ _ (.inl q)⟩
 refine codeAny_call_function hr.depth (KX _ _ lk) rfl S.co S.gen rfl (PySem.W.codeRec_of KX hcd) (hb _ _ _ _ ?_)
 refine wpAny_newFunctionEnv_cells S.kind hkind fun env he s1 x => ?_
 subst he
 refine ⟨lim.keeps x.toInCall.keep, codeAny_func ?_⟩
 obtain ⟨t, ht, hq⟩ := hbody A outer s H vs Q E (hr.deeper _) hsp
 have I : Inv (cxOf CX P w K mg base N qual scope f cdv A outer s H E) [] (start N vs) H s1 := inv_start S hr.hd e0 hl r x
 refine wpAny_mono (ht [] s1 (start N vs) H _ I hq) (fun fl s' hs => ?_) fun e s' hs => hs
 have fin : ∀ {σ' : St} {H' : Hp} {v : V} {u : Value}, Inv (cxOf CX P w K mg base N qual scope f cdv A outer s H E) [] σ' H' s' -> RelV v u -> Q v H' -> CE outer P w H s Q u s' :=
  fun {σ' H' v u} J rv q => ⟨v, H', J.os, J.bare, J.base, J.hok, rv, q⟩
 cases fl with
 | ret u =>
  obtain ⟨v, σ', H', J, rv, q⟩ := hs
  exact fin J rv q
 | next =>
  obtain ⟨σ', H', J, q⟩ := hs
  exact fin (v := V.non) (u := Value.none) J rfl q
 | brk =>
  obtain ⟨_, _, _, q⟩ := hs
  exact False.elim q
 | cont =>
  obtain ⟨_, _, _, q⟩ := hs
  exact False.elim q
end L2

namespace L2
open PySem PySem.Spec PyProof.Rows
section
variable {X : Cx} {x : Str} {p pos : Pos} {e : Expr} {es : List Expr} {t : TA} {id T : String} {r : List V -> Hp -> VK -> Prop}

def tCB (r : List V -> Hp -> VK -> Prop) (t : TA) : TE := fun σ H Q => t σ H fun vs H1 => r vs H1 Q
theorem pe_callB (hc : CallR X (.builtin id) r) (hg : Gl X x) (hm : X.mg x = none) (hv : bootBuiltins x = some (.builtin id)) (ha : PA X (e :: es) t) (hn : x ≠ "__name__" := by decide) (hdb : (x == ("__debug__" : Str)) = false := by decide)
  (he : starEach (e :: es) X.env = (false, eval e X.env) :: starEach es X.env := by rfl) (hpl : (backTo pos (starEach es X.env)).any (·.1) = false := by rfl) : PE X (.Call (.Name x p) (e :: es) [] pos) (tCB r t) := by
 intro pins s σ H Q I h
 refine wpAny_Call_Name_kw (a7w I hg hm hv ?_ hn hdb)
 exact PyProof.Rows.callWith_builtin1 (thn (ha pos pins s σ H _ I h) fun us s1 ⟨vs, H1, I1, r1, q1⟩ => hc pins s1 σ H1 vs us Q I1 r1 q1) he hpl
theorem pe_callTy (hc : CallR X (.type T) r) (hg : Gl X x) (hm : X.mg x = none) (hv : bootBuiltins x = some (.type T)) (ha : PA X (e :: es) t) (hn : x ≠ "__name__" := by decide) (hdb : (x == ("__debug__" : Str)) = false := by decide)
  (he : starEach (e :: es) X.env = (false, eval e X.env) :: starEach es X.env := by rfl) (hpl : (backTo pos (starEach es X.env)).any (·.1) = false := by rfl) : PE X (.Call (.Name x p) (e :: es) [] pos) (tCB r t) := by
 intro pins s σ H Q I h
 refine wpAny_Call_Name_kw (a7w I hg hm hv ?_ hn hdb)
 exact PyProof.Rows.callWith_type1 (thn (ha pos pins s σ H _ I h) fun us s1 ⟨vs, H1, I1, r1, q1⟩ => hc pins s1 σ H1 vs us Q I1 r1 q1) he hpl
end
end L2

namespace HT
open PySem PyProof.Rows

def lexLt : List Int -> List Int -> Bool
 | [], [] => false
 | [], _ :: _ => true
 | _ :: _, [] => false
 | x :: xs, y :: ys => if x = y then lexLt xs ys else decide (x < y)
section
open PySem.SeqAt
open PySem.AutoSeq1 (wpAny_loadPart')
open PySem.MeetsSeq PySem.MeetsSeq2 PySem.MeetsSeq3

end

section
variable {prog : Program} {w : World} {A : Around} {E : Value -> Shared -> Prop} {s : Shared}

theorem cat_tup {t b : Addr} {vs ws : List Value} {Q : Value -> Shared -> Prop} (ht : IsTup s.heap t vs.toArray) (hb : IsTup s.heap b ws.toArray) (hv : vs ≠ [])
  (h1 : ws = [] -> Q (.ref t) s) (h2 : ws ≠ [] -> Q (.ref s.heap.objs.size) { s with heap := s.heap.push { cls := .type "tuple", data := .seq (vs ++ ws).toArray } })
  (hsz : vs.length + ws.length <= sizeLine) : wpAny (model prog w) A (binaryOp .Add (.ref t) (.ref b)) Q E s := by
 obtain ⟨⟨cls, dd, data, sl⟩, ho, hc, n, hd⟩ := id ht
 obtain ⟨⟨cls2, dd2, data2, sl2⟩, ho2, hc2, n2, hd2⟩ := id hb
 simp only at hc hd hc2 hd2
 subst hc hd hc2 hd2
 have e : vs.toArray ++ ws.toArray = (vs ++ ws).toArray := by simp
 by_cases hw : ws = []
 ·exact concat_meets ⟨_, ho, rfl⟩ ⟨_, ho2, rfl⟩ noFill_tuple_add seq_tuple_add PySem.F.slot_tuple_add PySem.F.entry_tuple_add (PySem.F.args_tuple_add_2 _ _)
   (tuple_addW1 t b vs.toArray ws.toArray n n2 dd dd2 sl sl2 (by simpa using hv) (by simp [hw])) ⟨ho, ho2, h1 hw⟩
 ·refine concat_meets ⟨_, ho, rfl⟩ ⟨_, ho2, rfl⟩ noFill_tuple_add seq_tuple_add PySem.F.slot_tuple_add PySem.F.entry_tuple_add (PySem.F.args_tuple_add_2 _ _)
   (tuple_addW2 t b vs.toArray ws.toArray n n2 dd dd2 sl sl2 (by simpa using hv) (by simpa using hw) (by rw [List.size_toArray, List.size_toArray]; exact hsz)) ⟨ho, ho2, ?_⟩
  rw [e]
  exact h2 hw

def sIx (n d : Nat) : Option Int -> Nat
 | none => d
 | some v => if v < 0 then (v + (n : Int)).toNat else min v.toNat n
theorem b2s (n d : Nat) : sIx n d none = d := rfl
theorem a8t (n d k : Nat) : sIx n d (some (k : Int)) = min k n := by
 show (if (k : Int) < 0 then ((k : Int) + (n : Int)).toNat else min (k : Int).toNat n) = min k n
 rw [if_neg (by omega), Int.toNat_natCast]
theorem sIx_le (n d : Nat) (hd : d <= n) (o : Option Int) : sIx n d o <= n := by
 cases o with
 | none => exact hd
 | some v =>
  show (if v < 0 then (v + (n : Int)).toNat else min v.toNat n) <= n
  by_cases hv : v < 0
  ·rw [if_pos hv]; omega
  ·rw [if_neg hv]; exact Nat.min_le_right _ _
theorem clip_eq (v : Int) (n d : Nat) : (if v < 0 then max (v + (n : Int)) 0 else min v (n : Int)) = ((sIx n d (some v) : Nat) : Int) := by
 show (if v < 0 then max (v + (n : Int)) 0 else min v (n : Int)) = (((if v < 0 then (v + (n : Int)).toNat else min v.toNat n) : Nat) : Int)
 by_cases hv : v < 0
 ·simp only [if_pos hv]; omega
 ·simp only [if_neg hv]; omega
theorem adjust_gen (lo hi : Option Int) (n : Nat) : Builtin.Slice.sliceAdjust lo hi 1 (n : Int) = (((sIx n 0 lo : Nat) : Int), ((sIx n n hi : Nat) : Int)) := by
 have h1 : ¬ ((1 : Int) < 0) := by omega
 unfold Builtin.Slice.sliceAdjust
 simp only [h1, if_false]
 refine Prod.ext ?_ ?_
 ·cases lo with
  | none => rfl
  | some v => exact clip_eq v n 0
 ·cases hi with
  | none => rfl
  | some v => exact clip_eq v n n
theorem places_gen (i j : Nat) : Builtin.Slice.slicePlaces (i : Int) (j : Int) 1 = j - i := by
 unfold Builtin.Slice.slicePlaces
 have h1 : (1 : Int) > 0 := by omega
 simp only [h1, if_true, Int.ediv_one]
 split <;> omega
theorem b1n {v : Value} {o : Option Int} {Q : Option Int -> Shared -> Prop} (p : IsPart v o) (h : Q o s) : wpAny (model prog w) A (Builtin.Slice.slicePartIndex v) Q E s := by
 cases p with
 | none => exact slicePart_none h
 | int i t => exact slicePart_int h
theorem a9p {sl : Addr} {vl vu : Value} {lo hi : Option Int} {n : Nat} {Q : Int × Int × Nat -> Shared -> Prop} (hs : s.heap.IsSliceOf sl vl vu .none) (pl : IsPart vl lo) (pu : IsPart vu hi)
  (h : Q (((sIx n 0 lo : Nat) : Int), 1, sIx n n hi - sIx n 0 lo) s) : wpAny (model prog w) A (Builtin.Slice.sliceApplied (.ref sl) (pure (n : Int))) Q E s := by
 obtain ⟨os, hos, hcs, hds⟩ := id hs
 unfold Builtin.Slice.sliceApplied Builtin.Slice.sliceFields
 refine wpAny_bind (wpAny_bind (wpAny_field hos hds (x := vl) rfl (wpAny_bind (wpAny_field hos hds (x := vu) rfl (wpAny_bind (wpAny_field hos hds (x := .none) rfl (wpAny_pure ?_)))))))
 refine wpAny_bind (slicePart_none ?_)
 show wpAny _ _ (if ((1 : Int) == 0) = true then _ else _) _ _ s
 rw [if_neg (by decide)]
 refine wpAny_bind (b1n pl (wpAny_bind (b1n pu (wpAny_bind (wpAny_pure ?_)))))
 show wpAny _ _ (match Builtin.Slice.sliceAdjust lo hi 1 (n : Int) with | (lo, hi) => pure (lo, (1 : Int), Builtin.Slice.slicePlaces lo hi 1)) _ _ s
 rw [adjust_gen lo hi n]
 show wpAny _ _ (pure (((sIx n 0 lo : Nat) : Int), (1 : Int), Builtin.Slice.slicePlaces ((sIx n 0 lo : Nat) : Int) ((sIx n n hi : Nat) : Int) 1)) _ _ s
 rw [places_gen]
 exact wpAny_pure h
theorem pick_gen (xs : Array Value) (i k : Nat) : ((List.range k).filterMap fun (m : Nat) => xs[((i : Int) + (m : Int) * 1).toNat]?).toArray = ((xs.toList.drop i).take k).toArray := by
 have e : (fun (m : Nat) => xs[((i : Int) + (m : Int) * 1).toNat]?) = fun m => xs[i + m]? := by
  funext m
  have : ((i : Int) + (m : Int) * 1).toNat = i + m := by omega
  rw [this]
 rw [e]
 have := pick_run xs i k
 rw [List.filterMap_map] at this
 have e2 : ((fun x => xs[x]?) ∘ fun x => i + x) = fun m => xs[i + m]? := rfl
 rw [e2] at this
 rw [this]

theorem a8y {t sl : Addr} {items : Array Value} {vl vu : Value} {lo hi : Option Int} {Q : Value -> Shared -> Prop} (ht : IsTup s.heap t items) (hs : s.heap.IsSliceOf sl vl vu .none) (pl : IsPart vl lo) (pu : IsPart vu hi)
  (hw : ¬ (sIx items.size 0 lo = 0 /\ sIx items.size items.size hi = items.size))
  (h : Q (.ref s.heap.objs.size) { s with heap := s.heap.push { cls := .type "tuple", data := .seq ((items.toList.drop (sIx items.size 0 lo)).take (sIx items.size items.size hi - sIx items.size 0 lo)).toArray } })
  (hsz : items.size <= sizeLine) : wpAny (model prog w) A (getItem (.ref t) (.ref sl)) Q E s := by
 have htake : sizeOk (.seq ((items.toList.drop (sIx items.size 0 lo)).take (sIx items.size items.size hi - sIx items.size 0 lo)).toArray) := by
  show ((items.toList.drop (sIx items.size 0 lo)).take (sIx items.size items.size hi - sIx items.size 0 lo)).toArray.size <= sizeLine
  rw [List.size_toArray, List.length_take, List.length_drop, Array.length_toList]
  omega
 have hj : sIx items.size items.size hi <= items.size := sIx_le _ _ (Nat.le_refl _) hi
 obtain ⟨os, hos, hcs, hds⟩ := id hs
 have hTs : s.TypeIs (.ref sl) "slice" := ⟨os, hos, hcs⟩
 unfold getItem
 try with_reducible refine wpAny_holding ?_
 first | refine wpAny_bind (wpAny_pure ?_) | skip
 refine wpAny_bind (wpAny_sequenceKey ht.typeIs (by decide) ?_)
 refine wpAny_bind (wpAny_callSpecial?_slot (name := Str.ofString "__getitem__") ht.typeIs PyProof.Rows.slot_tuple_getitem
  (wpAny_call_entry PyProof.Rows.slot_tuple_getitem ht.typeIs entry_tuple_getitem ?_ (args_tuple_getitem _ _)))
 show wpAny _ _ (Builtin.Tuple.tupleItemsOf (.ref t) >>= _) _ _ s
 refine wpAny_bind (tupleItemsOf_ ht ?_)
 refine wpAny_bind (wpAny_typeOf hTs ?_)
 rw [if_pos (by decide)]
 refine wpAny_bind (a9p hs pl pu ?_)
 have hno : ¬ ((((sIx items.size 0 lo : Nat) : Int) == 0 && (1 : Int) == 1 && (sIx items.size items.size hi - sIx items.size 0 lo) == items.size) = true) := by
  intro q
  rw [Bool.and_eq_true, Bool.and_eq_true] at q
  have q1 : ((sIx items.size 0 lo : Nat) : Int) = 0 := eq_of_beq q.1.1
  have q2 : sIx items.size items.size hi - sIx items.size 0 lo = items.size := eq_of_beq q.2
  exact hw ⟨by omega, by omega⟩
 show wpAny _ _ (if (((sIx items.size 0 lo : Nat) : Int) == 0 && (1 : Int) == 1 && (sIx items.size items.size hi - sIx items.size 0 lo) == items.size) = true then _ else _) _ _ s
 rw [if_neg hno, pick_gen]
 first
  | exact wpAny_bind (m := Builtin.Tuple.tupleExact _) (wpAny_newObj_type (wpAny_pure ⟨_, rfl, wpAny_pure h⟩) htake)
  | exact wpAny_bind (m := Builtin.Tuple.tupleExact _) (wpAny_newObj_type (wpAny_bind (wpAny_pure (wpAny_pure ⟨_, rfl, wpAny_pure h⟩))) htake)
  | exact wpAny_bind (wpAny_bind (m := Builtin.Tuple.tupleExact _) (wpAny_newObj_type (wpAny_pure (wpAny_pure ⟨_, rfl, wpAny_pure h⟩)) htake))
  | exact wpAny_bind (wpAny_bind (m := Builtin.Tuple.tupleExact _) (wpAny_newObj_type (wpAny_pure ⟨_, rfl, wpAny_pure h⟩) htake))
end
end HT

namespace L2
open PySem PySem.Spec PyProof.Rows

abbrev TO := St -> Hp -> (Option Int -> Hp -> Prop) -> Prop
def PO (X : Cx) (e : Option Expr) (t : TO) : Prop :=
 ∀ (pins : List (Addr × Obj)) (s : Shared) (σ : St) (H : Hp) (Q : Option Int -> Hp -> Prop), Inv X pins σ H s -> t σ H Q ->
  wpAny (model X.prog X.w) X.A (evalPart e X.env) (fun u s' => ∃ o H', Inv X pins σ H' s' /\ IsPart u o /\ Q o H') X.xe s
def tNoPart : TO := fun _ H Q => Q none H
def tPart (t : TE) : TO := fun σ H Q => t σ H fun x H1 => ∃ i, x = .int i /\ Q (some i) H1

section
variable {X : Cx} {e : Expr} {te : TE} {lo hi : Option Expr} {tl th : TO} {pos p2 : Pos}

theorem po_none : PO X none tNoPart := by
 intro pins s σ H Q I h
 rw [evalPart_none]
 exact wpAny_pure ⟨none, H, I, .none, h⟩
theorem po_some (h : PE X e te) : PO X (some e) (tPart te) := by
 intro pins s σ H Q I hw
 rw [evalPart_some]
 refine thn (h pins s σ H _ I hw) fun u s1 ⟨x, H1, I1, r1, q1⟩ => ?_
 obtain ⟨i, rfl, q⟩ := q1
 obtain ⟨t, rfl⟩ := r1
 exact ⟨some i, H1, I1, .int i t, q⟩

def SlR (X : Cx) (r : V -> Option Int -> Option Int -> Hp -> VK -> Prop) : Prop :=
 ∀ (pins : List (Addr × Obj)) (s : Shared) (σ : St) (H : Hp) (x : V) (v vl vu : Value) (lo hi : Option Int) (sl : Addr) (Q : VK), Inv X pins σ H s -> RelV x v -> s.heap.IsSliceOf sl vl vu .none -> IsPart vl lo -> IsPart vu hi -> r x lo hi H Q ->
  ∃ T id, typeLookup (.type T) "__getitem__" = pure (some (.builtin id)) /\ s.TypeIs v T /\ wpAny (model X.prog X.w) X.A (getItem v (.ref sl)) (EP X pins σ Q) X.xe s
theorem SlR.or {r r' : V -> Option Int -> Option Int -> Hp -> VK -> Prop} (h : SlR X r) (h' : SlR X r') : SlR X (fun x lo hi H Q => r x lo hi H Q \/ r' x lo hi H Q) := by
 intro pins s σ H x v vl vu lo hi sl Q I rx hs pl pu q
 rcases q with q | q
 ·exact h pins s σ H x v vl vu lo hi sl Q I rx hs pl pu q
 ·exact h' pins s σ H x v vl vu lo hi sl Q I rx hs pl pu q
def tSl (r : V -> Option Int -> Option Int -> Hp -> VK -> Prop) (te : TE) (tl th : TO) : TE := fun σ H Q => te σ H fun x H1 => tl σ H1 fun l H2 => th σ H2 fun u H3 => r x l u H3 Q
theorem pe_slice {r : V -> Option Int -> Option Int -> Hp -> VK -> Prop} (hr : SlR X r) (he : PE X e te) (hl : PO X lo tl) (hu : PO X hi th) : PE X (.Subscript e (.Slice lo hi none p2) pos) (tSl r te tl th) := by
 intro pins s σ H Q I h
 refine Subscript_ (thn (he pins s σ H _ I h) fun v s1 ⟨x, H1, I1, r1, q1⟩ => ?_)
 refine wpAny_Slice (thn (hl pins s1 σ H1 _ I1 q1) fun vl s2 ⟨l, H2, I2, pl, q2⟩ => thn (hu pins s2 σ H2 _ I2 q2) fun vu s3 ⟨u, H3, I3, pu, q3⟩ => ?_)
 rw [evalPart_none]
 refine wpAny_pure ?_
 have I4 : Inv X pins σ H3 { s3 with heap := s3.heap.push { cls := .type "slice", data := .fields #[vl, vu, .none] } } := I3.kept (t' := s3.toks) fun b ob q => Heap.get?_push_of_some _ q
 obtain ⟨T, id, hT, ht, hg⟩ := hr pins { s3 with heap := s3.heap.push { cls := .type "slice", data := .fields #[vl, vu, .none] } } σ H3 x v vl vu l u s3.heap.objs.size Q I4 r1 (Heap.IsSliceOf.new ..) pl pu q3
 show wpAny (model X.prog X.w) X.A (subscriptTail e (.Slice lo hi none p2) v (.ref s3.heap.objs.size)) (EP X pins σ Q) X.xe { s3 with heap := s3.heap.push { cls := .type "slice", data := .fields #[vl, vu, .none] } }
 exact tail_any (ops := [.ref s3.heap.objs.size, v]) ht hT hg (by with_unfolding_all rfl)

def cutV (xs : List V) (lo hi : Option Int) : List V := (xs.drop (HT.sIx xs.length 0 lo)).take (HT.sIx xs.length xs.length hi - HT.sIx xs.length 0 lo)
theorem b1e (xs : List V) (lo hi : Option Int) : (cutV xs lo hi).length <= xs.length := by
 unfold cutV
 rw [List.length_take, List.length_drop]
 omega
def rSlT (K : PySem.W.Frag) : V -> Option Int -> Option Int -> Hp -> VK -> Prop := fun x lo hi H Q => ∃ a xs, x = .ref a /\ SqT K H a xs /\
 ¬ (HT.sIx xs.length 0 lo = 0 /\ HT.sIx xs.length xs.length hi = xs.length) /\ ∀ p, H p = none -> Q (.ref p) (upd H p (.tup (cutV xs lo hi)))
theorem sl_tup : SlR X (rSlT X.K) := by
 intro pins s σ H x v vl vu lo hi sl Q I rx hs pl pu h
 obtain ⟨a, xs, rfl, hx, hw, q⟩ := h
 cases rx
 obtain ⟨its, r, ht, hz⟩ := I.tuple hx
 have hlen : its.toArray.size = xs.length := by rw [List.size_toArray]; exact r.length.symm
 refine ⟨"tuple", _, PyProof.Rows.slot_tuple_getitem.lookup, ht.typeIs, ?_⟩
 refine HT.a8y ht hs pl pu (by rw [hlen]; exact hw) ?_ (by rw [hlen]; exact hz)
 rw [hlen]
 refine ⟨.ref s.heap.objs.size, _, I.laid (t' := s.toks) (o := .tup (cutV xs lo hi)) (fun b ob q => Heap.get?_push_of_some _ q) (Nat.le_refl _) ?_, rfl, q _ (I.hok.fresh (Nat.le_refl _))⟩
 exact ⟨Nat.le_trans (b1e xs lo hi) hz, _, (r.drop (HT.sIx xs.length 0 lo)).take (HT.sIx xs.length xs.length hi - HT.sIx xs.length 0 lo), IsTup.new _ _⟩

def rCatT (K : PySem.W.Frag) : R2 := fun x y H Q => ∃ a b xs ys, x = .ref a /\ y = .ref b /\ SqT K H a xs /\ SqT K H b ys /\ xs ≠ [] /\ xs.length + ys.length <= sizeLine /\
 (ys = [] -> Q (.ref a) H) /\ (ys ≠ [] -> ∀ p, H p = none -> Q (.ref p) (upd H p (.tup (xs ++ ys))))
theorem Vals.nil_iff {xs : List V} {us : List Value} (r : Vals xs us) : us = [] ↔ xs = [] := by
 cases r with
 | nil => simp
 | cons _ _ => simp
theorem op_catT : OpR X (binaryOp .Add) (rCatT X.K) := by
 intro pins s σ H x y v u Q I rx ry h
 obtain ⟨a, b, xs, ys, rfl, rfl, ha, hb, hx, hz, q1, q2⟩ := h
 cases rx
 cases ry
 obtain ⟨its, r1, p1, _⟩ := I.tuple ha
 obtain ⟨its2, r2, p2, _⟩ := I.tuple hb
 refine HT.cat_tup p1 p2 (fun z => hx (r1.nil_iff.mp z)) (fun z => ⟨.ref a, H, I, rfl, q1 (r2.nil_iff.mp z)⟩) (fun z => ?_) (by rw [<- r1.length, <- r2.length]; exact hz)
 refine ⟨.ref s.heap.objs.size, _, I.laid (t' := s.toks) (o := .tup (xs ++ ys)) (fun b ob q => Heap.get?_push_of_some _ q) (Nat.le_refl _) ?_, rfl, q2 (fun w => z (r2.nil_iff.mpr w)) _ (I.hok.fresh (Nat.le_refl _))⟩
 exact ⟨by rw [List.length_append]; exact hz, _, r1.append r2, IsTup.new _ _⟩
end
end L2

namespace L2
open PySem PySem.Spec PyProof.Rows

def ixN (n : Nat) (i : Int) : Option Nat := if 0 <= i then (if i < n then some i.toNat else none) else if -(n : Int) <= i then some (i + n).toNat else none
def atI {α : Type} (xs : List α) (i : Int) : Option α := (ixN xs.length i).bind fun j => xs[j]?
theorem ixN_seq {n : Nat} {i : Int} {j : Nat} (h : ixN n i = some j) : seqIndex? i n = some j /\ j < n /\ -(n : Int) <= i /\ i < n := by
 unfold ixN at h
 by_cases h0 : 0 <= i
 ·rw [if_pos h0] at h
  by_cases h1 : i < n
  ·rw [if_pos h1] at h
   have e : i.toNat = j := Option.some.inj h
   exact ⟨by rw [seqIndex_of h0 h1, e], by omega, by omega, h1⟩
  ·rw [if_neg h1] at h; cases h
 ·rw [if_neg h0] at h
  by_cases h1 : -(n : Int) <= i
  ·rw [if_pos h1] at h
   have e : (i + n).toNat = j := Option.some.inj h
   exact ⟨by rw [seqIndex_neg (by omega) h1, e], by omega, h1, by omega⟩
  ·rw [if_neg h1] at h; cases h
theorem atI_get {α : Type} {xs : List α} {i : Int} {v : α} (h : atI xs i = some v) : ∃ j, seqIndex? i xs.length = some j /\ xs[j]? = some v /\ j < xs.length /\ -(xs.length : Int) <= i /\ i < xs.length := by
 unfold atI at h
 cases e : ixN xs.length i with
 | none => rw [e] at h; cases h
 | some j =>
  rw [e] at h
  obtain ⟨h1, h2, h3, h4⟩ := ixN_seq e
  exact ⟨j, h1, h, h2, h3, h4⟩
theorem atI_nat {α : Type} {xs : List α} {j : Nat} {v : α} (h : xs[j]? = some v) : atI xs (j : Int) = some v := by
 have hj : j < xs.length := (List.getElem?_eq_some_iff.mp h).1
 have e : ixN xs.length (j : Int) = some j := by
  unfold ixN
  rw [if_pos (by omega), if_pos (by omega)]; simp
 unfold atI; rw [e]; exact h
def PlainIx (b : Expr) : Prop := ∀ o i, subscripted b false o i = operate [o, i] (getItem o i)
def IxR (X : Cx) (r : R2) : Prop :=
 ∀ (value slice : Expr) (pins : List (Addr × Obj)) (s : Shared) (σ : St) (H : Hp) (x y : V) (v u : Value) (Q : VK), Inv X pins σ H s -> RelV x v -> RelV y u -> r x y H Q ->
  subscripted slice false v u = operate [v, u] (getItem v u) -> wpAny (model X.prog X.w) X.A (subscriptTail value slice v u) (EP X pins σ Q) X.xe s
def MtR (X : Cx) (id : String) (r : V -> List V -> Hp -> VK -> Prop) : Prop :=
 ∀ (pins : List (Addr × Obj)) (s : Shared) (σ : St) (H : Hp) (x : V) (xs : List V) (v : Value) (us : List Value) (Q : VK), Inv X pins σ H s -> RelV x v -> Vals xs us -> r x xs H Q ->
  wpAny (model X.prog X.w) X.A (call (.builtin id) (v :: us)) (EP X pins σ Q) X.xe s
section
variable {X : Cx} {a b : Expr} {ta tb : TE} {pos : Pos}
theorem IxR.or {r r' : R2} (h : IxR X r) (h' : IxR X r') : IxR X (fun x y H Q => r x y H Q \/ r' x y H Q) := by
 intro value slice pins s σ H x y v u Q I rx ry q hs
 rcases q with q | q
 ·exact h value slice pins s σ H x y v u Q I rx ry q hs
 ·exact h' value slice pins s σ H x y v u Q I rx ry q hs
theorem pe_ix {r : R2} (hr : IxR X r) (ha : PE X a ta) (hb : PE X b tb) (hs : PlainIx b) : PE X (.Subscript a b pos) (tOp r ta tb) := by
 intro pins s σ H Q I h
 exact Subscript_ (binT ha hb I h fun v u s2 x y H2 I2 rx ry q => hr a b pins s2 σ H2 x y v u Q I2 rx ry q (hs _ _))

def rIxL (K : PySem.W.Frag) : R2 := fun x y H Q => ∃ p xs i v, x = .ref p /\ y = .int i /\ SqL K H p xs /\ atI xs i = some v /\ Q v H
def rIxT (K : PySem.W.Frag) : R2 := fun x y H Q => ∃ p xs i v, x = .ref p /\ y = .int i /\ SqT K H p xs /\ atI xs i = some v /\ Q v H
def rIxS : R2 := fun x y H Q => ∃ z i c, x = .str z /\ y = .int i /\ z.length <= sizeLine /\ atI z.cps.toList i = some c /\ Q (.str ⟨#[c]⟩) H
theorem ix_list : IxR X (rIxL X.K) := by
 intro value slice pins s σ H x y v u Q I rx ry h hs
 obtain ⟨p, xs, i, z, rfl, rfl, hq, he, q⟩ := h
 cases rx
 obtain ⟨t, rfl⟩ := ry
 obtain ⟨its, r, pl, hz⟩ := I.list hq
 obtain ⟨j, h1, h2, h3, h4, h5⟩ := atI_get he
 obtain ⟨w, ew, rw'⟩ := r.get h2
 have hl := r.length
 have hn := line63
 have fin : EP X pins σ Q w s := ⟨z, H, I, rw', q⟩
 by_cases h0 : 0 <= i
 ·have hj : i.toNat = j := by
   rw [seqIndex_of h0 h5] at h1
   exact Option.some.inj h1
  exact item_listR pl.isList h0 (by omega) (by rw [hj]; simpa using ew) fin hs
 ·have hj : (i + (its.toArray.size : Int)).toNat = j := by
   rw [seqIndex_neg (by omega) h4] at h1
   rw [List.size_toArray, <- hl]
   exact Option.some.inj h1
  exact subscriptTail_builtinR (x := w) pl.isList.typeIs slot_list_getitem.lookup
   (wpAny_getItem_list_neg (Q := fun r s' => r = w /\ EP X pins σ Q r s') pl.isList (by omega) (by rw [List.size_toArray] <;> omega) (by omega) (by rw [hj]; simpa using ew) ⟨rfl, fin⟩) hs
theorem ix_tup : IxR X (rIxT X.K) := by
 intro value slice pins s σ H x y v u Q I rx ry h hs
 obtain ⟨p, xs, i, z, rfl, rfl, hq, he, q⟩ := h
 cases rx
 obtain ⟨t, rfl⟩ := ry
 obtain ⟨its, r, pl, hz⟩ := I.tuple hq
 obtain ⟨j, h1, h2, h3, h4, h5⟩ := atI_get he
 obtain ⟨w, ew, rw'⟩ := r.get h2
 have hl := r.length
 have hn := line63
 have fin : EP X pins σ Q w s := ⟨z, H, I, rw', q⟩
 exact subscriptTail_builtinR (x := w) pl.typeIs slot_tuple_getitem.lookup
  (getItem_tuple (j := j) (Q := fun r s' => r = w /\ EP X pins σ Q r s') pl (by omega) (by omega) (by rw [List.size_toArray, <- hl]; exact h1) (by simpa using ew) ⟨rfl, fin⟩) hs
theorem ix_str : IxR X rIxS := by
 intro value slice pins s σ H x y v u Q I rx ry h hs
 obtain ⟨z, i, c, rfl, rfl, hz, he, q⟩ := h
 obtain ⟨t, rfl⟩ := rx
 obtain ⟨t', rfl⟩ := ry
 obtain ⟨j, h1, h2, h3, h4, h5⟩ := atI_get he
 have hl : z.cps.toList.length = z.length := by simp [Str.length]
 rw [hl] at h1 h4 h5
 have hn := line63
 exact tail_any (typeIs_str s z t) slot_str_getitem.lookup (getItem_str (c := c) (by
  have e1 : decide (i < -(2 ^ 63 : Int)) = false := decide_eq_false (by omega)
  have e2 : decide (i ≥ 2 ^ 63) = false := decide_eq_false (by omega)
  rw [e1, e2, Bool.or_false]) (by rw [h1]; simpa using h2) ⟨.str ⟨#[c]⟩, H, I.tok _, ⟨_, rfl⟩, q⟩) hs
def rIx (K : PySem.W.Frag) : R2 := fun x y H Q => rIxL K x y H Q \/ rIxT K x y H Q \/ rIxS x y H Q
theorem ix_seq : IxR X (rIx X.K) := ix_list.or (ix_tup.or ix_str)

theorem mapSeq_set (its : List Value) (n j : Nat) (u : Value) : Obj.mapSeq (·.setIfInBounds j u) { cls := .type "list", data := .seq its.toArray n } = { cls := .type "list", data := .seq (its.set j u).toArray n } := by
 simp [Obj.mapSeq]
theorem Inv.lst {pins : List (Addr × Obj)} {σ : St} {H : Hp} {s : Shared} {p : Addr} {xs : List V} (I : Inv X pins σ H s) (h : H p = some (.lst xs)) :
  ∃ (its : List Value) (n : Nat), Vals xs its /\ s.heap.get? p = some { cls := .type "list", data := .seq its.toArray n } /\ xs.length <= sizeLine := by
 obtain ⟨z, its, n, r, e⟩ := I.hok p _ h
 exact ⟨its, n, r, e, z⟩
theorem Inv.lstUpd {pins : List (Addr × Obj)} {σ : St} {H : Hp} {s : Shared} {p : Addr} {xs ys : List V} {its its' : List Value} {n n' : Nat} {f : Obj -> Obj} (I : Inv X pins σ H s) (h : H p = some (.lst xs))
  (ho : s.heap.get? p = some { cls := .type "list", data := .seq its.toArray n }) (hf : f { cls := .type "list", data := .seq its.toArray n } = { cls := .type "list", data := .seq its'.toArray n' }) (r : Vals ys its') (hz : ys.length <= sizeLine) (t : Nat) :
  Inv X pins σ (upd H p (.lst ys)) { s with heap := s.heap.update p f, toks := t } := by
 have e : (s.heap.update p f).get? p = some { cls := .type "list", data := .seq its'.toArray n' } := by
  rw [Heap.get?_update_self f ho (by rw [hf] <;> rfl), hf]
 refine I.write (x := p) (e := p) (by rw [h]; trivial) (.inl rfl) (fun b u hb q => (Heap.get?_update_other _ _ (Ne.symm hb)).trans q) ⟨_, e⟩ ?_
 exact ⟨hz, its', n', r, e⟩
def rSetL : V -> V -> V -> Hp -> (Hp -> Prop) -> Prop := fun o i v H Q => ∃ p xs k j, o = .ref p /\ i = .int k /\ H p = some (.lst xs) /\ ixN xs.length k = some j /\ Q (upd H p (.lst (xs.set j v)))
theorem b2k : PSet X rSetL := by
 intro pins s σ H o i v ov iv u Q I ro ri rv h
 obtain ⟨p, xs, k, j, rfl, rfl, hp, hj, q⟩ := h
 cases ro
 obtain ⟨t, rfl⟩ := ri
 obtain ⟨its, n, r, ho, hz⟩ := I.lst hp
 obtain ⟨h1, h2, h3, h4⟩ := ixN_seq hj
 have hl := r.length
 have hn := line63
 have I' : Inv X pins σ (upd H p (.lst (xs.set j v))) { s with heap := s.heap.update p (Obj.mapSeq (·.setIfInBounds j u)) } :=
  I.lstUpd hp ho (mapSeq_set its n j u) (r.set rv j) (by rw [List.length_set]; exact hz) s.toks
 by_cases h0 : 0 <= k
 ·have hk : k.toNat = j := by
   rw [seqIndex_of h0 h4] at h1
   exact Option.some.inj h1
  exact PySem.W.ki_setAt ho h0 (by omega) (by rw [List.size_toArray, <- hl]; exact h4) (by rw [hk]; exact ⟨_, I', q⟩)
 ·have hk : (k + (its.toArray.size : Int)).toNat = j := by
   rw [seqIndex_neg (by omega) h3] at h1
   rw [List.size_toArray, <- hl]
   exact Option.some.inj h1
  exact PySem.W.ki_setBack ho (by omega) (by rw [List.size_toArray, <- hl]; exact h3) (by omega) (by rw [hk]; exact ⟨_, I', q⟩)

theorem slice_bounds (lo hi : Option Int) (n : Nat) : (sliceBounds lo hi none n).1 = ((HT.sIx n 0 lo : Nat) : Int) /\ (sliceBounds lo hi none n).2.1 = ((HT.sIx n n hi : Nat) : Int) /\ (sliceBounds lo hi none n).2.2 = 1 := by
 refine ⟨?_, ?_, rfl⟩
 ·cases lo with
  | none => simp [sliceBounds, HT.sIx]
  | some i =>
   simp only [sliceBounds, HT.sIx, Option.getD_none, show (1 : Int) > 0 by decide, if_true]
   by_cases h : i < 0
   ·simp only [h, if_true] <;> omega
   ·simp only [h, if_false] <;> omega
 ·cases hi with
  | none => simp [sliceBounds, HT.sIx]
  | some i =>
   simp only [sliceBounds, HT.sIx, Option.getD_none, show (1 : Int) > 0 by decide, if_true]
   by_cases h : i < 0
   ·simp only [h, if_true] <;> omega
   ·simp only [h, if_false] <;> omega
theorem b2j (its : List Value) (lo hi : Option Int) : slicePick its.toArray lo hi none = ((its.drop (HT.sIx its.length 0 lo)).take (HT.sIx its.length its.length hi - HT.sIx its.length 0 lo)).toArray := by
 obtain ⟨h1, h2, h3⟩ := slice_bounds lo hi its.toArray.size
 unfold slicePick
 rw [h1, h2, h3]
 simp only [sliceRange_one, pick_run, List.size_toArray] <;> rfl
def rSlL (K : PySem.W.Frag) : V -> Option Int -> Option Int -> Hp -> VK -> Prop := fun x lo hi H Q => ∃ a xs, x = .ref a /\ SqL K H a xs /\ ∀ p, H p = none -> Q (.ref p) (upd H p (.lst (cutV xs lo hi)))
theorem sl_list : SlR X (rSlL X.K) := by
 intro pins s σ H x v vl vu lo hi sl Q I rx hs pl pu h
 obtain ⟨a, xs, rfl, hx, q⟩ := h
 cases rx
 obtain ⟨its, r, ht, hz⟩ := I.list hx
 have hlen := r.length
 refine ⟨"list", _, slot_list_getitem.lookup, ht.isList.typeIs, ?_⟩
 refine wpAny_getItem_list_slice ht.isList hs pl pu .none (by simp) ?_ (by rw [List.size_toArray] <;> omega)
 rw [b2j, <- hlen]
 refine ⟨.ref s.heap.objs.size, _, I.laid (t' := s.toks) (o := .lst (cutV xs lo hi)) (fun b ob q => Heap.get?_push_of_some _ q) (Nat.le_refl _) ?_, rfl, q _ (I.hok.fresh (Nat.le_refl _))⟩
 exact ⟨Nat.le_trans (b1e xs lo hi) hz, _, 0, (r.drop (HT.sIx xs.length 0 lo)).take (HT.sIx xs.length xs.length hi - HT.sIx xs.length 0 lo), Heap.get?_push_size _ rfl⟩

def flatV : V -> Bool
 | .non => true
 | .bl _ => true
 | .int _ => true
 | .str _ => true
 | _ => false
def eqV : V -> V -> Bool
 | .non, .non => true
 | .bl a, .bl b => a == b
 | .bl a, .int b => (if a then 1 else 0) == b
 | .int a, .bl b => a == (if b then 1 else 0)
 | .int a, .int b => a == b
 | .str a, .str b => a == b
 | _, _ => false
theorem eqAt_V {A : Around} {s : Shared} {y x : V} {u v : Value} (ry : RelV y u) (rx : RelV x v) (fy : flatV y = true) (fx : flatV x = true) : SeqAt.EqAt A s u v (eqV y x) := by
 cases y with
 | non =>
  cases ry
  cases x with
  | non => cases rx; exact SeqAt.EqAt.same _
  | bl b => cases rx; exact SeqAt.EqAt.none_bool b
  | int b => obtain ⟨t, rfl⟩ := rx; exact SeqAt.EqAt.none_int b t
  | str b => obtain ⟨t, rfl⟩ := rx; exact SeqAt.EqAt.none_str b t
  | _ => exact absurd (show false = true from fx) Bool.false_ne_true
 | bl a =>
  cases ry
  cases x with
  | non => cases rx; exact SeqAt.EqAt.bool_none a
  | bl b => cases rx; exact SeqAt.EqAt.bool_bool a b
  | int b => obtain ⟨t, rfl⟩ := rx; exact SeqAt.EqAt.bool_int a b t
  | str b => obtain ⟨t, rfl⟩ := rx; exact SeqAt.EqAt.bool_str a b t
  | _ => exact absurd (show false = true from fx) Bool.false_ne_true
 | int a =>
  obtain ⟨t', rfl⟩ := ry
  cases x with
  | non => cases rx; exact SeqAt.EqAt.int_none a t'
  | bl b => cases rx; exact SeqAt.EqAt.int_bool a t' b
  | int b => obtain ⟨t, rfl⟩ := rx; exact SeqAt.EqAt.int_int a t' b t
  | str b => obtain ⟨t, rfl⟩ := rx; exact SeqAt.EqAt.int_str a t' b t
  | _ => exact absurd (show false = true from fx) Bool.false_ne_true
 | str a =>
  obtain ⟨t', rfl⟩ := ry
  cases x with
  | non => cases rx; exact SeqAt.EqAt.str_none a t'
  | bl b => cases rx; exact SeqAt.EqAt.str_bool a t' b
  | int b => obtain ⟨t, rfl⟩ := rx; exact SeqAt.EqAt.str_int a t' b t
  | str b => obtain ⟨t, rfl⟩ := rx; exact SeqAt.EqAt.str_str a t' b t
  | _ => exact absurd (show false = true from fx) Bool.false_ne_true
 | _ => exact absurd (show false = true from fy) Bool.false_ne_true
def eqU (x : V) (u : Value) : Bool := match u with
 | .none => eqV .non x
 | .bool b => eqV (.bl b) x
 | .int i _ => eqV (.int i) x
 | .str z _ => eqV (.str z) x
 | _ => false
theorem eqU_of {x y : V} {u : Value} (r : RelV y u) (f : flatV y = true) : eqU x u = eqV y x := by
 cases y with
 | non => cases r; rfl
 | bl b => cases r; rfl
 | int i => obtain ⟨t, rfl⟩ := r; rfl
 | str z => obtain ⟨t, rfl⟩ := r; rfl
 | _ => exact absurd (show false = true from f) Bool.false_ne_true
theorem mem_eqAt {A : Around} {s : Shared} {x : V} {v : Value} (rx : RelV x v) (fx : flatV x = true) : ∀ {xs : List V} {us : List Value}, Vals xs us -> xs.all flatV = true -> ∀ u ∈ us, SeqAt.EqAt A s u v (eqU x u)
 | _, _, .nil, _ => fun u hu => by cases hu
 | y :: xs, u :: us, .cons r t, f => fun u' hu => by
  rw [List.all_cons, Bool.and_eq_true] at f
  rcases List.mem_cons.mp hu with rfl | hu
  ·rw [eqU_of r f.1]; exact eqAt_V r rx f.1 fx
  ·exact mem_eqAt rx fx t f.2 u' hu
theorem call_len_seq : CallR X (.builtin "len") (fun xs H Q => ∃ p ys, xs = [.ref p] /\ (SqL X.K H p ys \/ SqT X.K H p ys) /\ Q (.int ys.length) H) := by
 intro pins s σ H xs us Q I r h
 obtain ⟨p, ys, rfl, hq, q⟩ := h
 obtain ⟨u, rfl, rx⟩ := vals1 r
 cases rx
 have hn := line63
 rcases hq with hq | hq
 ·obtain ⟨its, r', pl, hz⟩ := I.list hq
  have hlen := r'.length
  exact Calls.call_len_list pl.isList (by simp only [List.size_toArray] <;> omega) ⟨.int ys.length, H, I.tok _, ⟨s.toks + 1, by rw [List.size_toArray, hlen]⟩, q⟩
 ·obtain ⟨its, r', pl, hz⟩ := I.tuple hq
  have hlen := r'.length
  exact len_tuple pl (by simp only [List.size_toArray] <;> omega) ⟨.int ys.length, H, I.tok _, ⟨s.toks + 1, by rw [List.size_toArray, hlen]⟩, q⟩
theorem call_len_str : CallR X (.builtin "len") (fun xs H Q => ∃ z, xs = [.str z] /\ z.length <= sizeLine /\ Q (.int z.length) H) := by
 intro pins s σ H xs us Q I r h
 obtain ⟨z, rfl, hz, q⟩ := h
 obtain ⟨u, rfl, t, rfl⟩ := vals1 r
 have hn := line63
 exact len_str (by omega) ⟨.int z.length, H, I.tok _, ⟨_, rfl⟩, q⟩
theorem CallR.or {f : Value} {r r' : List V -> Hp -> VK -> Prop} (h : CallR X f r) (h' : CallR X f r') : CallR X f (fun xs H Q => r xs H Q \/ r' xs H Q) := by
 intro pins s σ H xs us Q I rs q
 rcases q with q | q
 ·exact h pins s σ H xs us Q I rs q
 ·exact h' pins s σ H xs us Q I rs q
theorem a9o : CallR X (.type "list") (fun xs H Q => ∃ p ys, xs = [.ref p] /\ (SqL X.K H p ys \/ SqT X.K H p ys) /\ ∀ l, H l = none -> Q (.ref l) (upd H l (.lst ys))) := by
 intro pins s σ H xs us Q I r h
 obtain ⟨p, ys, rfl, hq, q⟩ := h
 obtain ⟨u, rfl, rx⟩ := vals1 r
 cases rx
 have fin : ∀ (its : List Value), Vals ys its -> ys.length <= sizeLine -> ∀ (h' : Heap) (c' : Nat), (∀ b o', s.heap.get? b = some o' -> h'.get? b = some o') ->
   h'.get? s.heap.objs.size = some { cls := .type "list", dict := none, data := .seq its.toArray c', slots := #[] } -> EP X pins σ Q (.ref s.heap.objs.size) { s with heap := h' } := fun its r' hz h' c' kp e =>
  ⟨.ref s.heap.objs.size, _, I.laid (t' := s.toks) kp (Nat.le_refl _) (show ObjOk X.prog X.w _ h' _ (.lst ys) from ⟨hz, its, c', r', e⟩), rfl, q _ (I.hok.fresh (Nat.le_refl _))⟩
 rcases hq with hq | hq
 ·obtain ⟨its, r', pl, hz⟩ := I.list hq
  have hlen := r'.length
  obtain ⟨o, ho, hc, n, hd⟩ := pl.isList
  exact call_list_seq p (.inl rfl) ho hc hd (fun h' c' kp e => fin its r' hz h' c' kp e) (by simp only [List.size_toArray] <;> omega)
 ·obtain ⟨its, r', pl, hz⟩ := I.tuple hq
  have hlen := r'.length
  obtain ⟨o, ho, hc, n, hd⟩ := pl
  exact call_list_seq p (.inr rfl) ho hc hd (fun h' c' kp e => fin its r' hz h' c' kp e) (by simp only [List.size_toArray] <;> omega)
theorem b3m : CallR X (.type "tuple") (fun xs H Q => ∃ p ys, xs = [.ref p] /\ ((SqL X.K H p ys /\ ∀ l, H l = none -> Q (.ref l) (upd H l (.tup ys))) \/ (SqT X.K H p ys /\ Q (.ref p) H))) := by
 intro pins s σ H xs us Q I r h
 obtain ⟨p, ys, rfl, h⟩ := h
 obtain ⟨u, rfl, rx⟩ := vals1 r
 cases rx
 rcases h with ⟨hq, q⟩ | ⟨hq, q⟩
 ·obtain ⟨its, r', pl, hz⟩ := I.list hq
  have hlen := r'.length
  refine call_tuple_list pl.isList (fun h' kp => ?_) (by simp only [List.size_toArray] <;> omega)
  have I1 : Inv X pins σ H { s with heap := h' } := I.kept (t' := s.toks) kp
  have I2 : Inv X pins σ (upd H h'.objs.size (.tup ys)) { s with heap := h'.push { cls := .type "tuple", data := .seq its.toArray } } :=
   I1.laid (t' := s.toks) (fun b o e => Heap.get?_push_of_some _ e) (Nat.le_refl _) (show ObjOk X.prog X.w _ _ _ (.tup ys) from ⟨hz, its, r', IsTup.new _ _⟩)
  exact ⟨.ref h'.objs.size, _, I2, rfl, q _ (I1.hok.fresh (Nat.le_refl _))⟩
 ·obtain ⟨its, r', pl, hz⟩ := I.tuple hq
  exact call_tuple_same pl ⟨.ref p, H, I, rfl, q⟩

def tyV (K : PySem.W.Frag) (T : String) (x : V) (H : Hp) : Prop := match x with
 | .str _ => T = "str"
 | .int _ => T = "int"
 | .ref p => (T = "list" /\ ∃ xs, SqL K H p xs) \/ (T = "tuple" /\ ∃ o, K.lookup p = some o /\ o.cls = .type "tuple" /\ o.dict = none) \/
   (T = "dict" /\ ((∃ kvs, H p = some (.dK kvs)) \/ ∃ kvs, H p = some (.dT kvs))) \/ (T = "set" /\ ∃ S n, H p = some (.set S n))
 | _ => False
theorem tyV_is {pins : List (Addr × Obj)} {σ : St} {H : Hp} {s : Shared} {T : String} {x : V} {v : Value} (I : Inv X pins σ H s) (r : RelV x v) (ty : tyV X.K T x H) :
  s.TypeIs v T /\ ∀ a, v = .ref a -> ∃ ob, s.heap.get? a = some ob /\ ob.dict = none := by
 cases x with
 | str z =>
  obtain ⟨t, rfl⟩ := r
  cases (show T = "str" from ty)
  exact ⟨typeIs_str s z t, fun _ e => nomatch e⟩
 | int i =>
  obtain ⟨t, rfl⟩ := r
  cases (show T = "int" from ty)
  exact ⟨typeIs_int s i t, fun _ e => nomatch e⟩
 | ref p =>
  cases r
  rcases ty with ⟨rfl, xs, hq⟩ | ⟨rfl, o, hk, hc, hd⟩ | ⟨rfl, hk⟩ | ⟨rfl, S, n, hk⟩
  ·obtain ⟨its, _, pl, _⟩ := I.list hq
   refine ⟨pl.isList.typeIs, fun a e => ?_⟩
   cases e
   obtain ⟨o, n, e, c, hd, _⟩ := pl
   exact ⟨o, e, hd⟩
  ·refine ⟨⟨o, I.kIn p o hk, hc⟩, fun a e => ?_⟩
   cases e
   exact ⟨o, I.kIn _ o hk, hd⟩
  ·have z : ∃ o, s.heap.get? p = some o /\ o.ExactDict := by
    rcases hk with ⟨kvs, hk⟩ | ⟨kvs, hk⟩
    ·obtain ⟨_, _, _, _, o, _, _, e, ex, _⟩ := I.hok p _ hk
     exact ⟨o, e, ex⟩
    ·obtain ⟨_, _, _, _, o, _, _, e, ex, _⟩ := I.hok p _ hk
     exact ⟨o, e, ex⟩
   obtain ⟨o, e, ex⟩ := z
   refine ⟨⟨o, e, ex.1⟩, fun a e2 => ?_⟩
   cases e2
   exact ⟨o, e, ex.2.1⟩
  ·obtain ⟨o, _, _, _, e, ex, _⟩ := I.hok p _ hk
   refine ⟨⟨o, e, ex.1⟩, fun a e2 => ?_⟩
   cases e2
   exact ⟨o, e, ex.2.1⟩
 | _ => exact False.elim ty
def tBM (K : PySem.W.Frag) (T : String) (r : V -> List V -> Hp -> VK -> Prop) (to : TE) (t : TA) : TE := fun σ H Q => to σ H fun x H1 => tyV K T x H1 /\ t σ H1 fun xs H2 => r x xs H2 Q
variable {o e : Expr} {es : List Expr} {to : TE} {t : TA} {name : Str} {apos cpos : Pos} {T id : String} {r : V -> List V -> Hp -> VK -> Prop}
theorem pe_bm (pa : PlainAttrs T) (slot : Slot T name id) (hty : typeOf (.builtin id) = pure (.type "method_descriptor")) (hm : MtR X id r) (ho : PE X o to) (ha : PA X (e :: es) t)
  (hbase : attributeBase o name X.env (eval o X.env) = eval o X.env := by rfl)
  (hfew : ((backTo cpos (starEach (e :: es) X.env)).all (fun x => !x.1) && (backToKw cpos (keywordEach [] X.env)).all (fun x => x.1.isSome)
   && decide ((e :: es).length + ([] : List Keyword).length + (if ([] : List Keyword).isEmpty then 0 else 1) < 30)) = true := by rfl)
  (hline : (apos.endLine == cpos.line) = true := by rfl) (hs : starEach (e :: es) X.env = (false, eval e X.env) :: starEach es X.env := by rfl) (hplain : (backTo cpos (starEach es X.env)).any (·.1) = false := by rfl) :
  PE X (.Call (.Attribute o name apos) (e :: es) [] cpos) (tBM X.K T r to t) := by
 intro pins s σ H Q I h
 refine wpAny_Call_method_late hbase hfew hline rfl (thn (ho pins s σ H _ I h) fun v s1 ⟨x, H1, I1, r1, ty, q1⟩ => ?_)
 obtain ⟨h1, h2⟩ := tyV_is I1 r1 ty
 refine ⟨T, id, pa, slot, hty, h1, h2, ?_⟩
 have hA := ha cpos pins s1 σ H1 _ I1 q1
 rw [hs] at hA ⊢
 refine Calls.callWith_builtin (by show (false || (backTo cpos (starEach es X.env)).any (·.1)) = false; rw [hplain] <;> rfl) (Calls.evalArgs_plain ?_)
 exact thn hA fun us s2 ⟨vs, H2, I2, r2, q2⟩ => hm pins s2 σ H2 x vs v us Q I2 r1 r2 q2
/- xs.append(e), list.index on a module's tuple .. are MtR facts of 06m -/
end
end L2

namespace L2
open PySem PySem.Spec PyProof.Rows

def MtM (X : Cx) (id : String) (r : V -> List V -> Hp -> VK -> Prop) : Prop :=
 ∀ (pins : List (Addr × Obj)) (s : Shared) (σ : St) (H : Hp) (x : V) (xs : List V) (v : Value) (us : List Value) (Q : VK), Inv X pins σ H s -> RelV x v -> Vals xs us -> r x xs H Q ->
  wpAny (model X.prog X.w) X.A (call (.builtin id) (v :: us)) (EP X pins σ Q) X.xe s

theorem Vals.one : ∀ {x : V} {us : List Value}, Vals [x] us -> ∃ u, us = [u] /\ RelV x u
 | _, _, .cons r .nil => ⟨_, rfl, r⟩
theorem Vals.reverse {xs : List V} {us : List Value} (h : Vals xs us) : Vals xs.reverse us.reverse := by
 induction h with
 | nil => exact .nil
 | cons r t ih => rw [List.reverse_cons, List.reverse_cons]; exact Vals.append ih (.cons r .nil)
theorem Vals.rep {xs : List V} {us : List Value} (h : Vals xs us) : ∀ k : Nat, Vals (List.replicate k xs).flatten (List.replicate k us).flatten
 | 0 => .nil
 | k + 1 => by
  rw [List.replicate_succ, List.replicate_succ, List.flatten_cons, List.flatten_cons]
  exact Vals.append h (Vals.rep h k)
theorem foldl_rep (its : List Value) : ∀ (k : Nat) (acc : List Value),
  List.foldl (fun x1 x2 => x1 ++ x2) acc.toArray (List.replicate k its.toArray) = (acc ++ (List.replicate k its).flatten).toArray
 | 0, acc => by simp
 | k + 1, acc => by
  have e : acc.toArray ++ its.toArray = (acc ++ its).toArray := by simp
  have e2 : (acc ++ its) ++ (List.replicate k its).flatten = acc ++ (List.replicate (k + 1) its).flatten := by
   rw [List.replicate_succ, List.flatten_cons, List.append_assoc]
  rw [<- e2, <- foldl_rep its k (acc ++ its), <- e, List.replicate_succ, List.foldl_cons]

section
variable {X : Cx} {pins : List (Addr × Obj)} {σ : St} {H : Hp} {s : Shared} {l b : Addr} {xs ys zs : List V}

theorem Inv.lset {its its' : List Value} {n : Nat} {f : Array Value -> Array Value} {t' : Nat} (I : Inv X pins σ H s) (hH : H l = some (.lst xs))
  (e : s.heap.get? l = some { cls := .type "list", data := .seq its.toArray n }) (hf : f its.toArray = its'.toArray) (hv : Vals ys its') (hz : ys.length <= sizeLine) :
  Inv X pins σ (upd H l (.lst ys)) { s with heap := s.heap.update l (Obj.mapSeq f), toks := t' } := by
 have q := PySem.IsL.update e f
 rw [hf] at q
 refine I.write (x := l) (e := l) (by rw [hH]; exact trivial) (.inl rfl) (fun b' u hb hu => (Heap.get?_update_other s.heap (Obj.mapSeq f) (Ne.symm hb)).trans hu) ⟨_, q⟩ ?_
 exact ⟨hz, its', _, hv, q⟩
theorem Inv.lnew {its : List Value} {t' : Nat} (I : Inv X pins σ H s) (hv : Vals ys its) (hz : ys.length <= sizeLine) :
  Inv X pins σ (upd H s.heap.objs.size (.lst ys)) { s with heap := s.heap.push { cls := .type "list", data := .seq its.toArray }, toks := t' } :=
 I.laid (fun _ _ q => Heap.get?_push_of_some _ q) (Nat.le_refl _) ⟨hz, its, 0, hv, Heap.get?_push_size _ rfl⟩
theorem Inv.fresh (I : Inv X pins σ H s) : H s.heap.objs.size = none := I.hok.fresh (Nat.le_refl _)
theorem Inv.lstM (I : Inv X pins σ H s) (hH : H l = some (.lst xs)) : xs.length <= sizeLine /\ ∃ (its : List Value) (n : Nat), Vals xs its /\ xs.length = its.length /\ s.heap.get? l = some { cls := .type "list", data := .seq its.toArray n } := by
 obtain ⟨z, its, n, r, e⟩ := I.hok l _ hH
 exact ⟨z, its, n, r, r.length, e⟩

theorem notLongL {n : Nat} (h : n <= sizeLine) : Builtin.List.listTooLong n = false := by
 unfold Builtin.List.listTooLong
 exact decide_eq_false (by omega)
end

section
variable {X : Cx}

def rAppend : V -> List V -> Hp -> VK -> Prop := fun x vs H Q => ∃ l xs y, x = .ref l /\ vs = [y] /\ H l = some (.lst xs) /\ xs.length < sizeLine /\ Q .non (upd H l (.lst (xs ++ [y])))
theorem b0r : MtM X "list.append" rAppend := by
 intro pins s σ H x vs v us Q I rx rv h
 obtain ⟨l, xs, y, rfl, rfl, hH, hz, q⟩ := h
 cases rx
 obtain ⟨u, rfl, ru⟩ := rv.one
 obtain ⟨z, its, n, r, hl, e⟩ := I.lstM hH
 refine call_meets F.slot_list_append ⟨_, e, rfl⟩ F.entry_list_append (F.args_list_append_2 _ _) (PySem.list_append l its.toArray n u (by rw [List.size_toArray]; omega)) ⟨e, ?_⟩
 refine ⟨.non, _, I.lset (its' := its ++ [u]) hH e (by simp) (r.append (.cons ru .nil)) ?_, rfl, q⟩
 rw [List.length_append, List.length_singleton]
 omega

def rRep : R2 := fun x y H Q => ∃ l k xs, x = .ref l /\ y = .int k /\ H l = some (.lst xs) /\ -(2 ^ 63) <= k /\ k < 2 ^ 63 /\ xs.length * k.toNat <= sizeLine /\
 ∀ p, H p = none -> Q (.ref p) (upd H p (.lst (List.replicate k.toNat xs).flatten))
theorem len_rep {α : Type} (xs : List α) (k : Nat) : (List.replicate k xs).flatten.length = k * xs.length := by
 induction k with
 | zero => simp
 | succ k ih => rw [List.replicate_succ, List.flatten_cons, List.length_append, ih, Nat.succ_mul, Nat.add_comm]
theorem op_rep : OpR X (binaryOp .Mult) rRep := by
 intro pins s σ H x y v u Q I rx ry h
 obtain ⟨l, k, xs, rfl, rfl, hH, h1, h2, hz, q⟩ := h
 cases rx
 obtain ⟨t, rfl⟩ := ry
 obtain ⟨z, its, n, r, hl, e⟩ := I.lstM hH
 have hlen : its.toArray.size * k.toNat <= sizeLine := by rw [List.size_toArray, <- hl]; exact hz
 have hcap : ¬ its.toArray.size * k.toNat > (2 ^ 63 - 1) / 8 := by
  have : (sizeLine : Nat) <= (2 ^ 63 - 1) / 8 := by decide
  omega
 have hfit : ¬ (!Builtin.List.listFitsIndex k) = true := by
  rw [fitsIndex_both h1 h2]
  exact Bool.false_ne_true
 have hlong : ¬ Builtin.List.listTooLong (its.toArray.size * k.toNat) = true := by
  rw [notLongL hlen]
  exact Bool.false_ne_true
 have hnew : List.foldl (fun x1 x2 => x1 ++ x2) #[] (List.replicate (if its.toArray.isEmpty = true then 0 else k.toNat) its.toArray) = (List.replicate k.toNat its).flatten.toArray := by
  have f0 : ∀ m : Nat, List.foldl (fun x1 x2 => x1 ++ x2) #[] (List.replicate m its.toArray) = (List.replicate m its).flatten.toArray := fun m => by
   have := foldl_rep its m []
   rw [List.nil_append] at this
   exact this
  rw [f0]
  cases its with
  | nil => simp
  | cons a r' => rw [if_neg (by simp)]
 refine wpAny_binaryOp_repeat_ref (T := "list") (U := "int") (by decide) ⟨_, e, rfl⟩ (fun s' => typeIs_int s' k t) noFill_list_mul F.fills_int_mul F.slot_int_rmul repeat_list F.slot_int_index.lookup
  (call_meets F.slot_int_rmul (typeIs_int s k t) F.entry_int_rmul (F.args_int_rmul_2 _ _) (int___rmul___int_list k t l its.toArray n)
   ⟨e, rfl, ⟨_, e, rfl⟩, call_meets F.slot_list_mul ⟨_, e, rfl⟩ F.entry_list_mul (F.args_list_mul_2 _ _) (AutoListH.list___mul___list_int_3 l its.toArray n k t hfit hcap hlong) ⟨e, ?_⟩⟩)
 rw [hnew]
 exact ⟨.ref _, _, I.lnew (t' := s.toks) (r.rep k.toNat) (by rw [len_rep, Nat.mul_comm]; exact hz), rfl, q _ I.fresh⟩

end

section
variable {prog : Program} {w : World} {A : Around} {E : Value -> Shared -> Prop} {s : Shared}
end

section
variable {X : Cx}
end
end L2

namespace Att
open PySem PySem.W PySem.Calls PyProof.Rows

theorem b0w {P : Params} {h : Heap} : ∀ (ns : List Int) (vs : List Value), WellAll P h vs (ns.map WData.int) -> IntsAre vs ns := by
 intro ns
 induction ns with
 | nil =>
  intro vs w
  rw [List.map_nil] at w
  cases w
  exact .nil
 | cons n ns ih =>
  intro vs w
  rw [List.map_cons] at w
  cases w with
  | cons a b =>
   cases a
   exact .cons _ _ (ih _ b)

theorem script_of {l : OpenLaw} {n : Nat} (hn : l.most = some n) {P : Params} {h : Heap} {args : List WData} {vals : List Value}
  (hpre : l.row.toRowW.claim.pre args = true) (hwl : WellAll P h vals args) :
  ∃ a vs ns, vals = [Value.ref a] /\ args = [WData.list (ns.map WData.int)] /\ h.get? a = some { cls := .type "list", data := .seq vs.toArray } /\ IntsAre vs ns /\ ns.length <= n := by
 have hsh : WShape.hasAll [] args [.list .int] = true := (pre_splitW hpre).1
 have hc : l.pre.holds [] { args := args } = true := (pre_splitW hpre).2
 obtain ⟨d, r, rfl, h1, h2⟩ := hasAllW_cons hsh
 obtain rfl := hasAllW_nil h2
 obtain ⟨xs, rfl, h3⟩ := hasW_list h1
 obtain ⟨ns, rfl⟩ := items_int h3
 have hlen : ns.length <= n := by
  unfold OpenLaw.pre at hc
  have h4 : (WTm.not (.lt (.lit (.int (n : Int))) (.len (.arg 0)))).holds [] { args := [.list (ns.map .int)] } = true := by
   have h4 := (holds_andW hc).1
   rw [hn] at h4
   exact h4
  have h5 := condW_of h4 (w_not (w_lt w_lit (w_len_list (w_arg rfl))))
  rw [List.length_map] at h5
  refine Nat.le_of_not_lt fun q => ?_
  have q' : (n : Int) < ((ns.length : Nat) : Int) := by omega
  first
   | (rw [decide_eq_true q'] at h5; exact absurd h5 (by decide))
   | (simp at h5; omega)
 cases hwl with
 | cons w1 w2 =>
  cases w2
  cases w1 with
  | list ho hall => exact ⟨_, _, ns, rfl, rfl, ho, b0w ns _ hall, hlen⟩

theorem post_true (l : OpenLaw) (args : List WData) : l.row.toRowW.claim.post args (.bool true) args = true :=
 postW_of (r := l.row.toRowW) (X := (true == true))
  (show WShape.has [] (.bool true) .bool = true by first | rfl | decide | simp [WShape.has, WShape.arms, WShape.armsAll])
  (show (WTm.eq .res (.lit (.bool true))).value [] { args := args, res := some (.bool true), after := args } = some (.bool (true == true)) from w_eq_bool (w_res rfl) w_lit) rfl

theorem attach_call {l : OpenLaw} {n : Nat} {q : Program} {loose : List Str} {XP : (Str -> Option Value) -> Heap -> Prop} {YP : World -> Heap -> Prop} {d : DefRec}
  (hn : l.most = some n) (hdf : d.params.defaults = [])
  (call : ∀ (w : World) (s₀ s₁ : Shared) (mg mb : Str -> Option Value) (fa : Addr) (o : Obj) (pm cd doc : Value) (a : Addr) (vs : List Value) (ns : List Int),
   Ground q loose [] XP w s₀ mg mb s₁.heap -> YP w s₁.heap ->
   s₁.heap.get? fa = some o -> o.data = .func (docDef d.name d.params d.body d.scope pm cd doc) -> s₁.heap.CodeRec cd d.name -> mg d.name = some (.ref fa) ->
   s₁.heap.get? a = some { cls := .type "list", data := .seq vs.toArray } -> IntsAre vs ns -> ns.length <= n -> s₁.gens = #[] ->
   codeAny (model l.prog w) callerA (.call (.ref fa) ⟨[.ref a], []⟩) (fun r s' => r = .ok (.ret (.bool true)) /\ OldK s₁.heap s'.heap /\ s'.os = s₁.os /\ AllBare s'.gens) s₁) :
  WalkO q loose XP YP l.row.toRowW d [] (fun f vs => PySem.call f vs) := by
 intro w s₀ s₁ mg mb G Y fa o pm cd doc dV kV ho hd hcd hD hmg hg args vals as hpre hlay hrd hwl hlo
 obtain rfl : dV = .none := Dflts.none hD hdf
 obtain rfl : kV = .none := Dflts.noKw hD
 obtain ⟨a, vs, ns, rfl, rfl, hobj, hints, hlen⟩ := script_of hn hpre hwl
 refine enter_call (codeAny_mono (call w s₀ s₁ mg mb fa o pm cd doc a vs ns G Y ho (fd_plain hd) hcd hmg hobj hints hlen hg) fun r s' hq => ?_)
 obtain ⟨rfl, h2, h3, h4⟩ := hq
 exact ⟨.inl ⟨.bool true, .bool true, [], rfl, fun _ => rfl, .bool true, post_true l _, fun _ => ⟨List.Pairwise.nil, fun _ hm => (nomatch hm)⟩⟩, h2, h3, h4⟩

section
variable {prog : Program} {w : World} {A : Around} {E : Value -> Shared -> Prop} {s : Shared} {K : Frag}

end
end Att

namespace L2
open PySem PySem.Spec PyProof.Rows

theorem vals_ints : ∀ {vs : List Value} {ns : List Int}, IntsAre vs ns -> Vals (ns.map V.int) vs
 | _, _, .nil => .nil
 | _, _, .cons n t h => .cons ⟨t, rfl⟩ (vals_ints h)

def Only (H : Hp) : Prop := ∀ b, H b = none \/ ∃ o xs, H b = some (.frz o (.lst xs))

theorem law_call {P : Program} {w : World} {K : PySem.W.Frag} {mg mb : Str -> Option Value} {CX : CXT} {k : Nat} {fa a : Addr} {fd : FuncData} {x : Str} {sp : Sp} {s₁ : Shared} {vs : List Value} {ns : List Int}
  (KX : K.In s₁.heap) (hns : s₁.heap.Ns mainGlobals mg) (hb : s₁.heap.Ns builtinsNs mb) (hbb : ∀ x : Str, x ≠ "__name__" -> mb x = bootBuiltins x) (hlim : s₁.heap.NoLimit) (hg : s₁.gens = #[])
  (ha : s₁.heap.get? a = some { cls := .type "list", data := .seq vs.toArray }) (hi : IntsAre vs ns) (hl : ns.length <= sizeLine) (hr : Room k callerA)
  (F : ∀ base : Heap, K.In base -> base.Ns mainGlobals mg -> FnOk P w K mg base CX k fa fd [x] sp) (hbind : ∀ (s : Shared) (u : Value), BindsTo s fd ⟨[u], []⟩ [(x, u)])
  (hsp : ∀ H : Hp, Only H -> SqL K H a (ns.map V.int) -> sp [.ref a] H (fun v _ => v = .bl true) fun _ _ _ => False)
  (hCX : ∀ H e s', CX [] H s₁ (fun _ _ _ => False) e s' -> False) :
  codeAny (model P w) callerA (.call (.ref fa) ⟨[.ref a], []⟩) (fun r s' => r = .ok (.ret (.bool true)) /\ OldK s₁.heap s'.heap /\ s'.os = s₁.os /\ AllBare s'.gens) s₁ := by
 have rv := vals_ints hi
 have lenV := hi.length
 have core : ∀ H : Hp, Only H -> SqL K H a (ns.map V.int) -> HOk P w H s₁.heap -> (∀ b, H b ≠ none -> b = a) -> (H a ≠ none -> K.lookup a = none) ->
   codeAny (model P w) callerA (.call (.ref fa) ⟨[.ref a], []⟩) (fun r s' => r = .ok (.ret (.bool true)) /\ OldK s₁.heap s'.heap /\ s'.os = s₁.os /\ AllBare s'.gens) s₁ := by
  intro H hO hS hok hA hK
  have base_of : ∀ {b : Addr} {o : Obj}, s₁.heap.get? b = some o -> H b = none -> (hidT s₁.heap H).get? b = some o := fun e n => hidT_get e n
  have noA : ∀ {b : Addr} {o : Obj} {es : Array DictEntry} {ep : Nat}, s₁.heap.get? b = some o -> o.data = .dict es ep -> H b = none := fun {b o es ep} e d => by
   cases q : H b with
   | none => rfl
   | some u =>
    have e' : b = a := hA b (by rw [q]; simp)
    subst e'
    rw [ha] at e; cases e
    have d' : Data.seq vs.toArray _ = Data.dict es ep := d
    cases d'
  have nsK : ∀ {b : Addr} {m : Str -> Option Value}, s₁.heap.Ns b m -> (hidT s₁.heap H).Ns b m := fun {b m} ⟨o, es, ep, e, d, r⟩ => ⟨o, es, ep, base_of e (noA e d), d, r⟩
  have hKb : K.In (hidT s₁.heap H) := fun b o e => base_of (KX b o e) (by
   cases q : H b with
   | none => rfl
   | some u =>
    have e' : b = a := hA b (by rw [q]; simp)
    subst e'
    rw [hK (by rw [q]; simp)] at e; cases e)
  have hM : Mod K mg (hidT s₁.heap H) := ⟨hKb, nsK hns, ⟨mb, nsK hb, hbb⟩, let ⟨mc, h1, h2⟩ := hlim; ⟨mc, nsK h1, h2⟩⟩
  have e0 : Env0 P w K mg (hidT s₁.heap H) callerA [] s₁ H := ⟨rfl, hM, fun b o e => of_hidT e, Nat.le_of_eq (hidT_size _ _), trivial, fun b hb => absurd (show b ∈ ([] : List Addr) from hb) (by simp), hok, .of_eq hg⟩
  refine codeAny_mono ((F _ hKb (nsK hns)).run callerA [] s₁ H ⟨[.ref a], []⟩ [.ref a] [.ref a] _ _ hr e0 (hbind s₁ (.ref a)) (.cons rfl .nil) (hsp H hO hS)) fun r s' h => ?_
  cases r with
  | error e => exact (hCX H e s' h).elim
  | ok fl =>
   cases fl with
   | next => exact False.elim h
   | brk => exact False.elim h
   | cont => exact False.elim h
   | ret u =>
    obtain ⟨v, H', os, bare, un, hok', r', q⟩ := h
    have q' : v = .bl true := q
    subst q'
    obtain rfl : u = Value.bool true := r'
    refine ⟨rfl, OldK.of_keep fun b o e => ?_, os, bare⟩
    cases q : H b with
    | none => exact un.keep b o e q (by intro z; exact absurd (show b ∈ ([] : List Addr) from z) (by simp)) (by simp)
    | some u =>
     rcases hO b with z | ⟨ob, xs, z⟩
     ·rw [q] at z; cases z
     ·have z2 := un.frzs b ob _ z
      obtain ⟨e1, _⟩ := hok b _ z
      obtain ⟨e2, _⟩ := hok' b _ z2
      rw [e] at e1; cases e1
      exact e2
 cases hk : K.lookup a with
 | some o =>
  have e := KX a o hk
  rw [ha] at e
  cases e
  refine core (fun _ => none) (fun _ => .inl rfl) (.inr ⟨_, vs.toArray, _, hk, rfl, rfl, rfl, by rw [List.size_toArray, lenV]; exact hl, by simpa using rv⟩) (fun b u z => by have z' : (none : Option HO) = some u := z; cases z') (fun b z => absurd rfl z) fun z => absurd rfl z
 | none =>
  refine core (fun b => if b = a then some (.frz { cls := .type "list", data := .seq vs.toArray } (.lst (ns.map V.int))) else none) (fun b => ?_) (.inl (.inr ⟨{ cls := .type "list", data := .seq vs.toArray }, if_pos rfl⟩)) (fun b u z => ?_) (fun b z => ?_) fun _ => hk
  ·by_cases hb : b = a
   ·exact .inr ⟨_, _, if_pos hb⟩
   ·exact .inl (if_neg hb)
  ·by_cases hb : b = a
   ·have z' := (if_pos hb).symm.trans z
    cases z'
    subst hb
    exact ⟨ha, by rw [List.length_map]; exact hl, vs, _, rv, ha⟩
   ·have z' := (if_neg hb).symm.trans z
    cases z'
  ·by_cases hb : b = a
   ·exact hb
   ·exact absurd (if_neg hb) z
end L2

namespace L2
open PySem PySem.Spec PyProof.Rows

abbrev KOf {K : PySem.W.Frag} {h : Heap} (_ : K.In h) : PySem.W.Frag := K

theorem walk_of {l : PySem.W.OpenLaw} {n k : Nat} {q : Program} {loose : List Str} {XP : (Str -> Option Value) -> Heap -> Prop} {YP : World -> Heap -> Prop} {d : DefRec} {K : Params -> PySem.W.Frag} {CX : World -> CXT} {sp : World -> Sp} {x : Str}
  (hn : l.most = some n) (hn2 : n <= sizeLine) (hdf : d.params.defaults = []) (hr : Room k callerA)
  (hY : ∀ (w : World) (h : Heap), YP w h -> (K w.params).In h)
  (F : ∀ (w : World) (mg : Str -> Option Value) (fa : Addr) (h : Heap), (K w.params).In h -> h.Ns mainGlobals mg -> mg d.name = some (.ref fa) ->
   ∃ fd : FuncData, (∀ (s : Shared) (u : Value), BindsTo s fd ⟨[u], []⟩ [(x, u)]) /\
    ∀ base : Heap, (K w.params).In base -> base.Ns mainGlobals mg -> FnOk l.prog w (K w.params) mg base (CX w) k fa fd [x] (sp w))
  (hsp : ∀ (w : World) (H : Hp) (a : Addr) (ns : List Int), ns.length <= n -> Only H -> SqL (K w.params) H a (ns.map V.int) -> sp w [.ref a] H (fun v _ => v = .bl true) fun _ _ _ => False)
  (hCX : ∀ (w : World) (H : Hp) (s : Shared) (e : Value) (s' : Shared), CX w [] H s (fun _ _ _ => False) e s' -> False) :
  PySem.W.WalkO q loose XP YP l.row.toRowW d [] (fun f vs => PySem.call f vs) := by
 refine Att.attach_call hn hdf fun w s₀ s₁ mg mb fa o pm cd doc a vs ns G Y ho hd hcd hmg hobj hints hlen hg => ?_
 have KX := hY w _ Y
 obtain ⟨fd, hb, hF⟩ := F w mg fa _ KX G.T.g hmg
 exact law_call KX G.T.g G.T.b G.T.builtins G.T.nolimit hg hobj hints (Nat.le_trans hlen hn2) hr hF hb (fun H hO hS => hsp w H a ns hlen hO hS) fun H e s' => hCX w H s₁ e s'
end L2

/- THE LAST THEOREM (shape; LID, My.* are yours):
   My.Adr: a structure of the addresses that your layer names (classes, functions); My.Txt K t: a structure (Prop) of the equations over K;
   My.txt_mk : {K} {implicit addresses ..} (e1 : nsIn K mainGlobals "law" = some (some (.ref f))) (e2 : K.lookup f = some ⟨oc, od, .func (fnOf "law" "law" params body scope dV kV doc pm an cdv ct), sl⟩) (e3 : codeIn K cdv "law" = true) .. : ∃ t, My.Txt K t

theorem PySem.Challenge.cw_LID_holds : PySem.Challenge.rw_LID.Holds := by
 w_on; o_law; k_head; (case hw => w_witness2)
 k_fill
 refine L2.walk_of (l := PySem.Challenge.rw_LID) (n := 63) (k := 40) (x := "script") (CX := fun w => ..) (sp := fun _ => My.sp_law) rfl (by decide) rfl ⟨rfl, by decide, by decide⟩ (fun w h Y => PySem.W.kIn_of Y) ?F ?S ?C
 case F =>
  intro w mg fa h KX G hmg
  have T : ∃ t, My.Txt (L2.KOf KX) t := by
   dsimp only [L2.KOf]                          -- K must stand as «<heap const> w.params» for k_is
   refine' My.txt_mk ?e1 ?e2 ?e3 ..
   (case e1 => PySem.W.k_is)                    -- in the order: a name -> its address -> its object -> its parts
   (case e2 => PySem.W.k_is)
   ..
  obtain ⟨t, T⟩ := T
  have e0 := hmg.symm.trans (PySem.W.mg_of KX G T.law)
  cases e0                                       -- fa is the law's own address
  exact ⟨_, fun s u => .of_eq rfl, fun base kb nb => My.law_fn T kb nb⟩     -- if «.of_eq rfl» comes too early: refine' ⟨_, ?b, fun base kb nb => My.law_fn T kb nb⟩; exact fun s u => .of_eq rfl
 case S => exact fun w H a ns hl hO hS => ..
 case C => exact ..
(the tactic k_is has no namespace: write k_is) -/

namespace L2
open PySem PySem.Spec PyProof.Rows

def defArgs (s : Stmt) : Arguments := match s with
 | .FunctionDef _ a _ _ _ _ _ _ _ _ => a
 | _ => { posonlyargs := [], args := [], vararg := none, kwonlyargs := [], kw_defaults := [], kwarg := none, defaults := [] }
def defBody (s : Stmt) : List Stmt := match s with
 | .FunctionDef _ _ b _ _ _ _ _ _ _ => b
 | _ => []
def defScope (s : Stmt) : Scope := match s with
 | .FunctionDef _ _ _ _ _ _ sc _ _ _ => sc
 | _ => { kind := .function, names := [], isGenerator := false, isCoroutine := false }

abbrev CX0 : CXT := fun _ _ _ _ _ _ => False
abbrev E0 : XK := fun _ _ _ => False
theorem pass0 {X : Cx} : Passes CX0 X E0 := fun _ _ _ _ _ _ _ h => h.elim

structure Fun (K : PySem.W.Frag) (x qual : Str) (st : Stmt) (f : Addr) (fd : FuncData) : Prop where
 ex : ∃ (oc : Value) (od : Option Addr) (kV doc pm : Value) (an : Option Addr) (cdv ct : Value) (osl : Array (Option Value)),
  fd = PySem.W.fnOf x qual (defArgs st) (defBody st) (defScope st) .none kV doc pm an cdv ct /\ K.lookup f = some ⟨oc, od, .func fd, osl⟩ /\ PySem.W.codeIn K cdv qual = true
 kp : PySem.W.keepIn K (.ref f) = true
section
variable {P : Program} {w : World} {K : PySem.W.Frag} {mg : Str -> Option Value} {base : Heap}
theorem Fun.ok {x qual : Str} {st : Stmt} {f : Addr} {fd : FuncData} {N ps : List Str} {k : Nat} {sp : Sp} (F : Fun K x qual st f fd) (S : FnScope N ps (defScope st)) (len : ∀ vs H Q E, sp vs H Q E -> vs.length = ps.length)
  (hbody : ∀ (cdv : Value) (A : Around) (outer : List Env) (s : Shared) (H : Hp) (vs : List V) (Q : VK) (E : XK), Room k (A.deeper (envOfC qual (defScope st) s.heap.objs.size f cdv)) -> sp vs H Q E ->
   ∃ t, PSs (cxOf CX0 P w K mg base N qual (defScope st) f cdv A outer s H E).nox (defBody st) t /\ t { nx := fun _ H' => Q .non H', rt := Q } (start N vs) H) : FnOk P w K mg base CX0 (k + 1) f fd ps sp := by
 obtain ⟨oc, od, kV, doc, pm, an, cdv, ct, osl, rfl, lk, hcd⟩ := F.ex
 refine fn_of lk hcd S len fun A outer s H vs Q E hr hsp => ?_
 obtain ⟨t, h, q⟩ := hbody cdv A outer s H vs Q E hr hsp
 exact ⟨t, h.nox, q⟩
theorem Fun.binds {x qual : Str} {st : Stmt} {f : Addr} {fd : FuncData} {ps : List Str} (F : Fun K x qual st f fd)
  (h : ∀ (kV doc pm : Value) (an : Option Addr) (cdv ct : Value) (us : List Value), us.length = ps.length -> bindArgs (PySem.W.fnOf x qual (defArgs st) (defBody st) (defScope st) .none kV doc pm an cdv ct) ⟨us, []⟩ = pure (ps.zip us)) : Binds K fd ps [] := by
 obtain ⟨oc, od, kV, doc, pm, an, cdv, ct, osl, rfl, lk, hcd⟩ := F.ex
 exact .all (h kV doc pm an cdv ct)
theorem a3a {x qual : Str} {st : Stmt} {f : Addr} {oc : Value} {od an : Option Addr} {osl : Array (Option Value)} {kV doc pm cdv ct : Value} (l : K.lookup f = some ⟨oc, od, .func (PySem.W.fnOf x qual (defArgs st) (defBody st) (defScope st) .none kV doc pm an cdv ct), osl⟩)
  (c : PySem.W.codeIn K cdv qual = true) (k : PySem.W.keepIn K (.ref f) = true) : Fun K x qual st f (PySem.W.fnOf x qual (defArgs st) (defBody st) (defScope st) .none kV doc pm an cdv ct) := ⟨⟨oc, od, kV, doc, pm, an, cdv, ct, osl, rfl, l, c⟩, k⟩
end
section
variable {X : Cx}
theorem pv (i : Nat) {x : Str} {pos : Pos} (hN : X.N[i]? = some x := by rfl) (hv : Vis X.env.scope x := by first | exact Or.inl rfl | exact Or.inr (Or.inl rfl) | exact Or.inr (Or.inr rfl)) (hd : (x == ("__debug__" : Str)) = false := by decide)
  (hcd : (x == ("__classdict__" : Str)) = false := by decide) : PE X (.Name x pos) (tVar i) := pe_var hN hv hd hcd
end

def Same (H H' : Hp) : Prop := ∀ b o, H b = some o -> H' b = some o
theorem Same.refl (H : Hp) : Same H H := fun _ _ h => h
theorem Same.trans {H H1 H2 : Hp} (a : Same H H1) (b : Same H1 H2) : Same H H2 := fun c o h => b c o (a c o h)
end L2
namespace DL
open PySem PySem.Spec PyProof.Rows L2

abbrev D := PyData
abbrev St := L2.St
structure XD where
 cls : Str
 flds : List (Str × D)
abbrev M (α : Type) := Option (Except XD α)
def M.ret {α : Type} (a : α) : M α := some (.ok a)
def M.thn {α β : Type} (r : M α) (f : α -> M β) : M β := match r with
 | none => none
 | some (.ok a) => f a
 | some (.error x) => some (.error x)
def M.lift {α : Type} (r : Option α) : M α := match r with
 | none => none
 | some a => some (.ok a)
def ok {α : Type} (G : XD -> Prop) (r : M α) (k : α -> Prop) : Prop := match r with
 | none => False
 | some (.ok a) => k a
 | some (.error x) => G x
def GS (G : XD -> Hp -> Prop) (Hr : Hp) (x : XD) : Prop := ∀ H', Same Hr H' -> G x H'
theorem a0h {α : Type} {G : XD -> Prop} {r : M α} {k k' : α -> Prop} (h : ok G r k) (f : ∀ a, k a -> k' a) : ok G r k' := by
 match r, h with
 | some (.ok a), h => exact f a h
 | some (.error x), h => exact h
theorem a0k {α β : Type} {G : XD -> Prop} {r : M α} {f : α -> M β} {k : β -> Prop} (h : ok G (r.thn f) k) : ok G r (fun a => ok G (f a) k) := by
 match r, h with
 | some (.ok a), h => exact h
 | some (.error x), h => exact h
theorem a3p {α : Type} {G : XD -> Prop} {r : Option α} {k : α -> Prop} (h : ok G (M.lift r) k) : ∃ a, r = some a /\ k a := by
 match r, h with
 | some a, h => exact ⟨a, rfl, h⟩
theorem a0s {α β : Type} (a : α) (f : α -> M β) : (M.ret a).thn f = f a := rfl
theorem thn_some {α β : Type} (a : α) (f : α -> M β) : M.thn (some (.ok a)) f = f a := rfl
theorem b0t {α : Type} (a : α) : M.lift (some a) = M.ret a := rfl

def KL (K : PySem.W.Frag) (a : Addr) (xs : List V) : Prop :=
 ∃ (o : Obj) (its : Array Value) (n : Nat), K.lookup a = some o /\ o.cls = .type "list" /\ o.dict = none /\ o.data = .seq its n /\ its.size <= sizeLine /\ Vals xs its.toList
def keyD : Key -> D
 | .inl i => .int i
 | .inr x => .str x
abbrev insD (nm : Str) (es : List (Str × D)) : D := .dict [(.none, .tuple (.str nm :: es.map fun e => .tuple [.str e.1, e.2]))]
def Mu (H : Hp) (l : Addr) : Prop := (∃ xs, H l = some (.lst xs)) \/ ∃ kvs, H l = some (.dK kvs)
mutual
inductive Rep (K : PySem.W.Frag) (O : List Addr) (H : Hp) : V -> D -> Prop
 | non : Rep K O H .non .none
 | bl (b : Bool) : Rep K O H (.bl b) (.bool b)
 | int (i : Int) : Rep K O H (.int i) (.int i)
 | str (x : Str) : Rep K O H (.str x) (.str x)
 | tup {a : Addr} {xs : List V} {ds : List D} (h : SqT K H a xs) (r : Reps K O H xs ds) : Rep K O H (.ref a) (.tuple ds)
 | lst {a : Addr} {xs : List V} {ds : List D} (h : Rd H a (.lst xs)) (n : a ∉ O) (r : Reps K O H xs ds) : Rep K O H (.ref a) (.list ds)
 | lstK {a : Addr} {xs : List V} {ds : List D} (h : KL K a xs) (r : Reps K O H xs ds) : Rep K O H (.ref a) (.list ds)
 | dct {a : Addr} {kvs : List (Key × V)} {es : List (Key × D)} (h : Rd H a (.dK kvs)) (n : a ∉ O) (hk : kvs.map (·.1) = es.map (·.1)) (r : Reps K O H (kvs.map (·.2)) (es.map (·.2))) : Rep K O H (.ref a) (.dict (es.map fun e => (keyD e.1, e.2)))
 /-- an instance of a class of the text -/
 | ins {a C dx : Addr} {nm : Str} {fs : List (Str × V)} {es : List (Str × D)} (hN : PySem.W.nsIn K mainGlobals nm = some (some (.ref C))) (h : H a = some (.ins C dx fs)) (n : a ∉ O) (hk : fs.map (·.1) = es.map (·.1)) (r : Reps K O H (fs.map (·.2)) (es.map (·.2))) : Rep K O H (.ref a) (insD nm es)
inductive Reps (K : PySem.W.Frag) (O : List Addr) (H : Hp) : List V -> List D -> Prop
 | nil : Reps K O H [] []
 | cons {v : V} {d : D} {vs : List V} {ds : List D} (r : Rep K O H v d) (rs : Reps K O H vs ds) : Reps K O H (v :: vs) (d :: ds)
end

structure To (O O' : List Addr) (H H' : Hp) : Prop where
 t : ∀ b xs, Rd H b (.tup xs) -> Rd H' b (.tup xs)
 l : ∀ b xs, b ∉ O -> Rd H b (.lst xs) -> b ∉ O' /\ Rd H' b (.lst xs)
 d : ∀ b xs, b ∉ O -> Rd H b (.dK xs) -> b ∉ O' /\ Rd H' b (.dK xs)
 i : ∀ b C dx fs, b ∉ O -> H b = some (.ins C dx fs) -> b ∉ O' /\ H' b = some (.ins C dx fs)
section
variable {K : PySem.W.Frag} {O O' : List Addr} {H H' : Hp}
theorem To.sqT (k : To O O' H H') {a : Addr} {xs : List V} (h : SqT K H a xs) : SqT K H' a xs := by
 rcases h with h | h
 ·exact .inl (k.t a xs h)
 ·exact .inr h
mutual
theorem Rep.to (k : To O O' H H') : ∀ {v : V} {d : D}, Rep K O H v d -> Rep K O' H' v d
 | _, _, .non => .non
 | _, _, .bl b => .bl b
 | _, _, .int i => .int i
 | _, _, .str x => .str x
 | _, _, .tup h r => .tup (k.sqT h) (Reps.to k r)
 | _, _, .lst h n r => .lst (k.l _ _ n h).2 (k.l _ _ n h).1 (Reps.to k r)
 | _, _, .lstK h r => .lstK h (Reps.to k r)
 | _, _, .dct h n hk r => .dct (k.d _ _ n h).2 (k.d _ _ n h).1 hk (Reps.to k r)
 | _, _, .ins hN h n hk r => .ins hN (k.i _ _ _ _ n h).2 (k.i _ _ _ _ n h).1 hk (Reps.to k r)
theorem Reps.to (k : To O O' H H') : ∀ {vs : List V} {ds : List D}, Reps K O H vs ds -> Reps K O' H' vs ds
 | _, _, .nil => .nil
 | _, _, .cons r rs => .cons (Rep.to k r) (Reps.to k rs)
end
theorem Same.rd (s : Same H H') {b : Addr} {o : HO} (h : Rd H b o) : Rd H' b o := by
 rcases h with h | ⟨u, h⟩
 ·exact .inl (s _ _ h)
 ·exact .inr ⟨u, s _ _ h⟩
theorem To.same (s : Same H H') : To O O H H' := ⟨fun b xs h => Same.rd s h, fun b xs n h => ⟨n, Same.rd s h⟩, fun b xs n h => ⟨n, Same.rd s h⟩, fun b C dx fs n h => ⟨n, s _ _ h⟩⟩
theorem To.less (s : ∀ b, b ∈ O' -> b ∈ O) : To O O' H H := ⟨fun b xs h => h, fun b xs n h => ⟨fun z => n (s b z), h⟩, fun b xs n h => ⟨fun z => n (s b z), h⟩, fun b C dx fs n h => ⟨fun z => n (s b z), h⟩⟩
theorem Rep.same (s : Same H H') {v : V} {d : D} (r : Rep K O H v d) : Rep K O H' v d := r.to (.same s)
theorem Reps.same (s : Same H H') {v : List V} {d : List D} (r : Reps K O H v d) : Reps K O H' v d := r.to (.same s)
theorem Rd.ne_new {b l : Addr} {o : HO} (h : Rd H b o) (hl : H l = none) : b ≠ l := by
 rcases h with h | ⟨u, h⟩
 ·exact a0v h hl
 ·exact a0v h hl
theorem a1l {l : Addr} {o : HO} (hl : H l = none) : Same H (upd H l o) := fun b u e => by
 rw [upd_ne (a0v e hl)]
 exact e
theorem To.own {l : Addr} {o : HO} (hl : H l = none) : To O (l :: O) H (upd H l o) :=
 ⟨fun b xs h => Same.rd (a1l hl) h, fun b xs n h => ⟨fun z => by
  rcases List.mem_cons.mp z with z | z
  ·exact Rd.ne_new h hl z
  ·exact n z, Same.rd (a1l hl) h⟩, fun b xs n h => ⟨fun z => by
  rcases List.mem_cons.mp z with z | z
  ·exact Rd.ne_new h hl z
  ·exact n z, Same.rd (a1l hl) h⟩, fun b C dx fs n h => ⟨fun z => by
  rcases List.mem_cons.mp z with z | z
  ·exact a0v h hl z
  ·exact n z, a1l hl _ _ h⟩⟩
theorem To.set {l : Addr} {xs ys : List V} (hl : H l = some (.lst xs)) (ho : l ∈ O) : To O O H (upd H l (.lst ys)) := by
 have keep : ∀ {b : Addr} {o : HO}, b ≠ l -> Rd H b o -> Rd (upd H l (.lst ys)) b o := fun {b o} hb h => by
  rcases h with h | ⟨u, h⟩
  ·exact .inl (by rw [upd_ne hb]; exact h)
  ·exact .inr ⟨u, by rw [upd_ne hb]; exact h⟩
 refine ⟨fun b zs h => keep ?_ h, fun b zs n h => ⟨n, keep (fun z => n (z ▸ ho)) h⟩, fun b zs n h => ⟨n, keep (fun z => n (z ▸ ho)) h⟩, fun b C dx fs n h => ⟨n, by rw [upd_ne (show b ≠ l from fun z => n (z ▸ ho))]; exact h⟩⟩
 rintro rfl
 rcases h with h | ⟨u, h⟩
 ·rw [hl] at h; cases h
 ·rw [hl] at h; cases h
theorem Rep.int_inv {v : V} {i : Int} (r : Rep K O H v (.int i)) : v = .int i := by cases r; rfl
theorem Rep.bool_inv {v : V} {i : Bool} (r : Rep K O H v (.bool i)) : v = .bl i := by cases r; rfl
theorem Rep.str_inv {v : V} {i : Str} (r : Rep K O H v (.str i)) : v = .str i := by cases r; rfl
theorem Rep.tup_inv {v : V} {ds : List D} (r : Rep K O H v (.tuple ds)) : ∃ a xs, v = .ref a /\ SqT K H a xs /\ Reps K O H xs ds := by
 cases r with
 | tup h r => exact ⟨_, _, rfl, h, r⟩
theorem Rep.lst_inv {v : V} {ds : List D} (r : Rep K O H v (.list ds)) : ∃ a xs, v = .ref a /\ SqL K H a xs /\ Reps K O H xs ds := by
 cases r with
 | lst h n r => exact ⟨_, _, rfl, .inl h, r⟩
 | lstK h r => exact ⟨_, _, rfl, .inr h, r⟩
def noIns : D -> Bool
 | .dict [(.none, _)] => false
 | _ => true
theorem Reps.length : ∀ {vs : List V} {ds : List D}, Reps K O H vs ds -> vs.length = ds.length
 | _, _, .nil => rfl
 | _, _, .cons _ rs => congrArg (· + 1) (Reps.length rs)
theorem Reps.get : ∀ {vs : List V} {ds : List D} {i : Nat} {d : D}, Reps K O H vs ds -> ds[i]? = some d -> ∃ v, vs[i]? = some v /\ Rep K O H v d
 | _, _, _, _, .nil, e => by simp at e
 | _, _, 0, _, .cons r _, e => by simp at e; subst e; exact ⟨_, rfl, r⟩
 | _, _, i + 1, d, .cons _ rs, e => by
  obtain ⟨u, h1, h2⟩ := Reps.get (i := i) (d := d) rs (by simpa using e)
  exact ⟨u, by simpa using h1, h2⟩
theorem Reps.append : ∀ {xs ys : List V} {ds es : List D}, Reps K O H xs ds -> Reps K O H ys es -> Reps K O H (xs ++ ys) (ds ++ es)
 | _, _, _, _, .nil, s => s
 | _, _, _, _, .cons r t, s => .cons r (Reps.append t s)
theorem Reps.take : ∀ {xs : List V} {ds : List D} (n : Nat), Reps K O H xs ds -> Reps K O H (xs.take n) (ds.take n)
 | _, _, 0, _ => .nil
 | _, _, _ + 1, .nil => .nil
 | _, _, n + 1, .cons r t => .cons r (Reps.take n t)
theorem Reps.drop : ∀ {xs : List V} {ds : List D} (n : Nat), Reps K O H xs ds -> Reps K O H (xs.drop n) (ds.drop n)
 | _, _, 0, r => r
 | _, _, _ + 1, .nil => .nil
 | _, _, n + 1, .cons _ t => Reps.drop n t
theorem Reps.ints (ns : List Int) : Reps K O H (ns.map V.int) (ns.map PyData.int) := by
 induction ns with
 | nil => exact .nil
 | cons n ns ih => exact .cons (.int n) ih
theorem Reps.atI {vs : List V} {ds : List D} {i : Int} {d : D} (r : Reps K O H vs ds) (h : L2.atI ds i = some d) : ∃ v, L2.atI vs i = some v /\ Rep K O H v d := by
 unfold L2.atI at h ⊢
 rw [r.length]
 cases e : ixN ds.length i with
 | none => rw [e] at h; cases h
 | some j =>
  rw [e] at h
  exact r.get h
end

inductive Sl where
 | un
 | vl (d : D)
 | ow (ds : List D)
 /-- a dict of one's own -/
 | od (es : List (Key × D))
 /-- an exception that is held -/
 | ex (a : Addr)
abbrev DS := List Sl
def SlOk (K : PySem.W.Frag) (O : List Addr) (H : Hp) (o : Option (Option V)) : Sl -> Prop
 | .un => True
 | .vl d => ∃ v, o = some (some v) /\ Rep K O H v d
 | .ow ds => ∃ l xs, o = some (some (.ref l)) /\ l ∈ O /\ H l = some (.lst xs) /\ Reps K O H xs ds
 | .od es => ∃ l kvs, o = some (some (.ref l)) /\ l ∈ O /\ H l = some (.dK kvs) /\ kvs.map (·.1) = es.map (·.1) /\ Reps K O H (kvs.map (·.2)) (es.map (·.2))
 | .ex a => o = some (some (.ref a))
def Sl.own : Sl -> Prop
 | .ow _ => True
 | .od _ => True
 | _ => False
theorem Mu.same {H H' : Hp} {l : Addr} (s : Same H H') (h : Mu H l) : Mu H' l := by
 rcases h with ⟨xs, h⟩ | ⟨xs, h⟩
 ·exact .inl ⟨xs, s _ _ h⟩
 ·exact .inr ⟨xs, s _ _ h⟩
theorem Mu.upd_ne {H : Hp} {a l : Addr} {o : HO} (n : a ≠ l) (h : Mu H a) : Mu (upd H l o) a := by
 rcases h with ⟨xs, h⟩ | ⟨xs, h⟩
 ·exact .inl ⟨xs, by rw [L2.upd_ne n]; exact h⟩
 ·exact .inr ⟨xs, by rw [L2.upd_ne n]; exact h⟩
theorem Mu.new {H : Hp} {a l : Addr} {o : HO} (hl : H l = none) (h : Mu H a) : Mu (upd H l o) a := h.same (a1l hl)
theorem Mu.lst {H : Hp} {l : Addr} {xs : List V} (h : H l = some (.lst xs)) : Mu H l := .inl ⟨xs, h⟩
theorem Mu.some {H : Hp} {l : Addr} (h : Mu H l) : ∃ o, H l = some o := by
 rcases h with ⟨xs, h⟩ | ⟨xs, h⟩
 ·exact ⟨_, h⟩
 ·exact ⟨_, h⟩
structure Ev (K : PySem.W.Frag) (Hr : Hp) (O : List Addr) (H : Hp) (σ : St) (δ : DS) : Prop where
 root : Same Hr H
 oo : ∀ l ∈ O, Mu H l
 len : σ.length = δ.length
 at_ : ∀ (i : Nat) (s : Sl), δ[i]? = some s -> SlOk K O H σ[i]? s
 dis : ∀ (i j : Nat) (l : Addr) (ds es : List D), i ≠ j -> δ[i]? = some (.ow ds) -> δ[j]? = some (.ow es) -> σ[i]? = some (some (.ref l)) -> σ[j]? ≠ some (some (.ref l))
section
variable {K : PySem.W.Frag} {Hr : Hp} {O : List Addr} {H H' : Hp} {σ : St} {δ : DS}
theorem Ev.same (s : Same H H') (e : Ev K Hr O H σ δ) : Ev K Hr O H' σ δ := by
 refine ⟨e.root.trans s, fun l hl => (e.oo l hl).same s, e.len, fun i sl h => ?_, e.dis⟩
 have q := e.at_ i sl h
 cases sl with
 | un => trivial
 | ex a => exact q
 | vl d =>
  obtain ⟨v, h1, r⟩ := q
  exact ⟨v, h1, r.same s⟩
 | ow ds =>
  obtain ⟨l, xs, h1, h2, h3, r⟩ := q
  exact ⟨l, xs, h1, h2, s _ _ h3, r.same s⟩
 | od es =>
  obtain ⟨l, kvs, h1, h2, h3, hk, r⟩ := q
  exact ⟨l, kvs, h1, h2, s _ _ h3, hk, r.same s⟩
theorem Ev.val {i : Nat} {d : D} (e : Ev K Hr O H σ δ) (h : δ[i]? = some (.vl d)) : ∃ v, σ[i]? = some (some v) /\ Rep K O H v d := e.at_ i _ h
theorem a2m {α : Type} {l : List α} {i j : Nat} {a : α} : (l.set i a)[j]? = if i = j then (if i < l.length then some a else none) else l[j]? := by
 rw [List.getElem?_set]
theorem Ev.set {i : Nat} {v : V} {d : D} (e : Ev K Hr O H σ δ) (r : Rep K O H v d) : Ev K Hr O H (σ.set i (some v)) (δ.set i (.vl d)) := by
 refine ⟨e.root, e.oo, by rw [List.length_set, List.length_set]; exact e.len, fun j sl h => ?_, fun j k l ds es hjk h1 h2 h3 h4 => ?_⟩
 ·rw [a2m] at h ⊢
  by_cases hij : i = j
  ·rw [if_pos hij] at h ⊢
   by_cases hl : i < δ.length
   ·rw [if_pos hl] at h
    rw [if_pos (by rw [e.len]; exact hl)]
    cases h
    exact ⟨v, rfl, r⟩
   ·rw [if_neg hl] at h; cases h
  ·rw [if_neg hij] at h ⊢
   exact e.at_ j sl h
 ·rw [a2m] at h1 h2 h3 h4
  by_cases hij : i = j
  ·rw [if_pos hij] at h1
   split at h1 <;> cases h1
  ·by_cases hik : i = k
   ·rw [if_pos hik] at h2
    split at h2 <;> cases h2
   ·rw [if_neg hij] at h1 h3
    rw [if_neg hik] at h2 h4
    exact e.dis j k l ds es hjk h1 h2 h3 h4
end
end DL
namespace DL
open PySem PySem.Spec PyProof.Rows L2

def PD (X : Cx) (G : XD -> Hp -> Prop) (e : Expr) (f : DS -> M D) : Prop :=
 ∃ t, PE X e t /\ ∀ {Hr : Hp} (δ : DS) (O : List Addr) (σ : St) (H : Hp) (Q : VK), Ev X.K Hr O H σ δ -> ok (GS G Hr) (f δ) (fun d => ∀ v H', Same H H' -> Rep X.K O H' v d -> Q v H') -> t σ H Q
def PDT (X : Cx) (G : XD -> Hp -> Prop) (e : Expr) (f : DS -> M Bool) : Prop :=
 ∃ t, PT X e t /\ ∀ {Hr : Hp} (δ : DS) (O : List Addr) (σ : St) (H : Hp) (Q : Bool -> Hp -> Prop), Ev X.K Hr O H σ δ -> ok (GS G Hr) (f δ) (fun b => ∀ H', Same H H' -> Q b H') -> t σ H Q
def PDW (X : Cx) (G : XD -> Hp -> Prop) (e : Expr) (f : DS -> M Bool) : Prop :=
 ∃ t, PW X e t /\ ∀ {Hr : Hp} (δ : DS) (O : List Addr) (σ : St) (H : Hp) (Q : Bool -> Hp -> Prop), Ev X.K Hr O H σ δ -> ok (GS G Hr) (f δ) (fun b => ∀ H', Same H H' -> Q b H') -> t σ H Q
def PDA (X : Cx) (G : XD -> Hp -> Prop) (es : List Expr) (f : DS -> M (List D)) : Prop :=
 (∀ δ ds, f δ = some (.ok ds) -> ds.length = es.length) /\ ∃ t, PA X es t /\ ∀ {Hr : Hp} (δ : DS) (O : List Addr) (σ : St) (H : Hp) (Q : List V -> Hp -> Prop), Ev X.K Hr O H σ δ -> ok (GS G Hr) (f δ) (fun ds => ∀ vs H', Same H H' -> Reps X.K O H' vs ds -> Q vs H') -> t σ H Q

section
variable {X : Cx} {G : XD -> Hp -> Prop} {a b c e : Expr} {es rest : List Expr} {f g h : DS -> M D} {fb gb : DS -> M Bool} {fa : DS -> M (List D)} {pos : Pos}

def dVar (i : Nat) : DS -> M D := fun δ => match δ[i]? with
 | some (.vl d) => M.ret d
 | _ => none
theorem a0c {i : Nat} (h : PE X e (tVar i)) : PD X G e (dVar i) := by
 refine ⟨_, h, fun δ O σ H Q E k => ?_⟩
 unfold dVar at k
 split at k
 ·rename_i d hd
  obtain ⟨v, e1, r⟩ := E.val hd
  exact ⟨v, e1, k v H (Same.refl H) r⟩
 ·exact k.elim
def dC (d : D) : DS -> M D := fun _ => M.ret d
theorem a0i {i j pos} : PD X G (.Constant (.int i) j pos) (dC (.int i)) := ⟨_, pe_int, fun _ _ _ H Q _ k => k _ H (Same.refl H) (.int i)⟩
theorem a6v {i j pos} : PD X G (.Constant (.bool i) j pos) (dC (.bool i)) := ⟨_, pe_bl, fun _ _ _ H Q _ k => k _ H (Same.refl H) (.bl i)⟩
theorem a3l {j pos} : PD X G (.Constant .none j pos) (dC .none) := ⟨_, pe_non, fun _ _ _ H Q _ k => k _ H (Same.refl H) .non⟩
theorem a2y {x j pos} : PD X G (.Constant (.str x) j pos) (dC (.str x)) := ⟨_, pe_str, fun _ _ _ H Q _ k => k _ H (Same.refl H) (.str x)⟩

def DOp (X : Cx) (sem : Value -> Value -> Sem Value) (h : D -> D -> Option D) : Prop :=
 ∃ r : R2, OpR X sem r /\ ∀ (O : List Addr) (H : Hp) (x y d : D) (v u : V) (Q : VK), (∀ l ∈ O, Mu H l) -> Rep X.K O H v x -> Rep X.K O H u y -> h x y = some d -> (∀ v' H', Same H H' -> Rep X.K O H' v' d -> Q v' H') -> r v u H Q
def d2 (h : D -> D -> Option D) (f g : DS -> M D) : DS -> M D := fun δ => (f δ).thn fun x => (g δ).thn fun y => M.lift (h x y)
theorem pd_two {r : R2} {h : D -> D -> Option D} {ta tb : TE}
  (ho : ∀ (O : List Addr) (H : Hp) (x y d : D) (v u : V) (Q : VK), (∀ l ∈ O, Mu H l) -> Rep X.K O H v x -> Rep X.K O H u y -> h x y = some d -> (∀ v' H', Same H H' -> Rep X.K O H' v' d -> Q v' H') -> r v u H Q)
  (ha : ∀ {Hr : Hp} (δ : DS) (O : List Addr) (σ : St) (H : Hp) (Q : VK), Ev X.K Hr O H σ δ -> ok (GS G Hr) (f δ) (fun d => ∀ v H', Same H H' -> Rep X.K O H' v d -> Q v H') -> ta σ H Q)
  (hb : ∀ {Hr : Hp} (δ : DS) (O : List Addr) (σ : St) (H : Hp) (Q : VK), Ev X.K Hr O H σ δ -> ok (GS G Hr) (g δ) (fun d => ∀ v H', Same H H' -> Rep X.K O H' v d -> Q v H') -> tb σ H Q)
  {Hr : Hp} (δ : DS) (O : List Addr) (σ : St) (H : Hp) (Q : VK) (E : Ev X.K Hr O H σ δ) (k : ok (GS G Hr) (d2 h f g δ) (fun d => ∀ v H', Same H H' -> Rep X.K O H' v d -> Q v H')) : tOp r ta tb σ H Q := by
 refine ha δ O σ H _ E (a0h (a0k k) fun x kx v H1 s1 rx => ?_)
 refine hb δ O σ H1 _ (E.same s1) (a0h (a0k kx) fun y ky u H2 s2 ry => ?_)
 obtain ⟨d, hd, kd⟩ := a3p ky
 exact ho O H2 x y d v u Q (E.same (s1.trans s2)).oo (rx.same s2) ry hd fun v' H3 s3 r3 => kd v' H3 ((s1.trans s2).trans s3) r3
theorem a0w {op : Operator} {h : D -> D -> Option D} (ho : DOp X (binaryOp op) h) (ha : PD X G a f) (hb : PD X G b g) : PD X G (.BinOp a op b pos) (d2 h f g) := by
 obtain ⟨r, hr, ho⟩ := ho
 obtain ⟨ta, pa, ha⟩ := ha
 obtain ⟨tb, pb, hb⟩ := hb
 exact ⟨_, pe_op hr pa pb, pd_two ho ha hb⟩
theorem a5z {op : CmpOp} {h : D -> D -> Option D} (ho : DOp X (compareOp op) h) (ha : PD X G a f) (hb : PD X G b g) (hm : behindInMarks op b = false) : PD X G (.Compare a [op] [b] pos) (d2 h f g) := by
 obtain ⟨r, hr, ho⟩ := ho
 obtain ⟨ta, pa, ha⟩ := ha
 obtain ⟨tb, pb, hb⟩ := hb
 exact ⟨_, pe_cmpR hr pa pb hm, pd_two ho ha hb⟩
def dB (f : DS -> M D) : DS -> M Bool := fun δ => (f δ).thn fun d => match d with
 | .bool b => M.ret b
 | _ => none
theorem ok_dB {Hr : Hp} {δ : DS} {k : Bool -> Prop} (q : ok (GS G Hr) (dB f δ) k) : ok (GS G Hr) (f δ) (fun d => ∃ b, d = .bool b /\ k b) := by
 refine a0h (a0k q) fun d z => ?_
 cases d with
 | bool b => exact ⟨b, rfl, z⟩
 | _ => exact z.elim
theorem a0m {op : CmpOp} {h : D -> D -> Option D} (ho : DOp X (compareOp op) h) (ha : PD X G a f) (hb : PD X G b g) (hm : behindInMarks op b = false) : PDT X G (.Compare a [op] [b] pos) (dB (d2 h f g)) := by
 obtain ⟨r, hr, ho⟩ := ho
 obtain ⟨ta, pa, ha⟩ := ha
 obtain ⟨tb, pb, hb⟩ := hb
 refine ⟨_, pt_cmpR hr pa pb hm, fun δ O σ H Q E k => ?_⟩
 refine pd_two ho ha hb δ O σ H _ E (a0h (ok_dB k) fun d z v H' s r => ?_)
 obtain ⟨b, rfl, z⟩ := z
 exact ⟨b, r.bool_inv, z H' s⟩
theorem a3s (he : PD X G e f) (h1 : ∀ whole, isTrue e X.env whole = (do let v <- whole; standAt e.pos; holding [v] (truthy v)) := by intro _; rfl) : PDT X G e (dB f) := by
 obtain ⟨t, p, he⟩ := he
 refine ⟨_, pt_val p h1, fun δ O σ H Q E k => ?_⟩
 refine he δ O σ H _ E (a0h (ok_dB k) fun d z v H' s r => ?_)
 obtain ⟨b, rfl, z⟩ := z
 exact ⟨b, r.bool_inv, z H' s⟩

def dAnd (fb gb : DS -> M Bool) : DS -> M Bool := fun δ => (fb δ).thn fun c => if c = true then gb δ else M.ret false
def dOr (fb gb : DS -> M Bool) : DS -> M Bool := fun δ => (fb δ).thn fun c => if c = true then M.ret true else gb δ
def dNot (fb : DS -> M Bool) : DS -> M Bool := fun δ => (fb δ).thn fun c => M.ret (!c)
theorem a8j (ha : PDT X G a fb) : PDW X G (.BoolOp .And [a] pos) fb := by
 obtain ⟨t, p, ha⟩ := ha
 exact ⟨_, pw_and1 p, ha⟩
theorem a4g (ha : PDT X G a fb) : PDW X G (.BoolOp .Or [a] pos) fb := by
 obtain ⟨t, p, ha⟩ := ha
 exact ⟨_, pw_or1 p, ha⟩
theorem a8v (ha : PDT X G a fb) (hb : PDW X G (.BoolOp .And (b :: rest) pos) gb) : PDW X G (.BoolOp .And (a :: b :: rest) pos) (dAnd fb gb) := by
 obtain ⟨t, p, ha⟩ := ha
 obtain ⟨u, q, hb⟩ := hb
 refine ⟨_, pw_and p q, fun δ O σ H Q E k => ?_⟩
 refine ha δ O σ H _ E (a0h (a0k k) fun c z H1 s1 => ?_)
 cases c with
 | true =>
  rw [if_pos rfl] at z ⊢
  exact hb δ O σ H1 Q (E.same s1) (a0h z fun b y H2 s2 => y H2 (s1.trans s2))
 | false =>
  rw [if_neg Bool.false_ne_true] at z ⊢
  exact z H1 s1
theorem a5o (ha : PDT X G a fb) (hb : PDW X G (.BoolOp .Or (b :: rest) pos) gb) : PDW X G (.BoolOp .Or (a :: b :: rest) pos) (dOr fb gb) := by
 obtain ⟨t, p, ha⟩ := ha
 obtain ⟨u, q, hb⟩ := hb
 refine ⟨_, pw_or p q, fun δ O σ H Q E k => ?_⟩
 refine ha δ O σ H _ E (a0h (a0k k) fun c z H1 s1 => ?_)
 cases c with
 | true =>
  rw [if_pos rfl] at z ⊢
  exact z H1 s1
 | false =>
  rw [if_neg Bool.false_ne_true] at z ⊢
  exact hb δ O σ H1 Q (E.same s1) (a0h z fun b y H2 s2 => y H2 (s1.trans s2))
theorem PDW.t (h : PDW X G e fb) : PDT X G e fb := by
 obtain ⟨t, p, h⟩ := h
 exact ⟨_, p.pt, h⟩
theorem a4h (ha : PDT X G a fb) : PDT X G (.UnaryOp .Not a pos) (dNot fb) := by
 obtain ⟨t, p, ha⟩ := ha
 refine ⟨_, pt_not p, fun δ O σ H Q E k => ?_⟩
 exact ha δ O σ H _ E (a0h (a0k k) fun c z H1 s1 => z H1 s1)
def dAndV (f g : DS -> M D) : DS -> M D := fun δ => (dB f δ).thn fun c => if c = true then g δ else M.ret (.bool false)
def dOrV (f g : DS -> M D) : DS -> M D := fun δ => (dB f δ).thn fun c => if c = true then M.ret (.bool true) else g δ
def dNotV (f : DS -> M D) : DS -> M D := fun δ => (dB f δ).thn fun c => M.ret (.bool (!c))
theorem b1s {op} (ha : PD X G a f) : PD X G (.BoolOp op [a] pos) f := by
 obtain ⟨t, p, ha⟩ := ha
 exact ⟨_, pe_one p, ha⟩
theorem pd_and (ha : PD X G a f) (hb : PD X G (.BoolOp .And (b :: rest) pos) g) : PD X G (.BoolOp .And (a :: b :: rest) pos) (dAndV f g) := by
 obtain ⟨t, p, ha⟩ := ha
 obtain ⟨u, q, hb⟩ := hb
 refine ⟨_, pe_and p q, fun δ O σ H Q E k => ?_⟩
 refine ha δ O σ H _ E (a0h (ok_dB (a0k k)) fun d z v H1 s1 r => ?_)
 obtain ⟨c, rfl, z⟩ := z
 refine ⟨c, r.bool_inv, ?_⟩
 cases c with
 | true =>
  rw [if_pos rfl] at z ⊢
  exact hb δ O σ H1 Q (E.same s1) (a0h z fun b y v H2 s2 => y v H2 (s1.trans s2))
 | false =>
  rw [if_neg Bool.false_ne_true] at z ⊢
  exact z _ H1 s1 (.bl false)
theorem pd_or (ha : PD X G a f) (hb : PD X G (.BoolOp .Or (b :: rest) pos) g) : PD X G (.BoolOp .Or (a :: b :: rest) pos) (dOrV f g) := by
 obtain ⟨t, p, ha⟩ := ha
 obtain ⟨u, q, hb⟩ := hb
 refine ⟨_, pe_or p q, fun δ O σ H Q E k => ?_⟩
 refine ha δ O σ H _ E (a0h (ok_dB (a0k k)) fun d z v H1 s1 r => ?_)
 obtain ⟨c, rfl, z⟩ := z
 refine ⟨c, r.bool_inv, ?_⟩
 cases c with
 | true =>
  rw [if_pos rfl] at z ⊢
  exact z _ H1 s1 (.bl true)
 | false =>
  rw [if_neg Bool.false_ne_true] at z ⊢
  exact hb δ O σ H1 Q (E.same s1) (a0h z fun b y v H2 s2 => y v H2 (s1.trans s2))
theorem pd_not (ha : PD X G a f) : PD X G (.UnaryOp .Not a pos) (dNotV f) := by
 obtain ⟨t, p, ha⟩ := ha
 refine ⟨_, pe_not p, fun δ O σ H Q E k => ?_⟩
 refine ha δ O σ H _ E (a0h (ok_dB (a0k k)) fun d z v H1 s1 r => ?_)
 obtain ⟨c, rfl, z⟩ := z
 exact ⟨c, r.bool_inv, z _ H1 s1 (.bl _)⟩
def dIf (c : DS -> M Bool) (f g : DS -> M D) : DS -> M D := fun δ => (c δ).thn fun b => if b = true then f δ else g δ
theorem pd_if (hc : PDT X G c fb) (ha : PD X G a f) (hb : PD X G b g) : PD X G (.IfExp c a b pos) (dIf fb f g) := by
 obtain ⟨t, p, hc⟩ := hc
 obtain ⟨ta, pa, ha⟩ := ha
 obtain ⟨tb, pb, hb⟩ := hb
 refine ⟨_, pe_ifExp p pa pb, fun δ O σ H Q E k => ?_⟩
 refine hc δ O σ H _ E (a0h (a0k k) fun d z H1 s1 => ?_)
 cases d with
 | true =>
  rw [if_pos rfl] at z ⊢
  exact ha δ O σ H1 Q (E.same s1) (a0h z fun b y v H2 s2 => y v H2 (s1.trans s2))
 | false =>
  rw [if_neg Bool.false_ne_true] at z ⊢
  exact hb δ O σ H1 Q (E.same s1) (a0h z fun b y v H2 s2 => y v H2 (s1.trans s2))

def dNil : DS -> M (List D) := fun _ => M.ret []
def dCons (f : DS -> M D) (g : DS -> M (List D)) : DS -> M (List D) := fun δ => (f δ).thn fun x => (g δ).thn fun xs => M.ret (x :: xs)
theorem a0e : PDA X G [] dNil := ⟨fun δ ds h => by cases h; rfl, _, pa_nil, fun _ _ _ H Q _ k => k [] H (Same.refl H) .nil⟩
theorem a0b (ha : PD X G e f) (hr : PDA X G es fa) (hs : starEach (e :: es) X.env = (false, eval e X.env) :: starEach es X.env := by rfl) : PDA X G (e :: es) (dCons f fa) := by
 obtain ⟨t, p, ha⟩ := ha
 obtain ⟨hl, u, q, hr⟩ := hr
 refine ⟨fun δ ds h => ?_, _, b0p p q hs, fun δ O σ H Q E k => ?_⟩
 ·unfold dCons at h
  cases e1 : f δ with
  | none => rw [e1] at h; cases h
  | some r =>
   rw [e1] at h
   cases r with
   | error x => cases h
   | ok x =>
    cases e2 : fa δ with
    | none => rw [thn_some, e2] at h; cases h
    | some r2 =>
     rw [thn_some, e2] at h
     cases r2 with
     | error x => cases h
     | ok xs =>
      cases h
      rw [List.length_cons, List.length_cons, hl δ xs e2]
 ·refine ha δ O σ H _ E (a0h (a0k k) fun d z v H1 s1 r => ?_)
  refine hr δ O σ H1 _ (E.same s1) (a0h (a0k z) fun ds y vs H2 s2 rs => ?_)
  exact y (v :: vs) H2 (s1.trans s2) (.cons (r.same s2) rs)
def small (n : Nat) : Bool := decide (n <= 16000000)
theorem a2a {n : Nat} (h : small n = true) : n <= sizeLine := by
 have := of_decide_eq_true h
 rw [sizeLine_eq]
 omega
def dTup (fa : DS -> M (List D)) : DS -> M D := fun δ => (fa δ).thn fun ds => if small ds.length then M.ret (.tuple ds) else none
def dLst (fa : DS -> M (List D)) : DS -> M D := fun δ => (fa δ).thn fun ds => if small ds.length then M.ret (.list ds) else none
theorem a7p {K : PySem.W.Frag} {O : List Addr} {H : Hp} {p : Addr} {vs : List V} {ds : List D} (hp : H p = none) (r : Reps K O H vs ds) : Rep K O (upd H p (.tup vs)) (.ref p) (.tuple ds) :=
 .tup (SqT.of a1i) (r.same (a1l hp))
theorem pd_tup {x1} (h : PDA X G es fa) : PD X G (.Tuple es x1 pos) (dTup fa) := by
 obtain ⟨_, t, p, h⟩ := h
 refine ⟨_, pe_tup p, fun δ O σ H Q E k => ?_⟩
 refine h δ O σ H _ E (a0h (a0k k) fun ds z vs H1 s1 rs => ?_)
 by_cases hz : small ds.length = true
 ·rw [if_pos hz] at z
  exact ⟨by rw [rs.length]; exact a2a hz, fun p hp => z _ _ (s1.trans (a1l hp)) (a7p hp rs)⟩
 ·rw [if_neg hz] at z
  exact z.elim
end
end DL
namespace DL
open PySem PySem.Spec PyProof.Rows L2

section
variable {X : Cx} {G : XD -> Hp -> Prop} {a b c e : Expr} {es rest : List Expr} {f g h : DS -> M D} {fb gb : DS -> M Bool} {fa : DS -> M (List D)} {pos : Pos}
def ii (h : Int -> Int -> Option D) : D -> D -> Option D
 | .int i, .int j => h i j
 | _, _ => none
theorem ii_some {h : Int -> Int -> Option D} {x y d : D} (e : ii h x y = some d) : ∃ i j, x = .int i /\ y = .int j /\ h i j = some d := by
 unfold ii at e
 split at e
 ·exact ⟨_, _, rfl, rfl, e⟩
 ·cases e
theorem dop_I0 {sem : Value -> Value -> Sem Value} {g : Int -> Int -> V} {gd : Int -> Int -> D} (h : OpR X sem (rI0 g)) (hg : ∀ O H i j, Rep X.K O H (g i j) (gd i j)) : DOp X sem (ii fun i j => some (gd i j)) := by
 refine ⟨_, h, fun O H x y d v u Q oo rx ry e k => ?_⟩
 obtain ⟨i, j, rfl, rfl, e⟩ := ii_some e
 cases e
 exact ⟨i, j, rx.int_inv, ry.int_inv, k _ H (Same.refl H) (hg O H i j)⟩
theorem dop_IC {sem : Value -> Value -> Sem Value} {C : Int -> Int -> Prop} {B : Int -> Int -> Bool} {g : Int -> Int -> V} {gd : Int -> Int -> D} (h : OpR X sem (rI C g)) (hC : ∀ i j, B i j = true -> C i j) (hg : ∀ O H i j, Rep X.K O H (g i j) (gd i j)) :
  DOp X sem (ii fun i j => if B i j = true then some (gd i j) else none) := by
 refine ⟨_, h, fun O H x y d v u Q oo rx ry e k => ?_⟩
 obtain ⟨i, j, rfl, rfl, e1⟩ := ii_some e
 by_cases hb : B i j = true
 ·rw [if_pos hb] at e1
  cases e1
  exact ⟨i, j, rx.int_inv, ry.int_inv, hC i j hb, k _ H (Same.refl H) (hg O H i j)⟩
 ·rw [if_neg hb] at e1; cases e1
abbrev oSub : D -> D -> Option D := ii fun i j => some (.int (i - j))
def bMul (i j : Int) : Bool := decide ((-18446744073709551616 < i /\ i < 18446744073709551616) \/ (-18446744073709551616 < j /\ j < 18446744073709551616))
abbrev oMul : D -> D -> Option D := ii fun i j => if bMul i j = true then some (.int (i * j)) else none
def bDiv (j : Int) : Bool := decide (0 < j /\ j < 1267650600228229401496703205376)
abbrev oDiv : D -> D -> Option D := ii fun i j => if bDiv j = true then some (.int (i / j)) else none
abbrev oMod : D -> D -> Option D := ii fun i j => if decide (0 < j) = true then some (.int (i % j)) else none
def bPow (i j : Int) : Bool := decide (0 <= j /\ j <= 1000000 /\ i.natAbs < 18446744073709551616)
abbrev oPow : D -> D -> Option D := ii fun i j => if bPow i j = true then some (.int (i ^ j.toNat)) else none
theorem b3i : DOp X (binaryOp .Sub) oSub := dop_I0 op_sub fun _ _ _ _ => .int _
theorem dop_mul : DOp X (binaryOp .Mult) oMul := dop_IC op_mul (fun i j h => by
 have h := of_decide_eq_true h
 unfold CMul
 have e : (2 : Int) ^ 64 = 18446744073709551616 := by decide
 rw [e]
 exact h) fun _ _ _ _ => .int _
theorem natAbs_log2 {j : Int} (h : 0 < j /\ j < 1267650600228229401496703205376) : j.natAbs.log2 < 9000 := by
 have h2 : j.natAbs < 2 ^ 100 := by
  have e : (2 : Nat) ^ 100 = 1267650600228229401496703205376 := by decide
  omega
 exact Nat.lt_trans ((Nat.log2_lt (by omega)).mpr h2) (by decide)
theorem op_fdivW : OpR X (binaryOp .FloorDiv) (rI (fun _ j => 0 < j /\ j < 1267650600228229401496703205376) fun i j => .int (i / j)) := opI fun i j _ _ _ _ _ hc q => by
 rw [<- Int.fdiv_eq_ediv_of_nonneg _ (Int.le_of_lt hc.1)] at q
 exact floordiv_int (by omega) q (.inl (PyProof.noPylong_of_log2 (natAbs_log2 hc)))
theorem a5a : DOp X (binaryOp .FloorDiv) oDiv := dop_IC op_fdivW (fun i j h => of_decide_eq_true h) fun _ _ _ _ => .int _
theorem a2o : DOp X (binaryOp .Mod) oMod := dop_IC op_mod (fun i j h => of_decide_eq_true h) fun _ _ _ _ => .int _
theorem dop_pow : DOp X (binaryOp .Pow) oPow := dop_IC op_pow (fun i j h => by
 have h := of_decide_eq_true h
 unfold CPow
 have e : (2 : Nat) ^ 64 = 18446744073709551616 := by decide
 rw [e]
 exact h) fun _ _ _ _ => .int _
abbrev oLt : D -> D -> Option D := ii fun i j => some (.bool (decide (i < j)))
abbrev oGt : D -> D -> Option D := ii fun i j => some (.bool (decide (j < i)))
theorem dop_lt : DOp X (compareOp .Lt) oLt := dop_I0 op_lt fun _ _ _ _ => .bl _
theorem b2a : DOp X (compareOp .Gt) oGt := dop_I0 op_gt fun _ _ _ _ => .bl _
theorem nin {O : List Addr} {H : Hp} (oo : ∀ l ∈ O, Mu H l) {p : Addr} (hp : H p = none) : p ∉ O := fun z => by
 obtain ⟨o, ho⟩ := (oo p z).some
 rw [hp] at ho; cases ho
theorem a6g {K : PySem.W.Frag} {O : List Addr} {H : Hp} {p : Addr} {vs : List V} {ds : List D} (oo : ∀ l ∈ O, Mu H l) (hp : H p = none) (r : Reps K O H vs ds) : Rep K O (upd H p (.lst vs)) (.ref p) (.list ds) :=
 .lst (.inl a1i) (nin oo hp) (r.same (a1l hp))
theorem op_cat0 : OpR X (binaryOp .Add) (fun x y H Q => ∃ a b ys, x = .ref a /\ y = .ref b /\ SqT X.K H a [] /\ SqT X.K H b ys /\ Q (.ref b) H) := by
 intro pins s σ H x y v u Q I rx ry h
 obtain ⟨a, b, ys, rfl, rfl, ha, hb, q⟩ := h
 cases rx
 cases ry
 obtain ⟨its, r1, p1, _⟩ := I.tuple ha
 obtain ⟨its2, r2, p2, _⟩ := I.tuple hb
 cases r1
 obtain ⟨⟨cls, dd, data, sl⟩, ho, hc, n, hd⟩ := id p1
 obtain ⟨⟨cls2, dd2, data2, sl2⟩, ho2, hc2, n2, hd2⟩ := id p2
 simp only at hc hd hc2 hd2
 subst hc hd hc2 hd2
 exact concat_meets ⟨_, ho, rfl⟩ ⟨_, ho2, rfl⟩ noFill_tuple_add seq_tuple_add PySem.F.slot_tuple_add PySem.F.entry_tuple_add (PySem.F.args_tuple_add_2 _ _)
  (tuple_addW0 a b _ its2.toArray n n2 dd dd2 sl sl2 rfl) ⟨ho, ho2, ⟨.ref b, H, I, rfl, q⟩⟩
theorem op_catS : OpR X (binaryOp .Add) (fun x y H Q => ∃ l b xs zs, x = .ref l /\ y = .ref b /\ SqL X.K H l xs /\ SqL X.K H b zs /\ xs.length + zs.length <= sizeLine /\ ∀ p, H p = none -> Q (.ref p) (upd H p (.lst (xs ++ zs)))) := by
 intro pins s σ H x y v u Q I rx ry h
 obtain ⟨l, b, xs, zs, rfl, rfl, hH, hB, hz, q⟩ := h
 cases rx
 cases ry
 obtain ⟨its, r, ⟨⟨cls, dd, data, sl⟩, n, e, hc, hdd, hd⟩, z⟩ := I.list hH
 obtain ⟨its2, r2, ⟨⟨cls2, dd2, data2, sl2⟩, n2, e2, hc2, hdd2, hd2⟩, z2⟩ := I.list hB
 have hl := r.length
 have hl2 := r2.length
 simp only at hc hd hc2 hd2 hdd hdd2
 subst hc hd hc2 hd2 hdd hdd2
 have ea : its.toArray ++ its2.toArray = (its ++ its2).toArray := by simp
 refine concat_meets ⟨_, e, rfl⟩ ⟨_, e2, rfl⟩ noFill_list_add seq_list_add PySem.F.slot_list_add PySem.F.entry_list_add (PySem.F.args_list_add_2 _ _) (list_addW l b its.toArray its2.toArray n n2 none none sl sl2 (by rw [List.size_toArray, List.size_toArray]; omega)) ⟨e, e2, ?_⟩
 rw [ea]
 exact ⟨.ref _, _, I.lnew (t' := s.toks) (r.append r2) (by rw [List.length_append]; omega), rfl, q _ I.fresh⟩
def oAdd : D -> D -> Option D
 | .int i, .int j => some (.int (i + j))
 | .str i, .str j => if small (i.length + j.length) then some (.str (i ++ j)) else none
 | .tuple xs, .tuple ys => if small (xs.length + ys.length) then some (.tuple (xs ++ ys)) else none
 | .list xs, .list ys => if small (xs.length + ys.length) then some (.list (xs ++ ys)) else none
 | _, _ => none
theorem a0x : DOp X (binaryOp .Add) oAdd := by
 refine ⟨_, op_add.or (op_add_str.or (op_catT.or (op_cat0.or op_catS))), fun O H x y d v u Q oo rx ry e k => ?_⟩
 unfold oAdd at e
 split at e
 ·rename_i i j
  cases e
  exact .inl ⟨i, j, rx.int_inv, ry.int_inv, k _ H (Same.refl H) (.int _)⟩
 ·rename_i i j
  by_cases hz : small (i.length + j.length) = true
  ·rw [if_pos hz] at e
   cases e
   exact .inr (.inl ⟨i, j, rx.str_inv, ry.str_inv, a2a hz, k _ H (Same.refl H) (.str _)⟩)
  ·rw [if_neg hz] at e; cases e
 ·rename_i xs ys
  by_cases hz : small (xs.length + ys.length) = true
  ·rw [if_pos hz] at e
   cases e
   obtain ⟨p, vs, rfl, h1, r1⟩ := rx.tup_inv
   obtain ⟨q, ws, rfl, h2, r2⟩ := ry.tup_inv
   by_cases hx : xs = []
   ·subst hx
    cases r1
    exact .inr (.inr (.inr (.inl ⟨p, q, ws, rfl, rfl, h1, h2, k _ H (Same.refl H) (.tup h2 r2)⟩)))
   ·refine .inr (.inr (.inl ⟨p, q, vs, ws, rfl, rfl, h1, h2, fun z => ?_, by rw [r1.length, r2.length]; exact a2a hz, fun z => ?_, fun z l hl => ?_⟩))
    ·subst z
     cases r1
     exact hx rfl
    ·subst z
     have z2 := r2
     cases z2
     refine k _ H (Same.refl H) ?_
     rw [List.append_nil]
     exact .tup h1 r1
    ·exact k _ _ (a1l hl) (a7p hl (r1.append r2))
  ·rw [if_neg hz] at e; cases e
 ·rename_i xs ys
  by_cases hz : small (xs.length + ys.length) = true
  ·rw [if_pos hz] at e
   cases e
   obtain ⟨p, vs, rfl, h1, r1⟩ := rx.lst_inv
   obtain ⟨q, ws, rfl, h2, r2⟩ := ry.lst_inv
   exact .inr (.inr (.inr (.inr ⟨p, q, vs, ws, rfl, rfl, h1, h2, by rw [r1.length, r2.length]; exact a2a hz, fun l hl => k _ _ (a1l hl) (a6g oo hl (r1.append r2))⟩)))
  ·rw [if_neg hz] at e; cases e
 ·cases e

mutual
theorem Rep.reads {pins : List (Addr × Obj)} {σ : St} {H : Hp} {s : Shared} {O : List Addr} (I : Inv X pins σ H s) : ∀ {v : V} {d : D} {u : Value}, d.canLay0 = true -> Rep X.K O H v d -> RelV v u -> ∃ as, Reads s.heap u d as
 | _, _, u, _, .non, q => by cases (show u = Value.none from q); exact ⟨_, .none⟩
 | _, _, u, _, .bl b, q => by cases (show u = Value.bool b from q); exact ⟨_, .bool b⟩
 | _, _, u, _, .int i, q => by obtain ⟨t, rfl⟩ := (show ∃ t, u = Value.int i t from q); exact ⟨_, .int i t⟩
 | _, _, u, _, .str x, q => by obtain ⟨t, rfl⟩ := (show ∃ t, u = Value.str x t from q); exact ⟨_, .str x t⟩
 | .ref a, _, u, hc, .tup h r, q => by
  cases (show u = Value.ref a from q)
  obtain ⟨its, rv, ⟨o, h1, h2, n, h3⟩, _⟩ := I.tuple h
  obtain ⟨as, ra⟩ := Reps.reads I (by simpa [PyData.canLay0] using hc) r rv
  exact ⟨_, .tuple h1 h2 h3 ra⟩
 | .ref a, _, u, hc, .lst h n r, q => by
  cases (show u = Value.ref a from q)
  obtain ⟨its, rv, ⟨o, n, h1, h2, _, h3⟩, _⟩ := I.list (.inl h)
  obtain ⟨as, ra⟩ := Reps.reads I (by simpa [PyData.canLay0] using hc) r rv
  exact ⟨_, .list h1 h2 h3 ra⟩
 | .ref a, _, u, hc, .lstK h r, q => by
  cases (show u = Value.ref a from q)
  obtain ⟨its, rv, ⟨o, n, h1, h2, _, h3⟩, _⟩ := I.list (.inr h)
  obtain ⟨as, ra⟩ := Reps.reads I (by simpa [PyData.canLay0] using hc) r rv
  exact ⟨_, .list h1 h2 h3 ra⟩
 | .ref a, _, u, hc, .dct _ _ _ _, q => by simp [PyData.canLay0] at hc
 | .ref a, _, u, hc, .ins _ _ _ _ _, q => by simp [PyData.canLay0, insD] at hc
theorem Reps.reads {pins : List (Addr × Obj)} {σ : St} {H : Hp} {s : Shared} {O : List Addr} (I : Inv X pins σ H s) : ∀ {vs : List V} {ds : List D} {us : List Value}, PyData.canLayAll0 ds = true -> Reps X.K O H vs ds -> Vals vs us -> ∃ as, ReadsAll s.heap us ds as
 | _, _, _, _, .nil, q => by cases q; exact ⟨_, .nil⟩
 | _, _, _, hc, .cons r rs, q => by
  rw [PyData.canLayAll0, Bool.and_eq_true] at hc
  cases q with
  | cons p ps =>
   obtain ⟨as, h1⟩ := Rep.reads I hc.1 r p
   obtain ⟨bs, h2⟩ := Reps.reads I hc.2 rs ps
   exact ⟨_, .cons h1 h2⟩
end
def flat (x y : D) : Bool := x.canLay0 && y.canLay0 && decide (min x.depth y.depth <= 60)
def oEq (x y : D) : Option D := if flat x y = true then some (.bool (PyData.eqv x y)) else none
def oNe (x y : D) : Option D := if flat x y = true then some (.bool (!PyData.eqv x y)) else none
def rDat (X : Cx) (p : D -> D -> Bool) : R2 := fun v u H Q => ∃ O x y, Rep X.K O H v x /\ Rep X.K O H u y /\ flat x y = true /\ Q (.bl (p x y)) H
theorem flat_of {x y : D} (h : flat x y = true) : x.canLay0 = true /\ y.canLay0 = true /\ min x.depth y.depth <= 60 := by
 unfold flat at h
 rw [Bool.and_eq_true, Bool.and_eq_true] at h
 exact ⟨h.1.1, h.1.2, of_decide_eq_true h.2⟩
theorem op_eqD (hu : X.A.units + 64 < cLine) : OpR X (compareOp .Eq) (rDat X PyData.eqv) := by
 intro pins s σ H v u v' u' Q I rv ru h
 obtain ⟨O, x, y, rx, ry, hf, q⟩ := h
 obtain ⟨h1, h2, h3⟩ := flat_of hf
 obtain ⟨as, r1⟩ := rx.reads I h1 rv
 obtain ⟨bs, r2⟩ := ry.reads I h2 ru
 exact SeqAt.compareEq_reads r1 r2 h1 h2 (by omega) ⟨.bl _, H, I, rfl, q⟩
theorem op_neD (hu : X.A.units + 64 < cLine) : OpR X (compareOp .NotEq) (rDat X fun x y => !PyData.eqv x y) := by
 intro pins s σ H v u v' u' Q I rv ru h
 obtain ⟨O, x, y, rx, ry, hf, q⟩ := h
 obtain ⟨h1, h2, h3⟩ := flat_of hf
 obtain ⟨as, r1⟩ := rx.reads I h1 rv
 obtain ⟨bs, r2⟩ := ry.reads I h2 ru
 exact SeqAt.compareNe_reads r1 r2 h1 h2 (by omega) ⟨.bl _, H, I, rfl, q⟩
theorem a4d (hu : X.A.units + 64 < cLine) : DOp X (compareOp .Eq) oEq := by
 refine ⟨_, op_eqD hu, fun O H x y d v u Q oo rx ry e k => ?_⟩
 unfold oEq at e
 by_cases hf : flat x y = true
 ·rw [if_pos hf] at e
  cases e
  exact ⟨O, x, y, rx, ry, hf, k _ H (Same.refl H) (.bl _)⟩
 ·rw [if_neg hf] at e; cases e
theorem a7x (hu : X.A.units + 64 < cLine) : DOp X (compareOp .NotEq) oNe := by
 refine ⟨_, op_neD hu, fun O H x y d v u Q oo rx ry e k => ?_⟩
 unfold oNe at e
 by_cases hf : flat x y = true
 ·rw [if_pos hf] at e
  cases e
  exact ⟨O, x, y, rx, ry, hf, k _ H (Same.refl H) (.bl _)⟩
 ·rw [if_neg hf] at e; cases e

def oIx : D -> D -> Option D
 | .tuple ds, .int i => L2.atI ds i
 | .list ds, .int i => L2.atI ds i
 | .str z, .int i => if small z.length then (L2.atI z.cps.toList i).map (fun c => .str ⟨#[c]⟩) else none
 | _, _ => none
theorem a1j (ha : PD X G a f) (hb : PD X G b g) (hs : PlainIx b) : PD X G (.Subscript a b pos) (d2 oIx f g) := by
 obtain ⟨ta, pa, ha⟩ := ha
 obtain ⟨tb, pb, hb⟩ := hb
 refine ⟨_, pe_ix ix_seq pa pb hs, pd_two (fun O H x y d v u Q oo rx ry e k => ?_) ha hb⟩
 unfold oIx at e
 split at e
 ·rename_i ds i
  obtain ⟨p, vs, rfl, h1, r1⟩ := rx.tup_inv
  obtain ⟨w, hw, rw'⟩ := r1.atI e
  exact .inr (.inl ⟨p, vs, i, w, rfl, ry.int_inv, h1, hw, k w H (Same.refl H) rw'⟩)
 ·rename_i ds i
  obtain ⟨p, vs, rfl, h1, r1⟩ := rx.lst_inv
  obtain ⟨w, hw, rw'⟩ := r1.atI e
  exact .inl ⟨p, vs, i, w, rfl, ry.int_inv, h1, hw, k w H (Same.refl H) rw'⟩
 ·rename_i z i
  by_cases hz : small z.length = true
  ·rw [if_pos hz] at e
   cases e2 : L2.atI z.cps.toList i with
   | none => rw [e2] at e; cases e
   | some c =>
    rw [e2] at e
    cases e
    exact .inr (.inr ⟨z, i, c, rx.str_inv, ry.int_inv, a2a hz, e2, k _ H (Same.refl H) (.str _)⟩)
  ·rw [if_neg hz] at e; cases e
 ·cases e
end
end DL
namespace DL
open PySem PySem.Spec PyProof.Rows L2

section
variable {X : Cx} {G : XD -> Hp -> Prop} {a b c e : Expr} {es rest : List Expr} {f g h : DS -> M D} {fb gb : DS -> M Bool} {fa : DS -> M (List D)} {pos : Pos}
def PDO (X : Cx) (G : XD -> Hp -> Prop) (e : Option Expr) (f : DS -> M (Option Int)) : Prop :=
 ∃ t, PO X e t /\ ∀ {Hr : Hp} (δ : DS) (O : List Addr) (σ : St) (H : Hp) (Q : Option Int -> Hp -> Prop), Ev X.K Hr O H σ δ -> ok (GS G Hr) (f δ) (fun d => ∀ H', Same H H' -> Q d H') -> t σ H Q
def dNoPart : DS -> M (Option Int) := fun _ => M.ret none
def dPart (f : DS -> M D) : DS -> M (Option Int) := fun δ => (f δ).thn fun d => match d with
 | .int i => M.ret (some i)
 | _ => none
theorem a2k : PDO X G none dNoPart := ⟨_, po_none, fun _ _ _ H Q _ k => k H (Same.refl H)⟩
theorem a1f (he : PD X G e f) : PDO X G (some e) (dPart f) := by
 obtain ⟨t, p, he⟩ := he
 refine ⟨_, po_some p, fun δ O σ H Q E k => ?_⟩
 refine he δ O σ H _ E (a0h (a0k k) fun d z v H1 s1 r => ?_)
 cases d with
 | int i => exact ⟨i, r.int_inv, z H1 s1⟩
 | _ => exact z.elim
def cutD {α : Type} (xs : List α) (lo hi : Option Int) : List α := (xs.drop (HT.sIx xs.length 0 lo)).take (HT.sIx xs.length xs.length hi - HT.sIx xs.length 0 lo)
theorem Reps.cut {K : PySem.W.Frag} {O : List Addr} {H : Hp} {xs : List V} {ds : List D} (r : Reps K O H xs ds) (lo hi : Option Int) : Reps K O H (cutV xs lo hi) (cutD ds lo hi) := by
 unfold cutV cutD
 rw [r.length]
 exact (r.drop _).take _
def oCut (lo hi : Option Int) : D -> Option D
 | .list ds => some (.list (cutD ds lo hi))
 | .tuple ds => if HT.sIx ds.length 0 lo = 0 /\ HT.sIx ds.length ds.length hi = ds.length then none else some (.tuple (cutD ds lo hi))
 | _ => none
variable {lo hi : Option Expr} {fl fh : DS -> M (Option Int)} {p2 : Pos}
theorem a3t (h : PDA X G es fa) : PD X G (.List es pos) (dLst fa) := by
 obtain ⟨_, t, p, h⟩ := h
 refine ⟨_, pe_lst p, fun δ O σ H Q E k => ?_⟩
 refine h δ O σ H _ E (a0h (a0k k) fun ds z vs H1 s1 rs => ?_)
 by_cases hz : small ds.length = true
 ·rw [if_pos hz] at z
  exact ⟨by rw [rs.length]; exact a2a hz, fun p hp => z _ _ (s1.trans (a1l hp)) (a6g (E.same s1).oo hp rs)⟩
 ·rw [if_neg hz] at z
  exact z.elim

def DCall (X : Cx) (fn : Value) (h : List D -> Option D) : Prop :=
 ∃ r, CallR X fn r /\ ∀ (O : List Addr) (H : Hp) (ds : List D) (d : D) (vs : List V) (Q : VK), (∀ l ∈ O, Mu H l) -> Reps X.K O H vs ds -> h ds = some d -> (∀ v' H', Same H H' -> Rep X.K O H' v' d -> Q v' H') -> r vs H Q
def dCB (h : List D -> Option D) (fa : DS -> M (List D)) : DS -> M D := fun δ => (fa δ).thn fun ds => M.lift (h ds)
theorem a0n {x : Str} {p : Pos} {id : String} {h : List D -> Option D} (hc : DCall X (.builtin id) h) (hg : Gl X x) (hm : X.mg x = none) (hv : bootBuiltins x = some (.builtin id)) (ha : PDA X G (e :: es) fa) (hn : x ≠ "__name__" := by decide) (hdb : (x == ("__debug__" : Str)) = false := by decide)
  (he : starEach (e :: es) X.env = (false, eval e X.env) :: starEach es X.env := by rfl) (hpl : (backTo pos (starEach es X.env)).any (·.1) = false := by rfl) : PD X G (.Call (.Name x p) (e :: es) [] pos) (dCB h fa) := by
 obtain ⟨r, hr, hc⟩ := hc
 obtain ⟨_, t, pa, ha⟩ := ha
 refine ⟨_, pe_callB hr hg hm hv pa hn hdb he hpl, fun δ O σ H Q E k => ?_⟩
 refine ha δ O σ H _ E (a0h (a0k k) fun ds z vs H1 s1 rs => ?_)
 obtain ⟨d, hd, z⟩ := a3p z
 exact hc O H1 ds d vs Q (E.same s1).oo rs hd fun v' H2 s2 r2 => z v' H2 (s1.trans s2) r2
theorem a4u {x : Str} {p : Pos} {id : String} {h : List D -> Option D} (hc : DCall X (.type id) h) (hg : Gl X x) (hm : X.mg x = none) (hv : bootBuiltins x = some (.type id)) (ha : PDA X G (e :: es) fa) (hn : x ≠ "__name__" := by decide) (hdb : (x == ("__debug__" : Str)) = false := by decide)
  (he : starEach (e :: es) X.env = (false, eval e X.env) :: starEach es X.env := by rfl) (hpl : (backTo pos (starEach es X.env)).any (·.1) = false := by rfl) : PD X G (.Call (.Name x p) (e :: es) [] pos) (dCB h fa) := by
 obtain ⟨r, hr, hc⟩ := hc
 obtain ⟨_, t, pa, ha⟩ := ha
 refine ⟨_, pe_callTy hr hg hm hv pa hn hdb he hpl, fun δ O σ H Q E k => ?_⟩
 refine ha δ O σ H _ E (a0h (a0k k) fun ds z vs H1 s1 rs => ?_)
 obtain ⟨d, hd, z⟩ := a3p z
 exact hc O H1 ds d vs Q (E.same s1).oo rs hd fun v' H2 s2 r2 => z v' H2 (s1.trans s2) r2
theorem reps1 {K : PySem.W.Frag} {O : List Addr} {H : Hp} {vs : List V} {d : D} (r : Reps K O H vs [d]) : ∃ v, vs = [v] /\ Rep K O H v d := by
 cases r with
 | cons r rs => cases rs; exact ⟨_, rfl, r⟩
theorem reps2 {K : PySem.W.Frag} {O : List Addr} {H : Hp} {vs : List V} {d d' : D} (r : Reps K O H vs [d, d']) : ∃ v v', vs = [v, v'] /\ Rep K O H v d /\ Rep K O H v' d' := by
 cases r with
 | cons r rs =>
  obtain ⟨v', rfl, r'⟩ := reps1 rs
  exact ⟨_, _, rfl, r, r'⟩
def oLen : List D -> Option D
 | [.list ds] => some (.int ds.length)
 | [.tuple ds] => some (.int ds.length)
 | [.str z] => if small z.length then some (.int z.length) else none
 | _ => none
theorem a0r : DCall X (.builtin "len") oLen := by
 refine ⟨_, call_len_seq.or call_len_str, fun O H ds d vs Q oo rs e k => ?_⟩
 unfold oLen at e
 split at e
 ·rename_i es
  cases e
  obtain ⟨v, rfl, r⟩ := reps1 rs
  obtain ⟨p, xs, rfl, h1, rx⟩ := r.lst_inv
  refine .inl ⟨p, xs, rfl, .inl h1, k _ H (Same.refl H) ?_⟩
  rw [rx.length]
  exact .int _
 ·rename_i es
  cases e
  obtain ⟨v, rfl, r⟩ := reps1 rs
  obtain ⟨p, xs, rfl, h1, rx⟩ := r.tup_inv
  refine .inl ⟨p, xs, rfl, .inr h1, k _ H (Same.refl H) ?_⟩
  rw [rx.length]
  exact .int _
 ·rename_i z
  by_cases hz : small z.length = true
  ·rw [if_pos hz] at e
   cases e
   obtain ⟨v, rfl, r⟩ := reps1 rs
   refine .inr ⟨z, by rw [r.str_inv], a2a hz, k _ H (Same.refl H) (.int _)⟩
  ·rw [if_neg hz] at e; cases e
 ·cases e
def oListOf : List D -> Option D
 | [.list ds] => some (.list ds)
 | [.tuple ds] => some (.list ds)
 | _ => none
theorem a6t : DCall X (.type "list") oListOf := by
 refine ⟨_, a9o, fun O H ds d vs Q oo rs e k => ?_⟩
 unfold oListOf at e
 split at e
 ·cases e
  obtain ⟨v, rfl, r⟩ := reps1 rs
  obtain ⟨p, xs, rfl, h1, rx⟩ := r.lst_inv
  exact ⟨p, xs, rfl, .inl h1, fun l hl => k _ _ (a1l hl) (a6g oo hl rx)⟩
 ·cases e
  obtain ⟨v, rfl, r⟩ := reps1 rs
  obtain ⟨p, xs, rfl, h1, rx⟩ := r.tup_inv
  exact ⟨p, xs, rfl, .inr h1, fun l hl => k _ _ (a1l hl) (a6g oo hl rx)⟩
 ·cases e

def tyD : D -> String
 | .none => "NoneType"
 | .bool _ => "bool"
 | .int _ => "int"
 | .str _ => "str"
 | .list _ => "list"
 | .tuple _ => "tuple"
 | .dict _ => "dict"
def isD (T : String) (d : D) : Bool := tyD d == T || (T == "int" && tyD d == "bool")
def KitAll (K : PySem.W.Frag) (T : String) : Prop := ∀ d : D, PySem.W.kitOne K (.type (tyD d)) (.type T) = some (isD T d)
theorem kit_int (K : PySem.W.Frag) : KitAll K "int" := fun d => by cases d <;> kernel_rfl
theorem b2z (K : PySem.W.Frag) : KitAll K "bool" := fun d => by cases d <;> kernel_rfl
theorem kit_str (K : PySem.W.Frag) : KitAll K "str" := fun d => by cases d <;> kernel_rfl
theorem a7r (K : PySem.W.Frag) : KitAll K "list" := fun d => by cases d <;> kernel_rfl
theorem call_isinst {T : String} (hk : KitAll X.K T) : CallR X (.builtin "isinstance") (fun xs H Q => ∃ v O d, xs = [v, .ty T] /\ Rep X.K O H v d /\ noIns d = true /\ Q (.bl (isD T d)) H) := by
 intro pins s σ H xs us Q I r h
 obtain ⟨v, O, d, rfl, rd, hi, q⟩ := h
 obtain ⟨u, w', rfl, r1, r2⟩ := vals2 r
 cases (show w' = Value.type T from r2)
 have fin : ∀ tk, EP X pins σ Q (.bool (isD T d)) { s with toks := tk } := fun tk => ⟨.bl _, H, I.tok _, rfl, q⟩
 have e := hk d
 cases rd with
 | non => cases (show u = Value.none from r1); exact PySem.W.kia_one PySem.W.kitx_none I.kIn True.intro e (fun z => nomatch z) fin
 | bl y => cases (show u = Value.bool y from r1); exact PySem.W.kia_one PySem.W.kitx_bool I.kIn True.intro e (fun z => nomatch z) fin
 | int i => obtain ⟨t, q⟩ := (show ∃ t, u = Value.int i t from r1); cases q; exact PySem.W.kia_one PySem.W.kitx_int I.kIn True.intro e (fun z => nomatch z) fin
 | str y => obtain ⟨t, q⟩ := (show ∃ t, u = Value.str y t from r1); cases q; exact PySem.W.kia_one PySem.W.kitx_str I.kIn True.intro e (fun z => nomatch z) fin
 | @tup a ys ds h rr =>
  cases (show u = Value.ref a from r1)
  obtain ⟨its, rv, ⟨o, h1, h2, _⟩, _⟩ := I.tuple h
  exact PySem.W.kia_one PySem.W.kitx_tuple I.kIn ⟨o, h1, h2⟩ e (fun z => nomatch z) fin
 | @lst a ys ds h n rr =>
  cases (show u = Value.ref a from r1)
  obtain ⟨its, rv, ⟨o, n, h1, h2, _⟩, _⟩ := I.list (.inl h)
  exact PySem.W.kia_one PySem.W.kitx_list I.kIn ⟨o, h1, h2⟩ e (fun z => nomatch z) fin
 | @lstK a ys ds h rr =>
  cases (show u = Value.ref a from r1)
  obtain ⟨its, rv, ⟨o, n, h1, h2, _⟩, _⟩ := I.list (.inr h)
  exact PySem.W.kia_one PySem.W.kitx_list I.kIn ⟨o, h1, h2⟩ e (fun z => nomatch z) fin
 | @dct a kvs es h n hk rr =>
  cases (show u = Value.ref a from r1)
  obtain ⟨_, _, _, _, o, _, _, h1, h2, _⟩ := h.ok I.hok
  exact PySem.W.kia_one PySem.W.kitx_dict I.kIn ⟨o, h1, h2.1⟩ e (fun z => nomatch z) fin
 | ins hN h n hk rr => cases hi
def dIs (T : String) (f : DS -> M D) : DS -> M D := fun δ => (f δ).thn fun d => if noIns d = true then M.ret (.bool (isD T d)) else none
theorem a2z {T : String} {x y : Str} {p p2 : Pos} (hx : x = "isinstance") (hk : KitAll X.K T) (hg : Gl X x) (hm : X.mg x = none) (hg2 : Gl X y) (hm2 : X.mg y = none) (hb2 : bootBuiltins y = some (.type T)) (he : PD X G e f)
  (hn2 : y ≠ "__name__" := by decide) (hd2 : (y == ("__debug__" : Str)) = false := by decide)
  (hs1 : starEach [e, .Name y p2] X.env = (false, eval e X.env) :: starEach [.Name y p2] X.env := by rfl) (hs2 : starEach [.Name y p2] X.env = (false, eval (.Name y p2) X.env) :: starEach [] X.env := by rfl)
  (hpl : (backTo pos (starEach [.Name y p2] X.env)).any (·.1) = false := by rfl) : PD X G (.Call (.Name x p) [e, .Name y p2] [] pos) (dIs T f) := by
 subst hx
 obtain ⟨t, pe, he⟩ := he
 refine ⟨_, pe_callB (call_isinst hk) hg hm boot_isinstance (b0p pe (b0p (pe_bltn (v := .ty T) hg2 hm2 hb2 rfl hn2 hd2) pa_nil hs2) hs1) (by decide) (by decide) hs1 hpl, fun δ O σ H Q E k => ?_⟩
 refine he δ O σ H _ E (a0h (a0k k) fun d z v H1 s1 r => ?_)
 by_cases hi : noIns d = true
 ·rw [if_pos hi] at z
  exact ⟨v, O, d, rfl, r, hi, z _ H1 s1 (.bl _)⟩
 ·rw [if_neg hi] at z
  exact z.elim
end
end DL
namespace DL
open PySem PySem.Spec PyProof.Rows L2

def d1 (h : D -> Option D) (f : DS -> M D) : DS -> M D := fun δ => (f δ).thn fun x => M.lift (h x)
def oNeg : D -> Option D
 | .int i => some (.int (-i))
 | _ => none
theorem a5u {X : Cx} {G : XD -> Hp -> Prop} {a : Expr} {f : DS -> M D} {pos : Pos} (ha : PD X G a f) : PD X G (.UnaryOp .USub a pos) (d1 oNeg f) := by
 obtain ⟨t, p, ha⟩ := ha
 refine ⟨_, pe_un un_neg p, fun δ O σ H Q E k => ?_⟩
 refine ha δ O σ H _ E (a0h (a0k k) fun d z v H1 s1 r => ?_)
 obtain ⟨y, hy, z⟩ := a3p z
 cases d with
 | int i => cases hy; exact ⟨i, r.int_inv, z _ H1 s1 (.int _)⟩
 | _ => cases hy

inductive Out where
 | nx (δ : DS)
 | rt (d : D)
 | bk (δ : DS)
 | ct (δ : DS)
structure EI (K : PySem.W.Frag) (Hr : Hp) (R0 : List Addr) (P0 : Addr -> Prop) (H0 : Hp) (O : List Addr) (H : Hp) (σ : St) (δ : DS) : Prop where
 ev : Ev K Hr O H σ δ
 omr : ∀ l ∈ O, l ∈ R0 \/ Hr l = none
 keep : ∀ b o, ¬ P0 b -> H0 b = some o -> H b = some o
 om : ∀ l ∈ O, l ∈ R0 \/ P0 l \/ H0 l = none
 nr1 : ∀ (i : Nat) (s : Sl) (l : Addr), δ[i]? = some s -> s.own -> σ[i]? = some (some (.ref l)) -> l ∉ R0
 sub : ∀ l ∈ R0, l ∈ O
theorem EI.nr {K : PySem.W.Frag} {Hr : Hp} {R0 : List Addr} {P0 : Addr -> Prop} {H0 : Hp} {O : List Addr} {H : Hp} {σ : St} {δ : DS} (E : EI K Hr R0 P0 H0 O H σ δ) : ∀ (i : Nat) (ds : List D) (l : Addr), δ[i]? = some (.ow ds) -> σ[i]? = some (some (.ref l)) -> l ∉ R0 := fun i ds l h1 h2 => E.nr1 i _ l h1 trivial h2
def Fin (K : PySem.W.Frag) (Hr : Hp) (R0 : List Addr) (P0 : Addr -> Prop) (H0 : Hp) (Dn : Ends) : Out -> Prop
 | .nx δ => ∀ O σ H, EI K Hr R0 P0 H0 O H σ δ -> Dn.nx σ H
 | .rt d => ∀ v H, (∀ b o, ¬ P0 b -> H0 b = some o -> H b = some o) -> Rep K R0 H v d -> Dn.rt v H
 | .bk δ => ∀ O σ H, EI K Hr R0 P0 H0 O H σ δ -> Dn.bk σ H
 | .ct δ => ∀ O σ H, EI K Hr R0 P0 H0 O H σ δ -> Dn.ct σ H
def PDS (X : Cx) (G : XD -> Hp -> Prop) (st : Stmt) (g : DS -> M Out) : Prop :=
 ∃ t, PS X st t /\ ∀ {Hr : Hp} (R0 : List Addr) (P0 : Addr -> Prop) (H0 : Hp) (δ : DS) (O : List Addr) (σ : St) (H : Hp) (Dn : Ends), EI X.K Hr R0 P0 H0 O H σ δ -> ok (GS G Hr) (g δ) (Fin X.K Hr R0 P0 H0 Dn) -> t Dn σ H
def PDSs (X : Cx) (G : XD -> Hp -> Prop) (st : List Stmt) (g : DS -> M Out) : Prop :=
 ∃ t, PSs X st t /\ ∀ {Hr : Hp} (R0 : List Addr) (P0 : Addr -> Prop) (H0 : Hp) (δ : DS) (O : List Addr) (σ : St) (H : Hp) (Dn : Ends), EI X.K Hr R0 P0 H0 O H σ δ -> ok (GS G Hr) (g δ) (Fin X.K Hr R0 P0 H0 Dn) -> t Dn σ H

section
variable {X : Cx} {G : XD -> Hp -> Prop} {a b c e : Expr} {es rest : List Expr} {f g h : DS -> M D} {fb gb : DS -> M Bool} {fa : DS -> M (List D)} {pos : Pos} {st : Stmt} {sts st1 st2 : List Stmt} {gs gt gu : DS -> M Out}
variable {K : PySem.W.Frag} {Hr : Hp} {R0 : List Addr} {P0 : Addr -> Prop} {H0 H H' : Hp} {O : List Addr} {σ : St} {δ : DS}
theorem EI.same (E : EI K Hr R0 P0 H0 O H σ δ) (s : Same H H') : EI K Hr R0 P0 H0 O H' σ δ := ⟨E.ev.same s, E.omr, fun b o n h => s _ _ (E.keep b o n h), E.om, E.nr1, E.sub⟩
theorem EI.set {i : Nat} {v : V} {d : D} (E : EI K Hr R0 P0 H0 O H σ δ) (r : Rep K O H v d) : EI K Hr R0 P0 H0 O H (σ.set i (some v)) (δ.set i (.vl d)) := by
 refine ⟨E.ev.set r, E.omr, E.keep, E.om, fun j ds l h1 ho h2 => ?_, E.sub⟩
 rw [a2m] at h1 h2
 by_cases hij : i = j
 ·rw [if_pos hij] at h1
  split at h1
  ·cases h1; exact ho.elim
  ·cases h1
 ·rw [if_neg hij] at h1 h2
  exact E.nr1 j ds l h1 ho h2
theorem EI.less (E : EI K Hr R0 P0 H0 O H σ δ) {v : V} {d : D} (r : Rep K O H v d) : Rep K R0 H v d := r.to (.less E.sub)

def gNext : DS -> M Out := fun δ => M.ret (.nx δ)
def gSeq (g h : DS -> M Out) : DS -> M Out := fun δ => (g δ).thn fun o => match o with
 | .nx δ' => h δ'
 | o => M.ret o
theorem a1g : PDSs X G [] gNext := ⟨_, pss_nil, fun R0 P0 H0 δ O σ H Dn E k => k O σ H E⟩
theorem a0j (h1 : PDS X G st gs) : PDSs X G [st] gs := by
 obtain ⟨t, p, h1⟩ := h1
 exact ⟨_, pss_one p, h1⟩
theorem a0g (h1 : PDS X G st gs) (h2 : PDSs X G sts gt) : PDSs X G (st :: sts) (gSeq gs gt) := by
 obtain ⟨t, p, h1⟩ := h1
 obtain ⟨u, q, h2⟩ := h2
 refine ⟨_, b2t p q, fun R0 P0 H0 δ O σ H Dn E k => ?_⟩
 refine h1 R0 P0 H0 δ O σ H _ E (a0h (a0k k) fun o z => ?_)
 cases o with
 | nx δ' => exact fun O' σ' H' E' => h2 R0 P0 H0 δ' O' σ' H' Dn E' z
 | rt d => exact z
 | bk δ' => exact z
 | ct δ' => exact z
def gRet (f : DS -> M D) : DS -> M Out := fun δ => (f δ).thn fun d => M.ret (.rt d)
theorem a1e (he : PD X G e f) : PDS X G (.Return (some e) pos) (gRet f) := by
 obtain ⟨t, p, he⟩ := he
 refine ⟨_, ps_ret p, fun R0 P0 H0 δ O σ H Dn E k => ?_⟩
 exact he δ O σ H _ E.ev (a0h (a0k k) fun d z v H1 s1 r => z v H1 (fun b o n q => s1 _ _ (E.keep b o n q)) ((E.same s1).less r))
def gIf (c : DS -> M Bool) (g h : DS -> M Out) : DS -> M Out := fun δ => (c δ).thn fun b => if b = true then g δ else h δ
theorem a2d (hc : PDT X G c fb) (h1 : PDSs X G st1 gs) (h2 : PDSs X G st2 gt) : PDS X G (.If c st1 st2 pos) (gIf fb gs gt) := by
 obtain ⟨t, p, hc⟩ := hc
 obtain ⟨u, q, h1⟩ := h1
 obtain ⟨w, r, h2⟩ := h2
 refine ⟨_, ps_if p q r, fun R0 P0 H0 δ O σ H Dn E k => ?_⟩
 refine hc δ O σ H _ E.ev (a0h (a0k k) fun d z H1 s1 => ?_)
 cases d with
 | true =>
  rw [if_pos rfl] at z ⊢
  exact h1 R0 P0 H0 δ O σ H1 Dn (E.same s1) z
 | false =>
  rw [if_neg Bool.false_ne_true] at z ⊢
  exact h2 R0 P0 H0 δ O σ H1 Dn (E.same s1) z
def PDG (X : Cx) (target : Expr) (g : D -> DS -> Option DS) : Prop :=
 ∃ t, PG X target t /\ ∀ {Hr : Hp} (R0 : List Addr) (P0 : Addr -> Prop) (H0 : Hp) (δ δ' : DS) (d : D) (v : V) (O : List Addr) (σ : St) (H : Hp) (Q : St -> Hp -> Prop), EI X.K Hr R0 P0 H0 O H σ δ -> Rep X.K O H v d -> g d δ = some δ' ->
  (∀ σ' H', EI X.K Hr R0 P0 H0 O H' σ' δ' -> Same H H' -> Q σ' H') -> t v σ H Q
def PDGs (X : Cx) (ts : List Expr) (g : List D -> DS -> Option DS) : Prop :=
 ∃ t, PGs X ts t /\ ∀ {Hr : Hp} (R0 : List Addr) (P0 : Addr -> Prop) (H0 : Hp) (δ δ' : DS) (ds : List D) (vs : List V) (O : List Addr) (σ : St) (H : Hp) (Q : St -> Hp -> Prop), EI X.K Hr R0 P0 H0 O H σ δ -> Reps X.K O H vs ds -> g ds δ = some δ' ->
  (∀ σ' H', EI X.K Hr R0 P0 H0 O H' σ' δ' -> Same H H' -> Q σ' H') -> t vs σ H Q
def tgN (i : Nat) : D -> DS -> Option DS := fun d δ => some (δ.set i (.vl d))
theorem a0t {i : Nat} (h : PG X e (gName i)) : PDG X e (tgN i) := by
 refine ⟨_, h, fun R0 P0 H0 δ δ' d v O σ H Q E r e k => ?_⟩
 cases e
 exact k _ H (E.set r) (Same.refl H)
def tgNil : List D -> DS -> Option DS := fun ds δ => match ds with
 | [] => some δ
 | _ => none
def tgCons (t : D -> DS -> Option DS) (u : List D -> DS -> Option DS) : List D -> DS -> Option DS := fun ds δ => match ds with
 | d :: r => (t d δ).bind (u r)
 | [] => none
theorem a8k : PDGs X [] tgNil := by
 refine ⟨_, pgs_nil, fun R0 P0 H0 δ δ' ds vs O σ H Q E r e k => ?_⟩
 cases ds with
 | nil => cases r; cases e; exact ⟨rfl, k σ H E (Same.refl H)⟩
 | cons d ds => cases e
theorem a3k {t : D -> DS -> Option DS} {u : List D -> DS -> Option DS} (h1 : PDG X e t) (h2 : PDGs X es u)
  (hs : (assignEach (e :: es) X.env).map (·.2) = assign e X.env :: (assignEach es X.env).map (·.2) := by rfl) : PDGs X (e :: es) (tgCons t u) := by
 obtain ⟨t1, p1, h1⟩ := h1
 obtain ⟨t2, p2, h2⟩ := h2
 refine ⟨_, pgs_cons p1 p2 hs, fun R0 P0 H0 δ δ' ds vs O σ H Q E r e k => ?_⟩
 cases ds with
 | nil => cases e
 | cons d ds =>
  cases r with
  | @cons v _ vs _ r rs =>
   have e : (t d δ).bind (u ds) = some δ' := e
   cases e1 : t d δ with
   | none => rw [e1] at e; cases e
   | some δ1 =>
    rw [e1] at e
    refine ⟨v, vs, rfl, h1 R0 P0 H0 δ δ1 d v O σ H _ E r e1 fun σ1 H1 E1 s1 => ?_⟩
    exact h2 R0 P0 H0 δ1 δ' ds vs O σ1 H1 Q E1 (rs.same s1) e fun σ2 H2 E2 s2 => k σ2 H2 E2 (s1.trans s2)
def tgTup (n : Nat) (u : List D -> DS -> Option DS) : D -> DS -> Option DS := fun d δ => match d with
 | .tuple ds => if ds.length = n then u ds δ else none
 | _ => none
theorem b0n {k : Nat} {u : List D -> DS -> Option DS} {n : Nat} (hc : X.calm = true) (h : PDGs X es u)
  (hn : (assignEach es X.env).length = n := by rfl) (hst : (assignEach es X.env).findIdx? (·.1) = none := by rfl) : PDG X (.Tuple es k pos) (tgTup n u) := by
 obtain ⟨t, p, h⟩ := h
 refine ⟨_, pg_tup hc p hn hst, fun R0 P0 H0 δ δ' d v O σ H Q E r e k => ?_⟩
 cases d with
 | tuple ds =>
  have e : (if ds.length = n then u ds δ else none) = some δ' := e
  by_cases hl : ds.length = n
  ·rw [if_pos hl] at e
   obtain ⟨a, xs, rfl, h1, rs⟩ := r.tup_inv
   exact ⟨a, xs, rfl, h1, by rw [rs.length]; exact hl, h R0 P0 H0 δ δ' ds xs O σ H Q E rs e k⟩
  ·rw [if_neg hl] at e; cases e
 | _ => cases e
def gAsg (f : DS -> M D) (g : D -> DS -> Option DS) : DS -> M Out := fun δ => (f δ).thn fun d => (M.lift (g d δ)).thn fun δ' => M.ret (.nx δ')
theorem a1m {i : Nat} {x : Str} {pos' : Pos} (hN : X.N.Nodup) (hi : X.N[i]? = some x) (hx : Loc X.env.scope x) (he : PD X G e f) (hs : swapsWith e (some (.Name x pos')) pos.line X.env = pure false := by rfl) (hf : X.fn x = true \/ X.env.scope.names.lookup x = some .local := by first | exact .inl rfl | exact .inr rfl | assumption) :
  PDS X G (.Assign [.Name x pos'] e pos) (gAsg f (tgN i)) := by
 obtain ⟨t, p, he⟩ := he
 refine ⟨_, ps_set hN hi hx p hs hf, fun R0 P0 H0 δ O σ H Dn E k => ?_⟩
 refine he δ O σ H _ E.ev (a0h (a0k k) fun d z v H1 s1 r => ?_)
 obtain ⟨δ', hd, z⟩ := a3p (a0k z)
 cases hd
 exact z O _ H1 ((E.same s1).set r)

def forD (body : D -> DS -> M Out) : List D -> DS -> M Out
 | [], δ => M.ret (.nx δ)
 | x :: xs, δ => (body x δ).thn fun o => match o with
  | .nx δ' => forD body xs δ'
  | .ct δ' => forD body xs δ'
  | .bk δ' => M.ret (.nx δ')
  | .rt d => M.ret (.rt d)
def bodyD (t : D -> DS -> Option DS) (g : DS -> M Out) : D -> DS -> M Out := fun d δ => (M.lift (t d δ)).thn g
def seqD : D -> Option (List D)
 | .list ds => some ds
 | .tuple ds => some ds
 | _ => none
def iSeq (K : PySem.W.Frag) (tl : TE) : TI := fun σ H R => tl σ H fun x H1 => ∃ a, x = .ref a /\ (((∃ xs, SqL K H1 a xs) /\ R (Itl K a) H1) \/ ((∃ xs, SqT K H1 a xs) /\ R (Itt K a) H1))
theorem pi_seq {tg l : Expr} {tl : TE} (hl : PE X l tl) : PI X tg l (iSeq X.K tl) := by
 intro pins s σ H R I h
 refine thn (hl pins s σ H _ I h) fun v s1 ⟨x, H1, I1, r1, q1⟩ => ?_
 obtain ⟨a, e, q⟩ := q1
 subst e
 cases r1
 rcases q with ⟨⟨xs, hq⟩, q⟩ | ⟨⟨xs, hq⟩, q⟩
 ·obtain ⟨its, rv, p, hz⟩ := I1.list hq
  refine wpAny_pyIter_list p.isList ?_
  refine ⟨s1.heap.objs.size, [s1.heap.objs.size], _, _, H1, rfl, I1.kept (t' := s1.toks) fun b o e => Heap.get?_push_of_some _ e, turn_list a _, ⟨_, Heap.get?_push_size _ rfl, rfl, rfl⟩, fun b hb => ?_, q⟩
  have e : b = s1.heap.objs.size := by simpa using hb
  subst e
  exact I1.fpOk (Nat.le_refl _) (I1.hok.fresh (Nat.le_refl _))
 ·obtain ⟨its, rv, p, hz⟩ := I1.tuple hq
  refine wpAny_pyIter_tuple (show s1.heap.IsTuple a its.toArray from p) ?_
  refine ⟨s1.heap.objs.size, [s1.heap.objs.size], _, _, H1, rfl, I1.kept (t' := s1.toks) fun b o e => Heap.get?_push_of_some _ e, turn_tuple a _, ⟨_, Heap.get?_push_size _ rfl, rfl, rfl⟩, fun b hb => ?_, q⟩
  have e : b = s1.heap.objs.size := by simpa using hb
  subst e
  exact I1.fpOk (Nat.le_refl _) (I1.hok.fresh (Nat.le_refl _))

def Ch (O R0 : List Addr) (l : Addr) : Prop := l ∈ O /\ l ∉ R0
theorem EI.noCh (E : EI K Hr R0 P0 H0 O H σ δ) {b : Addr} {o : HO} (n : ¬ P0 b) (h : H0 b = some o) : ¬ Ch O R0 b := fun ⟨z1, z2⟩ => by
 rcases E.om b z1 with q | q | q
 ·exact z2 q
 ·exact n q
 ·rw [h] at q; cases q
theorem EI.inner (E : EI K Hr R0 P0 H0 O H σ δ) : EI K Hr R0 (Ch O R0) H O H σ δ :=
 ⟨E.ev, E.omr, fun b o _ h => h, fun l hl => (Classical.em (l ∈ R0)).elim .inl fun n => .inr (.inl ⟨hl, n⟩), E.nr1, E.sub⟩
theorem EI.outer {O1 : List Addr} {H1 : Hp} {σ1 : St} {δ1 : DS} (E : EI K Hr R0 P0 H0 O H σ δ) (E1 : EI K Hr R0 (Ch O R0) H O1 H1 σ1 δ1) : EI K Hr R0 P0 H0 O1 H1 σ1 δ1 := by
 refine ⟨E1.ev, E1.omr, fun b o n h => E1.keep b o (E.noCh n h) (E.keep b o n h), fun l hl => ?_, E1.nr1, E1.sub⟩
 rcases E1.om l hl with q | q | q
 ·exact .inl q
 ·exact E.om l q.1
 ·refine .inr ?_
  by_cases hp : P0 l
  ·exact .inl hp
  ·cases e : H0 l with
   | none => exact .inr rfl
   | some o =>
    rw [E.keep l o hp e] at q
    cases q
theorem Fin.outer {Dn : Ends} (E : EI K Hr R0 P0 H0 O H σ δ) {o : Out} (h : Fin K Hr R0 P0 H0 Dn o) : Fin K Hr R0 (Ch O R0) H Dn o := by
 cases o with
 | nx δ1 => exact fun O1 σ1 H1 E1 => h O1 σ1 H1 (E.outer E1)
 | bk δ1 => exact fun O1 σ1 H1 E1 => h O1 σ1 H1 (E.outer E1)
 | ct δ1 => exact fun O1 σ1 H1 E1 => h O1 σ1 H1 (E.outer E1)
 | rt d => exact fun v H1 kp r => h v H1 (fun b o n q => kp b o (E.noCh n q) (E.keep b o n q)) r
theorem EI.to {O1 : List Addr} {H1 : Hp} {σ1 : St} {δ1 : DS} (E : EI K Hr R0 P0 H0 O H σ δ) (E1 : EI K Hr R0 (Ch O R0) H O1 H1 σ1 δ1) : To O O1 H H1 := by
 have nt : ∀ {b : Addr} {o : HO}, (∀ xs, o ≠ .lst xs) -> (∀ xs, o ≠ .dK xs) -> H b = some o -> ¬ Ch O R0 b := fun {b o} ho ho2 h z => by
  rcases E.ev.oo b z.1 with ⟨ys, hl⟩ | ⟨ys, hl⟩
  ·rw [h] at hl
   exact ho _ (Option.some.inj hl)
  ·rw [h] at hl
   exact ho2 _ (Option.some.inj hl)
 have kp : ∀ {b : Addr} {o : HO}, b ∉ O -> Rd H b o -> b ∉ O1 /\ Rd H1 b o := fun {b o} n h => by
  refine ⟨fun z => ?_, ?_⟩
  ·rcases E1.om b z with q | q | q
   ·exact n (E.sub b q)
   ·exact n q.1
   ·rcases h with h | ⟨u, h⟩
    ·rw [h] at q; cases q
    ·rw [h] at q; cases q
  ·rcases h with h | ⟨u, h⟩
   ·exact .inl (E1.keep _ _ (fun z => n z.1) h)
   ·exact .inr ⟨u, E1.keep _ _ (fun z => n z.1) h⟩
 refine ⟨fun b xs h => ?_, fun b xs n h => kp n h, fun b xs n h => kp n h, fun b C dx fs n h => ⟨(kp n (.inl h)).1, E1.keep _ _ (fun z => n z.1) h⟩⟩
 ·rcases h with h | ⟨u, h⟩
  ·exact .inl (E1.keep _ _ (nt (fun _ z => by cases z) (fun _ z => by cases z) h) h)
  ·exact .inr ⟨u, E1.keep _ _ (nt (fun _ z => by cases z) (fun _ z => by cases z) h) h⟩
theorem b0c {ds : List D} {i : Nat} {d : D} (h : ds[i]? = some d) : ds.drop i = d :: ds.drop (i + 1) := by
 obtain ⟨hl, e⟩ := List.getElem?_eq_some_iff.mp h
 rw [List.drop_eq_getElem_cons hl, e]
def rngD (lo : Int) (n : Nat) : List D := (List.range n).map fun (i : Nat) => PyData.int (lo + (i : Int))
def b62 (j : Int) : Bool := decide (-4611686018427387904 <= j /\ j < 4611686018427387904)
def rng1 : List D -> Option (List D)
 | [.int j] => if b62 j = true then some (rngD 0 j.toNat) else none
 | _ => none
def rng2 : List D -> Option (List D)
 | [.int i, .int j] => if (b62 i && b62 j) = true then some (rngD i (j - i).toNat) else none
 | _ => none
theorem b62_of {j : Int} (h : b62 j = true) : -(2 ^ 62) <= j /\ j < 2 ^ 62 := by
 have e62 : (2 : Int) ^ 62 = 4611686018427387904 := by decide
 rw [e62]
 exact of_decide_eq_true h
end

def spD (K : PySem.W.Frag) (n : Nat) (F : List D -> M D) : Sp := fun vs H Q _ => ∃ O ds, vs.length = n /\ (∀ l ∈ O, Mu H l) /\ Reps K O H vs ds /\ ok (fun _ => False) (F ds) (fun d => ∀ v H', Same H H' -> Rep K O H' v d -> Q v H')
structure Def (P : Program) (w : World) (K : PySem.W.Frag) (mg : Str -> Option Value) (base : Heap) (k : Nat) (x : Str) (n : Nat) (F : List D -> M D) : Prop where
 ex : ∃ (f : Addr) (fd : FuncData) (ps : List Str), FnOk P w K mg base CX0 k f fd ps (spD K n F) /\ mg x = some (.ref f) /\ PySem.W.keepIn K (.ref f) = true /\ Binds K fd ps []
def dCall (F : List D -> M D) (fa : DS -> M (List D)) : DS -> M D := fun δ => (fa δ).thn F
section
variable {X : Cx} {G : XD -> Hp -> Prop} {a b c e : Expr} {es rest : List Expr} {f g h : DS -> M D} {fb gb : DS -> M Bool} {fa : DS -> M (List D)} {pos : Pos}
theorem b2v {α : Type} {G : XD -> Prop} {r : M α} {k : α -> Prop} (h : ok (fun _ => False) r k) : ok G r k := by
 match r, h with
 | some (.ok a), h => exact h
def noX {α : Type} (r : M α) : M α := match r with
 | some (.error _) => none
 | r => r
theorem ok_noX {α : Type} {G : XD -> Prop} {r : M α} {k : α -> Prop} (h : ok G (noX r) k) : ok (fun _ => False) r k := by
 match r, h with
 | some (.ok a), h => exact h
theorem a0z {k n : Nat} {x : Str} {p : Pos} {F : List D -> M D} (h : Def X.prog X.w X.K X.mg X.base k x n F) (hr : Room k X.A) (hg : Gl X x) (hn : (e :: es).length = n) (ha : PDA X G (e :: es) fa)
  (hdb : (x == ("__debug__" : Str)) = false := by decide) (he : starEach (e :: es) X.env = (false, eval e X.env) :: starEach es X.env := by rfl) (hpl : (backTo pos (starEach es X.env)).any (·.1) = false := by rfl) :
  PD X G (.Call (.Name x p) (e :: es) [] pos) (dCall (fun ds => noX (F ds)) fa) := by
 obtain ⟨f, fd, ps, F1, hm, hk, hb⟩ := h.ex
 obtain ⟨hl, t, pa, ha⟩ := ha
 refine ⟨_, pe_call F1 hr hg hm hk hb .nil pass0 pa hdb he hpl, fun δ O σ H Q E k => ?_⟩
 have k1 := a0k k
 refine ha δ O σ H _ E ?_
 cases e1 : fa δ with
 | none => rw [e1] at k1; exact k1.elim
 | some r =>
  rw [e1] at k1
  cases r with
  | error x => exact k1
  | ok ds =>
   refine fun vs H1 s1 rs => ?_
   refine ⟨O, ds, ?_, (E.same s1).oo, ?_, a0h (ok_noX k1) fun d z v H2 s2 r => z v H2 (s1.trans s2) r⟩
   ·rw [List.append_nil, rs.length, hl δ ds e1]
    exact hn
   ·rw [List.append_nil]
    exact rs
end
def startD (n : Nat) (ds : List D) : DS := ds.map Sl.vl ++ List.replicate (n - ds.length) Sl.un
def endD (o : Out) : M D := match o with
 | .rt d => M.ret d
 | .nx _ => M.ret .none
 | _ => none
def run (n : Nat) (g : DS -> M Out) (ds : List D) : M D := (g (startD n ds)).thn endD
section
variable {P : Program} {w : World} {K : PySem.W.Frag} {mg : Str -> Option Value} {base : Heap}
theorem b2h {n i : Nat} {ds : List D} {s : Sl} (h1 : (startD n ds)[i]? = some s) (ho : s.own) : False := by
 unfold startD at h1
 by_cases hi : i < ds.length
 ·rw [List.getElem?_append_left (by simpa using hi), List.getElem?_map] at h1
  cases e : ds[i]? with
  | none => rw [e] at h1; cases h1
  | some d => rw [e] at h1; cases h1; exact ho
 ·rw [List.getElem?_append_right (by simpa using hi), List.getElem?_replicate] at h1
  split at h1
  ·cases h1; exact ho
  ·cases h1
theorem b3e {O : List Addr} {H : Hp} {vs : List V} {ds : List D} (N : List Str) (oo : ∀ l ∈ O, Mu H l) (r : Reps K O H vs ds) : Ev K H O H (L2.start N vs) (startD N.length ds) := by
 have get : ∀ (i : Nat) (s : Sl), (startD N.length ds)[i]? = some s -> (∃ d, ds[i]? = some d /\ s = .vl d) \/ s = .un := fun i s h => by
  unfold startD at h
  by_cases hi : i < ds.length
  ·rw [List.getElem?_append_left (by simpa using hi), List.getElem?_map] at h
   cases e : ds[i]? with
   | none => rw [e] at h; cases h
   | some d => rw [e] at h; cases h; exact .inl ⟨d, rfl, rfl⟩
  ·rw [List.getElem?_append_right (by simpa using hi), List.getElem?_replicate] at h
   split at h
   ·cases h; exact .inr rfl
   ·cases h
 refine ⟨Same.refl H, oo, ?_, fun i s h => ?_, fun i j l es fs hij h1 h2 h3 => ?_⟩
 ·unfold L2.start startD
  simp [r.length]
 ·rcases get i s h with ⟨d, hd, rfl⟩ | rfl
  ·obtain ⟨v, hv, rd⟩ := r.get hd
   refine ⟨v, ?_, rd⟩
   unfold L2.start
   have hi : i < vs.length := (List.getElem?_eq_some_iff.mp hv).1
   rw [List.getElem?_append_left (by simpa using hi), List.getElem?_map, hv]
   rfl
  ·trivial
 ·rcases get i _ h1 with ⟨d, _, z⟩ | z <;> cases z
theorem fn_ofD {x qual : Str} {st : Stmt} {f : Addr} {fd : FuncData} {N ps : List Str} {k : Nat} {g : DS -> M Out} (F0 : Fun K x qual st f fd) (S : FnScope N ps (defScope st))
  (hbody : ∀ (cdv : Value) (A : Around) (outer : List Env) (s : Shared) (H : Hp) (E : XK), Room k (A.deeper (envOfC qual (defScope st) s.heap.objs.size f cdv)) ->
   PDSs (cxOf CX0 P w K mg base N qual (defScope st) f cdv A outer s H E).nox (fun _ _ => False) (defBody st) g) : FnOk P w K mg base CX0 (k + 1) f fd ps (spD K ps.length (run N.length g)) := by
 refine F0.ok S (fun vs H Q E h => ?_) (fun cdv A outer s H vs Q E hr h => ?_)
 ·obtain ⟨O, ds, hl, _⟩ := h
  exact hl
 ·obtain ⟨O, ds, hl, oo, r, q⟩ := h
  obtain ⟨t, p, hB⟩ := hbody cdv A outer s H E hr
  refine ⟨t, p, hB O (fun _ => False) H (startD N.length ds) O (L2.start N vs) H _ ⟨b3e N oo r, fun l hl => .inl hl, fun b o _ h => h, fun l hl => .inl hl, fun i es l h1 ho h2 => ?_, fun l hl => hl⟩ (a0h (b2v (a0k q)) fun o z => ?_)⟩
  ·exact (b2h h1 ho).elim
  ·cases o with
   | rt d => exact fun v H' kp r => z v H' (fun b o h => kp b o (fun w => w) h) r
   | nx δ => exact fun O' σ' H' E' => z .non H' (fun b o h => E'.keep b o (fun w => w) h) .non
   | bk δ => exact z.elim
   | ct δ => exact z.elim
theorem a3y {x qual : Str} {st : Stmt} {f : Addr} {fd : FuncData} {N ps : List Str} {k : Nat} {g : DS -> M Out} (F0 : Fun K x qual st f fd) (S : FnScope N ps (defScope st)) (hm : mg x = some (.ref f)) (hb : Binds K fd ps [])
  (hbody : ∀ (cdv : Value) (A : Around) (outer : List Env) (s : Shared) (H : Hp) (E : XK), Room k (A.deeper (envOfC qual (defScope st) s.heap.objs.size f cdv)) ->
   PDSs (cxOf CX0 P w K mg base N qual (defScope st) f cdv A outer s H E).nox (fun _ _ => False) (defBody st) g) : Def P w K mg base (k + 1) x ps.length (run N.length g) :=
 ⟨f, fd, ps, fn_ofD F0 S hbody, hm, F0.kp, hb⟩
def spLaw (K : PySem.W.Frag) : Sp := fun vs H Q _ => ∃ (a : Addr) (ns : List Int), vs = [.ref a] /\ SqL K H a (ns.map V.int) /\ ns.length <= 63 /\ ∀ H', Q (.bl true) H'
theorem law_sp {F : List D -> M D} (hF : ∀ ns : List Int, ns.length <= 63 -> F [.list (ns.map PyData.int)] = M.ret (.bool true)) (vs : List V) (H : Hp) (Q : VK) (E : XK) (h : spLaw K vs H Q E) : spD K 1 F vs H Q E := by
 obtain ⟨a, ns, rfl, hS, hl, k⟩ := h
 refine ⟨[], [.list (ns.map PyData.int)], rfl, (fun l z => nomatch z), .cons ?_ .nil, ?_⟩
 ·rcases hS with hS | hS
  ·exact .lst hS (fun z => nomatch z) (Reps.ints ns)
  ·exact .lstK hS (Reps.ints ns)
 ·rw [hF ns hl]
  intro v H' s r
  rw [r.bool_inv]
  exact k H'
theorem walk {l : PySem.W.OpenLaw} {q : Program} {loose : List Str} {XP : (Str -> Option Value) -> Heap -> Prop} {YP : World -> Heap -> Prop} {d : DefRec} {K : Params -> PySem.W.Frag} {k : Nat} {F : List D -> M D} {x : Str} (hn : l.most = some 63) (hdf : d.params.defaults = [])
  (hF : ∀ ns : List Int, ns.length <= 63 -> F [.list (ns.map PyData.int)] = M.ret (.bool true)) (hr : Room k callerA)
  (hY : ∀ (w : World) (h : Heap), YP w h -> (K w.params).In h)
  (T : ∀ (w : World) (mg : Str -> Option Value) (fa : Addr) (h : Heap), (K w.params).In h -> h.Ns mainGlobals mg -> mg d.name = some (.ref fa) ->
   ∃ fd : FuncData, (∀ (s : Shared) (u : Value), BindsTo s fd ⟨[u], []⟩ [(x, u)]) /\ ∀ base : Heap, (K w.params).In base -> base.Ns mainGlobals mg -> FnOk l.prog w (K w.params) mg base CX0 k fa fd [x] (spD (K w.params) 1 F)) :
  PySem.W.WalkO q loose XP YP l.row.toRowW d [] (fun f vs => PySem.call f vs) :=
 L2.walk_of (n := 63) (k := k) (x := x) (CX := fun _ => CX0) (sp := fun w => spD (K w.params) 1 F) hn (by decide) hdf hr hY T (fun w H a ns hl _ hS => law_sp hF _ _ _ _ ⟨a, ns, rfl, hS, hl, fun _ => rfl⟩) fun _ _ _ _ _ z => z
end
end DL
namespace DL
open PySem PySem.Spec L2
section
variable {δ δ' : DS} {f g : DS -> M D} {fb gb : DS -> M Bool} {fa : DS -> M (List D)} {gs gt g1 g2 : DS -> M Out} {d x y : D} {b b1 b2 : Bool} {ds xs : List D} {i j : Int} {r : M Out} {o : Out}
theorem a0a {n : Nat} (h : δ[n]? = some (.vl d)) : dVar n δ = M.ret d := by unfold dVar; rw [h]
theorem ev_c : dC d δ = M.ret d := rfl
theorem ev_2 {h : D -> D -> Option D} (h1 : f δ = M.ret x) (h2 : g δ = M.ret y) (h3 : h x y = some d) : d2 h f g δ = M.ret d := by
 unfold d2; rw [h1, a0s, h2, a0s, h3]; rfl
theorem ev_1 {h : D -> Option D} (h1 : f δ = M.ret x) (h3 : h x = some d) : d1 h f δ = M.ret d := by
 unfold d1; rw [h1, a0s, h3]; rfl
theorem a5e : oAdd (.int i) (.int j) = some (.int (i + j)) := rfl
theorem o_sub : oSub (.int i) (.int j) = some (.int (i - j)) := rfl
theorem o_mul (h : bMul i j = true) : oMul (.int i) (.int j) = some (.int (i * j)) := if_pos h
theorem a9t (h : bDiv j = true) : oDiv (.int i) (.int j) = some (.int (i / j)) := if_pos h
theorem a6w (h : 0 < j) : oMod (.int i) (.int j) = some (.int (i % j)) := if_pos (decide_eq_true h)
theorem o_lt : oLt (.int i) (.int j) = some (.bool (decide (i < j))) := rfl
theorem o_gt : oGt (.int i) (.int j) = some (.bool (decide (j < i))) := rfl
theorem o_pow6 : oPow (.int 10) (.int 6) = some (.int 1000000) := rfl
theorem a4n : oLen [.list ds] = some (.int ds.length) := rfl
theorem o_eq : oEq (.int i) (.int j) = some (.bool (decide (i = j))) := by
 show some (PyData.bool (i == j)) = _
 rw [Bool.beq_eq_decide_eq]
theorem o_ne : oNe (.int i) (.int j) = some (.bool (!decide (i = j))) := by
 show some (PyData.bool (!(i == j))) = _
 rw [Bool.beq_eq_decide_eq]
theorem bMul_l (h1 : -18446744073709551616 < i) (h2 : i < 18446744073709551616) : bMul i j = true := decide_eq_true (.inl ⟨h1, h2⟩)
theorem a4e (h1 : 0 < j) (h2 : j < 1267650600228229401496703205376) : bDiv j = true := decide_eq_true ⟨h1, h2⟩
theorem ev_b (h : f δ = M.ret (.bool b)) : dB f δ = M.ret b := by unfold dB; rw [h]; rfl
theorem a2e (h : fb δ = M.ret b) : dNot fb δ = M.ret (!b) := by unfold dNot; rw [h]; rfl
theorem ev_and (h1 : fb δ = M.ret b1) (h2 : gb δ = M.ret b2) : dAnd fb gb δ = M.ret (b1 && b2) := by
 unfold dAnd; rw [h1, a0s, h2]; cases b1 <;> rfl
theorem b1i (h1 : fb δ = M.ret b1) (h2 : gb δ = M.ret b2) : dOr fb gb δ = M.ret (b1 || b2) := by
 unfold dOr; rw [h1, a0s, h2]; cases b1 <;> rfl
theorem a3w (h1 : fb δ = M.ret true) : dOr fb gb δ = M.ret true := by unfold dOr; rw [h1]; rfl
theorem a6c (h1 : fb δ = M.ret false) (h2 : gb δ = M.ret b) : dOr fb gb δ = M.ret b := by unfold dOr; rw [h1, a0s, if_neg Bool.false_ne_true]; exact h2
theorem a7u (h1 : fb δ = M.ret false) : dAnd fb gb δ = M.ret false := by unfold dAnd; rw [h1]; rfl
theorem a3h (h1 : fb δ = M.ret true) (h2 : gb δ = M.ret b) : dAnd fb gb δ = M.ret b := by unfold dAnd; rw [h1, a0s, if_pos rfl]; exact h2
theorem ev_andV (h1 : f δ = M.ret (.bool b1)) (h2 : g δ = M.ret (.bool b2)) : dAndV f g δ = M.ret (.bool (b1 && b2)) := by
 unfold dAndV; rw [ev_b h1, a0s, h2]; cases b1 <;> rfl
theorem ev_orV (h1 : f δ = M.ret (.bool b1)) (h2 : g δ = M.ret (.bool b2)) : dOrV f g δ = M.ret (.bool (b1 || b2)) := by
 unfold dOrV; rw [ev_b h1, a0s, h2]; cases b1 <;> rfl
theorem b1a (h1 : f δ = M.ret (.bool false)) : dAndV f g δ = M.ret (.bool false) := by unfold dAndV; rw [ev_b h1]; rfl
theorem b0z (h1 : f δ = M.ret (.bool true)) (h2 : g δ = M.ret d) : dAndV f g δ = M.ret d := by unfold dAndV; rw [ev_b h1, a0s, if_pos rfl]; exact h2
theorem a5t {T : String} (h : f δ = M.ret d) (hi : noIns d = true := by rfl) : dIs T f δ = M.ret (.bool (isD T d)) := by unfold dIs; rw [h, a0s, if_pos hi]
theorem a0f : dNil δ = M.ret [] := rfl
theorem a0d (h1 : f δ = M.ret x) (h2 : fa δ = M.ret xs) : dCons f fa δ = M.ret (x :: xs) := by unfold dCons; rw [h1, a0s, h2]; rfl
theorem ev_tup (h : fa δ = M.ret ds) (hz : small ds.length = true) : dTup fa δ = M.ret (.tuple ds) := by unfold dTup; rw [h, a0s, if_pos hz]
theorem a2q (h : fa δ = M.ret ds) (hz : small ds.length = true) : dLst fa δ = M.ret (.list ds) := by unfold dLst; rw [h, a0s, if_pos hz]
theorem a1s {h : List D -> Option D} (h1 : fa δ = M.ret ds) (h2 : h ds = some d) : dCB h fa δ = M.ret d := by unfold dCB; rw [h1, a0s, h2]; rfl
theorem a0q {F : List D -> M D} (h1 : fa δ = M.ret ds) (h2 : F ds = M.ret d) : dCall (fun ds => noX (F ds)) fa δ = M.ret d := by
 unfold dCall; rw [h1, a0s, h2]; rfl
theorem a1r (h : f δ = M.ret (.int i)) : dPart f δ = M.ret (some i) := by unfold dPart; rw [h]; rfl
theorem a1n : dNoPart δ = M.ret none := rfl
theorem ev_if (h1 : fb δ = M.ret b) {r : M D} (h2 : (if b = true then f δ else g δ) = r) : dIf fb f g δ = r := by unfold dIf; rw [h1]; exact h2
theorem a0o (h1 : gs δ = M.ret (.nx δ')) (h2 : gt δ' = r) : gSeq gs gt δ = r := by unfold gSeq; rw [h1]; exact h2
theorem a1h (h1 : gs δ = M.ret (.rt d)) : gSeq gs gt δ = M.ret (.rt d) := by unfold gSeq; rw [h1]; rfl
theorem a1c (h1 : fb δ = M.ret b) (h2 : (if b = true then gSeq g1 gt δ else gSeq g2 gt δ) = r) : gSeq (gIf fb g1 g2) gt δ = r := by
 unfold gSeq gIf; rw [h1, a0s]; unfold gSeq at h2; cases b <;> exact h2
theorem a4z (h1 : fb δ = M.ret b) (h2 : (if b = true then g1 δ else g2 δ) = r) : gIf fb g1 g2 δ = r := by unfold gIf; rw [h1]; exact h2
theorem ev_seqN (h : gt δ = r) : gSeq gNext gt δ = r := h
theorem a1a {n : Nat} (h : f δ = M.ret d) : gAsg f (tgN n) δ = M.ret (.nx (δ.set n (.vl d))) := by unfold gAsg; rw [h]; rfl
theorem a0p (h : f δ = M.ret d) : gRet f δ = M.ret (.rt d) := by unfold gRet; rw [h]; rfl
theorem a0y {n : Nat} (h : gs (startD n ds) = M.ret (.rt d)) : run n gs ds = M.ret d := by unfold run; rw [h]; rfl
theorem a4v {α : Type} {A B r : α} {b : Bool} (h : b = true) (k : A = r) : (if b = true then A else B) = r := by rw [if_pos h]; exact k
theorem ite_F {α : Type} {A B r : α} {b : Bool} (h : b = false) (k : B = r) : (if b = true then A else B) = r := by rw [h, if_neg Bool.false_ne_true]; exact k
theorem a3x {t : D -> DS -> Option DS} (h1 : t d δ = some δ') (h2 : gs δ' = r) : bodyD t gs d δ = r := by unfold bodyD; rw [h1]; exact h2
theorem ix_in {ds : List D} {i : Int} (h0 : 0 <= i) (h1 : i < ds.length) : ∃ d, d ∈ ds /\ oIx (.list ds) (.int i) = some d := by
 have hl : i.toNat < ds.length := by omega
 refine ⟨ds[i.toNat], List.getElem_mem hl, ?_⟩
 show L2.atI ds i = _
 unfold L2.atI L2.ixN
 rw [if_pos h0, if_pos h1]
 show ds[i.toNat]? = _
 rw [List.getElem?_eq_getElem hl]
end
end DL
namespace L2
open PySem PySem.Spec PyProof.Rows
section
variable {X : Cx}
end
end L2

namespace DL
open PySem PySem.Spec PyProof.Rows L2
def tD (K : PySem.W.Frag) (G : XD -> Hp -> Prop) (f : DS -> M D) : TE := fun σ H Q => ∃ Hr δ O, Ev K Hr O H σ δ /\ ok (GS G Hr) (f δ) (fun d => ∀ v H', Same H H' -> Rep K O H' v d -> Q v H')
theorem PD.can {X : Cx} {G : XD -> Hp -> Prop} {e : Expr} {f : DS -> M D} (h : PD X G e f) : PE X e (tD X.K G f) := by
 obtain ⟨t, p, h⟩ := h
 intro pins s σ H Q I hw
 obtain ⟨Hr, δ, O, E, k⟩ := hw
 exact p pins s σ H Q I (h δ O σ H Q E k)
section
variable {K : PySem.W.Frag} {G : XD -> Prop} {f : DS -> M D}
def Kp (l : Addr) (H H' : Hp) : Prop := ∀ b o, b ≠ l -> H b = some o -> H' b = some o
theorem Kp.to {O : List Addr} {H H' : Hp} {l : Addr} (k : Kp l H H') (hl : H l = none) : To O (l :: O) H H' := by
 have rd : ∀ {b : Addr} {o : HO}, Rd H b o -> Rd H' b o := fun {b o} h => by
  have hb := Rd.ne_new h hl
  rcases h with h | ⟨u, h⟩
  ·exact .inl (k _ _ hb h)
  ·exact .inr ⟨u, k _ _ hb h⟩
 have no : ∀ {b : Addr} {o : HO}, b ∉ O -> Rd H b o -> b ∉ l :: O := fun {b o} n h z => by
  rcases List.mem_cons.mp z with z | z
  ·exact Rd.ne_new h hl z
  ·exact n z
 exact ⟨fun b xs h => rd h, fun b xs n h => ⟨no n h, rd h⟩, fun b xs n h => ⟨no n h, rd h⟩, fun b C dx fs n h => ⟨no n (.inl h), k _ _ (a0v h hl) h⟩⟩
theorem Kp.same {H H' : Hp} {l : Addr} (k : Kp l H H') (hl : H l = none) : Same H H' := fun b o e => k b o (a0v e hl) e
end
section
variable {X : Cx} {G : XD -> Hp -> Prop} {fi f : DS -> M D}
def bools : List D -> Option (List Bool)
 | [] => some []
 | .bool b :: r => (bools r).map (b :: ·)
 | _ => none
theorem bools_get : ∀ {ds : List D} {bs : List Bool}, bools ds = some bs -> ds = bs.map PyData.bool
 | [], bs, h => by cases h; rfl
 | .bool b :: r, bs, h => by
  have h : (bools r).map (b :: ·) = some bs := h
  cases e : bools r with
  | none => rw [e] at h; cases h
  | some cs => rw [e] at h; cases h; rw [bools_get e]; rfl
theorem b1p {K : PySem.W.Frag} {O : List Addr} {H : Hp} : ∀ {bs : List Bool} {vs : List V}, Reps K O H vs (bs.map PyData.bool) -> vs = bs.map V.bl
 | [], _, .nil => rfl
 | b :: bs, _, .cons r rs => by rw [r.bool_inv, b1p rs]; rfl
theorem call_allL (hc : X.calm = true) : CallR X (.builtin "all") (fun xs H Q => ∃ (p : Addr) (bs : List Bool), xs = [.ref p] /\ SqL X.K H p (bs.map V.bl) /\ Q (.bl (bs.all id)) H) := by
 intro pins s σ H xs us Q I r h
 obtain ⟨l, bs, rfl, hq, q⟩ := h
 obtain ⟨u, rfl, rx⟩ := vals1 r
 cases rx
 obtain ⟨its, rv, pl, hz⟩ := I.list hq
 have hl := pl.isList
 have hlt : l < s.heap.objs.size := by obtain ⟨_, e, _⟩ := hl; exact Heap.lt_size e
 have hlen : its.length = bs.length := by rw [<- rv.length, List.length_map]
 refine call_all_walk (wpAny_pyIter_list hl ?_)
 refine ⟨s.heap.objs.size, [s.heap.objs.size, l], [s.heap.objs.size], its.toArray.size, _, _, fun i => (bs[i]?).getD true, rfl, Walks.list (A := X.A.in1) (I.ok.hd hc) _ l (Nat.ne_of_lt hlt) its.toArray,
  ⟨⟨_, Heap.get?_push_size _ rfl, rfl, rfl⟩, hl.push _⟩, fun i v s' Q' E' hP hQ => ?_, fun h' tk hk => ?_⟩
 ·have hv : its[i]? = some v := by simpa using hP
  have hi : i < bs.length := by rw [<- hlen]; exact (List.getElem?_eq_some_iff.mp hv).1
  obtain ⟨w', e1, e2⟩ := rv.get (i := i) (x := V.bl bs[i]) (by rw [List.getElem?_map, List.getElem?_eq_getElem hi]; rfl)
  rw [hv] at e1
  cases e1
  cases (show v = Value.bool bs[i] from e2)
  dsimp only at hQ
  rw [List.getElem?_eq_getElem hi] at hQ
  exact wpAny_truthy_bool hQ
 ·have e : ((List.range its.toArray.size).all fun i => (bs[i]?).getD true) = bs.all id := by
   rw [List.size_toArray, hlen]; exact LSm.range_all bs
  rw [e]
  exact ⟨.bl _, H, I.kept fun b o e => LSm.kept_iter hk b o e, rfl, q⟩
def oAll : List D -> Option D
 | [.list ds] => (bools ds).map fun bs => .bool (bs.all id)
 | _ => none
theorem a8q (hc : X.calm = true) : DCall X (.builtin "all") oAll := by
 refine ⟨_, call_allL hc, fun O H ds d vs Q oo rs e k => ?_⟩
 unfold oAll at e
 split at e
 ·rename_i es
  cases e1 : bools es with
  | none => rw [e1] at e; cases e
  | some bs =>
   rw [e1] at e
   cases e
   obtain ⟨v, rfl, r⟩ := reps1 rs
   obtain ⟨p, xs, rfl, h1, rx⟩ := r.lst_inv
   rw [bools_get e1] at rx
   rw [b1p rx] at h1
   exact ⟨p, bs, rfl, h1, k _ H (Same.refl H) (.bl _)⟩
 ·cases e
end
section
variable {δ : DS} {fi f : DS -> M D} {x y : D} {ds ys : List D}
end
end DL
namespace L2
open PySem PySem.Spec PyProof.Rows
section
variable {X : Cx}
end
end L2

namespace DL
open PySem PySem.Spec PyProof.Rows L2
def slotAt (δ : DS) (j : Nat) : Sl := match δ[j]? with
 | some (.vl d) => .vl d
 | _ => .un
section
variable {K : PySem.W.Frag} {G : XD -> Prop} {f : DS -> M D}
end
section
variable {X : Cx} {G : XD -> Hp -> Prop} {fi f : DS -> M D}
end
section
variable {δ : DS} {fi f : DS -> M D} {x : D} {ds ys : List D} {js : List Nat}
end
end DL
namespace DL
open PySem PySem.Spec PyProof.Rows L2
section
variable {X : Cx} {G : XD -> Hp -> Prop} {a b c e : Expr} {f : DS -> M D} {pos pos' : Pos} {sts : List Stmt} {gs : DS -> M Out}
variable {K : PySem.W.Frag} {Hr : Hp} {R0 : List Addr} {P0 : Addr -> Prop} {H0 H H' : Hp} {O : List Addr} {σ : St} {δ : DS}
theorem SlOk.to {O' : List Addr} {o : Option (Option V)} {s : Sl} (t : To O O' H H') (hd : ∀ l kvs, l ∈ O -> H l = some (.dK kvs) -> l ∈ O' /\ H' l = some (.dK kvs)) (hs : ∀ l xs, l ∈ O -> H l = some (.lst xs) -> o = some (some (.ref l)) -> (∃ ds, s = .ow ds) -> l ∈ O' /\ H' l = some (.lst xs)) (h : SlOk K O H o s) : SlOk K O' H' o s := by
 cases s with
 | un => trivial
 | ex a => exact h
 | vl d =>
  obtain ⟨v, h1, r⟩ := h
  exact ⟨v, h1, r.to t⟩
 | ow ds =>
  obtain ⟨l, xs, h1, h2, h3, r⟩ := h
  obtain ⟨q1, q2⟩ := hs l xs h2 h3 h1 ⟨ds, rfl⟩
  exact ⟨l, xs, h1, q1, q2, r.to t⟩
 | od es =>
  obtain ⟨l, kvs, h1, h2, h3, hk, r⟩ := h
  obtain ⟨q1, q2⟩ := hd l kvs h2 h3
  exact ⟨l, kvs, h1, q1, q2, hk, r.to t⟩
theorem hd_new {l : Addr} {o : HO} (hl : H l = none) : ∀ a kvs, a ∈ O -> H a = some (.dK kvs) -> a ∈ l :: O /\ upd H l o a = some (.dK kvs) := fun a kvs h1 h2 => ⟨List.mem_cons_of_mem _ h1, by rw [upd_ne (a0v h2 hl)]; exact h2⟩
theorem hd_set {l : Addr} {xs : List V} {o : HO} (hl : H l = some (.lst xs)) : ∀ a kvs, a ∈ O -> H a = some (.dK kvs) -> a ∈ O /\ upd H l o a = some (.dK kvs) := fun a kvs h1 h2 => ⟨h1, by rw [upd_ne (ne_of h2 hl (by intro z; cases z))]; exact h2⟩
theorem EI.app {i : Nat} {l : Addr} {xs : List V} {ds : List D} {v : V} {d : D} (E : EI K Hr R0 P0 H0 O H σ δ) (hd : δ[i]? = some (.ow ds)) (hσ : σ[i]? = some (some (.ref l))) (hl : H l = some (.lst xs)) (rx : Reps K O H xs ds) (r : Rep K O H v d) :
  EI K Hr R0 P0 H0 O (upd H l (.lst (xs ++ [v]))) σ (δ.set i (.ow (ds ++ [d]))) := by
 obtain ⟨l', xs', q1, lO, q3, _⟩ := E.ev.at_ i _ hd
 rw [hσ] at q1
 cases q1
 have tO : To O O H (upd H l (.lst (xs ++ [v]))) := To.set hl lO
 refine ⟨⟨fun b o h => ?_, fun a ha => ?_, by rw [List.length_set]; exact E.ev.len, fun j s h => ?_, fun j k a es es' hjk h1 h2 h3 => ?_⟩, E.omr, fun b o n h => ?_, E.om, fun j es a h1 ho h2 => ?_, E.sub⟩
 ·have q := E.ev.root b o h
  have hne : b ≠ l := fun z => by
   subst z
   rcases E.omr b lO with w | w
   ·exact E.nr i ds b hd hσ w
   ·rw [h] at w; cases w
  rw [upd_ne hne]
  exact q
 ·by_cases hb : a = l
  ·rw [hb]; exact .lst a1i
  ·exact (E.ev.oo a ha).upd_ne hb
 ·rw [a2m] at h
  by_cases hij : i = j
  ·rw [if_pos hij] at h
   split at h
   ·cases h
    rw [<- hij, hσ]
    exact ⟨l, _, rfl, lO, a1i, (rx.to tO).append (.cons (r.to tO) .nil)⟩
   ·cases h
  ·rw [if_neg hij] at h
   refine (E.ev.at_ j s h).to tO (hd_set hl) fun a ys h1 h2 h3 h4 => ⟨h1, ?_⟩
   obtain ⟨es, rfl⟩ := h4
   have hne : a ≠ l := fun z => by
    subst z
    exact E.ev.dis i j a ds es hij hd h hσ h3
   rw [upd_ne hne]
   exact h2
 ·have old : ∀ (j : Nat) (es : List D), (δ.set i (.ow (ds ++ [d])))[j]? = some (.ow es) -> ∃ es', δ[j]? = some (.ow es') := fun j es h => by
   rw [a2m] at h
   by_cases hij : i = j
   ·rw [<- hij]; exact ⟨ds, hd⟩
   ·rw [if_neg hij] at h; exact ⟨es, h⟩
  obtain ⟨e1, h1⟩ := old j es h1
  obtain ⟨e2, h2⟩ := old k es' h2
  exact E.ev.dis j k a e1 e2 hjk h1 h2 h3
 ·have q := E.keep b o n h
  have hne : b ≠ l := fun z => by
   subst z
   rcases E.om b lO with w | w | w
   ·exact E.nr i ds b hd hσ w
   ·exact n w
   ·rw [h] at w; cases w
  rw [upd_ne hne]
  exact q
 ·rw [a2m] at h1
  by_cases hij : i = j
  ·exact E.nr i ds a hd (by rw [hij]; exact h2)
  ·rw [if_neg hij] at h1
   exact E.nr1 j es a h1 ho h2
def gApp (i : Nat) (f : DS -> M D) : DS -> M Out := fun δ => match δ[i]? with
 | some (.ow ds) => (f δ).thn fun d => if small (ds.length + 1) then M.ret (.nx (δ.set i (.ow (ds ++ [d])))) else none
 | _ => none
theorem small_lt {n : Nat} (h : small (n + 1) = true) : n < sizeLine := by
 have := a2a h
 omega
theorem pd_app {i : Nat} {x : Str} {xp apos cpos : Pos} (hv : PE X (.Name x xp) (tVar i)) (he : PD X G e f)
  (hst : starEach [e] X.env = (false, eval e X.env) :: starEach [] X.env := by rfl)
  (hbase : attributeBase (.Name x xp) "append" X.env (eval (.Name x xp) X.env) = eval (.Name x xp) X.env := by rfl)
  (hfew : ((backTo cpos (starEach [e] X.env)).all (fun x => !x.1) && (backToKw cpos (keywordEach [] X.env)).all (fun x => x.1.isSome)
   && decide ([e].length + ([] : List Keyword).length + (if ([] : List Keyword).isEmpty then 0 else 1) < 30)) = true := by rfl)
  (hline : (apos.endLine == cpos.line) = true := by rfl) (hplain : (backTo cpos (starEach [] X.env)).any (·.1) = false := by rfl)
  (hs : swapsWith (.Call (.Attribute (.Name x xp) "append" apos) [e] [] cpos) none pos.line X.env = pure false := by rfl) :
  PDS X G (.Expr (.Call (.Attribute (.Name x xp) "append" apos) [e] [] cpos) pos) (gApp i f) := by
 obtain ⟨t, p, he⟩ := he
 refine ⟨_, ps_expr (pe_bm PySem.F.plainAttrs_list PySem.F.slot_list_append PySem.F.type_list_append b0r hv (b0p p pa_nil hst) hbase hfew hline hst hplain) hs, fun R0 P0 H0 δ O σ H Dn E k => ?_⟩
 unfold gApp at k
 split at k
 ·rename_i ds hd
  obtain ⟨l, xs, q1, q2, q3, q4⟩ := E.ev.at_ i _ hd
  refine ⟨.ref l, q1, .inl ⟨rfl, xs, .inl (.inl q3)⟩, ?_⟩
  refine he δ O σ H _ E.ev (a0h (a0k k) fun d z v H1 s1 r => ?_)
  by_cases hz : small (ds.length + 1) = true
  ·rw [if_pos hz] at z
   refine ⟨l, xs, v, rfl, rfl, s1 _ _ q3, by rw [q4.length]; exact small_lt hz, ?_⟩
   exact z O σ _ ((E.same s1).app hd q1 (s1 _ _ q3) (q4.same s1) r)
  ·rw [if_neg hz] at z
   exact z.elim
 ·exact k.elim
def gRetO (i : Nat) : DS -> M Out := fun δ => match δ[i]? with
 | some (.ow ds) => M.ret (.rt (.list ds))
 | _ => none
theorem pd_retO {i : Nat} (he : PE X e (tVar i)) : PDS X G (.Return (some e) pos) (gRetO i) := by
 refine ⟨_, ps_ret he, fun R0 P0 H0 δ O σ H Dn E k => ?_⟩
 unfold gRetO at k
 split at k
 ·rename_i ds hd
  obtain ⟨l, xs, q1, q2, q3, q4⟩ := E.ev.at_ i _ hd
  exact ⟨.ref l, q1, k _ H E.keep (.lst (.inl q3) (E.nr i ds l hd q1) (q4.to (.less E.sub)))⟩
 ·exact k.elim
def frz (i : Nat) (δ : DS) : DS := match δ[i]? with
 | some (.ow ds) => δ.set i (.vl (.list ds))
 | _ => δ
theorem EI.frz {i : Nat} (E : EI K Hr R0 P0 H0 O H σ δ) : ∃ O', EI K Hr R0 P0 H0 O' H σ (DL.frz i δ) := by
 unfold DL.frz
 split
 ·rename_i ds hd
  obtain ⟨l, xs, q1, q2, q3, q4⟩ := E.ev.at_ i _ hd
  have nr := E.nr i ds l hd q1
  refine ⟨O.filter (fun a => decide (a ≠ l)), ⟨E.ev.root, fun a ha => E.ev.oo a (List.mem_filter.mp ha).1, by rw [List.length_set]; exact E.ev.len, fun j s h => ?_, fun j k a es es' hjk h1 h2 h3 => ?_⟩, fun a ha => E.omr a (List.mem_filter.mp ha).1, E.keep, fun a ha => E.om a (List.mem_filter.mp ha).1, fun j es a h1 ho h2 => ?_, fun a ha => ?_⟩
  ·have tl : To O (O.filter (fun a => decide (a ≠ l))) H H := To.less fun b hb => (List.mem_filter.mp hb).1
   rw [a2m] at h
   by_cases hij : i = j
   ·rw [if_pos hij] at h
    split at h
    ·cases h
     rw [<- hij, q1]
     exact ⟨.ref l, rfl, .lst (.inl q3) (fun z => absurd rfl (of_decide_eq_true (List.mem_filter.mp z).2)) (q4.to tl)⟩
    ·cases h
   ·rw [if_neg hij] at h
    refine (E.ev.at_ j s h).to tl (fun a kvs h1 h2 => ⟨List.mem_filter.mpr ⟨h1, decide_eq_true (ne_of h2 q3 (by intro z; cases z))⟩, h2⟩) fun a ys h1 h2 h3 h4 => ⟨List.mem_filter.mpr ⟨h1, decide_eq_true fun z => ?_⟩, h2⟩
    obtain ⟨es, rfl⟩ := h4
    subst z
    exact E.ev.dis i j a ds es hij hd h q1 h3
  ·have old : ∀ (j : Nat) (es : List D), (δ.set i (.vl (.list ds)))[j]? = some (.ow es) -> δ[j]? = some (.ow es) := fun j es h => by
    rw [a2m] at h
    by_cases hij : i = j
    ·rw [if_pos hij] at h
     split at h <;> cases h
    ·rw [if_neg hij] at h; exact h
   exact E.ev.dis j k a es es' hjk (old j es h1) (old k es' h2) h3
  ·rw [a2m] at h1
   by_cases hij : i = j
   ·rw [if_pos hij] at h1
    split at h1
    ·cases h1; exact ho.elim
    ·cases h1
   ·rw [if_neg hij] at h1
    exact E.nr1 j es a h1 ho h2
  ·exact List.mem_filter.mpr ⟨E.sub a ha, decide_eq_true fun z => nr (z ▸ ha)⟩
 ·exact ⟨O, E⟩
def gFrz (i : Nat) (g : DS -> M Out) : DS -> M Out := fun δ => g (frz i δ)
theorem pds_frz (i : Nat) (h : PDSs X G sts gs) : PDSs X G sts (gFrz i gs) := by
 obtain ⟨t, p, h⟩ := h
 refine ⟨t, p, fun R0 P0 H0 δ O σ H Dn E k => ?_⟩
 obtain ⟨O', E'⟩ := E.frz (i := i)
 exact h R0 P0 H0 (frz i δ) O' σ H Dn E' k
end
def intsOf : List D -> Option (List Int)
 | [] => some []
 | .int i :: r => (intsOf r).map (i :: ·)
 | _ => none
theorem a6s : ∀ {ds : List D} {ns : List Int}, intsOf ds = some ns -> ds = ns.map PyData.int
 | [], ns, h => by cases h; rfl
 | .int i :: r, ns, h => by
  have h : (intsOf r).map (i :: ·) = some ns := h
  cases e : intsOf r with
  | none => rw [e] at h; cases h
  | some cs => rw [e] at h; cases h; rw [a6s e]; rfl
theorem a6r {K : PySem.W.Frag} {O : List Addr} {H : Hp} : ∀ {ns : List Int} {vs : List V}, Reps K O H vs (ns.map PyData.int) -> vs = ns.map V.int
 | [], _, .nil => rfl
 | b :: bs, _, .cons r rs => by rw [r.int_inv, a6r rs]; rfl
def oLtD : D -> D -> Option D
 | .int i, .int j => some (.bool (decide (i < j)))
 | .tuple xs, .tuple ys => (intsOf xs).bind fun ns => (intsOf ys).map fun ms => .bool (HT.lexLt ns ms)
 | _, _ => none
theorem o_ltD {i j : Int} : oLtD (.int i) (.int j) = some (.bool (decide (i < j))) := rfl
theorem a4i {names : List (Str × NameKind)} {cl : List (Str × Addr)} (h : names.all (fun y => !(y.2 == .cell || y.2 == .free) || (cl.lookup y.1).isSome) = true) : ∀ y ∈ names, (y.2 = .cell \/ y.2 = .free) -> ∃ c, cl.lookup y.1 = some c := fun y hy hk => by
 have q := List.all_eq_true.mp h y hy
 have k : (y.2 == NameKind.cell || y.2 == NameKind.free) = true := by
  rcases hk with e | e <;> rw [e] <;> rfl
 rw [k] at q
 exact Option.isSome_iff_exists.mp (by simpa using q)
section
variable {X : Cx} {scope : Scope} {cl : List (Str × Addr)}
theorem a6m : ∀ p ∈ ([] : List (Nat × Str)), X.N[p.1]? = some p.2 /\ X.env.kindOf p.2 = some .cell /\ (compEnvC scope cl 0 X.env).kindOf p.2 = some .cell /\ ∃ c, cl.lookup p.2 = some c := fun p hp => nomatch hp
theorem a7g {j : Nat} {y : Str} {fr : List (Nat × Str)} (h1 : X.N[j]? = some y) (h2 : X.env.kindOf y = some .cell) (h3 : (compEnvC scope cl 0 X.env).kindOf y = some .cell) (h4 : ∃ c, cl.lookup y = some c)
  (hr : ∀ p ∈ fr, X.N[p.1]? = some p.2 /\ X.env.kindOf p.2 = some .cell /\ (compEnvC scope cl 0 X.env).kindOf p.2 = some .cell /\ ∃ c, cl.lookup p.2 = some c) :
  ∀ p ∈ (j, y) :: fr, X.N[p.1]? = some p.2 /\ X.env.kindOf p.2 = some .cell /\ (compEnvC scope cl 0 X.env).kindOf p.2 = some .cell /\ ∃ c, cl.lookup p.2 = some c := fun p hp => by
 rcases List.mem_cons.mp hp with rfl | hp
 ·exact ⟨h1, h2, h3, h4⟩
 ·exact hr p hp
end
section
variable {δ δ' : DS} {f : DS -> M D} {d : D} {ds : List D} {r : M Out} {g : DS -> M Out}
theorem ev_app {i : Nat} (h : δ[i]? = some (.ow ds)) (h1 : f δ = M.ret d) (hz : small (ds.length + 1) = true) : gApp i f δ = M.ret (.nx (δ.set i (.ow (ds ++ [d])))) := by
 unfold gApp; rw [h, h1]; show (if small (ds.length + 1) = true then _ else _) = _; rw [if_pos hz]
theorem ev_frz {i : Nat} (h : g (frz i δ) = r) : gFrz i g δ = r := h
theorem b3d {body : D -> DS -> M Out} (S : List D -> DS -> Prop) : ∀ (ds pre : List D) (δ : DS), S pre δ -> (∀ p d q δ, pre ++ ds = p ++ d :: q -> S p δ -> ∃ δ', body d δ = M.ret (.nx δ') /\ S (p ++ [d]) δ') -> ∃ δ', forD body ds δ = M.ret (.nx δ') /\ S (pre ++ ds) δ'
 | [], pre, δ, h, _ => ⟨δ, rfl, by rw [List.append_nil]; exact h⟩
 | d :: ds, pre, δ, h, hs => by
  obtain ⟨δ1, h1, p1⟩ := hs pre d ds δ rfl h
  obtain ⟨δ2, h2, p2⟩ := b3d S ds (pre ++ [d]) δ1 p1 fun p e q δ he => hs p e q δ (by rw [<- he]; simp)
  refine ⟨δ2, ?_, by simpa using p2⟩
  show (body d δ).thn _ = _
  rw [h1]
  exact h2
theorem ix_nat {ds : List D} {i : Int} {d : D} (h0 : 0 <= i) (h : ds[i.toNat]? = some d) : oIx (.list ds) (.int i) = some d := by
 have e := L2.atI_nat h
 rw [Int.toNat_of_nonneg h0] at e
 exact e
theorem a0l {n : Nat} (h : n <= 16000000) : small n = true := decide_eq_true h
theorem a8n : ∀ {ds : List D}, (∀ d ∈ ds, d.canLay0 = true /\ d.depth <= 5) -> PyData.canLayAll0 ds = true /\ PyData.depthAll ds <= 5
 | [], _ => ⟨rfl, Nat.zero_le _⟩
 | d :: ds, h => by
  obtain ⟨h1, h2⟩ := h d List.mem_cons_self
  obtain ⟨h3, h4⟩ := a8n fun e he => h e (List.mem_cons_of_mem _ he)
  refine ⟨?_, ?_⟩
  ·show (d.canLay0 && PyData.canLayAll0 ds) = true
   rw [h1, h3]
   rfl
  ·show max d.depth (PyData.depthAll ds) <= 5
   omega
end
end DL
namespace XF
open PySem PySem.Spec PyProof.Rows
def DictIs (h : Heap) (e : Addr) (d : Option Addr) : Prop := ∃ o vs, h.get? e = some o /\ o.dict = d /\ o.data = .fields vs /\ (d = none -> vs[2]? = some .none)
theorem mf_dict (o : Obj) (f : Array Value -> Array Value) : (Obj.mapFields f o).dict = o.dict := by
 unfold Obj.mapFields
 split <;> rfl
section
variable {M : Model} {A : Around} {E : Value -> Shared -> Prop} {s : Shared}
theorem entry {base : Heap} {env : Env} {outer : List Env} {L e : Addr} {oe : Obj} {vs : Array Value} {head a0 : Value} {hadNext : Bool} {Q : Unit -> Shared -> Prop}
  (hfr : A.frames = some (env :: outer)) (hl : s.heap.FunFrames base (env :: outer)) (hf : env.frame = some L)
  (he : s.heap.get? e = some oe) (hkb : base.StaysIn s.heap) (hen : base.get? e = none) (hd : oe.data = .fields vs) (hsz : 1 < vs.size) (h0 : vs[0]? = some a0) (h2 : oe.dict = none -> vs[2]? = some .none)
  (h : ∀ h', Heap.NotedW base (env :: outer) e oe.cls a0 (rawInt L) s.heap h' -> DictIs h' e oe.dict -> Q () { s with heap := h' }) :
  wpAny M A (do let a <- frameOf env; let pl <- entryPlaceOf L hadNext; let b <- EntryCells.newEntry head a .none (rawInt L) .none pl; setField (.ref e) 1 b) Q E s := by
 have off : e ∉ (env :: outer).filterMap (·.frame) := fun z => by
  obtain ⟨_, o, q, n⟩ := hl.mem z
  rw [he] at q; cases q; exact n vs hd
 refine wpAny_bind (wpAny_frameOf_fun hfr hl hf fun g sl => wpAny_bind (wpAny_entryPlaceOf fun pl hpl => ?_))
 unfold EntryCells.newEntry newFields
 refine wpAny_bind (wpAny_newObj_type ?_ (hpl.sizeOk5 _ _ _ _ _))
 generalize hT : ({ cls := .type "traceback", dict := none, data := .fields ([head, .ref L, .none, rawInt L, .none] ++ (if pl.isEmpty then List.replicate 6 Value.none else pl)).toArray } : Obj) = oT
 have eg : g.get? e = some oe := (sl.2.1 e off).trans he
 have ep := Heap.get?_push_of_some (h := g) oT eg
 have kb : base.StaysIn g := fun b o q => (sl.2.1 b fun z => by rw [(hl.mem z).1] at q; cases q).trans (hkb b o q)
 refine wpAny_setField ep hd hsz (h _ ?_ ?_)
 ·have ne : g.objs.size ≠ e := Nat.ne_of_gt (Heap.lt_size eg)
  have fd := Obj.data_mapFields hd (·.setIfInBounds 1 (Value.ref g.objs.size))
  have e3 := Heap.get?_update_self (Obj.mapFields (·.setIfInBounds 1 (Value.ref g.objs.size))) ep (Obj.isFreed_of_fields fd)
  have keep : ∀ {b : Addr} {o : Obj}, b ≠ e -> g.get? b = some o -> ((g.push oT).update e (Obj.mapFields (·.setIfInBounds 1 (Value.ref g.objs.size)))).get? b = some o := fun {b o} n q => by
   rw [Heap.get?_update_other _ _ (Ne.symm n)]
   exact Heap.get?_push_of_some _ q
  have nr : ∀ {b : Addr} {o : Obj}, s.heap.get? b = some o -> (∀ vs, o.data ≠ .fields vs) -> b ≠ e := fun {b o} q n z => by
   rw [z, he] at q; cases q; exact n vs hd
  have eT : ((g.push oT).update e (Obj.mapFields (·.setIfInBounds 1 (Value.ref g.objs.size)))).get? g.objs.size = some oT :=
   (Heap.get?_update_other _ _ (Ne.symm ne)).trans (Heap.get?_push_size g (by rw [<- hT]; rfl))
  refine ⟨fun b o q => keep (fun z => by rw [z, hen] at q; cases q) (kb b o q), hl.of_keeps fun b o q n => ?_, ?_, fun b o q n => ?_⟩
  ·obtain ⟨sl', z⟩ := sl.2.2 b o q
   exact ⟨_, keep (nr q n) z, rfl⟩
  ·refine ⟨_, _, g.objs.size, oT, ([head, .ref L, .none, rawInt L, .none] ++ (if pl.isEmpty then List.replicate 6 Value.none else pl)).toArray, e3, ⟨Obj.cls_mapFields _ _, by rw [Array.getElem?_setIfInBounds_ne (by decide)]; exact h0⟩, fd, by simp [hsz], kb.fresh, ne, eT, by rw [<- hT], ?_⟩
   first
    | (simp; done)
    | (rcases hpl with rfl | ⟨_, _, _, _, _, _, _, rfl⟩ <;> simp)
  ·obtain ⟨sl', z⟩ := sl.2.2 b o q
   exact ⟨sl', keep (nr q n) z⟩
 ·exact ⟨_, _, Heap.get?_update_self _ ep (Obj.isFreed_of_fields (Obj.data_mapFields hd _)), mf_dict _ _, Obj.data_mapFields hd _, fun z => by rw [Array.getElem?_setIfInBounds_ne (by decide)]; exact h2 z⟩
theorem note0 {base : Heap} {env : Env} {outer : List Env} {L e : Addr} {oe : Obj} {vs : Array Value} {a0 : Value} {Q : Unit -> Shared -> Prop}
  (hfr : A.frames = some (env :: outer)) (hl : s.heap.FunFrames base (env :: outer)) (hf : env.frame = some L)
  (he : s.heap.get? e = some oe) (hkb : base.StaysIn s.heap) (hen : base.get? e = none) (hd : oe.data = .fields vs) (h1 : vs[1]? = some .none) (h0 : vs[0]? = some a0) (h2 : oe.dict = none -> vs[2]? = some .none)
  (h : ∀ h', Heap.NotedW base (env :: outer) e oe.cls a0 (rawInt L) s.heap h' -> DictIs h' e oe.dict -> Q () { s with heap := h' }) : wpAny M A (noteFrame (.ref e) env) Q E s := by
 unfold noteFrame
 simp only [hf]
 refine wpAny_bind (wpAny_field he hd h1 ?_)
 rw [if_neg (by decide)]
 exact entry hfr hl hf he hkb hen hd (Array.getElem?_eq_some_iff.mp h1).1 h0 h2 h
def FlyF (base : Heap) (l : List Env) (e : Addr) (cls a0 fl : Value) (h : Heap) : Prop := base.StaysIn h /\ base.get? e = none /\ h.FunFrames base l /\ h.TracedAtW base e cls a0 fl
theorem FlyF.first {base h : Heap} {l : List Env} {e : Addr} {cls a0 fl : Value} (x : FlyF base l e cls a0 fl h) : ∃ oe vs, h.get? e = some oe /\ oe.cls = cls /\ oe.data = .fields vs /\ vs[0]? = some a0 :=
 let ⟨_, _, _, oe, vs, _, _, _, he, hc, hd, _⟩ := x; ⟨oe, vs, he, hc.1, hd, hc.2⟩
theorem note1 {base : Heap} {env : Env} {outer : List Env} {L e : Addr} {cls a0 fl : Value} {d : Option Addr} {Q : Unit -> Shared -> Prop}
  (hfr : A.frames = some (env :: outer)) (hl : s.heap.FunFrames base (env :: outer)) (hf : env.frame = some L) (ht : s.heap.TracedAtW base e cls a0 fl) (dd : DictIs s.heap e d) (hkb : base.StaysIn s.heap) (hen : base.get? e = none)
  (h : ∀ h', Heap.NotedW base (env :: outer) e cls a0 (rawInt L) s.heap h' -> DictIs h' e d -> Q () { s with heap := h' }) : wpAny M A (noteFrame (.ref e) env) Q E s := by
 obtain ⟨oe, vs, T, oT, ts, he, ⟨rfl, h0⟩, hd, h1, hnT, hTe, hT, hdT, h3⟩ := id ht
 obtain ⟨o2, vs2, he2, rfl, hd2, hc2⟩ := id dd
 rw [he] at he2; cases he2
 rw [hd] at hd2; cases hd2
 unfold noteFrame
 simp only [hf]
 refine wpAny_bind (wpAny_field he hd h1 ?_)
 rw [if_pos (show (Value.ref T != Value.none) = true from by simp)]
 refine wpAny_bind (wpAny_field hT hdT h3 ?_)
 by_cases hfl : (fl == rawInt L) = true
 ·rw [if_pos hfl]
  obtain rfl : fl = rawInt L := beq_iff_eq.mp hfl
  exact wpAny_pure (h s.heap ⟨hkb, hl, ht, fun b o q _ => ⟨o.slots, q⟩⟩ dd)
 rw [if_neg hfl]
 refine wpAny_bind (wpAny_setField hT hdT (Array.getElem?_eq_some_iff.mp h3).1 ?_)
 have ot : ∀ {b : Addr}, b ≠ T -> (s.heap.update T (Obj.mapFields (·.setIfInBounds 3 Value.none))).get? b = s.heap.get? b := fun {b} n => Heap.get?_update_other _ _ (Ne.symm n)
 have nr : ∀ {b : Addr} {o : Obj}, s.heap.get? b = some o -> (∀ vs, o.data ≠ .fields vs) -> b ≠ T := fun {b o} q n z => by
  rw [z, hT] at q; cases q; exact n ts hdT
 exact entry hfr (hl.of_keeps fun b o q n => ⟨o, (ot (nr q n)).trans q, rfl⟩) hf ((ot (Ne.symm hTe)).trans he)
  (fun b o q => (ot fun z => by rw [z, hnT] at q; cases q).trans (hkb b o q)) hen hd (Array.getElem?_eq_some_iff.mp h1).1 h0 hc2
  fun h' ⟨x1, x2, x3, x4⟩ y => h h' ⟨x1, x2, x3, fun b o q n => x4 b o ((ot (nr q n)).trans q) n⟩ y
theorem flight {base : Heap} {l : List Env} {e : Addr} {cls a0 fl : Value} {d fr : Option Addr} {Q : Unit -> Shared -> Prop} (F : FlyF base l e cls a0 fl s.heap) (dd : DictIs s.heap e d)
  (h : ∀ h', FlyF base l e cls a0 (fr.elim Value.none fun f => rawInt f) h' -> DictIs h' e d -> s.heap.UpToSlots h' -> Q () { s with heap := h' }) : wpAny M A (setFlight (.ref e) fr) Q E s := by
 obtain ⟨hkb, hen, hl, oe, vs, T, oT, ts, he, hc, hd, h1, hnT, hTe, hT, hdT, h3⟩ := F
 obtain ⟨o2, vs2, he2, rfl, hd2, hc2⟩ := dd
 rw [he] at he2; cases he2
 rw [hd] at hd2; cases hd2
 have z3 : 3 < ts.size := (Array.getElem?_eq_some_iff.mp h3).1
 have ot : ∀ {b : Addr}, b ≠ T -> (s.heap.update T (Obj.mapFields (·.setIfInBounds 3 (fr.elim Value.none fun f => rawInt f)))).get? b = s.heap.get? b := fun {b} n => Heap.get?_update_other _ _ (Ne.symm n)
 have nr : ∀ {b : Addr} {o : Obj}, s.heap.get? b = some o -> (∀ vs, o.data ≠ .fields vs) -> b ≠ T := fun {b o} q n z => by
  rw [z, hT] at q; cases q; exact n ts hdT
 unfold setFlight
 refine wpAny_bind (wpAny_field he hd h1 ?_)
 rw [if_pos (show (Value.ref T != Value.none) = true from by simp)]
 refine wpAny_setField hT hdT z3 (h _ ⟨fun b o q => (ot fun z => by rw [z, hnT] at q; cases q).trans (hkb b o q), hen, hl.of_keeps fun b o q n => ⟨o, (ot (nr q n)).trans q, rfl⟩, ?_⟩ ⟨oe, vs, (ot (Ne.symm hTe)).trans he, rfl, hd, hc2⟩ fun b o q n => ⟨o.slots, (ot (nr q n)).trans q⟩)
 exact ⟨oe, vs, T, _, _, (ot (Ne.symm hTe)).trans he, hc, hd, h1, hnT, hTe, Heap.get?_update_self _ hT (Obj.isFreed_of_fields (Obj.data_mapFields hdT _)), Obj.data_mapFields hdT _, by simp [z3]⟩
theorem leaves_made {base : Heap} {env : Env} {outer : List Env} {L e : Addr} {oe : Obj} {vs : Array Value} {a0 : Value} {Q : Unit -> Shared -> Prop}
  (hfr : A.frames = some (env :: outer)) (hf : env.frame = some L) (hkb : base.StaysIn s.heap) (hl : s.heap.FunFrames base (env :: outer))
  (he : s.heap.get? e = some oe) (hen : base.get? e = none) (hd : oe.data = .fields vs) (h1 : vs[1]? = some .none) (h0 : vs[0]? = some a0) (h2 : oe.dict = none -> vs[2]? = some .none)
  (hQ : ∀ h', FlyF base outer e oe.cls a0 .none h' -> DictIs h' e oe.dict -> s.heap.UpToSlots h' -> Q () { s with heap := h' }) : wpAny M A (leaving env (.ref e)) Q E s := by
 unfold leaving
 refine wpAny_bind (note0 hfr hl hf he hkb hen hd h1 h0 h2 fun h1 N dd => ?_)
 obtain ⟨n1, n2, n3, n4⟩ := N
 exact flight (fr := none) (s := { s with heap := h1 }) ⟨n1, hen, n2, n3⟩ dd fun h2 F d2 up => hQ h2 ⟨F.1, F.2.1, F.2.2.1.2.2, F.2.2.2⟩ d2 (Heap.UpToSlots.trans n4 up)
theorem looks_on {base : Heap} {env : Env} {outer : List Env} {L e : Addr} {cls a0 fl : Value} {d : Option Addr} {Q : Unit -> Shared -> Prop}
  (hfr : A.frames = some (env :: outer)) (hf : env.frame = some L) (hfl : FlyF base (env :: outer) e cls a0 fl s.heap) (dd : DictIs s.heap e d)
  (hQ : ∀ h', FlyF base (env :: outer) e cls a0 (rawInt L) h' -> DictIs h' e d -> s.heap.UpToSlots h' -> Q () { s with heap := h' }) : wpAny M A (noteFrame (.ref e) env) Q E s := by
 obtain ⟨f1, f2, f3, f4⟩ := hfl
 refine note1 hfr f3 hf f4 dd f1 f2 fun h1 N dd => ?_
 obtain ⟨n1, n2, n3, n4⟩ := N
 exact hQ h1 ⟨n1, f2, n2, n3⟩ dd n4
theorem lands {base : Heap} {l : List Env} {e : Addr} {cls a0 fl : Value} {d : Option Addr} {Q : Unit -> Shared -> Prop} (hh : FlyF base l e cls a0 fl s.heap) (dd : DictIs s.heap e d)
  (hQ : ∀ h', FlyF base l e cls a0 .none h' -> DictIs h' e d -> s.heap.UpToSlots h' -> Q () { s with heap := h' }) : wpAny M A (setFlight (.ref e) none) Q E s := flight (fr := none) hh dd hQ
end
end XF
namespace L2
open PySem PySem.Spec PyProof.Rows
theorem exc_obj {K : PySem.W.Frag} {h : Heap} {C : Addr} {bmB : List Value} {newId : String} (X : K.In h) (q : PySem.W.excIn K C bmB newId = true) :
  ∃ bm N nm qn bs hdct sn sub ab col dd k0 k1 k2 k3 k5 mN, h.get? C = some (excClassObj nm qn C N bs bm hdct sn sub ab col dd k0 k1 k2 k3 k5 newId) /\ h.Ns N mN /\ mN ("__init__" : Str) = none /\ OwnTail h bmB bm := by
 unfold PySem.W.excIn at q
 split at q
 ·rename_i dd cd sl ho
  split at q
  ·rename_i C' bm k0 k1 k2 k3 n k5 hm hs
   simp only [Bool.and_eq_true, beq_iff_eq, Bool.not_eq_true'] at q
   obtain ⟨⟨⟨⟨⟨rfl, rfl⟩, hdel⟩, ht⟩, hn⟩, hi⟩ := q
   obtain ⟨nm, bs, mro, ns, qn, hd, sn, sub, ab, col, del⟩ := cd
   dsimp only at hm hdel hn hi
   subst hm hdel
   have hsl : sl = #[k0, k1, k2, k3, some (.builtin n), k5] := by
    cases sl
    simp only at hs
    rw [hs]
   subst hsl
   exact ⟨bm, ns, nm, qn, bs, hd, sn, sub, ab, col, dd, k0, k1, k2, k3, k5, _, X _ _ ho, .of_isNs (PySem.W.isNs_of_in X hn), PySem.W.nsMap_none_of_in X hn hi, PySem.W.tail_of_in X ht⟩
  ·cases q
 ·cases q
theorem obj_get {P : Program} {w : World} {H : Hp} {h : Heap} {a : Addr} {o : HO} (x : ObjOk P w H h a o) : ∃ ob, h.get? a = some ob := by
 cases o with
 | lst xs => obtain ⟨_, _, _, _, e⟩ := x; exact ⟨_, e⟩
 | tup xs => obtain ⟨_, _, _, ob, e, _⟩ := x; exact ⟨_, e⟩
 | dK kvs => obtain ⟨_, _, _, _, o, _, _, e, _⟩ := x; exact ⟨_, e⟩
 | dT kvs => obtain ⟨_, _, _, _, o, _, _, e, _⟩ := x; exact ⟨_, e⟩
 | set S n => obtain ⟨o, _, _, _, e, _⟩ := x; exact ⟨_, e⟩
 | ins C dx fs => obtain ⟨_, _, _, e, _⟩ := x; exact ⟨_, e⟩
 | own y => obtain ⟨_, e⟩ := x; exact ⟨_, e⟩
 | xd fs => obtain ⟨_, ⟨_, _, _, e, _⟩, _⟩ := x; exact ⟨_, e⟩
 | rng lo hi => obtain ⟨_, _, _, e⟩ := x; exact ⟨_, e⟩
 | frz ob u => obtain ⟨e, _⟩ := x; exact ⟨_, e⟩
 | tbl ps => exact ⟨_, (show h.get? a = some _ from x)⟩
 | met f y => exact ⟨_, (show h.get? a = some _ from x)⟩
 | ext φ => obtain ⟨_, ⟨_, e⟩, _⟩ := x; exact ⟨_, e⟩
structure Fly (P : Program) (w : World) (outer : List Env) (H : Hp) (s : Shared) (E : XK) (ea C t : Addr) (d : Option Addr) (H' : Hp) (B : Heap) (s' : Shared) : Prop where
 fl : ∃ fl, XF.FlyF B outer ea (.ref C) (.ref t) fl s'.heap
 dict : XF.DictIs s'.heap ea d
 os : s'.os = s.os
 bare : AllBare s'.gens
 un : Un (frs outer) [] H H' s.heap s'.heap
 hok : HOk P w H' s'.heap
 old : ∀ b o, s.heap.get? b = some o -> b ∉ frs outer -> ∃ ob, B.get? b = some ob
 trk : ∀ b o, H' b = some o -> ∃ ob, B.get? b = some ob
 wish : E (.ref C) d H'
def CXE (P : Program) (w : World) : CXT := fun outer H s E e s' => ∃ (ea C t : Addr) (d : Option Addr) (H' : Hp) (B : Heap), e = .ref ea /\ Fly P w outer H s E ea C t d H' B s'
section
variable {P : Program} {w : World} {K : PySem.W.Frag} {mg : Str -> Option Value} {base : Heap} {N : List Str} {qual : Str} {scope : Scope} {f : Addr} {cdv : Value} {A : Around} {outer : List Env} {s0 : Shared} {H0 : Hp} {E : XK}
theorem fly_out {pins : List (Addr × Obj)} {σ : St} {H : Hp} {s : Shared} {B h' : Heap} {xe : Value -> Shared -> Prop} (I : Inv ((cxOf (CXE P w) P w K mg base N qual scope f cdv A outer s0 H0 E).wish xe) pins σ H s)
  (hB0 : ∀ b o, s0.heap.get? b = some o -> b ∉ frs (envOfC qual scope s0.heap.objs.size f cdv :: outer) -> ∃ ob, B.get? b = some ob) (hBH : ∀ b o, H b = some o -> ∃ ob, B.get? b = some ob)
  (k1 : B.StaysIn s.heap) (k2 : B.StaysIn h') (up : s.heap.UpToSlots h') : Un (frs outer) [] H0 H s0.heap h' /\ HOk P w H h' := by
 have ub : Un (frs outer) [] H0 H s0.heap s.heap := I.base
 have nl : ∀ {b : Addr} {o : Obj}, s0.heap.get? b = some o -> b ∉ frs outer -> b ∉ frs (envOfC qual scope s0.heap.objs.size f cdv :: outer) := fun {b o} e n z => by
  have z : b ∈ s0.heap.objs.size :: frs outer := z
  rcases List.mem_cons.mp z with z | z
  ·exact Nat.lt_irrefl _ (z ▸ Heap.lt_size e)
  ·exact n z
 have mv : ∀ {b : Addr} {u : Obj}, (∃ ob, B.get? b = some ob) -> s.heap.get? b = some u -> h'.get? b = some u := fun {b u} hb e => by
  obtain ⟨ob, q⟩ := hb
  have := k1 b ob q
  rw [e] at this
  cases this
  exact k2 b _ q
 have fr : ∀ {b : Addr}, b ∈ frs outer -> ∀ {o : Obj}, s.heap.get? b = some o -> ∃ sl, h'.get? b = some { o with slots := sl } := fun {b} hb {o} e => by
  obtain ⟨_, o', ho', hd⟩ := I.funs.mem hb
  rw [e] at ho'
  cases ho'
  exact up b _ e hd
 refine ⟨⟨fun b o e n h1 h2 => mv (hB0 b o e (nl e h1)) (ub.keep b o e n h1 h2), fun b o e n h1 h2 => ?_, ub.free, fun b o e h2 => ?_, ub.tups, ub.frzs, ub.tbls⟩, fun a o e => (I.hok a o e).stay (fun b u hb q => mv ?_ q) (fun _ q => q) fun _ _ q => q⟩
 ·obtain ⟨sl, e1⟩ := ub.slot b o e n h1 h2
  obtain ⟨sl', e2⟩ := fr h1 e1
  exact ⟨sl', e2⟩
 ·obtain ⟨o', e1⟩ := ub.there b o e h2
  by_cases h1 : b ∈ frs outer
  ·obtain ⟨sl', e2⟩ := fr h1 e1
   exact ⟨_, e2⟩
  ·exact ⟨o', mv (hB0 b o e (nl e h1)) e1⟩
 ·rcases hb with rfl | hb
  ·exact hBH _ _ e
  ·exact hBH _ _ hb
def Raises (X : Cx) (C : Addr) (Eh : Hp -> Prop) : Prop := ∀ (pins : List (Addr × Obj)) (σ : St) (H : Hp) (s : Shared) (h' : Heap) (e : Addr) (vs : List Value), Inv X pins σ H s -> Heap.MadeExcOf s.heap h' e (.ref C) vs -> Eh H -> X.xe (.ref e) { s with heap := h' }
theorem raises_core {C : Addr} {pins : List (Addr × Obj)} {σ : St} {H H1 : Hp} {s s1 : Shared} {e t : Addr} {oe : Obj} {vs : Array Value} (I : Inv (cxOf (CXE P w) P w K mg base N qual scope f cdv A outer s0 H0 E) pins σ H s) (new : s.heap.get? e = none)
  (I1 : Inv (cxOf (CXE P w) P w K mg base N qual scope f cdv A outer s0 H0 E) pins σ H1 s1) (he : s1.heap.get? e = some oe) (hcl : oe.cls = .ref C) (hd : oe.data = .fields vs) (h0 : vs[0]? = some (.ref t)) (h1 : vs[1]? = some .none) (hc2 : oe.dict = none -> vs[2]? = some .none) (hn : H1 e = none) (hE : E (.ref C) oe.dict H1) :
  (cxOf (CXE P w) P w K mg base N qual scope f cdv A outer s0 H0 E).xe (.ref e) s1 := by
 have hst : (cxOf (CXE P w) P w K mg base N qual scope f cdv A outer s0 H0 E).A.frames = some (envOfC qual scope s0.heap.objs.size f cdv :: outer) := I.ok.frames
 have hin : ∀ env ∈ (envOfC qual scope s0.heap.objs.size f cdv :: outer), ∀ a, env.frame = some a -> a ∈ e :: frs (envOfC qual scope s0.heap.objs.size f cdv :: outer) := fun env hq a ha => List.mem_cons_of_mem _ (List.mem_filterMap.mpr ⟨env, hq, ha⟩)
 have hB : (PySem.W.hideAll s1.heap (e :: frs (envOfC qual scope s0.heap.objs.size f cdv :: outer))).StaysIn s1.heap := fun b o q => PySem.W.of_hideAll _ q
 have inB : ∀ b o, s1.heap.get? b = some o -> b ≠ e -> b ∉ frs (envOfC qual scope s0.heap.objs.size f cdv :: outer) -> ∃ ob, (PySem.W.hideAll s1.heap (e :: frs (envOfC qual scope s0.heap.objs.size f cdv :: outer))).get? b = some ob := fun b o q n1 n2 => ⟨o, PySem.W.hideAll_get _ q fun z => (List.mem_cons.mp z).elim n1 n2⟩
 have hen : (PySem.W.hideAll s1.heap (e :: frs (envOfC qual scope s0.heap.objs.size f cdv :: outer))).get? e = none := PySem.W.hideAll_none _ List.mem_cons_self
 refine XF.leaves_made (base := PySem.W.hideAll s1.heap (e :: frs (envOfC qual scope s0.heap.objs.size f cdv :: outer))) hst rfl hB (PySem.W.funFrames_hide I1.stack hin) he hen hd h1 h0 hc2 fun h2 fl dd up => ?_
 have old : ∀ b o, s0.heap.get? b = some o -> b ∉ frs (envOfC qual scope s0.heap.objs.size f cdv :: outer) -> ∃ ob, (PySem.W.hideAll s1.heap (e :: frs (envOfC qual scope s0.heap.objs.size f cdv :: outer))).get? b = some ob := fun b o q n => by
  obtain ⟨o1, q1⟩ := I.base.there b o q (fun z => nomatch z)
  obtain ⟨o', q'⟩ := I1.base.there b o q (fun z => nomatch z)
  exact inB b o' q' (fun z => by rw [z] at q1; have q1 : s.heap.get? e = some o1 := q1; rw [new] at q1; cases q1) n
 have trk : ∀ b o, H1 b = some o -> ∃ ob, (PySem.W.hideAll s1.heap (e :: frs (envOfC qual scope s0.heap.objs.size f cdv :: outer))).get? b = some ob := fun b o q => by
  have n2 : b ∉ frs (envOfC qual scope s0.heap.objs.size f cdv :: outer) := fun z => by
   have := I1.stkFree b z
   rw [q] at this; cases this
  obtain ⟨ob, hob⟩ := obj_get (I1.hok b o q)
  exact inB b ob hob (a0v q hn) n2
 obtain ⟨un, hok⟩ := fly_out (E := E) (xe := (cxOf (CXE P w) P w K mg base N qual scope f cdv A outer s0 H0 E).xe) (h' := h2) I1 old trk hB fl.1 up
 refine ⟨e, C, t, oe.dict, H1, _, rfl, ⟨.none, hcl ▸ fl⟩, dd, I1.os, I1.bare, un, hok, fun b o q n => old b o q fun z => ?_, trk, hE⟩
 have z : b ∈ s0.heap.objs.size :: frs outer := z
 rcases List.mem_cons.mp z with z | z
 ·exact Nat.lt_irrefl _ (z ▸ Heap.lt_size q)
 ·exact n z
theorem raises_def {C : Addr} : Raises (cxOf (CXE P w) P w K mg base N qual scope f cdv A outer s0 H0 E) C (fun H => E (.ref C) none H) := by
 intro pins σ H s h' e vs I hx hE
 obtain ⟨t, he, _, _⟩ := hx.there
 have I1 : Inv (cxOf (CXE P w) P w K mg base N qual scope f cdv A outer s0 H0 E) pins σ H { s with heap := h' } := I.call' (ch := []) rfl (Un.kept hx.keeps) (I.hok.kept hx.keeps) I.bare (fun b z => nomatch z)
 refine raises_core I hx.new I1 he rfl rfl rfl rfl (fun _ => rfl) ?_ hE
 cases q : H e with
 | none => rfl
 | some o =>
  obtain ⟨ob, hob⟩ := obj_get (I.hok e o q)
  rw [hx.new] at hob; cases hob
end
section
variable {X : Cx}
theorem ps_raise {x : Str} {C : Addr} {Eh : Hp -> Prop} {B newId initId : String} {bm : List Value} {np cpos pos : Pos} {e : Expr} {es : List Expr} {t : TA} (hR : Raises X C Eh) (hK : PySem.W.excIn X.K C bm newId = true) (FB : ExcBaseFacts B newId initId bm)
  (hc : X.calm = true) (hg : Gl X x) (hm : X.mg x = some (.ref C)) (ha : PA X (e :: es) t) (hd : (x == ("__debug__" : Str)) = false := by decide)
  (he : starEach (e :: es) X.env = (false, eval e X.env) :: starEach es X.env := by rfl) (hpl : (backTo cpos (starEach es X.env)).any (·.1) = false := by rfl) :
  PS X (.Raise (some (.Call (.Name x np) (e :: es) [] cpos)) none pos) (fun _ σ H => t σ H fun vs H1 => vs.length <= sizeLine /\ Eh H1) := by
 intro pins s σ H D I h
 obtain ⟨tl, N, nm, q, bs, hdct, sn, sub, ab, col, dd, k0, k1, k2, k3, k5, mN, hC, hN, hni, T⟩ := exc_obj I.ok.mod.kin hK
 refine wpAny_Raise_call_subT (C := C) (nm := nm) (q := q) (N := N) (bs := bs) (bm := tl) (hdct := hdct) (sn := sn) (sub := sub) (ab := ab) (col := col) (dd := dd) (k0 := k0) (k1 := k1) (k2 := k2) (k3 := k3) (k5 := k5)
  FB (mN := mN) (T.hasType FB.hasBase) (I.ok.hd hc) (by rw [he]; show (false || (backTo cpos (starEach es X.env)).any (·.1)) = false; rw [hpl]; rfl) hni (ld_glob I hg hm ⟨rfl, ?_⟩ hd)
 have hA := ha cpos pins s σ H _ I h
 rw [he] at hA ⊢
 refine Calls.evalArgs_plain (thn hA fun us s2 ⟨vs, H2, I2, r2, hz, hE⟩ => ⟨rfl, by rw [<- r2.length]; exact hz, I2.bk _ _ hC, hN.keeps I2.bk, T.keeps I2.bk, fun h' e hx => hR pins σ H2 s2 h' e us I2 hx hE⟩)
end
end L2
namespace DL
open PySem PySem.Spec PyProof.Rows L2
def GX (mg : Str -> Option Value) (E : XK) (x : XD) (H : Hp) : Prop := ∀ C, mg x.cls = some (.ref C) -> match x.flds with
 | [] => E (.ref C) none H
 | [(f, .int i)] => ∀ a, H a = none -> E (.ref C) (some a) (upd H a (.xd [(f, .int i)]))
 | _ => True
def spX (K : PySem.W.Frag) (mg : Str -> Option Value) (n : Nat) (F : List D -> M D) : Sp := fun vs H Q E => ∃ O ds, vs.length = n /\ (∀ l ∈ O, Mu H l) /\ Reps K O H vs ds /\ ok (GS (GX mg E) H) (F ds) (fun d => ∀ v H', Same H H' -> Rep K O H' v d -> Q v H')
structure DefX (P : Program) (w : World) (K : PySem.W.Frag) (mg : Str -> Option Value) (base : Heap) (k : Nat) (x : Str) (n : Nat) (F : List D -> M D) : Prop where
 ex : ∃ (f : Addr) (fd : FuncData) (ps : List Str), FnOk P w K mg base (CXE P w) k f fd ps (spX K mg n F) /\ mg x = some (.ref f) /\ PySem.W.keepIn K (.ref f) = true /\ Binds K fd ps []
section
variable {X : Cx} {G : XD -> Hp -> Prop} {e : Expr} {es : List Expr} {fa : DS -> M (List D)} {pos : Pos}
theorem ok_weak {α : Type} {G G' : XD -> Prop} {r : M α} {k : α -> Prop} (h : ok G r k) (f : ∀ x, G x -> G' x) : ok G' r k := by
 match r, h with
 | some (.ok a), h => exact h
 | some (.error x), h => exact f x h
theorem pd_callX {k n : Nat} {x : Str} {p : Pos} {F : List D -> M D} {E : XK} (h : DefX X.prog X.w X.K X.mg X.base k x n F) (hr : Room k X.A) (hx : Passes (CXE X.prog X.w) X E) (hG : ∀ x H, G x H -> GX X.mg E x H) (hg : Gl X x) (hn : (e :: es).length = n) (ha : PDA X G (e :: es) fa)
  (hdb : (x == ("__debug__" : Str)) = false := by decide) (he : starEach (e :: es) X.env = (false, eval e X.env) :: starEach es X.env := by rfl) (hpl : (backTo pos (starEach es X.env)).any (·.1) = false := by rfl) :
  PD X G (.Call (.Name x p) (e :: es) [] pos) (dCall F fa) := by
 obtain ⟨f, fd, ps, F1, hm, hk, hb⟩ := h.ex
 obtain ⟨hl, t, pa, ha⟩ := ha
 refine ⟨_, pe_call F1 hr hg hm hk hb .nil hx pa hdb he hpl, @fun Hr δ O σ H Q E0 k => ?_⟩
 have k1 := a0k k
 refine ha δ O σ H _ E0 ?_
 cases e1 : fa δ with
 | none => rw [e1] at k1; exact k1.elim
 | some r =>
  rw [e1] at k1
  cases r with
  | error x => exact k1
  | ok ds =>
   refine fun vs H1 s1 rs => ?_
   refine ⟨O, ds, ?_, (E0.same s1).oo, ?_, ok_weak (a0h k1 fun d z v H2 s2 r => z v H2 (s1.trans s2) r) fun y q H2 s2 => hG y H2 (q H2 ((E0.same s1).root.trans s2))⟩
   ·rw [List.append_nil, rs.length, hl δ ds e1]
    exact hn
   ·rw [List.append_nil]
    exact rs
def gRaise (x : Str) (fa : DS -> M (List D)) : DS -> M Out := fun δ => (fa δ).thn fun ds => if small ds.length then some (.error ⟨x, []⟩) else none
theorem pd_raise {x : Str} {C : Addr} {B newId initId : String} {bm : List Value} {np cpos : Pos} {E : XK} (hR : Raises X C (fun H => E (.ref C) none H)) (hG : ∀ x H, G x H -> GX X.mg E x H) (hK : PySem.W.excIn X.K C bm newId = true) (FB : ExcBaseFacts B newId initId bm)
  (hc : X.calm = true) (hg : Gl X x) (hm : X.mg x = some (.ref C)) (ha : PDA X G (e :: es) fa) (hd : (x == ("__debug__" : Str)) = false := by decide)
  (he : starEach (e :: es) X.env = (false, eval e X.env) :: starEach es X.env := by rfl) (hpl : (backTo cpos (starEach es X.env)).any (·.1) = false := by rfl) :
  PDS X G (.Raise (some (.Call (.Name x np) (e :: es) [] cpos)) none pos) (gRaise x fa) := by
 obtain ⟨_, t, pa, ha⟩ := ha
 refine ⟨_, ps_raise hR hK FB hc hg hm pa hd he hpl, @fun Hr R0 P0 H0 δ O σ H Dn E1 k => ?_⟩
 refine ha δ O σ H _ E1.ev (a0h (a0k k) fun ds z vs H1 s1 rs => ?_)
 by_cases hz : small ds.length = true
 ·rw [if_pos hz] at z
  exact ⟨by rw [rs.length]; exact a2a hz, hG _ _ (z H1 (E1.ev.root.trans s1)) C hm⟩
 ·rw [if_neg hz] at z
  exact z.elim
end
section
variable {P : Program} {w : World} {K : PySem.W.Frag} {mg : Str -> Option Value} {base : Heap}
theorem defX_of {x qual : Str} {st : Stmt} {f : Addr} {fd : FuncData} {N ps : List Str} {k : Nat} {g : DS -> M Out} (F0 : Fun K x qual st f fd) (S : FnScope N ps (defScope st)) (hm : mg x = some (.ref f)) (hb : Binds K fd ps [])
  (hbody : ∀ (cdv : Value) (A : Around) (outer : List Env) (s : Shared) (H : Hp) (E : XK), Room k (A.deeper (envOfC qual (defScope st) s.heap.objs.size f cdv)) ->
   PDSs (cxOf (CXE P w) P w K mg base N qual (defScope st) f cdv A outer s H E) (GX mg E) (defBody st) g) : DefX P w K mg base (k + 1) x ps.length (run N.length g) := by
 refine ⟨f, fd, ps, ?_, hm, F0.kp, hb⟩
 obtain ⟨oc, od, kV, doc, pm, an, cdv, ct, osl, rfl, lk, hcd⟩ := F0.ex
 refine fn_of lk hcd S (fun vs H Q E h => ?_) fun A outer s H vs Q E hr h => ?_
 ·obtain ⟨O, ds, hl, _⟩ := h
  exact hl
 ·obtain ⟨O, ds, hl, oo, r, q⟩ := h
  obtain ⟨t, p, hB⟩ := hbody cdv A outer s H E hr
  refine ⟨t, p, hB O (fun _ => False) H (startD N.length ds) O (L2.start N vs) H _ ⟨b3e N oo r, fun l hl => .inl hl, fun b o _ h => h, fun l hl => .inl hl, fun i es l h1 ho h2 => ?_, fun l hl => hl⟩ (a0h (a0k q) fun o z => ?_)⟩
  ·exact (b2h h1 ho).elim
  ·cases o with
   | rt d => exact fun v H' kp r => z v H' (fun b o h => kp b o (fun w => w) h) r
   | nx δ => exact fun O' σ' H' E' => z .non H' (fun b o h => E'.keep b o (fun w => w) h) .non
   | bk δ => exact z.elim
   | ct δ => exact z.elim
end
end DL
namespace L2
open PySem PySem.Spec PyProof.Rows
section
variable {X : Cx}
theorem fly_on {pins : List (Addr × Obj)} {σ : St} {H H' : Hp} {s s' : Shared} {E : XK} {ea C t : Addr} {d : Option Addr} {B h5 : Heap} (I : Inv X pins σ H s) (F : Fly X.prog X.w X.stack H s E ea C t d H' B s') (k5 : B.StaysIn h5) (up : s'.heap.UpToSlots h5) : Inv X pins σ H' { s' with heap := h5 } := by
 have k1 : B.StaysIn s'.heap := let ⟨_, z⟩ := F.fl; z.1
 have mv : ∀ {b : Addr} {u : Obj}, (∃ ob, B.get? b = some ob) -> s'.heap.get? b = some u -> h5.get? b = some u := fun {b u} hb e => by
  obtain ⟨ob, q⟩ := hb
  have := k1 b ob q
  rw [e] at this
  cases this
  exact k5 b _ q
 have fr : ∀ {b : Addr}, b ∈ frs X.stack -> ∀ {o : Obj}, s.heap.get? b = some o -> ∃ sl, h5.get? b = some { o with slots := sl } := fun {b} hb {o} e => by
  obtain ⟨_, o', ho', hd⟩ := I.stack.mem hb
  rw [e] at ho'
  cases ho'
  obtain ⟨sl, e1⟩ := F.un.slot b o e (I.stkFree b hb) hb (fun z => nomatch z)
  obtain ⟨sl', e2⟩ := up b _ e1 hd
  exact ⟨sl', e2⟩
 refine I.call' (ch := []) F.os ⟨fun b o e n h1 h2 => mv (F.old b o e h1) (F.un.keep b o e n h1 h2), fun b o e n h1 h2 => fr h1 e, F.un.free, fun b o e h2 => ?_, F.un.tups, F.un.frzs, F.un.tbls⟩ (fun a o e => (F.hok a o e).stay (fun b u hb q => mv ?_ q) (fun _ q => q) fun _ _ q => q) F.bare (fun b z => nomatch z)
 ·by_cases h1 : b ∈ frs X.stack
  ·obtain ⟨sl, q⟩ := fr h1 e
   exact ⟨_, q⟩
  ·obtain ⟨ob, q⟩ := F.old b o e h1
   exact ⟨ob, k5 b ob q⟩
 ·rcases hb with rfl | hb
  ·exact F.trk _ _ e
  ·exact F.trk _ _ hb
abbrev Cx.tri (X : Cx) (pn : List (Addr × Obj)) (xe : Value -> Shared -> Prop) : Cx := { X with pn := pn, xe := xe }
theorem Inv.tri {pins : List (Addr × Obj)} {σ : St} {H : Hp} {s : Shared} (I : Inv X pins σ H s) (xe : Value -> Shared -> Prop) : Inv (X.tri (X.pn ++ pins) xe) [] σ H s :=
 ⟨⟨I.ok.mod, I.ok.kind, I.ok.glob, I.ok.blt, I.ok.above, I.ok.inj, I.ok.has, I.ok.cab, I.ok.hd, I.ok.frames, I.ok.stk, I.ok.exf, I.ok.bs, I.ok.bsz, I.ok.noex, I.ok.exfs, I.ok.funs, I.ok.frf⟩,
  I.os, I.bare, I.base, I.loc, I.cell, I.free, I.freeC, fun p hp => I.pin p (by simpa using hp), I.hok, I.len⟩
theorem Inv.untri {pins pins' : List (Addr × Obj)} {σ : St} {H : Hp} {s : Shared} {xe : Value -> Shared -> Prop} (I : Inv (X.tri (X.pn ++ pins) xe) pins' σ H s) : Inv X pins σ H s :=
 ⟨⟨I.ok.mod, I.ok.kind, I.ok.glob, I.ok.blt, I.ok.above, I.ok.inj, I.ok.has, I.ok.cab, I.ok.hd, I.ok.frames, I.ok.stk, I.ok.exf, I.ok.bs, I.ok.bsz, I.ok.noex, I.ok.exfs, I.ok.funs, I.ok.frf⟩,
  I.os, I.bare, I.base, I.loc, I.cell, I.free, I.freeC, fun p hp => I.pin p (List.mem_append_left _ hp), I.hok, I.len⟩
abbrev Cx.held (X : Cx) (pn : List (Addr × Obj)) (e : Addr) : Cx := { X with A := X.A.mark (some (.ref e)), calm := false, pn := pn, xe := fun _ _ => False }
theorem Inv.held {pins : List (Addr × Obj)} {σ : St} {H : Hp} {s : Shared} {e : Addr} {oe : Obj} (I : Inv X pins σ H s) (he : s.heap.get? e = some oe /\ H e = none /\ e ≠ X.env.locals /\ e ∉ X.fs /\ ∀ v, oe.data ≠ .cell v) : Inv (X.held (X.pn ++ pins ++ [(e, oe)]) e) [] σ H s :=
 ⟨⟨I.ok.mod, I.ok.kind, I.ok.glob, I.ok.blt, I.ok.above, I.ok.inj, I.ok.has, I.ok.cab, (fun z => nomatch z), I.ok.frames, I.ok.stk, I.ok.exf, I.ok.bs, I.ok.bsz, I.ok.noex, I.ok.exfs, I.ok.funs, I.ok.frf⟩,
  I.os, I.bare, I.base, I.loc, I.cell, I.free, I.freeC, fun p hp => by
   have hp : p ∈ (X.pn ++ pins ++ [(e, oe)]) ++ [] := hp
   rw [List.append_nil] at hp
   rcases List.mem_append.mp hp with hp | hp
   ·exact I.pin p hp
   ·rw [List.mem_singleton.mp hp]; exact he, I.hok, I.len⟩
theorem Inv.unheld {pins pins' : List (Addr × Obj)} {σ : St} {H : Hp} {s : Shared} {e : Addr} {oe : Obj} (hd : X.calm = true -> X.A.handled = none) (I : Inv (X.held (X.pn ++ pins ++ [(e, oe)]) e) pins' σ H s) : Inv X pins σ H s :=
 ⟨⟨I.ok.mod, I.ok.kind, I.ok.glob, I.ok.blt, I.ok.above, I.ok.inj, I.ok.has, I.ok.cab, hd, I.ok.frames, I.ok.stk, I.ok.exf, I.ok.bs, I.ok.bsz, I.ok.noex, I.ok.exfs, I.ok.funs, I.ok.frf⟩,
  I.os, I.bare, I.base, I.loc, I.cell, I.free, I.freeC, fun p hp => I.pin p (List.mem_append_left _ (List.mem_append_left _ hp)), I.hok, I.len⟩
end
end L2
namespace L2
open PySem PySem.Spec PyProof.Rows
section
variable {X : Cx}
def tCan (X : Cx) (sts : List Stmt) : TS := fun D σ H => ∃ t, PSs X sts t /\ t D σ H
theorem pss_can {sts : List Stmt} : PSs X sts (tCan X sts) := fun pins s σ H D I ⟨_, p, h⟩ => p pins s σ H D I h
def Ends.gone (D : Ends) (i : Nat) : Ends := ⟨fun σ H => D.nx (σ.set i none) H, D.rt, fun σ H => D.bk (σ.set i none) H, fun σ H => D.ct (σ.set i none) H⟩
end
end L2
namespace DL
open PySem PySem.Spec PyProof.Rows L2
section
variable {K : PySem.W.Frag} {Hr : Hp} {R0 : List Addr} {P0 : Addr -> Prop} {H0 H H' : Hp} {O O' : List Addr} {σ : St} {δ : DS}
def Sl.noOw : Sl -> Sl
 | .ow _ => .un
 | .od _ => .un
 | s => s
def noOw (δ : DS) : DS := δ.map Sl.noOw
def Out.gone (i : Nat) : Out -> Out
 | .nx δ => .nx (δ.set i .un)
 | .rt d => .rt d
 | .bk δ => .bk (δ.set i .un)
 | .ct δ => .ct (δ.set i .un)
theorem EI.fresh (E : EI K Hr R0 P0 H0 O H σ δ) : EI K H O (fun _ => False) H O H σ (noOw δ) := by
 have no : ∀ {i : Nat} {s : Sl}, (noOw δ)[i]? = some s -> s.own -> False := fun {i s} h ho => by
  unfold noOw at h
  rw [List.getElem?_map] at h
  cases e : δ[i]? with
  | none => rw [e] at h; cases h
  | some s => rw [e] at h; cases s <;> (cases h; exact ho)
 refine ⟨⟨fun _ _ h => h, E.ev.oo, by unfold noOw; rw [List.length_map]; exact E.ev.len, fun i s h => ?_, fun i j l ds es _ h1 => (no h1 trivial).elim⟩, fun l hl => .inl hl, fun b o _ h => h, fun l hl => .inl hl, fun i ds l h1 ho => (no h1 ho).elim, fun l hl => hl⟩
 unfold noOw at h
 rw [List.getElem?_map] at h
 cases e : δ[i]? with
 | none => rw [e] at h; cases h
 | some s' =>
  rw [e] at h
  have q := E.ev.at_ i s' e
  cases s' <;> cases h
  ·trivial
  ·exact q
  ·trivial
  ·trivial
  ·exact q
theorem EI.back {σ' : St} {δ' : DS} (E : EI K Hr R0 P0 H0 O H σ δ) (F : EI K H O (fun _ => False) H O' H' σ' δ') : EI K Hr R0 P0 H0 O' H' σ' δ' := by
 refine ⟨⟨E.ev.root.trans F.ev.root, F.ev.oo, F.ev.len, F.ev.at_, F.ev.dis⟩, fun l hl => ?_, fun b o n h => F.keep b o (fun z => z) (E.keep b o n h), fun l hl => ?_, fun i ds l h1 ho h2 h3 => F.nr1 i ds l h1 ho h2 (E.sub l h3), fun l hl => F.sub l (E.sub l hl)⟩
 ·rcases F.omr l hl with z | z
  ·exact E.omr l z
  ·refine .inr ?_
   cases e : Hr l with
   | none => rfl
   | some o => rw [E.ev.root l o e] at z; cases z
 ·rcases F.omr l hl with z | z
  ·exact E.om l z
  ·by_cases hp : P0 l
   ·exact .inr (.inl hp)
   ·refine .inr (.inr ?_)
    cases e : H0 l with
    | none => rfl
    | some o => rw [E.keep l o hp e] at z; cases z
theorem Fin.fresh {Dn : Ends} {o : Out} (E : EI K Hr R0 P0 H0 O H σ δ) (h : Fin K Hr R0 P0 H0 Dn o) : Fin K H O (fun _ => False) H Dn o := by
 cases o with
 | nx δ' => exact fun O' σ' H' F => h O' σ' H' (E.back F)
 | rt d => exact fun v H' kp r => h v H' (fun b o n q => kp b o (fun z => z) (E.keep b o n q)) (r.to (.less E.sub))
 | bk δ' => exact fun O' σ' H' F => h O' σ' H' (E.back F)
 | ct δ' => exact fun O' σ' H' F => h O' σ' H' (E.back F)
def exS (N i : Nat) (a : Addr) : DS := (List.replicate N Sl.un).set i (.ex a)
open Classical in
noncomputable def trySuite (N i : Nat) (gs : Addr -> DS -> M Out) : M Out :=
 if h : ∃ r, ∀ a, (noX (gs a (exS N i a))).thn (fun o => M.ret (o.gone i)) = r then choose h else none
open Classical in
noncomputable def gTry (x : Str) (N i : Nat) (gb : DS -> M Out) (gs : Addr -> DS -> M Out) : DS -> M Out := fun δ => match gb (noOw δ) with
 | none => none
 | some (.ok o) => some (.ok o)
 | some (.error y) => if y.cls = x then trySuite N i gs else none
end
section
variable {X : Cx} {G : XD -> Hp -> Prop}
end
end DL
namespace L2
open PySem PySem.Spec PySem.W PySem.Calls PyProof.Rows
open PySem.Builtin.ObjectAttr PySem.Builtin PySem.Builtin.Getset_descriptor
section
variable {prog : Program} {w : World} {A : Around} {E : Value -> Shared -> Prop} {K : Frag} {x D : Addr} {h : Heap} {g : Array GenState} {d : Drawn} {t : Nat} {os : OsState}
end
end L2
namespace DL
open PySem PySem.Spec PyProof.Rows L2
section
variable {X : Cx} {G : XD -> Hp -> Prop} {pos : Pos}
end
end DL
namespace DL
open PySem PySem.Spec PyProof.Rows L2
section
variable {X : Cx}
def one? : D -> Bool
 | .bool _ => true
 | .none => true
 | _ => false
def sameOne : D -> D -> Bool
 | .bool a, .bool b => a == b
 | .none, .none => true
 | _, _ => false
def oIs (x y : D) : Option D := if one? y then some (.bool (sameOne x y)) else none
def oIsNot (x y : D) : Option D := if one? y then some (.bool (!sameOne x y)) else none
theorem op_isB : OpR X (compareOp .Is) (fun x y H Q => ∃ b, y = .bl b /\ Q (.bl (decide (x = .bl b))) H) := by
 intro pins s σ H x y v u Q I rx ry h
 obtain ⟨b, rfl, q⟩ := h
 cases (show u = Value.bool b from ry)
 have fin : ∀ c : Bool, decide (x = V.bl b) = c -> EP X pins σ Q (.bool c) s := fun c e => ⟨.bl _, H, I, rfl, e ▸ q⟩
 cases x with
 | non => cases (show v = Value.none from rx); exact wpAny_pure (fin _ (by simp))
 | bl c => cases (show v = Value.bool c from rx); exact wpAny_pure (fin _ (by cases b <;> cases c <;> rfl))
 | int i => obtain ⟨t, z⟩ := (show ∃ t, v = Value.int i t from rx); cases z; exact wpAny_pure (fin _ (by simp))
 | str i => obtain ⟨t, z⟩ := (show ∃ t, v = Value.str i t from rx); cases z; exact wpAny_pure (fin _ (by simp))
 | byt i => obtain ⟨t, z⟩ := (show ∃ t, v = Value.bytes i t from rx); cases z; exact wpAny_pure (fin _ (by simp))
 | flt i => obtain ⟨t, z⟩ := (show ∃ t, v = Value.float i t from rx); cases z; exact wpAny_pure (fin _ (by simp))
 | ref p => cases (show v = Value.ref p from rx); exact wpAny_pure (fin _ (by simp))
 | ty p => cases (show v = Value.type p from rx); exact wpAny_pure (fin _ (by simp))
theorem op_notB : OpR X (compareOp .IsNot) (fun x y H Q => ∃ b, y = .bl b /\ Q (.bl (!decide (x = .bl b))) H) := by
 intro pins s σ H x y v u Q I rx ry h
 obtain ⟨b, rfl, q⟩ := h
 cases (show u = Value.bool b from ry)
 have fin : ∀ c : Bool, decide (x = V.bl b) = c -> EP X pins σ Q (.bool (!c)) s := fun c e => ⟨.bl _, H, I, rfl, e ▸ q⟩
 cases x with
 | non => cases (show v = Value.none from rx); exact wpAny_pure (fin false (by simp))
 | bl c => cases (show v = Value.bool c from rx); exact wpAny_pure (fin (Value.bool c == Value.bool b) (by cases b <;> cases c <;> rfl))
 | int i => obtain ⟨t, z⟩ := (show ∃ t, v = Value.int i t from rx); cases z; exact wpAny_pure (fin false (by simp))
 | str i => obtain ⟨t, z⟩ := (show ∃ t, v = Value.str i t from rx); cases z; exact wpAny_pure (fin false (by simp))
 | byt i => obtain ⟨t, z⟩ := (show ∃ t, v = Value.bytes i t from rx); cases z; exact wpAny_pure (fin false (by simp))
 | flt i => obtain ⟨t, z⟩ := (show ∃ t, v = Value.float i t from rx); cases z; exact wpAny_pure (fin false (by simp))
 | ref p => cases (show v = Value.ref p from rx); exact wpAny_pure (fin false (by simp))
 | ty p => cases (show v = Value.type p from rx); exact wpAny_pure (fin false (by simp))
theorem b1o {K : PySem.W.Frag} {O : List Addr} {H : Hp} {v u : V} {x y : D} (rv : Rep K O H v x) (ru : Rep K O H u y) (h1 : one? y = true) : (∃ b, u = .bl b /\ decide (v = .bl b) = sameOne x y) \/ (u = .non /\ decide (v = .non) = sameOne x y) := by
 cases ru with
 | non => refine .inr ⟨rfl, ?_⟩; cases rv <;> simp [sameOne]
 | bl d => refine .inl ⟨d, rfl, ?_⟩; cases rv <;> simp [sameOne] <;> exact decide_eq_decide.mpr Iff.rfl
 | _ => cases h1
theorem b1c : DOp X (compareOp .Is) oIs := by
 refine ⟨_, op_isB.or op_isN, fun O H x y d v u Q oo rx ry e k => ?_⟩
 unfold oIs at e
 by_cases h1 : one? y = true
 ·rw [if_pos h1] at e
  cases e
  rcases b1o rx ry h1 with ⟨b, h2, h3⟩ | ⟨h2, h3⟩
  ·exact .inl ⟨b, h2, h3 ▸ k _ _ (fun _ _ h => h) (h3 ▸ .bl _)⟩
  ·exact .inr ⟨h2, h3 ▸ k _ _ (fun _ _ h => h) (h3 ▸ .bl _)⟩
 ·rw [if_neg h1] at e; cases e
theorem a5p : DOp X (compareOp .IsNot) oIsNot := by
 refine ⟨_, op_notB.or op_notN, fun O H x y d v u Q oo rx ry e k => ?_⟩
 unfold oIsNot at e
 by_cases h1 : one? y = true
 ·rw [if_pos h1] at e
  cases e
  rcases b1o rx ry h1 with ⟨b, h2, h3⟩ | ⟨h2, h3⟩
  ·exact .inl ⟨b, h2, h3 ▸ k _ _ (fun _ _ h => h) (h3 ▸ .bl _)⟩
  ·exact .inr ⟨h2, h3 ▸ k _ _ (fun _ _ h => h) (h3 ▸ .bl _)⟩
 ·rw [if_neg h1] at e; cases e
end
end DL
namespace DL
open PySem PySem.Spec PyProof.Rows L2
section
variable {X : Cx}
end
end DL
namespace DL
open PySem PySem.Spec PyProof.Rows L2
section
variable {δ : DS} {y : XD} {x : Str} {N i : Nat} {gb : DS -> M Out} {gs : Addr -> DS -> M Out} {o : Out}
theorem ev_raise {fa : DS -> M (List D)} {ds : List D} (h : fa δ = M.ret ds) (hz : small ds.length = true) : gRaise x fa δ = some (.error ⟨x, []⟩) := by
 unfold gRaise
 rw [h]
 show (if small ds.length = true then _ else _) = _
 rw [if_pos hz]
theorem ev_callX {F : List D -> M D} {fa : DS -> M (List D)} {ds : List D} {d : D} (h1 : fa δ = M.ret ds) (h2 : F ds = M.ret d) : dCall F fa δ = M.ret d := by unfold dCall; rw [h1]; exact h2
theorem er_callX {F : List D -> M D} {fa : DS -> M (List D)} {ds : List D} (h1 : fa δ = M.ret ds) (h2 : F ds = some (.error y)) : dCall F fa δ = some (.error y) := by unfold dCall; rw [h1]; exact h2
theorem er_run {g : DS -> M Out} {ds : List D} (h : g (startD N ds) = some (.error y)) : run N g ds = some (.error y) := by unfold run; rw [h]; rfl
theorem er_seq {g h : DS -> M Out} (e : g δ = some (.error y)) : gSeq g h δ = some (.error y) := by unfold gSeq; rw [e]; rfl
theorem er_if_t {c : DS -> M Bool} {g h : DS -> M Out} (e : c δ = M.ret true) (e2 : g δ = some (.error y)) : gIf c g h δ = some (.error y) := by unfold gIf; rw [e]; exact e2
end
end DL
namespace DL
open PySem PySem.Spec PyProof.Rows L2
section
variable {X : Cx} {G : XD -> Hp -> Prop} {a b c e : Expr} {es : List Expr} {f : DS -> M D} {fb : DS -> M Bool} {fa : DS -> M (List D)} {pos : Pos} {sts : List Stmt} {gs : DS -> M Out}
def whileD (c : DS -> M Bool) (g : DS -> M Out) : Nat -> DS -> M Out
 | 0, _ => none
 | n + 1, δ => (c δ).thn fun b => if b = true then (g δ).thn fun o => match o with
   | .nx δ' => whileD c g n δ'
   | .ct δ' => whileD c g n δ'
   | .bk δ' => M.ret (.nx δ')
   | .rt d => M.ret (.rt d)
  else M.ret (.nx δ)
theorem a7o {c : DS -> M Bool} {g : DS -> M Out} : ∀ {n : Nat} {δ : DS} {r : Except XD Out} (k : Nat), whileD c g n δ = some r -> whileD c g (n + k) δ = some r
 | 0, _, _, _, h => by cases h
 | n + 1, δ, r, k, h => by
  have e : n + 1 + k = (n + k) + 1 := by omega
  rw [e]
  unfold whileD at h ⊢
  match hc : c δ, h with
  | some (.ok true), h =>
   have h : M.thn (g δ) _ = _ := h
   show M.thn (g δ) _ = _
   match hg : g δ, h with
   | some (.ok (.nx δ')), h => exact a7o k h
   | some (.ok (.ct δ')), h => exact a7o k h
   | some (.ok (.bk δ')), h => exact h
   | some (.ok (.rt d)), h => exact h
   | some (.error x), h => exact h
  | some (.ok false), h => exact h
  | some (.error x), h => exact h
noncomputable def gWhile (c : DS -> M Bool) (g : DS -> M Out) : DS -> M Out := fun δ =>
 open Classical in if h : ∃ n r, whileD c g n δ = some r then whileD c g (Classical.choose h) δ else none
theorem b0x {c : DS -> M Bool} {g : DS -> M Out} {n : Nat} {δ : DS} {r : Except XD Out} (h : whileD c g n δ = some r) : gWhile c g δ = some r := by
 have hx : ∃ n r, whileD c g n δ = some r := ⟨n, r, h⟩
 unfold gWhile
 rw [dif_pos hx]
 obtain ⟨r', hr⟩ := Classical.choose_spec hx
 have h1 := a7o (Classical.choose hx) h
 have h2 := a7o n hr
 rw [Nat.add_comm] at h2
 rw [h2] at h1
 rw [hr, h1]
theorem b1w {c : DS -> M Bool} {g : DS -> M Out} {δ : DS} {r : Except XD Out} (h : gWhile c g δ = some r) : ∃ n, whileD c g n δ = some r := by
 unfold gWhile at h
 split at h
 ·exact ⟨_, h⟩
 ·cases h
theorem pd_while {body : List Stmt} (hp : PassesOwn (model X.prog X.w) X.A X.env X.xe) (hc : PDT X G c fb) (hb : PDSs X G body gs) : PDS X G (.While c body [] pos) (gWhile fb gs) := by
 obtain ⟨tc, pc, hc⟩ := hc
 obtain ⟨tb, pb, hb⟩ := hb
 refine ⟨_, ps_while hp pc pb, fun {Hr} R0 P0 H0 δ O σ H Dn E k => ?_⟩
 obtain ⟨n, hn⟩ : ∃ n, ok (GS G Hr) (whileD fb gs n δ) (Fin X.K Hr R0 P0 H0 Dn) := by
  cases e : gWhile fb gs δ with
  | none => rw [e] at k; exact k.elim
  | some r =>
   obtain ⟨n, hn⟩ := b1w e
   rw [e] at k
   exact ⟨n, by rw [hn]; exact k⟩
 refine ⟨fun m σ H => ∃ δ O, EI X.K Hr R0 P0 H0 O H σ δ /\ ok (GS G Hr) (whileD fb gs m δ) (Fin X.K Hr R0 P0 H0 Dn), ⟨n, δ, O, E, hn⟩, fun m σ H hw => ?_⟩
 obtain ⟨δ, O, E, k⟩ := hw
 cases m with
 | zero => exact k.elim
 | succ m =>
  unfold whileD at k
  refine hc δ O σ H _ E.ev (a0h (a0k k) fun b z H1 s1 => ?_)
  cases b with
  | false => exact z O σ H1 (E.same s1)
  | true =>
   have z : ok (GS G Hr) (M.thn (gs δ) _) _ := z
   refine ⟨fun σ' H' => ∃ δ O, EI X.K Hr R0 P0 H0 O H' σ' δ /\ ok (GS G Hr) (whileD fb gs m δ) (Fin X.K Hr R0 P0 H0 Dn), fun σ' H' hN => ⟨m, Nat.lt_succ_self m, hN⟩, ?_⟩
   refine hb R0 P0 H0 δ O σ H1 _ (E.same s1) (a0h (a0k z) fun o q => ?_)
   cases o with
   | nx δ' => exact fun O' σ' H' E' => ⟨δ', O', E', q⟩
   | ct δ' => exact fun O' σ' H' E' => ⟨δ', O', E', q⟩
   | bk δ' => exact q
   | rt d => exact q
end
section
variable {X : Cx}
def oInt : List D -> Option D
 | [.int i] => some (.int i)
 | [.bool b] => some (.int (if b then 1 else 0))
 | _ => none
end
section
variable {δ δ' : DS} {f : DS -> M D} {fb : DS -> M Bool} {fa : DS -> M (List D)} {gs gt g1 g2 : DS -> M Out} {d x y : D} {b : Bool} {ds : List D} {r : M Out} {o : Out}
theorem b1x {r : Except XD Out} (h1 : fb δ = M.ret true) (h2 : gs δ = M.ret (.nx δ')) (h3 : gWhile fb gs δ' = some r) : gWhile fb gs δ = some r := by
 obtain ⟨n, hn⟩ := b1w h3
 refine b0x (n := n + 1) ?_
 unfold whileD
 rw [h1, a0s, if_pos rfl, h2, a0s]
 exact hn
theorem a9b (h1 : fb δ = M.ret false) : gWhile fb gs δ = M.ret (.nx δ) := by
 refine b0x (n := 1) ?_
 unfold whileD
 rw [h1, a0s, if_neg Bool.false_ne_true]
 rfl
theorem a2n (h1 : fb δ = M.ret b) (hb : b = false) (h2 : gt δ = r) : gSeq (gIf fb g1 gNext) gt δ = r := by
 subst hb
 unfold gSeq gIf; rw [h1, a0s, if_neg Bool.false_ne_true]; exact h2
theorem a7t (h1 : fb δ = M.ret b) (hb : b = false) : gIf fb g1 gNext δ = M.ret (.nx δ) := by
 subst hb
 unfold gIf; rw [h1, a0s, if_neg Bool.false_ne_true]; rfl
theorem a7f {xs ys : List D} (h : small (xs.length + ys.length) = true) : oAdd (.list xs) (.list ys) = some (.list (xs ++ ys)) := by
 show (if small (xs.length + ys.length) = true then _ else _) = _
 rw [if_pos h]
theorem o_addS {xs ys : Str} (h : small (xs.length + ys.length) = true) : oAdd (.str xs) (.str ys) = some (.str (xs ++ ys)) := by
 show (if small (xs.length + ys.length) = true then _ else _) = _
 rw [if_pos h]
end
end DL
namespace L2
open PySem PySem.Spec PyProof.Rows
section
variable {X : Cx}
theorem Inv.turnNew {pins : List (Addr × Obj)} {σ : St} {H : Hp} {s : Shared} {h' : Heap} {t' : Nat} {ch : List Addr} {a : Addr} {o : HO} (I : Inv X pins σ H s) (hf : ∀ b ∈ ch, FpOk X pins H b)
  (k : ∀ b u, b ∉ ch -> s.heap.get? b = some u -> h'.get? b = some u) (hp : s.heap.objs.size <= a) (new : ObjOk X.prog X.w (upd H a o) h' a o) : Inv X pins σ (upd H a o) { s with heap := h', toks := t' } := by
 have hn := I.hok.fresh hp
 have nc : ∀ {b : Addr} {u : HO}, H b = some u -> b ∉ ch := fun e z => by rw [(hf _ z).1] at e; cases e
 refine I.call (g' := s.gens) (d' := s.drawn) (ch := ch) ⟨fun b u q _ _ hc => k b u hc q, fun b u q _ _ hc => ⟨u.slots, k b u hc q⟩, fun b u q n _ => ?_, fun b u q hc => ⟨u, k b u hc q⟩, fun b xs q => ?_, fun b u xs q => ?_, fun b ps q => ⟨#[], ?_⟩⟩ (fun b u e => ?_) I.bare fun b hb => ?_
 ·rw [upd_ne (Nat.ne_of_lt (Nat.lt_of_lt_of_le (Heap.lt_size q) hp))]; exact n
 ·rw [upd_ne (a0v q hn)]; exact q
 ·rw [upd_ne (a0v q hn)]; exact q
 ·rw [upd_ne (a0v q hn), q]; simp
 ·by_cases hb : b = a
  ·subst hb; rw [a1i] at e; cases e; exact new
  ·rw [upd_ne hb] at e
   refine (I.hok b u e).stay (fun c v hc q => k c v ?_ q) (fun c q => by rw [upd_ne (a0v q hn)]; exact q) fun c xs q => by rw [upd_ne (a0v q hn)]; exact q
   rcases hc with rfl | hc
   ·exact nc e
   ·exact nc hc
 ·obtain ⟨_, f1, _, f3, f4, f5⟩ := hf b hb
  exact ⟨f3, f1, f4, f5⟩
theorem Inv.turnAll {pins : List (Addr × Obj)} {σ : St} {H : Hp} {s : Shared} {h' : Heap} {t' : Nat} {ch : List Addr} (I : Inv X pins σ H s) (hf : ∀ b ∈ ch, FpOk X pins H b)
  (k : ∀ b u, b ∉ ch -> s.heap.get? b = some u -> h'.get? b = some u) : Inv X pins σ H { s with heap := h', toks := t' } := by
 have nc : ∀ {b : Addr} {u : HO}, H b = some u -> b ∉ ch := fun e z => by rw [(hf _ z).1] at e; cases e
 refine I.call (g' := s.gens) (d' := s.drawn) (ch := ch) ⟨fun b u q _ _ hc => k b u hc q, fun b u q _ _ hc => ⟨u.slots, k b u hc q⟩, fun b u q n _ => n, fun b u q hc => ⟨u, k b u hc q⟩, fun b xs q => q, fun b u xs q => q, fun b ps q => ⟨#[], by rw [q]; simp⟩⟩ (fun b u e => ?_) I.bare fun b hb => ?_
 ·refine (I.hok b u e).stay (fun c v hc q => k c v ?_ q) (fun c q => q) fun c xs q => q
  rcases hc with rfl | hc
  ·exact nc e
  ·exact nc hc
 ·obtain ⟨_, f1, _, f3, f4, f5⟩ := hf b hb
  exact ⟨f3, f1, f4, f5⟩
end
def Itz (K : PySem.W.Frag) (a b : Addr) : It :=
  ⟨fun i H => ∃ xs ys x y, SqL K H a xs /\ SqL K H b ys /\ xs[i]? = some x /\ ys[i]? = some y,
   fun i H v H' => ∃ T, v = .ref T /\ H T = none /\ ∀ xs ys x y, SqL K H a xs -> SqL K H b ys -> xs[i]? = some x -> ys[i]? = some y -> H' = upd H T (.tup [x, y]),
   fun i H => ∃ xs ys, SqL K H a xs /\ SqL K H b ys /\ (xs.length <= i \/ ys.length <= i)⟩
def Ite (K : PySem.W.Frag) (a : Addr) : It :=
  ⟨fun i H => ∃ xs x, SqL K H a xs /\ xs[i]? = some x,
   fun i H v H' => ∃ T, v = .ref T /\ H T = none /\ ∀ xs x, SqL K H a xs -> xs[i]? = some x -> H' = upd H T (.tup [.int i, x]),
   fun i H => ∃ xs, SqL K H a xs /\ xs.length <= i⟩
def Its (x : Str) : It := ⟨fun i _ => i < x.length, fun i H v H' => H' = H /\ ∃ c, x.cps[i]? = some c /\ v = .str ⟨#[c]⟩, fun i _ => x.length <= i⟩
theorem a5c {h : Heap} {a b : Addr} {o u : Obj} (e : h.get? a = some o) (e' : h.get? b = some u) (d : o.cls ≠ u.cls) : a ≠ b := fun z => by
 subst z
 rw [e] at e'
 cases e'
 exact d rfl
theorem a7c {a b : String} (h : a ≠ b) : Value.type a ≠ Value.type b := fun z => h (Value.type.inj z)
theorem turn_zip {P : Program} {w : World} {K : PySem.W.Frag} {elts : List Expr} {x1 : Nat} {tpos : Pos} (a b z TI TO i1 i2 : Addr)
  (n1 : TI ≠ z) (n2 : TO ≠ z) (n3 : i1 ≠ z) (n4 : i2 ≠ z) (n5 : TI ≠ TO) (n6 : TI ≠ i1) (n7 : TI ≠ i2) (n8 : TO ≠ i1) (n9 : TO ≠ i2) (n10 : i1 ≠ i2) :
  Turn P w K (.Tuple elts x1 tpos) (Itz K a b) [z, TI, TO, i1, i2] z (fun i h => IsZip h z TI TO .none /\ IsPair h TI (.ref i1) (.ref i2) /\ (∃ a b, IsPair h TO a b) /\ h.IsListIter i1 a i /\ h.IsListIter i2 b i) where
 mem := by simp
 obj := fun i h st c hc => by
  obtain ⟨hz, hTI, ⟨u, v, hTO⟩, ⟨o1, e1, c1, d1⟩, ⟨o2, e2, c2, d2⟩⟩ := st
  simp only [List.mem_cons, List.not_mem_nil, or_false] at hc
  rcases hc with rfl | rfl | rfl | rfl | rfl
  ·exact ⟨_, hz, fun v z => by simp at z⟩
  ·exact ⟨_, hTI, fun v z => by simp at z⟩
  ·exact ⟨_, hTO, fun v z => by simp at z⟩
  ·exact ⟨_, e1, fun v z => by rw [d1] at z; cases z⟩
  ·exact ⟨_, e2, fun v z => by rw [d2] at z; cases z⟩
 keep := fun i h h' st k => by
  obtain ⟨hz, hTI, ⟨u, v, hTO⟩, h1, h2⟩ := st
  exact ⟨k z (by simp) _ hz, k TI (by simp) _ hTI, ⟨u, v, k TO (by simp) _ hTO⟩, h1.at fun o e => k i1 (by simp) o e, h2.at fun o e => k i2 (by simp) o e⟩
 item := by
  intro X hP hw hK hc i pins s σ H E I hf st hg
  subst hP hw hK
  obtain ⟨hz, hTI, ⟨u, v, hTO⟩, h1, h2⟩ := st
  obtain ⟨xs, ys, x, y, hq, hq2, hx, hy⟩ := hg
  obtain ⟨its, rv, p, _⟩ := I.list hq
  obtain ⟨its2, rv2, p2, _⟩ := I.list hq2
  obtain ⟨ux, hux, rx⟩ := rv.get hx
  obtain ⟨uy, huy, ry⟩ := rv2.get hy
  have L1 := p.isList
  have L2 := p2.isList
  obtain ⟨o1, e1, c1, d1⟩ := id h1
  obtain ⟨o2, e2, c2, d2⟩ := id h2
  obtain ⟨oa, ea, ca, da⟩ := id L1
  obtain ⟨ob, eb, cb, db⟩ := id L2
  have ap : ZipApart z TI TO i1 i2 a b := ⟨n1, n2, n3, n4, n5, n6, n7, n8, n9, n10,
   a5c ea hz (by rw [ca]; exact a7c (by decide)), a5c ea hTO (by rw [ca]; exact a7c (by decide)), a5c ea e1 (by rw [ca, c1]; exact a7c (by decide)), a5c ea e2 (by rw [ca, c2]; exact a7c (by decide)),
   a5c eb hz (by rw [cb]; exact a7c (by decide)), a5c eb hTO (by rw [cb]; exact a7c (by decide)), a5c eb e1 (by rw [cb, c1]; exact a7c (by decide)), a5c eb e2 (by rw [cb, c2]; exact a7c (by decide))⟩
  refine wpAny_pyNext_zip_item ap hz hTI hTO h1 h2 L1 L2 (x := ux) (y := uy) (by simpa using hux) (by simpa using huy) fun h' z' TO' h1' h2' T' sz k => ?_
  have fr : H s.heap.objs.size = none := I.hok.fresh (Nat.le_refl _)
  refine ⟨_, rfl, wpAny_letOwnedTupleGo_zip z' fun h2 hz2 sb => ?_⟩
  have ne : ∀ {c : Addr} {o : Obj}, s.heap.get? c = some o -> s.heap.objs.size ≠ c := fun e => Nat.ne_of_gt (Heap.lt_size e)
  have k2 : ∀ c o, c ∉ [z, TI, TO, i1, i2] -> s.heap.get? c = some o -> h2.get? c = some o := fun c o hc e => by
   simp only [List.mem_cons, List.not_mem_nil, or_false, not_or] at hc
   exact sb.extBut _ _ hc.1 (k c o hc.1 hc.2.2.1 hc.2.2.2.1 hc.2.2.2.2 e)
  have T2 : h2.get? s.heap.objs.size = some { cls := .type "tuple", data := .seq #[ux, uy] } := sb.extBut _ _ (ne hz) T'
  have I1 : Inv X pins σ (upd H s.heap.objs.size (.tup [x, y])) { s with heap := h2, toks := s.toks } := by
   refine I.turnNew hf k2 (Nat.le_refl _) ⟨by show 2 <= _; rw [sizeLine_eq]; omega, [ux, uy], .cons rx (.cons ry .nil), ?_⟩
   exact ⟨_, T2, rfl, 0, rfl⟩
  refine ⟨.ref s.heap.objs.size, _, I1, rfl, ⟨_, rfl, fr, fun xs' ys' x' y' q1 q2 q3 q4 => ?_⟩, ⟨hz2, ?_, ⟨_, _, sb.extBut _ _ n2 TO'⟩, h1'.extBut sb.extBut n3, h2'.extBut sb.extBut n4⟩, fun c hc => ?_⟩
  ·rw [I.list_inj q1 hq] at q3
   rw [I.list_inj q2 hq2] at q4
   rw [hx] at q3
   rw [hy] at q4
   cases q3
   cases q4
   rfl
  ·exact sb.extBut _ _ n1 (k _ _ n1 n5 n6 n7 hTI)
  ·have hn : c ≠ s.heap.objs.size := by
    simp only [List.mem_cons, List.not_mem_nil, or_false] at hc
    rcases hc with rfl | rfl | rfl | rfl | rfl
    ·exact (ne hz).symm
    ·exact (ne hTI).symm
    ·exact (ne hTO).symm
    ·exact (ne e1).symm
    ·exact (ne e2).symm
   rw [upd_ne hn]
   exact (hf c hc).1
 done := by
  intro X hP hw hK hc i pins s σ H E I hf st hg
  subst hP hw hK
  obtain ⟨hz, hTI, ⟨u, v, hTO⟩, h1, h2⟩ := st
  obtain ⟨xs, ys, hq, hq2, hx⟩ := hg
  obtain ⟨its, rv, p, _⟩ := I.list hq
  obtain ⟨its2, rv2, p2, _⟩ := I.list hq2
  have L1 := p.isList
  have L2 := p2.isList
  obtain ⟨o1, e1, c1, d1⟩ := id h1
  obtain ⟨o2, e2, c2, d2⟩ := id h2
  obtain ⟨oa, ea, ca, da⟩ := id L1
  obtain ⟨ob, eb, cb, db⟩ := id L2
  have ap : ZipApart z TI TO i1 i2 a b := ⟨n1, n2, n3, n4, n5, n6, n7, n8, n9, n10,
   a5c ea hz (by rw [ca]; exact a7c (by decide)), a5c ea hTO (by rw [ca]; exact a7c (by decide)), a5c ea e1 (by rw [ca, c1]; exact a7c (by decide)), a5c ea e2 (by rw [ca, c2]; exact a7c (by decide)),
   a5c eb hz (by rw [cb]; exact a7c (by decide)), a5c eb hTO (by rw [cb]; exact a7c (by decide)), a5c eb e1 (by rw [cb, c1]; exact a7c (by decide)), a5c eb e2 (by rw [cb, c2]; exact a7c (by decide))⟩
  have hl := rv.length
  have hl2 := rv2.length
  refine wpAny_pyNext_zip_end (I.ok.hd hc) ap hz hTI hTO h1 h2 L1 L2 (hx.imp (fun q => by simp; omega) fun q => by simp; omega) fun h' k => ⟨rfl, ?_⟩
  refine I.turnAll (t' := s.toks) hf fun c o hc e => ?_
  simp only [List.mem_cons, List.not_mem_nil, or_false, not_or] at hc
  exact k c o hc.1 hc.2.2.1 hc.2.2.2.1 hc.2.2.2.2 e
 self := fun _ _ _ _ _ st h => wpAny_pyIter_zip st.1 h
theorem turn_enum {P : Program} {w : World} {K : PySem.W.Frag} {elts : List Expr} {x1 : Nat} {tpos : Pos} (a e it : Addr) (n1 : e ≠ it) :
  Turn P w K (.Tuple elts x1 tpos) (Ite K a) [e, it] e (fun i h => (∃ old, IsEnum h e it ((i : Nat) : Int) old) /\ h.IsListIter it a i) where
 mem := by simp
 obj := fun i h st c hc => by
  obtain ⟨⟨old, he⟩, ⟨o1, e1, c1, d1⟩⟩ := st
  simp only [List.mem_cons, List.not_mem_nil, or_false] at hc
  rcases hc with rfl | rfl
  ·exact ⟨_, he, fun v z => by simp at z⟩
  ·exact ⟨_, e1, fun v z => by rw [d1] at z; cases z⟩
 keep := fun i h h' st k => by
  obtain ⟨⟨old, he⟩, h1⟩ := st
  exact ⟨⟨old, k e (by simp) _ he⟩, h1.at fun o e => k it (by simp) o e⟩
 item := by
  intro X hP hw hK hc i pins s σ H E I hf st hg
  subst hP hw hK
  obtain ⟨⟨old, he⟩, h1⟩ := st
  obtain ⟨xs, x, hq, hx⟩ := hg
  obtain ⟨its, rv, p, _⟩ := I.list hq
  obtain ⟨ux, hux, rx⟩ := rv.get hx
  obtain ⟨o1, e1, c1, d1⟩ := id h1
  have fr : H s.heap.objs.size = none := I.hok.fresh (Nat.le_refl _)
  have ne : ∀ {c : Addr} {o : Obj}, s.heap.get? c = some o -> s.heap.objs.size ≠ c := fun e => Nat.ne_of_gt (Heap.lt_size e)
  obtain ⟨oa, ea, ca, da⟩ := id p.isList
  have ne1 : a ≠ e := a5c ea he (by rw [ca]; exact a7c (by decide))
  have ne2 : a ≠ it := a5c ea e1 (by rw [ca, c1]; exact a7c (by decide))
  refine wpAny_pyNext_enum_item he h1 p.isList (x := ux) (by simpa using hux) n1 fun h' e' h1' T' sz k => ?_
  refine ⟨_, rfl, wpAny_letOwnedTupleGo_enum e' fun h2 he2 sb => ?_⟩
  have k2 : ∀ c o, c ∉ [e, it] -> s.heap.get? c = some o -> h2.get? c = some o := fun c o hc q => by
   simp only [List.mem_cons, List.not_mem_nil, or_false, not_or] at hc
   exact sb.extBut _ _ hc.1 (k c o hc.1 hc.2 q)
  have T2 : h2.get? s.heap.objs.size = some { cls := .type "tuple", data := .seq #[.int i s.toks, ux] } := sb.extBut _ _ (ne he) T'
  have I1 : Inv X pins σ (upd H s.heap.objs.size (.tup [.int i, x])) { s with heap := h2, toks := s.toks + 1 } := by
   refine I.turnNew hf k2 (Nat.le_refl _) ⟨by show 2 <= _; rw [sizeLine_eq]; omega, [.int i s.toks, ux], .cons ⟨_, rfl⟩ (.cons rx .nil), ?_⟩
   exact ⟨_, T2, rfl, 0, rfl⟩
  refine ⟨.ref s.heap.objs.size, _, I1, rfl, ⟨_, rfl, fr, fun xs' x' q1 q3 => ?_⟩, ⟨⟨ux, he2⟩, h1'.extBut sb.extBut n1.symm⟩, fun c hc => ?_⟩
  ·rw [I.list_inj q1 hq] at q3
   rw [hx] at q3
   cases q3
   rfl
  ·have hn : c ≠ s.heap.objs.size := by
    simp only [List.mem_cons, List.not_mem_nil, or_false] at hc
    rcases hc with rfl | rfl
    ·exact (ne he).symm
    ·exact (ne e1).symm
   rw [upd_ne hn]
   exact (hf c hc).1
 done := by
  intro X hP hw hK hc i pins s σ H E I hf st hg
  subst hP hw hK
  obtain ⟨⟨old, he⟩, h1⟩ := st
  obtain ⟨xs, hq, hx⟩ := hg
  obtain ⟨its, rv, p, _⟩ := I.list hq
  have hl := rv.length
  refine wpAny_pyNext_enum_end (I.ok.hd hc) he h1 p.isList (by simp; omega) fun h' k => ⟨rfl, ?_⟩
  refine I.turnAll (t' := s.toks) hf fun c o hc e => ?_
  simp only [List.mem_cons, List.not_mem_nil, or_false, not_or] at hc
  exact k c o hc.2 e
 self := fun _ _ _ _ _ st h => by
  obtain ⟨⟨old, he⟩, _⟩ := st
  exact wpAny_pyIter_enum he h
section
variable {X : Cx} {elts : List Expr} {x1 : Nat} {tpos : Pos}
def iZip (K : PySem.W.Frag) (ta : TA) : TI := fun σ H R => ta σ H fun vs H1 => ∃ a b, vs = [.ref a, .ref b] /\ (∃ xs, SqL K H1 a xs) /\ (∃ ys, SqL K H1 b ys) /\ R (Itz K a b) H1
def iEnum (K : PySem.W.Frag) (ta : TA) : TI := fun σ H R => ta σ H fun vs H1 => ∃ a, vs = [.ref a] /\ (∃ xs, SqL K H1 a xs) /\ R (Ite K a) H1
def iStr (tl : TE) : TI := fun σ H R => tl σ H fun x H1 => ∃ z, x = .str z /\ R (Its z) H1
theorem pi_zip {a b : Expr} {ta : TA} {p pos : Pos} (hg : Gl X "zip") (hm : X.mg "zip" = none) (ha : PA X [a, b] ta) (hs : starEach [a, b] X.env = [(false, eval a X.env), (false, eval b X.env)] := by rfl) (hs2 : starEach [b] X.env = [(false, eval b X.env)] := by rfl) :
  PI X (.Tuple elts x1 tpos) (.Call (.Name "zip" p) [a, b] [] pos) (iZip X.K ta) := by
 intro pins s σ H R I h
 refine Call_ (a7w I hg hm boot_zip (PyProof.Rows.callWith_type1 (thn (ha pos pins s σ H _ I h) fun us s1 ⟨vs, H1, I1, r1, q1⟩ => ?_) (by rw [hs, hs2]) (by rw [hs2]; rfl)))
 obtain ⟨l1, l2, e, ⟨xs, hx⟩, ⟨ys, hy⟩, q⟩ := q1
 subst e
 cases r1 with
 | cons r rr =>
  cases rr with
  | cons r' rr =>
   cases rr
   cases r
   cases r'
   obtain ⟨its, rv, pl, _⟩ := I1.list hx
   obtain ⟨its2, rv2, pl2, _⟩ := I1.list hy
   refine call_zip_2 pl.isList pl2.isList fun h' hz hTI hTO h1 h2 sz k => wpAny_pyIter_zip hz ?_
   refine ⟨s1.heap.objs.size + 4, [s1.heap.objs.size + 4, s1.heap.objs.size + 2, s1.heap.objs.size + 3, s1.heap.objs.size, s1.heap.objs.size + 1], _, _, H1, rfl, I1.kept (t' := s1.toks) k,
    turn_zip l1 l2 (s1.heap.objs.size + 4) (s1.heap.objs.size + 2) (s1.heap.objs.size + 3) s1.heap.objs.size (s1.heap.objs.size + 1) (by show (_ : Nat) ≠ _; omega) (by show (_ : Nat) ≠ _; omega) (by show (_ : Nat) ≠ _; omega) (by show (_ : Nat) ≠ _; omega) (by show (_ : Nat) ≠ _; omega) (by show (_ : Nat) ≠ _; omega) (by show (_ : Nat) ≠ _; omega) (by show (_ : Nat) ≠ _; omega) (by show (_ : Nat) ≠ _; omega) (by show (_ : Nat) ≠ _; omega), ⟨hz, hTI, ⟨_, _, hTO⟩, h1, h2⟩, fun c hc => ?_, q⟩
   have hc' : s1.heap.objs.size <= c := by
    simp only [List.mem_cons, List.not_mem_nil, or_false] at hc
    rcases hc with rfl | rfl | rfl | rfl | rfl <;> first | exact Nat.le_add_right _ _ | exact Nat.le_refl _
   exact I1.fpOk hc' (I1.hok.fresh hc')
theorem pi_enum {a : Expr} {ta : TA} {p pos : Pos} (hg : Gl X "enumerate") (hm : X.mg "enumerate" = none) (ha : PA X [a] ta) (hs : starEach [a] X.env = [(false, eval a X.env)] := by rfl) :
  PI X (.Tuple elts x1 tpos) (.Call (.Name "enumerate" p) [a] [] pos) (iEnum X.K ta) := by
 intro pins s σ H R I h
 refine Call_ (a7w I hg hm boot_enumerate (PyProof.Rows.callWith_type1 (thn (ha pos pins s σ H _ I h) fun us s1 ⟨vs, H1, I1, r1, q1⟩ => ?_) hs rfl))
 obtain ⟨l1, e, ⟨xs, hx⟩, q⟩ := q1
 subst e
 cases r1 with
 | cons r rr =>
  cases rr
  cases r
  obtain ⟨its, rv, pl, _⟩ := I1.list hx
  refine call_enumerate_list pl.isList fun h' he h1 sz k => wpAny_pyIter_enum he ?_
  refine ⟨s1.heap.objs.size + 1, [s1.heap.objs.size + 1, s1.heap.objs.size], _, _, H1, rfl, I1.kept (t' := s1.toks) k,
   turn_enum l1 (s1.heap.objs.size + 1) s1.heap.objs.size (by show (_ : Nat) ≠ _; omega), ⟨⟨_, he⟩, h1⟩, fun c hc => ?_, q⟩
  have hc' : s1.heap.objs.size <= c := by
   simp only [List.mem_cons, List.not_mem_nil, or_false] at hc
   rcases hc with rfl | rfl <;> first | exact Nat.le_add_right _ _ | exact Nat.le_refl _
  exact I1.fpOk hc' (I1.hok.fresh hc')
theorem b1f {P : Program} {w : World} {K : PySem.W.Frag} {tg : Expr} (it : Addr) (x : Str) (t : Tok) : Turn P w K tg (Its x) [it] it (fun i h => h.IsStrIter it "str_ascii_iterator" x t i) where
 mem := by simp
 obj := fun i h st b hb => by
  have e : b = it := by simpa using hb
  subst e
  obtain ⟨o, e, c, d⟩ := st
  exact ⟨o, e, fun v z => by rw [d] at z; cases z⟩
 keep := fun i h h' st k => let ⟨o, ho, r⟩ := st; ⟨o, k it (by simp) o ho, r⟩
 item := by
  intro X hP hw hK hc i pins s σ H E I hf st hg
  subst hP hw hK
  obtain ⟨f0, f1, f2, f3, f4, f5⟩ := hf it (by simp)
  have hg : i < x.cps.size := hg
  refine wpAny_pyNext_ascii_item st (c := x.cps[i]) (by simp [hg]) fun h' st' sb => ?_
  have I1 : Inv X pins σ H { s with heap := h', toks := s.toks + 1 } := I.turned (fun b o hb e => (sb.2 b hb).trans e) f0 f1 f3 f4 f5
  obtain ⟨o, e, c1, d1⟩ := id st'
  exact ⟨_, rfl, go_of (s := { s with heap := h', toks := s.toks + 1 }) e c1 d1 (by decide) ⟨.str ⟨#[x.cps[i]]⟩, H, I1, ⟨_, rfl⟩, ⟨rfl, x.cps[i], by simp [hg], rfl⟩, st', fun b hb => (hf b hb).1⟩⟩
 done := by
  intro X hP hw hK hc i pins s σ H E I hf st hg
  subst hP hw hK
  obtain ⟨f0, f1, f2, f3, f4, f5⟩ := hf it (by simp)
  have hg : x.cps.size <= i := hg
  exact wpAny_pyNext_ascii_end (I.ok.hd hc) st (by simp; omega) fun h' eb => ⟨rfl, I.turned (t' := s.toks) (fun b o hb e => eb b o hb e) f0 f1 f3 f4 f5⟩
 self := fun _ _ _ _ _ st h => wpAny_pyIter_striter_ascii st h
theorem b2d {P : Program} {w : World} {K : PySem.W.Frag} {tg : Expr} (it : Addr) (x : Str) (t : Tok) : Turn P w K tg (Its x) [it] it (fun i h => h.IsStrIter it "str_iterator" x t i) where
 mem := by simp
 obj := fun i h st b hb => by
  have e : b = it := by simpa using hb
  subst e
  obtain ⟨o, e, c, d⟩ := st
  exact ⟨o, e, fun v z => by rw [d] at z; cases z⟩
 keep := fun i h h' st k => let ⟨o, ho, r⟩ := st; ⟨o, k it (by simp) o ho, r⟩
 item := by
  intro X hP hw hK hc i pins s σ H E I hf st hg
  subst hP hw hK
  obtain ⟨f0, f1, f2, f3, f4, f5⟩ := hf it (by simp)
  have hg : i < x.cps.size := hg
  refine wpAny_pyNext_wide_item st (c := x.cps[i]) (by simp [hg]) fun h' st' sb => ?_
  have I1 : Inv X pins σ H { s with heap := h', toks := s.toks + 1 } := I.turned (fun b o hb e => (sb.2 b hb).trans e) f0 f1 f3 f4 f5
  obtain ⟨o, e, c1, d1⟩ := id st'
  exact ⟨_, rfl, go_of (s := { s with heap := h', toks := s.toks + 1 }) e c1 d1 (by decide) ⟨.str ⟨#[x.cps[i]]⟩, H, I1, ⟨_, rfl⟩, ⟨rfl, x.cps[i], by simp [hg], rfl⟩, st', fun b hb => (hf b hb).1⟩⟩
 done := by
  intro X hP hw hK hc i pins s σ H E I hf st hg
  subst hP hw hK
  obtain ⟨f0, f1, f2, f3, f4, f5⟩ := hf it (by simp)
  have hg : x.cps.size <= i := hg
  exact wpAny_pyNext_wide_end (I.ok.hd hc) st (by simp; omega) fun h' eb => ⟨rfl, I.turned (t' := s.toks) (fun b o hb e => eb b o hb e) f0 f1 f3 f4 f5⟩
 self := fun _ _ _ _ _ st h => wpAny_pyIter_striter_wide st h
theorem pi_str {l : Expr} {tl : TE} {tg : Expr} (hl : PE X l tl) : PI X tg l (iStr tl) := by
 intro pins s σ H R I h
 refine thn (hl pins s σ H _ I h) fun v s1 ⟨x, H1, I1, r1, q1⟩ => ?_
 obtain ⟨z, e, q⟩ := q1
 subst e
 obtain ⟨t, rfl⟩ := r1
 have fp : ∀ b ∈ [s1.heap.objs.size], FpOk X pins H1 b := fun b hb => by
  have e : b = s1.heap.objs.size := by simpa using hb
  subst e
  exact I1.fpOk (Nat.le_refl _) (I1.hok.fresh (Nat.le_refl _))
 cases ha : z.cps.all (· < 128)
 ·exact wpAny_pyIter_wide ha ⟨s1.heap.objs.size, [s1.heap.objs.size], _, _, H1, rfl, I1.kept (t' := s1.toks) fun b o e => Heap.get?_push_of_some _ e, b2d _ z t, ⟨_, Heap.get?_push_size _ rfl, rfl, rfl⟩, fp, q⟩
 ·exact wpAny_pyIter_ascii ha ⟨s1.heap.objs.size, [s1.heap.objs.size], _, _, H1, rfl, I1.kept (t' := s1.toks) fun b o e => Heap.get?_push_of_some _ e, b1f _ z t, ⟨_, Heap.get?_push_size _ rfl, rfl, rfl⟩, fp, q⟩
end
end L2
namespace L2
open PySem PySem.Spec PyProof.Rows
def compCxG (X : Cx) (scope : Scope) (cl : List (Str × Addr)) (fr : List (Nat × Str)) (tn : List Str) (C : Addr) (s3 : Shared) (H3 : Hp) (fp : List Addr) : Cx where
 prog := X.prog
 w := X.w
 K := X.K
 mg := X.mg
 base := X.base
 A := X.A
 N := tn ++ fr.map (·.2)
 s₀ := s3
 H₀ := H3
 env := compEnvC scope cl C X.env
 outer := X.stack
 stack := X.stack
 ex := fp
 fn := fun _ => false
 calm := X.calm
 pn := []
 xe := fun _ _ => False
def compSt (n : Nat) (fr : List (Nat × Str)) (σ : St) : St := List.replicate n none ++ fr.map fun p => (σ[p.1]?).join
def tCompG (n : Nat) (fr : List (Nat × Str)) (wi : TI) (g : TG) (tc : TT) (te : TE) : TE := fun σ H Q => wi σ H fun J H1 => ∀ l, H1 l = none -> ∃ W : Nat -> Nat -> St -> List V -> Hp -> Prop, (∃ m, W 0 m (compSt n fr σ) [] (upd H1 l (.lst []))) /\
 ∀ i m τ xs H2, W i m τ xs H2 -> H2 l = some (.lst xs) /\ ((J.stop i H2 /\ Q (.ref l) H2) \/ (J.go i H2 /\ xs.length < sizeLine /\ ∀ x H3, J.yld i H2 x H3 -> g x τ H3 fun τ' H4 => tc τ' H4 fun b H5 => if b = true then te τ' H5 fun v H6 => H6 l = some (.lst xs) /\ ∃ m', m' < m /\ W (i + 1) m' τ' (xs ++ [v]) (upd H6 l (.lst (xs ++ [v]))) else ∃ m', m' < m /\ W (i + 1) m' τ' xs H5))
section
variable {X : Cx}
theorem compG_ok {cl : List (Str × Addr)} {fr : List (Nat × Str)} {scope : Scope} {tn : List Str} {C : Addr} {s3 : Shared} {H3 : Hp} {fp : List Addr} {pins : List (Addr × Obj)} {σ : St} (I : Inv X pins σ H3 s3) (hkind : scope.kind = .function) (hsub : ∀ y c, cl.lookup y = some c -> X.env.cells.lookup y = some c) (hhas : ∀ y ∈ (relabel scope X.env).names, (y.2 = .cell \/ y.2 = .free) -> ∃ c, cl.lookup y.1 = some c)
  (hC : s3.heap.objs.size <= C) (hf : ∀ b ∈ fp, FpOk X pins H3 b /\ ∃ o, s3.heap.get? b = some o) (hfs : ∀ b ∈ fp, b ∉ frs X.stack) (hbase : ∀ b ∈ fp, X.base.get? b = none) : (compCxG X scope cl fr tn C s3 H3 fp).Ok where
 mod := I.ok.mod
 kind := hkind
 glob := I.ok.glob
 blt := I.ok.blt
 above := hC
 inj := fun y z c h1 h2 => I.ok.inj y z c (hsub y c h1) (hsub z c h2)
 has := fun y h => by
  rcases h with h | h
  ·exact hhas _ (PySem.mem_of_lookup h) (.inl rfl)
  ·exact hhas _ (PySem.mem_of_lookup h) (.inr rfl)
 cab := fun y c h => by cases h
 hd := I.ok.hd
 frames := I.ok.frames
 stk := .inl rfl
 exf := fun b hb => ⟨by
  obtain ⟨o, ho⟩ := (hf b hb).2
  exact Nat.ne_of_lt (Nat.lt_of_lt_of_le (Heap.lt_size ho) hC), fun y c h => (hf b hb).1.2.2.2.2.1 y c (hsub y c h)⟩
 bs := I.bs
 bsz := Nat.le_trans I.ok.bsz I.sz
 noex := fun b o e hb => by
  have e1 : X.base.get? b = some o := e
  rw [hbase b hb] at e1; cases e1
 exfs := hfs
 funs := I.stack
 frf := I.stkFree
theorem compG_out {cl : List (Str × Addr)} {fr : List (Nat × Str)} {scope : Scope} {tn : List Str} {C : Addr} {s3 s5 : Shared} {H3 H5 : Hp} {fp : List Addr} {pins pins5 : List (Addr × Obj)} {σ σ5 : St} {h' : Heap} (I : Inv X pins σ H3 s3) (hf : ∀ b ∈ fp, FpOk X pins H3 b) (hC : s3.heap.objs.size <= C)
  (I5 : Inv (compCxG X scope cl fr tn C s3 H3 fp) pins5 σ5 H5 s5) (hs : Heap.SameBut C s5.heap h') : Inv X pins σ H5 { s5 with heap := h' } := by
 have nC : ∀ {b : Addr} {o : Obj}, s3.heap.get? b = some o -> b ≠ C := fun e => Nat.ne_of_lt (Nat.lt_of_lt_of_le (Heap.lt_size e) hC)
 have u : Un (frs X.stack) fp H3 H5 s3.heap s5.heap := I5.base
 refine I.call' (ch := fp) I5.os ⟨fun b o e n h1 h2 => ?_, fun b o e n h1 h2 => ?_, u.free, fun b o e h2 => ?_, u.tups, u.frzs, u.tbls⟩ ?_ I5.bare fun b hb => ?_
 ·exact (hs.2 b (nC e)).trans (u.keep b o e n h1 h2)
 ·obtain ⟨sl, e1⟩ := u.slot b o e n h1 h2
  exact ⟨sl, (hs.2 b (nC e)).trans e1⟩
 ·obtain ⟨o', e1⟩ := u.there b o e h2
  exact ⟨o', (hs.2 b (nC e)).trans e1⟩
 ·intro a o e
  have hn : H5 C = none := I5.free
  refine (I5.hok a o e).stay (fun b u hb q => (hs.2 b ?_).trans q) (fun _ q => q) fun _ _ q => q
  rcases hb with rfl | hb
  ·exact a0v e hn
  ·exact a0v hb hn
 ·obtain ⟨_, f1, _, f3, f4, f5⟩ := hf b hb
  exact ⟨f3, f1, f4, f5⟩
def PTs (X : Cx) (ifs : List Expr) (t : TT) : Prop :=
 ∀ (pins : List (Addr × Obj)) (s : Shared) (σ : St) (H : Hp) (Q : Bool -> Hp -> Prop), Inv X pins σ H s -> t σ H Q ->
  wpAny (model X.prog X.w) X.A (forIn ifs true fun c r => if r = true then do let ok <- isTrue c X.env (eval c X.env); pure (ForInStep.yield ok) else pure (ForInStep.yield r)) (TP X pins σ Q) X.xe s
def tYes : TT := fun _ H Q => Q true H
theorem pts_nil : PTs X [] tYes := fun pins s σ H Q I h => wpAny_tests_nil ⟨H, I, h⟩
theorem pts_one {c : Expr} {t : TT} (h : PT X c t) : PTs X [c] t := fun pins s σ H Q I hq => wpAny_tests_one (h pins s σ H Q I hq)
theorem pe_compG {cl : List (Str × Addr)} {fr : List (Nat × Str)} {tn : List Str} {elt iter tg : Expr} {ifs : List Expr} {scope : Scope} {pos : Pos} {wi : TI} {g : TG} {tc : TT} {te : TE} (hc : X.calm = true)
  (hkind : scope.kind = .function) (hcell : ∀ y ∈ scope.names, y.2 ≠ .cell) (hclos : closureFor scope X.env = pure cl) (hsub : ∀ y c, cl.lookup y = some c -> X.env.cells.lookup y = some c)
  (hhas : ∀ y ∈ (relabel scope X.env).names, (y.2 = .cell \/ y.2 = .free) -> ∃ c, cl.lookup y.1 = some c) (hfr : ∀ p ∈ fr, X.N[p.1]? = some p.2 /\ X.env.kindOf p.2 = some .cell /\ (compEnvC scope cl 0 X.env).kindOf p.2 = some .cell /\ ∃ c, cl.lookup p.2 = some c) (hnames : ∀ y ∈ scope.names, y.2 = .local -> scope.names.lookup y.1 = some .local)
  (hi : PI X tg iter wi) (hg : ∀ C s3 H3 fp, PG (compCxG X scope cl fr tn C s3 H3 fp) tg g) (hcs : ∀ C s3 H3 fp, PTs (compCxG X scope cl fr tn C s3 H3 fp) ifs tc) (he : ∀ C s3 H3 fp, PE (compCxG X scope cl fr tn C s3 H3 fp) elt te) (hs : ∀ x, foldedSetIterable iter X.env x = pure x := by intro _; rfl) :
  PE X (.ListComp elt [⟨tg, iter, ifs, 0⟩] scope pos) (tCompG tn.length fr wi g tc te) := by
 intro pins s σ H Q I h
 rw [eval_ListComp]
 refine wpAny_comprehension_free (use := none) rfl hs hclos hkind hnames (thn (hi pins s σ H _ I h) fun v s1 h1 => thn h1 fun itv s2 h2 => ?_)
 obtain ⟨it, fp, tk, J, H2, e, I2, T, st2, f2, R⟩ := h2
 subst e
 have fl : H2 s2.heap.objs.size = none := I2.hok.fresh (Nat.le_refl _)
 obtain ⟨W, ⟨m0, w0⟩, turn⟩ := R s2.heap.objs.size fl
 refine wpAny_newObj_type (wpAny_newFunctionEnv hcell (by intro y hy; simp at hy) (fun h4 hns hsb => ?_) hkind)
 have I3 : Inv X pins σ (upd H2 s2.heap.objs.size (.lst [])) { s2 with heap := s2.heap.push { cls := .type "list", data := .seq ([] : List Value).toArray } } :=
  I2.laid (t' := s2.toks) (fun b o e => Heap.get?_push_of_some _ e) (Nat.le_refl _) ⟨Nat.zero_le _, [], 0, .nil, Heap.get?_push_size _ rfl⟩
 have ob : ∀ b ∈ fp, ∃ o, s2.heap.get? b = some o := fun b hb => let ⟨o, ho, _⟩ := T.obj 0 _ st2 b hb; ⟨o, ho⟩
 have f3 : ∀ b ∈ fp, FpOk X pins (upd H2 s2.heap.objs.size (.lst [])) b := fun b hb => by
  obtain ⟨g0, g1, g2, g3, g4, g5⟩ := f2 b hb
  obtain ⟨o, ho⟩ := ob b hb
  exact ⟨by rw [upd_ne (Nat.ne_of_lt (Heap.lt_size ho))]; exact g0, g1, g2, g3, g4, g5⟩
 generalize hs3 : ({ s2 with heap := s2.heap.push { cls := .type "list", data := .seq ([] : List Value).toArray } } : Shared) = s3 at I3
 have heap3 : s2.heap.push { cls := .type "list", data := .seq ([] : List Value).toArray } = s3.heap := by rw [<- hs3]
 have old3 : ∀ b o, s2.heap.get? b = some o -> s3.heap.get? b = some o := fun b o e => by rw [<- heap3]; exact Heap.get?_push_of_some _ e
 have ok3 : (compCxG X scope cl fr tn s3.heap.objs.size s3 (upd H2 s2.heap.objs.size (.lst [])) fp).Ok := by
  refine compG_ok I3 hkind hsub hhas (Nat.le_refl _) (fun b hb => ⟨f3 b hb, let ⟨o, ho⟩ := ob b hb; ⟨o, old3 b o ho⟩⟩) (fun b hb z => ?_) fun b hb => ?_
  ·obtain ⟨_, g1, g2, _⟩ := f2 b hb
   rcases List.mem_cons.mp (I2.stkSub b z) with q | q
   ·exact g1 q
   ·exact g2 q
  ·obtain ⟨_, _, _, g3, _⟩ := f2 b hb
   rcases g3 with q | q
   ·cases e : X.base.get? b with
    | none => rfl
    | some o => exact absurd q (I.ok.noex b o e)
   ·exact Heap.get?_none_of_le (Nat.le_trans I.ok.bsz q)
 have hns3 : h4.Ns s3.heap.objs.size (fun y => ([] : List (Str × Value)).reverse.lookup y) := by rw [<- heap3]; exact hns
 have keep4 : ∀ b o, s3.heap.get? b = some o -> h4.get? b = some o := fun b o e => by
  have e1 : (s2.heap.push { cls := .type "list", data := .seq ([] : List Value).toArray }).get? b = some o := by rw [heap3]; exact e
  exact (hsb.2 b (Nat.ne_of_lt (Heap.lt_size e1))).trans (Heap.get?_push_of_some _ e1)
 have I4 : Inv (compCxG X scope cl fr tn s3.heap.objs.size s3 (upd H2 s2.heap.objs.size (.lst [])) fp) [] (compSt tn.length fr σ) (upd H2 s2.heap.objs.size (.lst [])) { s3 with heap := h4 } := by
  refine ⟨ok3, rfl, I3.bare, Un.kept keep4, ⟨_, hns3, fun i y v e1 e2 e3 => ?_⟩, (fun y c h => let ⟨v, oc, ho, hd⟩ := I3.cell y c (hsub y c h); ⟨v, oc, keep4 _ _ ho, hd⟩), I3.hok.fresh (Nat.le_refl _), (fun y c h => I3.freeC y c (hsub y c h)), (fun p hp => nomatch hp), I3.hok.kept keep4, by simp [compCxG, compSt]⟩
  have e1 : (tn ++ fr.map (·.2))[i]? = some y := e1
  have e2 : (List.replicate tn.length none ++ fr.map fun p => (σ[p.1]?).join)[i]? = some (some v) := e2
  by_cases hlt : i < tn.length
  ·rw [List.getElem?_append_left (by simpa using hlt), List.getElem?_replicate] at e2
   split at e2 <;> cases e2
  ·rw [List.getElem?_append_right (by omega)] at e1
   rw [List.getElem?_append_right (by simpa using hlt), List.length_replicate] at e2
   rw [List.getElem?_map] at e1 e2
   cases q : fr[i - tn.length]? with
   | none => rw [q] at e1; cases e1
   | some p =>
    rw [q] at e1 e2
    have e1 : p.2 = y := Option.some.inj e1
    have e2 : (σ[p.1]?).join = some v := Option.some.inj e2
    subst e1
    obtain ⟨g1, g2, g3, c, g4⟩ := hfr p (List.mem_of_getElem? q)
    have e4 : σ[p.1]? = some (some v) := by
     cases z : σ[p.1]? with
     | none => rw [z] at e2; cases e2
     | some w' => rw [z] at e2; exact congrArg some e2
    obtain ⟨m, hn, hl⟩ := I3.loc
    obtain ⟨u, ru, lk⟩ := hl p.1 p.2 v g1 e4 (.inr (.inl g2))
    refine ⟨u, ru, .inr ⟨.inl g3, c, g4, ?_⟩⟩
    rcases lk with ⟨k1, _⟩ | ⟨_, c', k2, k3⟩
    ·rw [g2] at k1; cases k1
    ·rw [hsub _ _ g4] at k2
     cases k2
     obtain ⟨oc, ho, hd⟩ := k3
     exact ⟨oc, keep4 _ _ ho, hd⟩
 have st4 : tk 0 h4 := T.keep 0 _ _ st2 fun b hb o e => keep4 b o (old3 b o e)
 have loop : codeAny (model X.prog X.w) X.A (.compLoop (.ListComp elt [⟨tg, iter, ifs, 0⟩] scope pos) 0 (.ref it) (.ref s2.heap.objs.size) (compEnvC scope cl s3.heap.objs.size X.env))
   (compPost (model X.prog X.w) X.A X.xe none (EP X pins σ Q) (.ref s2.heap.objs.size) s3.heap.objs.size) { s3 with heap := h4 } := by
  refine codeAny_loop rfl (fun n s' => ∃ i σ' xs H', Inv (compCxG X scope cl fr tn s3.heap.objs.size s3 (upd H2 s2.heap.objs.size (.lst [])) fp) [] σ' H' s' /\ tk i s'.heap /\ (∀ b ∈ fp, H' b = none) /\ W i n σ' xs H') (fun n s' hI => ?_) m0
   ⟨0, _, [], _, I4, st4, fun b hb => (f3 b hb).1, w0⟩
  show wpAny _ _ ((compTurn (.ListComp elt [⟨tg, iter, ifs, 0⟩] scope pos) 0 (.ref it) (.ref s2.heap.objs.size) (compEnvC scope cl s3.heap.objs.size X.env)).onRaise (fun x => do noteFrame x _; theTreesLotGoes x)) _ _ s'
  refine wpAny_noted ?_
  rw [compTurn_list]
  obtain ⟨i, σ5, xs, H5, I5, st5, fr5, w5⟩ := hI
  have stat : ∀ {H' : Hp}, (∀ b ∈ fp, H' b = none) -> ∀ b ∈ fp, FpOk (compCxG X scope cl fr tn s3.heap.objs.size s3 (upd H2 s2.heap.objs.size (.lst [])) fp) [] H' b := fun hn b hb =>
   ⟨hn b hb, (ok3.exf b hb).1, ok3.exfs b hb, .inl hb, (ok3.exf b hb).2, fun p hp => nomatch hp⟩
  obtain ⟨hl, alt⟩ := turn i n σ5 xs H5 w5
  rcases alt with ⟨stop, qn⟩ | ⟨go, hz, step⟩
  ·refine wpAny_bind (wpAny_standAt (wpAny_bind (thn (T.done (compCxG X scope cl fr tn s3.heap.objs.size s3 (upd H2 s2.heap.objs.size (.lst [])) fp) rfl rfl rfl hc i [] s' σ5 H5 _ I5 (stat fr5) st5 stop) fun r s6 ⟨hr, I6⟩ => ?_)))
   subst hr
   refine wpAny_pure ?_
   obtain ⟨m, hn6, _⟩ := I6.loc
   exact ⟨m, hn6, fun h' hs' => ⟨.ref s2.heap.objs.size, H5, compG_out I3 f3 (Nat.le_refl _) I6 hs', rfl, qn⟩⟩
  ·refine wpAny_bind (wpAny_standAt (wpAny_bind (thn (T.item (compCxG X scope cl fr tn s3.heap.objs.size s3 (upd H2 s2.heap.objs.size (.lst [])) fp) rfl rfl rfl hc i [] s' σ5 H5 _ I5 (stat fr5) st5 go) fun r s6 ⟨u, hr, h6⟩ => ?_)))
   subst hr
   refine wpAny_bind (thn h6 fun _ s7 ⟨y, H7, I7, r7, y7, st7, fr7⟩ => ?_)
   have I7' := I7.pinned (stat fr7) (T.obj _ _ st7)
   have hP := hg s3.heap.objs.size s3 (upd H2 s2.heap.objs.size (.lst [])) fp _ s7 σ5 H7 y u _ I7' r7 (step y H7 y7)
   refine wpAny_bind (wpAny_mono hP (fun _ s8 ⟨σ8, H8, I8, q8⟩ => ?_) (fun _ _ z => False.elim z))
   refine wpAny_bind (wpAny_mono (hcs s3.heap.objs.size s3 (upd H2 s2.heap.objs.size (.lst [])) fp _ s8 σ8 H8 _ I8 q8) (fun b s9 ⟨H9, I9, q9⟩ => ?_) (fun _ _ z => False.elim z))
   have again : ∀ {σ7 : St} {H7 : Hp} {s7' : Shared} {xs' : List V}, Inv (compCxG X scope cl fr tn s3.heap.objs.size s3 (upd H2 s2.heap.objs.size (.lst [])) fp) ([] ++ pinsAt fp s7.heap) σ7 H7 s7' -> (∃ m', m' < n /\ W (i + 1) m' σ7 xs' H7) ->
     ∃ m, m < n /\ ∃ i σ' xs H', Inv (compCxG X scope cl fr tn s3.heap.objs.size s3 (upd H2 s2.heap.objs.size (.lst [])) fp) [] σ' H' s7' /\ tk i s7'.heap /\ (∀ b ∈ fp, H' b = none) /\ W i m σ' xs H' := fun {σ7 H7 s7' xs'} I7 n7 => by
    obtain ⟨m', hm, w7⟩ := n7
    refine ⟨m', hm, i + 1, σ7, xs', H7, I7.unpinned, T.keep _ _ _ st7 fun b hb o e => (I7.pin (b, o) (List.mem_append_right _ (List.mem_append_right _ (a5y hb e)))).1, fun b hb => ?_, w7⟩
    obtain ⟨o, e, d⟩ := T.obj _ _ st7 b hb
    exact (I7.pin (b, o) (List.mem_append_right _ (List.mem_append_right _ (a5y hb e)))).2.1
   cases b with
   | false =>
    rw [if_neg Bool.false_ne_true] at q9
    exact wpAny_pure ⟨rfl, again I9 q9⟩
   | true =>
    rw [if_pos rfl] at q9
    refine wpAny_bind (wpAny_bind (wpAny_mono (he _ _ _ _ _ s9 σ8 H9 _ I9 q9) (fun uv s10 ⟨v, H10, I10, r10, hl10, w10⟩ => ?_) fun _ _ z => z.elim))
    refine wpAny_bind (wpAny_mono (b0r (X := compCxG X scope cl fr tn s3.heap.objs.size s3 (upd H2 s2.heap.objs.size (.lst [])) fp) _ s10 _ H10 (.ref s2.heap.objs.size) [v] (.ref s2.heap.objs.size) [uv] (fun _ H' => H' = upd H10 s2.heap.objs.size (.lst (xs ++ [v]))) I10 rfl (.cons r10 .nil) ⟨_, xs, v, rfl, rfl, hl10, hz, rfl⟩) (fun _ s11 ⟨v11, H11, I11, r11, q11⟩ => ?_) (fun _ _ z => False.elim z))
    subst q11
    exact wpAny_pure (wpAny_pure ⟨rfl, again I11 w10⟩)
 subst hs3
 exact codeAny_compStart_list loop (T.self _ 0 _ _ _ st4 loop)
end
end L2
namespace DL
open PySem PySem.Spec PyProof.Rows L2
structure Yl (K : PySem.W.Frag) (J : It) (O : List Addr) (H1 : Hp) (ds : List D) : Prop where
 step : ∀ (O2 : List Addr) (H2 : Hp), To O O2 H1 H2 -> ∀ (i : Nat) (d : D), ds[i]? = some d -> J.go i H2 /\ ∀ x H3, J.yld i H2 x H3 -> Same H2 H3 /\ Rep K O2 H3 x d
 stop : ∀ (O2 : List Addr) (H2 : Hp), To O O2 H1 H2 -> J.stop ds.length H2
def PDI (X : Cx) (G : XD -> Hp -> Prop) (tg iter : Expr) (fi : DS -> M (List D)) : Prop :=
 ∃ wi, PI X tg iter wi /\ ∀ {Hr : Hp} (δ : DS) (O : List Addr) (σ : St) (H : Hp) (R : It -> Hp -> Prop), Ev X.K Hr O H σ δ -> ok (GS G Hr) (fi δ) (fun ds => ∀ J H1, Same H H1 -> Yl X.K J O H1 ds -> R J H1) -> wi σ H R
section
variable {K : PySem.W.Frag} {O : List Addr} {H1 : Hp}
theorem yl_list {a : Addr} {xs : List V} {ds : List D} (hk : ∀ (O2 : List Addr) (H2 : Hp), To O O2 H1 H2 -> SqL K H2 a xs) (rs : Reps K O H1 xs ds) : Yl K (Itl K a) O H1 ds := by
 refine ⟨fun O2 H2 t i d hd => ?_, fun O2 H2 t => ⟨xs, hk O2 H2 t, by rw [rs.length]; exact Nat.le_refl _⟩⟩
 obtain ⟨v, hv, r⟩ := rs.get hd
 refine ⟨⟨xs, v, hk O2 H2 t, hv⟩, fun x H3 y => ?_⟩
 obtain ⟨rfl, y⟩ := y
 have := y xs (hk O2 H3 t)
 rw [hv] at this
 cases this
 exact ⟨Same.refl _, r.to t⟩
theorem yl_tup {a : Addr} {xs : List V} {ds : List D} (hq : SqT K H1 a xs) (rs : Reps K O H1 xs ds) : Yl K (Itt K a) O H1 ds := by
 refine ⟨fun O2 H2 t i d hd => ?_, fun O2 H2 t => ⟨xs, t.sqT hq, by rw [rs.length]; exact Nat.le_refl _⟩⟩
 obtain ⟨v, hv, r⟩ := rs.get hd
 refine ⟨⟨xs, v, t.sqT hq, hv⟩, fun x H3 y => ?_⟩
 obtain ⟨rfl, y⟩ := y
 have := y xs (t.sqT hq)
 rw [hv] at this
 cases this
 exact ⟨Same.refl _, r.to t⟩
theorem yl_range {lo : Int} {n : Nat} : Yl K (Itr lo n) O H1 (rngD lo n) := by
 have hl : (rngD lo n).length = n := by unfold rngD; rw [List.length_map, List.length_range]
 refine ⟨fun O2 H2 t i d hd => ?_, fun O2 H2 t => by rw [hl]; exact Nat.le_refl _⟩
 have hi : i < n := by
  have := (List.getElem?_eq_some_iff.mp hd).1
  omega
 refine ⟨hi, fun x H3 y => ?_⟩
 obtain ⟨rfl, rfl⟩ := y
 unfold rngD at hd
 rw [List.getElem?_map, List.getElem?_range hi] at hd
 cases hd
 exact ⟨Same.refl _, .int _⟩
theorem Rep.lstTo {v : V} {ds : List D} (r : Rep K O H1 v (.list ds)) : ∃ a xs, v = .ref a /\ SqL K H1 a xs /\ (∀ (O2 : List Addr) (H2 : Hp), To O O2 H1 H2 -> SqL K H2 a xs) /\ Reps K O H1 xs ds := by
 cases r with
 | lst h n rs => exact ⟨_, _, rfl, .inl h, fun O2 H2 t => .inl (t.l _ _ n h).2, rs⟩
 | lstK h rs => exact ⟨_, _, rfl, .inr h, fun _ _ _ => .inr h, rs⟩
def zipD (xs ys : List D) : List D := List.zipWith (fun x y => .tuple [x, y]) xs ys
theorem zipD_get {xs ys : List D} {i : Nat} {d : D} (h : (zipD xs ys)[i]? = some d) : ∃ x y, xs[i]? = some x /\ ys[i]? = some y /\ d = .tuple [x, y] := by
 unfold zipD at h
 rw [List.getElem?_zipWith] at h
 split at h
 ·rename_i x y hx hy
  cases h
  exact ⟨x, y, hx, hy, rfl⟩
 ·cases h
theorem yl_zip {a b : Addr} {xs ys : List V} {ds es : List D} (hk : ∀ (O2 : List Addr) (H2 : Hp), To O O2 H1 H2 -> SqL K H2 a xs) (hk2 : ∀ (O2 : List Addr) (H2 : Hp), To O O2 H1 H2 -> SqL K H2 b ys) (rs : Reps K O H1 xs ds) (rs2 : Reps K O H1 ys es) : Yl K (Itz K a b) O H1 (zipD ds es) := by
 refine ⟨fun O2 H2 t i d hd => ?_, fun O2 H2 t => ⟨xs, ys, hk O2 H2 t, hk2 O2 H2 t, ?_⟩⟩
 ·obtain ⟨x, y, hx, hy, rfl⟩ := zipD_get hd
  obtain ⟨v, hv, r⟩ := rs.get hx
  obtain ⟨u, hu, r2⟩ := rs2.get hy
  refine ⟨⟨xs, ys, v, u, hk O2 H2 t, hk2 O2 H2 t, hv, hu⟩, fun z H3 q => ?_⟩
  obtain ⟨T, rfl, hT, q⟩ := q
  have e := q xs ys v u (hk O2 H2 t) (hk2 O2 H2 t) hv hu
  subst e
  exact ⟨a1l hT, a7p hT (.cons (r.to t) (.cons (r2.to t) .nil))⟩
 ·unfold zipD
  rw [List.length_zipWith, rs.length, rs2.length]
  omega
def enumD (n : Nat) : List D -> List D
 | [] => []
 | x :: xs => .tuple [.int (n : Int), x] :: enumD (n + 1) xs
theorem enumD_len (n : Nat) (xs : List D) : (enumD n xs).length = xs.length := by
 induction xs generalizing n with
 | nil => rfl
 | cons x xs ih => show (enumD (n + 1) xs).length + 1 = _; rw [ih]; rfl
theorem enumD_get {xs : List D} {n i : Nat} {d : D} (h : (enumD n xs)[i]? = some d) : ∃ x, xs[i]? = some x /\ d = .tuple [.int ((n + i : Nat) : Int), x] := by
 induction xs generalizing n i with
 | nil => cases h
 | cons x xs ih =>
  cases i with
  | zero => cases h; exact ⟨x, rfl, rfl⟩
  | succ i =>
   obtain ⟨y, hy, e⟩ := ih (n := n + 1) (i := i) h
   have : n + 1 + i = n + (i + 1) := by omega
   rw [this] at e
   exact ⟨y, hy, e⟩
theorem yl_enum {a : Addr} {xs : List V} {ds : List D} (hk : ∀ (O2 : List Addr) (H2 : Hp), To O O2 H1 H2 -> SqL K H2 a xs) (rs : Reps K O H1 xs ds) : Yl K (Ite K a) O H1 (enumD 0 ds) := by
 refine ⟨fun O2 H2 t i d hd => ?_, fun O2 H2 t => ⟨xs, hk O2 H2 t, ?_⟩⟩
 ·obtain ⟨x, hx, rfl⟩ := enumD_get hd
  obtain ⟨v, hv, r⟩ := rs.get hx
  refine ⟨⟨xs, v, hk O2 H2 t, hv⟩, fun z H3 q => ?_⟩
  obtain ⟨T, rfl, hT, q⟩ := q
  have e := q xs v (hk O2 H2 t) hv
  subst e
  rw [Nat.zero_add]
  exact ⟨a1l hT, a7p hT (.cons (.int _) (.cons (r.to t) .nil))⟩
 ·rw [enumD_len, rs.length]
  exact Nat.le_refl _
def signsD (z : Str) : List D := z.cps.toList.map fun c => .str ⟨#[c]⟩
theorem yl_str {z : Str} : Yl K (Its z) O H1 (signsD z) := by
 have hl : (signsD z).length = z.length := by unfold signsD; rw [List.length_map, Array.length_toList]; rfl
 refine ⟨fun O2 H2 t i d hd => ?_, fun O2 H2 t => by rw [hl]; exact Nat.le_refl _⟩
 have hi : i < z.length := by
  have := (List.getElem?_eq_some_iff.mp hd).1
  omega
 refine ⟨hi, fun x H3 y => ?_⟩
 obtain ⟨rfl, c, hc, rfl⟩ := y
 unfold signsD at hd
 rw [List.getElem?_map, Array.getElem?_toList, hc] at hd
 cases hd
 exact ⟨Same.refl _, .str _⟩
end
section
variable {X : Cx} {G : XD -> Hp -> Prop} {tg iter a b : Expr} {f : DS -> M D} {fa : DS -> M (List D)} {pos p : Pos} {elts : List Expr} {x1 : Nat} {tpos : Pos}
def dSeq (f : DS -> M D) : DS -> M (List D) := fun δ => (f δ).thn fun d => M.lift (seqD d)
theorem pdi_seq (h : PD X G iter f) : PDI X G tg iter (dSeq f) := by
 obtain ⟨t, q, h⟩ := h
 refine ⟨_, pi_seq q, fun δ O σ H R E k => ?_⟩
 refine h δ O σ H _ E (a0h (a0k k) fun d z v H1 s1 r => ?_)
 obtain ⟨ds, hd, z⟩ := a3p z
 cases d with
 | list es =>
  cases hd
  obtain ⟨a, xs, rfl, hq, hk, rs⟩ := r.lstTo
  exact ⟨a, rfl, .inl ⟨⟨xs, hq⟩, z _ H1 s1 (yl_list hk rs)⟩⟩
 | tuple es =>
  cases hd
  obtain ⟨a, xs, rfl, hq, rs⟩ := r.tup_inv
  exact ⟨a, rfl, .inr ⟨⟨xs, hq⟩, z _ H1 s1 (yl_tup hq rs)⟩⟩
 | _ => cases hd
def dRng (rng : List D -> Option (List D)) (fa : DS -> M (List D)) : DS -> M (List D) := fun δ => (fa δ).thn fun ds => M.lift (rng ds)
theorem a9x (hgl : Gl X "range") (hm : X.mg "range" = none) (ha : PDA X G [a] fa) (hs1 : starEach [a] X.env = [(false, eval a X.env)] := by rfl) : PDI X G tg (.Call (.Name "range" p) [a] [] pos) (dRng rng1 fa) := by
 obtain ⟨_, ta, pa, ha⟩ := ha
 refine ⟨_, pi_range1 hgl hm pa hs1, fun δ O σ H R E k => ?_⟩
 refine ha δ O σ H _ E (a0h (a0k k) fun ds z vs H1 s1 rs => ?_)
 obtain ⟨xs, hd, z⟩ := a3p z
 unfold rng1 at hd
 split at hd
 ·rename_i j
  by_cases hz : b62 j = true
  ·rw [if_pos hz] at hd
   cases hd
   obtain ⟨v, rfl, r⟩ := reps1 rs
   obtain ⟨z1, z2⟩ := b62_of hz
   exact ⟨j, by rw [r.int_inv], z1, z2, z _ H1 s1 yl_range⟩
  ·rw [if_neg hz] at hd; cases hd
 ·cases hd
theorem pdi_rng2 (hgl : Gl X "range") (hm : X.mg "range" = none) (ha : PDA X G [a, b] fa) (hs1 : starEach [a, b] X.env = [(false, eval a X.env), (false, eval b X.env)] := by rfl) (hs2 : starEach [b] X.env = [(false, eval b X.env)] := by rfl) :
  PDI X G tg (.Call (.Name "range" p) [a, b] [] pos) (dRng rng2 fa) := by
 obtain ⟨_, ta, pa, ha⟩ := ha
 refine ⟨_, pi_range2 hgl hm pa hs1 hs2, fun δ O σ H R E k => ?_⟩
 refine ha δ O σ H _ E (a0h (a0k k) fun ds z vs H1 s1 rs => ?_)
 obtain ⟨xs, hd, z⟩ := a3p z
 unfold rng2 at hd
 split at hd
 ·rename_i i j
  by_cases hz : (b62 i && b62 j) = true
  ·rw [if_pos hz] at hd
   cases hd
   obtain ⟨v, v', rfl, r, r'⟩ := reps2 rs
   obtain ⟨hz1, hz2⟩ := Bool.and_eq_true_iff.mp hz
   obtain ⟨z1, z2⟩ := b62_of hz1
   obtain ⟨z3, z4⟩ := b62_of hz2
   exact ⟨i, j, by rw [r.int_inv, r'.int_inv], ⟨z1, z2, z3, z4⟩, z _ H1 s1 yl_range⟩
  ·rw [if_neg hz] at hd; cases hd
 ·cases hd
def dZip (fa : DS -> M (List D)) : DS -> M (List D) := fun δ => (fa δ).thn fun ds => match ds with
 | [.list xs, .list ys] => M.ret (zipD xs ys)
 | _ => none
theorem pdi_zip (hgl : Gl X "zip") (hm : X.mg "zip" = none) (ha : PDA X G [a, b] fa) (hs1 : starEach [a, b] X.env = [(false, eval a X.env), (false, eval b X.env)] := by rfl) (hs2 : starEach [b] X.env = [(false, eval b X.env)] := by rfl) :
  PDI X G (.Tuple elts x1 tpos) (.Call (.Name "zip" p) [a, b] [] pos) (dZip fa) := by
 obtain ⟨_, ta, pa, ha⟩ := ha
 refine ⟨_, pi_zip hgl hm pa hs1 hs2, fun δ O σ H R E k => ?_⟩
 refine ha δ O σ H _ E (a0h (a0k k) fun ds z vs H1 s1 rs => ?_)
 match ds, z with
 | [.list xs, .list ys], z =>
  obtain ⟨v, v', rfl, r, r'⟩ := reps2 rs
  obtain ⟨a1, us, rfl, hq, hk, r1⟩ := r.lstTo
  obtain ⟨a2, us2, rfl, hq2, hk2, r2⟩ := r'.lstTo
  exact ⟨a1, a2, rfl, ⟨us, hq⟩, ⟨us2, hq2⟩, z _ H1 s1 (yl_zip hk hk2 r1 r2)⟩
def dEnum (fa : DS -> M (List D)) : DS -> M (List D) := fun δ => (fa δ).thn fun ds => match ds with
 | [.list xs] => M.ret (enumD 0 xs)
 | _ => none
theorem pdi_enum (hgl : Gl X "enumerate") (hm : X.mg "enumerate" = none) (ha : PDA X G [a] fa) (hs1 : starEach [a] X.env = [(false, eval a X.env)] := by rfl) :
  PDI X G (.Tuple elts x1 tpos) (.Call (.Name "enumerate" p) [a] [] pos) (dEnum fa) := by
 obtain ⟨_, ta, pa, ha⟩ := ha
 refine ⟨_, pi_enum hgl hm pa hs1, fun δ O σ H R E k => ?_⟩
 refine ha δ O σ H _ E (a0h (a0k k) fun ds z vs H1 s1 rs => ?_)
 match ds, z with
 | [.list xs], z =>
  obtain ⟨v, rfl, r⟩ := reps1 rs
  obtain ⟨a1, us, rfl, hq, hk, r1⟩ := r.lstTo
  exact ⟨a1, rfl, ⟨us, hq⟩, z _ H1 s1 (yl_enum hk r1)⟩
def dSigns (f : DS -> M D) : DS -> M (List D) := fun δ => (f δ).thn fun d => match d with
 | .str z => M.ret (signsD z)
 | _ => none
theorem pdi_str (h : PD X G iter f) : PDI X G tg iter (dSigns f) := by
 obtain ⟨t, q, h⟩ := h
 refine ⟨_, pi_str q, fun δ O σ H R E k => ?_⟩
 refine h δ O σ H _ E (a0h (a0k k) fun d z v H1 s1 r => ?_)
 match d, z, r with
 | .str w, z, r => exact ⟨w, r.str_inv, z _ H1 s1 yl_str⟩
def gForI (fi : DS -> M (List D)) (t : D -> DS -> Option DS) (g : DS -> M Out) : DS -> M Out := fun δ => (fi δ).thn fun ds => forD (bodyD t g) ds δ
theorem a5d {body : List Stmt} {t : D -> DS -> Option DS} {fi : DS -> M (List D)} {gs : DS -> M Out} (hp : PassesOwn (model X.prog X.w) X.A X.env X.xe) (hc : X.calm = true) (hi : PDI X G tg iter fi) (hg : PDG X tg t) (hb : PDSs X G body gs)
  (hs : ∀ x, foldedSetIterable iter X.env x = pure x := by intro _; rfl) : PDS X G (.For tg iter body [] pos) (gForI fi t gs) := by
 obtain ⟨wi, pi, hi⟩ := hi
 obtain ⟨tgt, pt, hg⟩ := hg
 obtain ⟨tb, pb, hb⟩ := hb
 refine ⟨_, ps_for hp hc pi pt pb hs, @fun Hr R0 P0 H0 δ O σ H Dn E k => ?_⟩
 refine hi δ O σ H _ E.ev (a0h (a0k k) fun ds z J H1 s1 Y => ?_)
 have E1 := E.same s1
 have z1 : ok (GS G Hr) (forD (bodyD t gs) ds δ) (Fin X.K Hr R0 (Ch O R0) H1 Dn) := a0h z fun o q => Fin.outer E1 q
 refine ⟨fun i m σ2 H2 => m = ds.length - i /\ i <= ds.length /\ ∃ δ2 O2, EI X.K Hr R0 (Ch O R0) H1 O2 H2 σ2 δ2 /\ ok (GS G Hr) (forD (bodyD t gs) (ds.drop i) δ2) (Fin X.K Hr R0 (Ch O R0) H1 Dn), ⟨_, rfl, Nat.zero_le _, δ, O, E1.inner, z1⟩, ?_⟩
 rintro i m σ2 H2 ⟨rfl, hi, δ2, O2, E2, k2⟩
 have T := E1.to E2
 by_cases hlt : i < ds.length
 ·right
  have hd : ds[i]? = some ds[i] := List.getElem?_eq_getElem hlt
  obtain ⟨go, yl⟩ := Y.step O2 H2 T i _ hd
  refine ⟨go, fun σ' H' => ∃ δ2 O2, EI X.K Hr R0 (Ch O R0) H1 O2 H' σ' δ2 /\ ok (GS G Hr) (forD (bodyD t gs) (ds.drop (i + 1)) δ2) (Fin X.K Hr R0 (Ch O R0) H1 Dn), fun σ' H' h => ⟨_, by omega, rfl, hlt, h⟩, fun x H3 y => ?_⟩
  obtain ⟨s3, rx⟩ := yl x H3 y
  rw [b0c hd] at k2
  have k3 := a0k (show ok (GS G Hr) ((bodyD t gs ds[i] δ2).thn _) _ from k2)
  obtain ⟨δ3, h3, k4⟩ := a3p (a0k (show ok (GS G Hr) ((M.lift (t ds[i] δ2)).thn gs) _ from k3))
  refine hg R0 (Ch O R0) H1 δ2 δ3 ds[i] x O2 σ2 H3 _ (E2.same s3) rx h3 fun σ4 H4 E4 _ => ?_
  refine hb R0 (Ch O R0) H1 δ3 O2 σ4 H4 _ E4 (a0h k4 fun o z => ?_)
  cases o with
  | nx δ5 => exact fun O5 σ5 H5 E5 => ⟨δ5, O5, E5, z⟩
  | ct δ5 => exact fun O5 σ5 H5 E5 => ⟨δ5, O5, E5, z⟩
  | bk δ5 => exact fun O5 σ5 H5 E5 => z O5 σ5 H5 E5
  | rt d => exact z
 ·left
  have e : i = ds.length := by omega
  subst e
  rw [List.drop_length] at k2
  exact ⟨Y.stop O2 H2 T, k2 O2 σ2 H2 E2⟩
def compD (t : D -> DS -> Option DS) (c : DS -> M Bool) (f : DS -> M D) : List D -> DS -> M (List D)
 | [], _ => M.ret []
 | d :: ds, δ => (M.lift (t d δ)).thn fun δ' => (c δ').thn fun b => if b = true then (f δ').thn fun y => (compD t c f ds δ').thn fun ys => M.ret (y :: ys) else compD t c f ds δ'
def dYes : DS -> M Bool := fun _ => M.ret true
def nX {α : Type} (f : DS -> M α) : DS -> M α := fun δ => noX (f δ)
def dCompG (n : Nat) (js : List Nat) (t : D -> DS -> Option DS) (fi : DS -> M (List D)) (c : DS -> M Bool) (f : DS -> M D) : DS -> M D := fun δ => (fi δ).thn fun ds => if small ds.length then (compD t (nX c) (nX f) ds (List.replicate n .un ++ js.map (slotAt δ))).thn fun ys => M.ret (.list ys) else none
def PDTs (X : Cx) (ifs : List Expr) (f : DS -> M Bool) : Prop :=
 ∃ t, PTs X ifs t /\ ∀ {Hr : Hp} (δ : DS) (O : List Addr) (σ : St) (H : Hp) (Q : Bool -> Hp -> Prop), Ev X.K Hr O H σ δ -> ok (fun _ => False) (f δ) (fun b => ∀ H', Same H H' -> Q b H') -> t σ H Q
theorem a4t : PDTs X [] dYes := ⟨_, pts_nil, fun δ O σ H Q E k => k H (Same.refl H)⟩
theorem ok_GS0 {α : Type} {Hr : Hp} {r : M α} {k : α -> Prop} (h : ok (fun _ => False) r k) : ok (GS (fun _ _ => False) Hr) r k := b2v h
theorem a9w {c : Expr} {fb : DS -> M Bool} (h : PDT X (fun _ _ => False) c fb) : PDTs X [c] fb := by
 obtain ⟨t, q, h⟩ := h
 exact ⟨_, pts_one q, fun δ O σ H Q E k => h δ O σ H Q E (ok_GS0 k)⟩
end
end DL
namespace DL
open PySem PySem.Spec PyProof.Rows L2
def gD (K : PySem.W.Frag) (t : D -> DS -> Option DS) : TG := fun v σ H Q => ∃ Hr R0 P0 H0 δ δ' d O, EI K Hr R0 P0 H0 O H σ δ /\ Rep K O H v d /\ t d δ = some δ' /\ ∀ σ' H', EI K Hr R0 P0 H0 O H' σ' δ' -> Same H H' -> Q σ' H'
theorem PDG.can {X : Cx} {e : Expr} {t : D -> DS -> Option DS} (h : PDG X e t) : PG X e (gD X.K t) := by
 obtain ⟨g, p, h⟩ := h
 intro pins s σ H v u Q I r hw
 obtain ⟨Hr, R0, P0, H0, δ, δ', d, O, E, rd, ht, k⟩ := hw
 exact p pins s σ H v u Q I r (h R0 P0 H0 δ δ' d v O σ H Q E rd ht k)
def cD (K : PySem.W.Frag) (f : DS -> M Bool) : TT := fun σ H Q => ∃ Hr δ O, Ev K Hr O H σ δ /\ ok (fun _ => False) (f δ) (fun b => ∀ H', Same H H' -> Q b H')
theorem PDTs.can {X : Cx} {ifs : List Expr} {f : DS -> M Bool} (h : PDTs X ifs f) : PTs X ifs (cD X.K f) := by
 obtain ⟨t, p, h⟩ := h
 intro pins s σ H Q I hw
 obtain ⟨Hr, δ, O, E, k⟩ := hw
 exact p pins s σ H Q I (h δ O σ H Q E k)
section
variable {K : PySem.W.Frag} {O : List Addr} {H1 H H' : Hp} {l : Addr} {τ : St} {δ : DS}
abbrev EC (K : PySem.W.Frag) (O : List Addr) (H1 : Hp) (l : Addr) (H : Hp) (τ : St) (δ : DS) : Prop := EI K (fun _ => none) (l :: O) (fun b => b = l) H1 (l :: O) H τ δ
theorem EC.put {xs ys : List V} (E : EC K O H1 l H τ δ) (hl : H l = some (.lst xs)) : EC K O H1 l (upd H l (.lst ys)) τ δ := by
 have ts : To (l :: O) (l :: O) H (upd H l (.lst ys)) := To.set hl List.mem_cons_self
 refine ⟨⟨(fun _ _ z => nomatch z), fun a ha => ?_, E.ev.len, fun i s hs => ?_, E.ev.dis⟩, E.omr, fun b o n h => ?_, E.om, E.nr1, E.sub⟩
 ·by_cases e : a = l
  ·subst e; exact .lst a1i
  ·exact (E.ev.oo a ha).upd_ne e
 ·have q := E.ev.at_ i s hs
  cases s with
  | un => trivial
  | ex a => exact q
  | vl d =>
   obtain ⟨v, h1, r⟩ := q
   exact ⟨v, h1, r.to ts⟩
  | ow ds =>
   obtain ⟨a, us, h1, h2, h3, r⟩ := q
   exact absurd h2 (E.nr i ds a hs h1)
  | od es =>
   obtain ⟨a, us, h1, h2, h3, r⟩ := q
   exact absurd h2 (E.nr1 i _ a hs trivial h1)
 ·rw [upd_ne n]
  exact E.keep b o n h
theorem slot_of {Hr : Hp} {σ : St} {δ : DS} {fr : List (Nat × Str)} (E : Ev K Hr O H σ δ) (n : Nat) (hl : H l = none) : EC K O H l (upd H l (.lst [])) (compSt n fr σ) (List.replicate n .un ++ (fr.map (·.1)).map (slotAt δ)) := by
 have get : ∀ (i : Nat) (s : Sl), (List.replicate n Sl.un ++ (fr.map (·.1)).map (slotAt δ))[i]? = some s -> s = .un \/ ∃ d v, s = .vl d /\ (compSt n fr σ)[i]? = some (some v) /\ Rep K O H v d := fun i s h => by
  by_cases hi : i < n
  ·rw [List.getElem?_append_left (by simpa using hi), List.getElem?_replicate] at h
   split at h <;> cases h <;> exact .inl rfl
  ·rw [List.getElem?_append_right (by simpa using hi), List.length_replicate, List.getElem?_map, List.getElem?_map] at h
   cases q : fr[i - n]? with
   | none => rw [q] at h; cases h
   | some p =>
    rw [q] at h
    have h : slotAt δ p.1 = s := Option.some.inj h
    unfold slotAt at h
    split at h
    ·rename_i d hd
     subst h
     obtain ⟨v, hv, r⟩ := E.val hd
     refine .inr ⟨d, v, rfl, ?_, r⟩
     unfold compSt
     rw [List.getElem?_append_right (by simpa using hi), List.length_replicate, List.getElem?_map, q]
     show some (σ[p.1]?).join = _
     rw [hv]
     rfl
    ·exact .inl h.symm
 have to : To O (l :: O) H (upd H l (.lst [])) := To.own hl
 refine ⟨⟨(fun _ _ z => nomatch z), fun a ha => ?_, by simp [compSt], fun i s hs => ?_, fun i j a ds es hij h1 => ?_⟩, fun a ha => .inl ha, fun b o nb h => by rw [upd_ne nb]; exact h, fun a ha => .inl ha, fun i ds a h1 ho => ?_, fun a ha => ha⟩
 ·rcases List.mem_cons.mp ha with rfl | ha
  ·exact .lst a1i
  ·exact (E.oo a ha).new hl
 ·rcases get i s hs with rfl | ⟨d, v, rfl, hv, r⟩
  ·trivial
  ·exact ⟨v, hv, r.to to⟩
 ·rcases get i _ h1 with z | ⟨_, _, z, _⟩ <;> cases z
 ·rcases get i _ h1 with z | ⟨_, _, z, _⟩ <;> (cases z; exact ho.elim)
end
section
variable {X : Cx} {G : XD -> Hp -> Prop} {fi : DS -> M (List D)} {c : DS -> M Bool} {f : DS -> M D} {t : D -> DS -> Option DS}
theorem ok_nX {α : Type} {g : XD -> Prop} {f : DS -> M α} {δ : DS} {k : α -> Prop} (h : ok g (nX f δ) k) : ok (fun _ => False) (f δ) k := ok_noX h
theorem a5k {cl : List (Str × Addr)} {fr : List (Nat × Str)} {tn : List Str} {elt iter tg : Expr} {ifs : List Expr} {scope : Scope} {pos : Pos} (hc : X.calm = true)
  (hkind : scope.kind = .function) (hcell : ∀ y ∈ scope.names, y.2 ≠ .cell) (hclos : closureFor scope X.env = pure cl) (hsub : ∀ y c, cl.lookup y = some c -> X.env.cells.lookup y = some c)
  (hhas : ∀ y ∈ (relabel scope X.env).names, (y.2 = .cell \/ y.2 = .free) -> ∃ c, cl.lookup y.1 = some c) (hfr : ∀ p ∈ fr, X.N[p.1]? = some p.2 /\ X.env.kindOf p.2 = some .cell /\ (compEnvC scope cl 0 X.env).kindOf p.2 = some .cell /\ ∃ c, cl.lookup p.2 = some c) (hnames : ∀ y ∈ scope.names, y.2 = .local -> scope.names.lookup y.1 = some .local)
  (hi : PDI X G tg iter fi) (hg : ∀ C s3 H3 fp, PDG (compCxG X scope cl fr tn C s3 H3 fp) tg t) (hcs : ∀ C s3 H3 fp, PDTs (compCxG X scope cl fr tn C s3 H3 fp) ifs c) (he : ∀ C s3 H3 fp, PD (compCxG X scope cl fr tn C s3 H3 fp) (fun _ _ => False) elt f) (hs : ∀ x, foldedSetIterable iter X.env x = pure x := by intro _; rfl) :
  PD X G (.ListComp elt [⟨tg, iter, ifs, 0⟩] scope pos) (dCompG tn.length (fr.map (·.1)) t fi c f) := by
 obtain ⟨wi, pi, hi⟩ := hi
 refine ⟨_, pe_compG (g := gD X.K t) (tc := cD X.K c) (te := tD X.K (fun _ _ => False) f) hc hkind hcell hclos hsub hhas hfr hnames pi (fun C s3 H3 fp => (hg C s3 H3 fp).can) (fun C s3 H3 fp => (hcs C s3 H3 fp).can) (fun C s3 H3 fp => (he C s3 H3 fp).can) hs, @fun Hr δ O σ H Q E k => ?_⟩
 refine hi δ O σ H _ E (a0h (a0k k) fun ds z J H1 s1 Y => ?_)
 by_cases hsz : small ds.length = true
 case neg =>
  rw [if_neg hsz] at z
  exact z.elim
 rw [if_pos hsz] at z
 intro l hl
 have E1 := E.same s1
 have kk := a0h (a0k z) fun ys (q : ∀ v H', Same H H' -> Rep X.K O H' v (.list ys) -> Q v H') H2 (kp : Kp l H1 H2) r2 => q (.ref l) H2 (s1.trans (kp.same hl)) r2
 refine ⟨fun i m τ xs H2 => m = ds.length - i /\ i <= ds.length /\ xs.length <= i /\ H2 l = some (.lst xs) /\ ∃ δc ys, EC X.K O H1 l H2 τ δc /\ Reps X.K (l :: O) H2 xs ys /\
  ok (GS G Hr) (compD t (nX c) (nX f) (ds.drop i) δc) (fun rest => ∀ H3, Kp l H1 H3 -> Rep X.K O H3 (.ref l) (.list (ys ++ rest)) -> Q (.ref l) H3),
  ⟨_, rfl, Nat.zero_le _, Nat.le_refl _, a1i, _, [], slot_of E1 tn.length hl, .nil, kk⟩, ?_⟩
 rintro i m τ xs H2 ⟨rfl, hi, hx, h2, δc, ys, Ec, ry, kc⟩
 have kp : Kp l H1 H2 := fun b o hb e => Ec.keep b o hb e
 refine ⟨h2, ?_⟩
 have T : To O (l :: O) H1 H2 := kp.to hl
 by_cases hlt : i < ds.length
 ·right
  have hd : ds[i]? = some ds[i] := List.getElem?_eq_getElem hlt
  obtain ⟨go, yl⟩ := Y.step (l :: O) H2 T i _ hd
  refine ⟨go, Nat.lt_of_le_of_lt hx (Nat.lt_of_lt_of_le hlt (a2a hsz)), fun x H3 y => ?_⟩
  obtain ⟨s3, rx⟩ := yl x H3 y
  rw [b0c hd] at kc
  obtain ⟨δ', ht, kc⟩ := a3p (a0k (show ok (GS G Hr) ((M.lift (t ds[i] δc)).thn _) _ from kc))
  refine ⟨_, _, _, _, δc, δ', ds[i], l :: O, Ec.same s3, rx, ht, fun τ' H4 E4 s4 => ?_⟩
  refine ⟨_, δ', l :: O, E4.ev, a0h (ok_nX (a0k kc)) fun b zb H5 s5 => ?_⟩
  have E5 := E4.same s5
  have s25 := (s3.trans s4).trans s5
  dsimp only
  cases b with
  | false =>
   rw [if_neg Bool.false_ne_true] at zb ⊢
   exact ⟨_, by omega, rfl, hlt, by omega, s25 _ _ h2, δ', ys, E5, ry.same s25, zb⟩
  | true =>
   rw [if_pos rfl] at zb ⊢
   refine ⟨_, δ', l :: O, E5.ev, ok_GS0 (a0h (ok_nX (a0k zb)) fun y kz v H6 s6 rv => ?_)⟩
   have h6 : H6 l = some (.lst xs) := s6 _ _ (s25 _ _ h2)
   have ts : To (l :: O) (l :: O) H6 (upd H6 l (.lst (xs ++ [v]))) := To.set h6 List.mem_cons_self
   refine ⟨h6, ds.length - (i + 1), by omega, rfl, hlt, by rw [List.length_append]; show xs.length + 1 <= i + 1; omega, a1i, δ', ys ++ [y], EC.put (E5.same s6) h6, (((ry.same s25).same s6).to ts).append (.cons (rv.to ts) .nil), ?_⟩
   exact a0h (a0k kz) fun rest q H7 kp7 r7 => q H7 kp7 (by rw [List.append_assoc] at r7; exact r7)
 ·left
  have e : i = ds.length := by omega
  subst e
  rw [List.drop_length] at kc
  refine ⟨Y.stop (l :: O) H2 T, kc H2 kp ?_⟩
  rw [List.append_nil]
  exact .lst (.inl h2) (nin E1.oo hl) (ry.to (.less fun b hb => List.mem_cons_of_mem _ hb))
end
section
variable {δ δ' : DS} {fi : DS -> M (List D)} {c : DS -> M Bool} {f : DS -> M D} {t : D -> DS -> Option DS} {fa : DS -> M (List D)} {g : DS -> M D} {x y d : D} {ds ys xs : List D} {n : Nat} {js : List Nat} {gs gt : DS -> M Out} {r : M Out} {z : Str}
theorem a3g (h1 : fi δ = M.ret ds) (hz : small ds.length = true) (h3 : compD t (nX c) (nX f) ds (List.replicate n .un ++ js.map (slotAt δ)) = M.ret ys) : dCompG n js t fi c f δ = M.ret (.list ys) := by
 unfold dCompG; rw [h1, a0s, if_pos hz, h3]; rfl
theorem a5m (h1 : t d δ = some δ') (h2 : f δ' = M.ret y) (h3 : compD t (nX dYes) (nX f) ds δ' = M.ret ys) : compD t (nX dYes) (nX f) (d :: ds) δ = M.ret (y :: ys) := by
 show (M.lift (t d δ)).thn _ = _
 rw [h1, b0t, a0s]
 show (M.ret true).thn _ = _
 rw [a0s, if_pos rfl]
 show (noX (f δ')).thn _ = _
 rw [h2]
 show (compD _ _ _ _ _).thn _ = _
 rw [h3]
 rfl
theorem a9c {rng : List D -> Option (List D)} (h1 : fa δ = M.ret xs) (h2 : rng xs = some ds) : dRng rng fa δ = M.ret ds := by unfold dRng; rw [h1, a0s, h2]; rfl
theorem ev_zipS (h1 : fa δ = M.ret [.list xs, .list ys]) : dZip fa δ = M.ret (zipD xs ys) := by unfold dZip; rw [h1]; rfl
theorem ev_enumS (h1 : fa δ = M.ret [.list xs]) : dEnum fa δ = M.ret (enumD 0 xs) := by unfold dEnum; rw [h1]; rfl
theorem a3q (h1 : fi δ = M.ret ds) {r : M Out} (h3 : forD (bodyD t gs) ds δ = r) : gForI fi t gs δ = r := by unfold gForI; rw [h1, a0s]; exact h3
end
end DL
namespace DL
open PySem PySem.Spec PyProof.Rows L2
section
variable {X : Cx} {G : XD -> Hp -> Prop} {tg iter : Expr} {f : DS -> M D}
theorem PI.or {w1 w2 : TI} (h1 : PI X tg iter w1) (h2 : PI X tg iter w2) : PI X tg iter (fun σ H R => w1 σ H R \/ w2 σ H R) := by
 intro pins s σ H R I h
 rcases h with h | h
 ·exact h1 pins s σ H R I h
 ·exact h2 pins s σ H R I h
def anyD : D -> Option (List D)
 | .list ds => some ds
 | .tuple ds => some ds
 | .str z => some (signsD z)
 | _ => none
def dAny (f : DS -> M D) : DS -> M (List D) := fun δ => (f δ).thn fun d => M.lift (anyD d)
theorem a2x (h : PD X G iter f) : PDI X G tg iter (dAny f) := by
 obtain ⟨w1, p1, h1⟩ := pdi_seq (tg := tg) h
 obtain ⟨w2, p2, h2⟩ := pdi_str (tg := tg) h
 refine ⟨_, PI.or p1 p2, fun δ O σ H R E k => ?_⟩
 have d1 : ∀ d, f δ = some (.ok d) -> (∀ z, d ≠ .str z) -> dSeq f δ = dAny f δ := fun d e n => by
  unfold dSeq dAny
  rw [e]
  show M.lift (seqD d) = M.lift (anyD d)
  cases d with
  | str z => exact absurd rfl (n z)
  | _ => rfl
 match e : f δ with
 | none => unfold dAny at k; rw [e] at k; exact k.elim
 | some (.error x) =>
  refine .inl (h1 δ O σ H R E ?_)
  have e1 : dAny f δ = dSeq f δ := by unfold dAny dSeq; rw [e]; rfl
  rw [<- e1]
  exact k
 | some (.ok d) =>
  match d, e with
  | .str z, e =>
   refine .inr (h2 δ O σ H R E ?_)
   have e1 : dAny f δ = dSigns f δ := by unfold dAny dSigns; rw [e]; rfl
   rw [<- e1]
   exact k
  | .none, e => exact .inl (h1 δ O σ H R E (by rw [d1 _ e (fun z q => nomatch q)]; exact k))
  | .bool b, e => exact .inl (h1 δ O σ H R E (by rw [d1 _ e (fun z q => nomatch q)]; exact k))
  | .int b, e => exact .inl (h1 δ O σ H R E (by rw [d1 _ e (fun z q => nomatch q)]; exact k))
  | .list b, e => exact .inl (h1 δ O σ H R E (by rw [d1 _ e (fun z q => nomatch q)]; exact k))
  | .tuple b, e => exact .inl (h1 δ O σ H R E (by rw [d1 _ e (fun z q => nomatch q)]; exact k))
  | .dict b, e => exact .inl (h1 δ O σ H R E (by rw [d1 _ e (fun z q => nomatch q)]; exact k))
theorem a3m {δ : DS} {x : D} {ds : List D} (h1 : f δ = M.ret x) (h2 : anyD x = some ds) : dAny f δ = M.ret ds := by unfold dAny; rw [h1, a0s, h2]; rfl
end
end DL
namespace DL
open PySem PySem.Spec PyProof.Rows L2
section
variable {X : Cx} {G : XD -> Hp -> Prop} {a b c e : Expr} {es : List Expr} {f : DS -> M D} {fa : DS -> M (List D)} {pos pos' : Pos} {sts : List Stmt} {gs : DS -> M Out}
variable {K : PySem.W.Frag} {Hr : Hp} {R0 : List Addr} {P0 : Addr -> Prop} {H0 H H' : Hp} {O : List Addr} {σ : St} {δ : DS}
theorem EI.newL {i : Nat} {l : Addr} {xs : List V} {ds : List D} (E : EI K Hr R0 P0 H0 O H σ δ) (hl : H l = none) (rx : Reps K O H xs ds) : EI K Hr R0 P0 H0 (l :: O) (upd H l (.lst xs)) (σ.set i (some (.ref l))) (δ.set i (.ow ds)) := by
 have nO : l ∉ O := nin E.ev.oo hl
 have tO : To O (l :: O) H (upd H l (.lst xs)) := To.own hl
 refine ⟨⟨fun b o h => by have q := E.ev.root b o h; rw [upd_ne (a0v q hl)]; exact q, fun a ha => ?_, by rw [List.length_set, List.length_set]; exact E.ev.len, fun j s h => ?_, fun j k a ds es hjk h1 h2 h3 h4 => ?_⟩, fun a ha => ?_, fun b o n h => ?_, fun a ha => ?_, fun j ds a h1 ho h2 => ?_, fun a ha => List.mem_cons_of_mem _ (E.sub a ha)⟩
 ·rcases List.mem_cons.mp ha with rfl | ha
  ·exact .lst a1i
  ·exact (E.ev.oo a ha).new hl
 ·rw [a2m] at h ⊢
  by_cases hij : i = j
  ·rw [if_pos hij] at h ⊢
   by_cases hz : i < δ.length
   ·rw [if_pos hz] at h
    rw [if_pos (by rw [E.ev.len]; exact hz)]
    cases h
    exact ⟨l, xs, rfl, List.mem_cons_self, a1i, rx.to tO⟩
   ·rw [if_neg hz] at h; cases h
  ·rw [if_neg hij] at h ⊢
   exact (E.ev.at_ j s h).to tO (hd_new hl) fun a xs h1 h2 _ _ => ⟨List.mem_cons_of_mem _ h1, by rw [upd_ne (a0v h2 hl)]; exact h2⟩
 ·rw [a2m] at h1 h2 h3 h4
  by_cases hij : i = j
  ·rw [if_pos hij] at h1 h3
   have ha : a = l := by
    split at h3
    ·cases h3; rfl
    ·cases h3
   have hik : ¬ i = k := fun z => hjk (hij.symm.trans z)
   rw [if_neg hik] at h2 h4
   obtain ⟨l', xs, q1, q2, q3, _⟩ := E.ev.at_ k _ h2
   rw [h4] at q1
   cases q1
   rw [ha] at q2
   exact nO q2
  ·rw [if_neg hij] at h1 h3
   by_cases hik : i = k
   ·rw [if_pos hik] at h4
    have ha : a = l := by
     split at h4
     ·cases h4; rfl
     ·cases h4
    obtain ⟨l', xs, q1, q2, q3, _⟩ := E.ev.at_ j _ h1
    rw [h3] at q1
    cases q1
    rw [ha] at q2
    exact nO q2
   ·rw [if_neg hik] at h2 h4
    exact E.ev.dis j k a ds es hjk h1 h2 h3 h4
 ·rcases List.mem_cons.mp ha with rfl | ha
  ·refine .inr ?_
   cases q : Hr a with
   | none => rfl
   | some o =>
    rw [E.ev.root a o q] at hl
    cases hl
  ·exact E.omr a ha
 ·have q := E.keep b o n h
  rw [upd_ne (a0v q hl)]
  exact q
 ·rcases List.mem_cons.mp ha with rfl | ha
  ·by_cases hp : P0 a
   ·exact .inr (.inl hp)
   ·refine .inr (.inr ?_)
    cases q : H0 a with
    | none => rfl
    | some o =>
     rw [E.keep a o hp q] at hl
     cases hl
  ·exact E.om a ha
 ·rw [a2m] at h1 h2
  by_cases hij : i = j
  ·rw [if_pos hij] at h2
   have ha : a = l := by
    split at h2
    ·cases h2; rfl
    ·cases h2
   rw [ha]
   exact fun z => nO (E.sub l z)
  ·rw [if_neg hij] at h1 h2
   exact E.nr1 j ds a h1 ho h2
def PDN (X : Cx) (G : XD -> Hp -> Prop) (e : Expr) (f : DS -> M (List D)) : Prop :=
 ∃ t, PE X e t /\ ∀ {Hr : Hp} (δ : DS) (O : List Addr) (σ : St) (H : Hp) (Q : VK), Ev X.K Hr O H σ δ -> ok (GS G Hr) (f δ) (fun ds => ∀ l xs H1, Same H H1 -> H1 l = none -> Reps X.K O H1 xs ds -> Q (.ref l) (upd H1 l (.lst xs))) -> t σ H Q
def nLst (fa : DS -> M (List D)) : DS -> M (List D) := fun δ => (fa δ).thn fun ds => if small ds.length then M.ret ds else none
theorem a8w (h : PDA X G es fa) : PDN X G (.List es pos) (nLst fa) := by
 obtain ⟨_, t, p, h⟩ := h
 refine ⟨_, pe_lst p, fun δ O σ H Q E k => ?_⟩
 refine h δ O σ H _ E (a0h (a0k k) fun ds z vs H1 s1 rs => ?_)
 by_cases hz : small ds.length = true
 ·rw [if_pos hz] at z
  exact ⟨by rw [rs.length]; exact a2a hz, fun p hp => z p vs H1 s1 hp rs⟩
 ·rw [if_neg hz] at z
  exact z.elim
def nList (fa : DS -> M (List D)) : DS -> M (List D) := fun δ => (fa δ).thn fun ds => match ds with
 | [.list xs] => M.ret xs
 | [.tuple xs] => M.ret xs
 | _ => none
theorem pdn_list {p : Pos} {x : Str} (hx : x = "list") (hg : Gl X x) (hm : X.mg x = none) (ha : PDA X G [e] fa) (he : starEach [e] X.env = (false, eval e X.env) :: starEach [] X.env := by rfl) : PDN X G (.Call (.Name x p) [e] [] pos) (nList fa) := by
 subst hx
 obtain ⟨_, t, pa, ha⟩ := ha
 refine ⟨_, pe_callTy a9o hg hm PyProof.Rows.boot_list pa (by decide) (by decide) he rfl, fun δ O σ H Q E k => ?_⟩
 refine ha δ O σ H _ E (a0h (a0k k) fun ds z vs H1 s1 rs => ?_)
 match ds, z with
 | [.list xs], z =>
  obtain ⟨v, rfl, r⟩ := reps1 rs
  obtain ⟨q, us, rfl, h1, rx⟩ := r.lst_inv
  exact ⟨q, us, rfl, .inl h1, fun l hl => z l us H1 s1 hl rx⟩
 | [.tuple xs], z =>
  obtain ⟨v, rfl, r⟩ := reps1 rs
  obtain ⟨q, us, rfl, h1, rx⟩ := r.tup_inv
  exact ⟨q, us, rfl, .inr h1, fun l hl => z l us H1 s1 hl rx⟩
def gNewL (i : Nat) (f : DS -> M (List D)) : DS -> M Out := fun δ => (f δ).thn fun ds => M.ret (.nx (δ.set i (.ow ds)))
theorem b0o {i : Nat} {x : Str} {f : DS -> M (List D)} (hN : X.N.Nodup) (hi : X.N[i]? = some x) (hx : Loc X.env.scope x) (he : PDN X G e f) (hs : swapsWith e (some (.Name x pos')) pos.line X.env = pure false := by rfl) (hf : X.fn x = true \/ X.env.scope.names.lookup x = some .local := by first | exact .inl rfl | exact .inr rfl | assumption) :
  PDS X G (.Assign [.Name x pos'] e pos) (gNewL i f) := by
 obtain ⟨t, p, he⟩ := he
 refine ⟨_, ps_set hN hi hx p hs hf, fun R0 P0 H0 δ O σ H Dn E k => ?_⟩
 exact he δ O σ H _ E.ev (a0h (a0k k) fun ds z l xs H1 s1 hl rx => z (l :: O) _ _ ((E.same s1).newL hl rx))
mutual
def flatD : D -> Bool
 | .tuple ds => flatDs ds
 | .list _ => false
 | .dict _ => false
 | _ => true
def flatDs : List D -> Bool
 | [] => true
 | d :: ds => flatD d && flatDs ds
end
mutual
theorem Rep.flat {O' : List Addr} : ∀ {v : V} {d : D}, flatD d = true -> Rep K O H v d -> Rep K O' H v d
 | _, _, _, .non => .non
 | _, _, _, .bl b => .bl b
 | _, _, _, .int i => .int i
 | _, _, _, .str x => .str x
 | _, _, h, .tup q r => .tup q (Reps.flat (by simpa only [flatD] using h) r)
 | _, _, h, .lst _ _ _ => by simp [flatD] at h
 | _, _, h, .lstK _ _ => by simp [flatD] at h
 | _, _, h, .dct _ _ _ _ => by simp [flatD] at h
 | _, _, h, .ins _ _ _ _ _ => by simp [flatD, insD] at h
theorem Reps.flat {O' : List Addr} : ∀ {vs : List V} {ds : List D}, flatDs ds = true -> Reps K O H vs ds -> Reps K O' H vs ds
 | _, _, _, .nil => .nil
 | _, _, h, .cons r rs => by
  simp only [flatDs, Bool.and_eq_true] at h
  exact .cons (Rep.flat h.1 r) (Reps.flat h.2 rs)
end
theorem Ev.frz {i : Nat} (E : Ev K Hr O H σ δ) : ∃ O', Ev K Hr O' H σ (DL.frz i δ) := by
 cases q : δ[i]? with
 | none => exact ⟨O, by unfold DL.frz; rw [q]; exact E⟩
 | some s =>
  cases s with
  | un => exact ⟨O, by unfold DL.frz; rw [q]; exact E⟩
  | vl d => exact ⟨O, by unfold DL.frz; rw [q]; exact E⟩
  | ex a => exact ⟨O, by unfold DL.frz; rw [q]; exact E⟩
  | od es => exact ⟨O, by unfold DL.frz; rw [q]; exact E⟩
  | ow ds =>
   have e : DL.frz i δ = δ.set i (.vl (.list ds)) := by unfold DL.frz; rw [q]
   rw [e]
   obtain ⟨l, xs, h1, h2, h3, r⟩ := E.at_ i _ q
   have hi : i < δ.length := (List.getElem?_eq_some_iff.mp q).1
   have tl : To O (O.filter (· ≠ l)) H H := .less fun b hb => (List.mem_filter.mp hb).1
   refine ⟨O.filter (· ≠ l), E.root, fun a ha => E.oo a (List.mem_filter.mp ha).1, by rw [List.length_set]; exact E.len, fun j s h => ?_, fun j k a es es' hjk k1 k2 k3 k4 => ?_⟩
   ·rw [a2m] at h
    by_cases hij : i = j
    ·rw [if_pos hij, if_pos hi] at h
     cases h
     rw [<- hij]
     exact ⟨.ref l, h1, .lst (.inl h3) (fun z => by have := (List.mem_filter.mp z).2; simp at this) (r.to tl)⟩
    ·rw [if_neg hij] at h
     refine (E.at_ j s h).to tl (fun a kvs g1 g2 => ⟨List.mem_filter.mpr ⟨g1, by simpa using ne_of g2 h3 (by intro z; cases z)⟩, g2⟩) fun a ys g1 g2 g3 g4 => ⟨?_, g2⟩
     obtain ⟨es, rfl⟩ := g4
     refine List.mem_filter.mpr ⟨g1, ?_⟩
     have hne : a ≠ l := fun z => by
      subst z
      exact E.dis i j a ds es hij q h h1 g3
     simpa using hne
   ·rw [a2m] at k1 k2
    by_cases hij : i = j
    ·rw [if_pos hij] at k1
     split at k1 <;> cases k1
    ·by_cases hik : i = k
     ·rw [if_pos hik] at k2
      split at k2 <;> cases k2
     ·rw [if_neg hij] at k1
      rw [if_neg hik] at k2
      exact E.dis j k a es es' hjk k1 k2 k3 k4
def dLendT (i : Nat) (f : DS -> M Bool) : DS -> M Bool := fun δ => f (frz i δ)
theorem pdt_lend {fb : DS -> M Bool} (i : Nat) (h : PDT X G e fb) : PDT X G e (dLendT i fb) := by
 obtain ⟨t, p, h⟩ := h
 refine ⟨t, p, fun δ O σ H Q E k => ?_⟩
 obtain ⟨O', E'⟩ := E.frz (i := i)
 exact h _ O' σ H Q E' k
end
section
variable {δ : DS} {f : DS -> M D} {fb : DS -> M Bool} {fn : DS -> M (List D)} {d : D} {b : Bool} {ds : List D} {fa : DS -> M (List D)} {i : Nat}
theorem ev_lendT (h : fb (frz i δ) = M.ret b) : dLendT i fb δ = M.ret b := h
theorem b0y (h : fn δ = M.ret ds) : gNewL i fn δ = M.ret (.nx (δ.set i (.ow ds))) := by unfold gNewL; rw [h]; rfl
theorem a9d (h : fa δ = M.ret ds) (hz : small ds.length = true) : nLst fa δ = M.ret ds := by unfold nLst; rw [h, a0s, if_pos hz]
end
end DL
namespace L2
open PySem PySem.Spec PyProof.Rows
section
variable {X : Cx}
theorem vals_strs : ∀ {ts : List Str} {us : List Value}, Vals (ts.map V.str) us -> ∃ l : List (Str × Tok), us = strValues l /\ l.map (·.1) = ts
 | [], _, .nil => ⟨[], rfl, rfl⟩
 | t :: ts, _, .cons r rs => by
  obtain ⟨l, rfl, e⟩ := vals_strs rs
  obtain ⟨k, rfl⟩ := r
  exact ⟨(t, k) :: l, rfl, by rw [List.map_cons, e]⟩
theorem a9l : ∀ (l : List (Str × Tok)), Vals ((l.map (·.1)).map V.str) (strValues l)
 | [] => .nil
 | (x, t) :: l => .cons ⟨t, rfl⟩ (a9l l)
theorem mt_join : MtR X "str.join" (fun x xs H Q => ∃ z p ts, x = .str z /\ xs = [.ref p] /\ SqL X.K H p (ts.map V.str) /\ JoinOk z ts = true /\ Q (.str (Txt.join z ts)) H) := by
 intro pins s σ H x xs v us Q I rx rs h
 obtain ⟨z, p, ts, rfl, rfl, hq, hj, q⟩ := h
 obtain ⟨t, rfl⟩ := rx
 obtain ⟨u, rfl, r1⟩ := vals1 rs
 cases r1
 obtain ⟨its, rv, pl, _⟩ := I.list hq
 obtain ⟨l, rfl, e⟩ := vals_strs rv
 exact SC.join pl.isList e hj fun t' k => ⟨.str _, H, I.tok k, ⟨t', rfl⟩, q⟩
theorem mt_split : MtR X "str.split" (fun x xs H Q => ∃ z y, x = .str z /\ xs = [.str y] /\ (y.length == 0) = false /\ z.length <= sizeLine /\ (Txt.split z y).length <= sizeLine /\ (Builtin.Str.partsBetween z (Builtin.Str.occurrences z y 0 z.length (z.length + 1)) y.length).length <= sizeLine /\
  ∀ p, H p = none -> Q (.ref p) (upd H p (.lst ((Txt.split z y).map V.str)))) := by
 intro pins s σ H x xs v us Q I rx rs h
 obtain ⟨z, y, rfl, rfl, hy, hz, hl, hz2, q⟩ := h
 obtain ⟨t, rfl⟩ := rx
 obtain ⟨u, rfl, t2, rfl⟩ := vals1 rs
 have fin : ∀ (l : List (Str × Tok)) (k : Nat), l.map (·.1) = Txt.split z y -> EP X pins σ Q (.ref s.heap.objs.size) { s with heap := s.heap.push { cls := .type "list", data := .seq (strValues l).toArray }, toks := k } := fun l k e => by
  rw [<- e] at q hl
  refine ⟨.ref s.heap.objs.size, _, I.laid (o := .lst ((l.map (·.1)).map V.str)) (t' := k) (fun b o e => Heap.get?_push_of_some _ e) (Nat.le_refl _) ⟨by rw [List.length_map]; exact hl, _, 0, a9l l, Heap.get?_push_size _ rfl⟩, rfl, q _ I.fresh⟩
 cases h1 : (decide (z.length < y.length) || decide (Builtin.Str.strKind z < Builtin.Str.strKind y))
 ·cases hf : (Builtin.Str.occurrences z y 0 z.length (z.length + 1)).isEmpty
  ·refine call_meets PySem.F.slot_str_split (typeIs_str _ _ _) PySem.F.entry_str_split (PySem.F.args_str_split_2 _ _) (meets_str_split_sep z y t t2 h1 hy hf hz hz2) ?_
   rw [strsFrom_eq]
   exact fin (numbered s.toks _) _ ((numbered_texts _ _).trans ((if_neg (ne_true_of_eq_false h1)).trans (if_neg (ne_true_of_eq_false hf))).symm)
  ·exact call_meets PySem.F.slot_str_split (typeIs_str _ _ _) PySem.F.entry_str_split (PySem.F.args_str_split_2 _ _) (meets_str_split_not_found z y t t2 h1 hy hf)
    (fin [(z, t)] _ ((if_neg (ne_true_of_eq_false h1)).trans (if_pos hf)).symm)
 ·exact call_meets PySem.F.slot_str_split (typeIs_str _ _ _) PySem.F.entry_str_split (PySem.F.args_str_split_2 _ _) (meets_str_split_cannot_occur z y t t2 h1)
   (fin [(z, t)] _ (if_pos h1).symm)
theorem b3p : CallR X (.type "int") (fun xs H Q => ∃ z n, xs = [.str z] /\ PySem.intText? z = some n /\ z.length <= 640 /\ Q (.int n) H) := by
 intro pins s σ H xs us Q I r h
 obtain ⟨z, n, rfl, hn, hl, q⟩ := h
 obtain ⟨u, rfl, t, rfl⟩ := vals1 r
 exact PySem.W.KIN.call_text hn hl ⟨.int n, H, I.tok _, ⟨_, rfl⟩, q⟩
end
end L2
namespace L2
open PySem PySem.Spec PyProof.Rows
section
variable {X : Cx}
theorem op_le_str : OpR X (compareOp .LtE) (fun x y H Q => ∃ i j, x = .str i /\ y = .str j /\ Q (.bl (!decide (j.cps.toList < i.cps.toList))) H) := by
 intro pins s σ H x y v u Q I rx ry h
 obtain ⟨i, j, rfl, rfl, q⟩ := h
 obtain ⟨t, rfl⟩ := rx
 obtain ⟨t', rfl⟩ := ry
 exact PySem.P.le_str (fin_bl I q rfl)
theorem sl_str : SlR X (fun x lo hi H Q => ∃ z, x = .str z /\ z.length <= sizeLine /\ Q (.str (Txt.slice z lo hi)) H) := by
 intro pins s σ H x v vl vu lo hi sl Q I rx hs pl pu h
 obtain ⟨z, rfl, hz, q⟩ := h
 obtain ⟨t, rfl⟩ := rx
 refine ⟨"str", _, PySem.F.slot_str_getitem.lookup, typeIs_str _ _ _, ?_⟩
 obtain ⟨l, rfl, rfl⟩ : ∃ l : Option (Int × Tok), vl = partValue l /\ lo = l.map (·.1) := by
  cases pl with
  | none => exact ⟨none, rfl, rfl⟩
  | int i t => exact ⟨some (i, t), rfl, rfl⟩
 obtain ⟨u, rfl, rfl⟩ : ∃ u : Option (Int × Tok), vu = partValue u /\ hi = u.map (·.1) := by
  cases pu with
  | none => exact ⟨none, rfl, rfl⟩
  | int i t => exact ⟨some (i, t), rfl, rfl⟩
 refine wpAny_getItem_str_slice (l := l) (u := u) (st := none) ?_ rfl (post_val_or_str ⟨Nat.le_trans (Txt.slice_le z _ _) hz, fun t' k => ⟨.str _, H, I.tok k, ⟨t', rfl⟩, q⟩⟩)
 obtain ⟨o, h1, h2, h3⟩ := hs
 exact ⟨o, h1, h2, h3⟩
end
end L2
namespace DL
open PySem PySem.Spec PyProof.Rows L2
section
variable {X : Cx} {G : XD -> Hp -> Prop} {a b c e o : Expr} {es : List Expr} {f g k : DS -> M D} {fa : DS -> M (List D)} {pos apos cpos : Pos}
def DMt (X : Cx) (id : String) (h : Str -> List D -> Option D) : Prop :=
 ∃ r, MtR X id r /\ ∀ (O : List Addr) (H : Hp) (z : Str) (xs : List D) (d : D) (vs : List V) (Q : VK), (∀ l ∈ O, Mu H l) -> Reps X.K O H vs xs -> h z xs = some d -> (∀ v' H', Same H H' -> Rep X.K O H' v' d -> Q v' H') -> r (.str z) vs H Q
def dMeth (h : Str -> List D -> Option D) (f : DS -> M D) (fa : DS -> M (List D)) : DS -> M D := fun δ => (f δ).thn fun d => match d with
 | .str z => (fa δ).thn fun xs => M.lift (h z xs)
 | _ => none
theorem a5r {id : String} {name : Str} {h : Str -> List D -> Option D} (slot : Slot "str" name id) (hty : typeOf (.builtin id) = pure (.type "method_descriptor")) (hm : DMt X id h) (ho : PD X G o f) (ha : PDA X G (e :: es) fa)
  (hbase : attributeBase o name X.env (eval o X.env) = eval o X.env := by rfl)
  (hfew : ((backTo cpos (starEach (e :: es) X.env)).all (fun x => !x.1) && (backToKw cpos (keywordEach [] X.env)).all (fun x => x.1.isSome)
   && decide ((e :: es).length + ([] : List Keyword).length + (if ([] : List Keyword).isEmpty then 0 else 1) < 30)) = true := by rfl)
  (hline : (apos.endLine == cpos.line) = true := by rfl) (hs : starEach (e :: es) X.env = (false, eval e X.env) :: starEach es X.env := by rfl) (hplain : (backTo cpos (starEach es X.env)).any (·.1) = false := by rfl) :
  PD X G (.Call (.Attribute o name apos) (e :: es) [] cpos) (dMeth h f fa) := by
 obtain ⟨r, hr, hm⟩ := hm
 obtain ⟨t, p, ho⟩ := ho
 obtain ⟨_, u, q, ha⟩ := ha
 refine ⟨_, pe_bm PySem.F.plainAttrs_str slot hty hr p q hbase hfew hline hs hplain, fun δ O σ H Q E k => ?_⟩
 refine ho δ O σ H _ E (a0h (a0k k) fun d z v H1 s1 rd => ?_)
 match d, z, rd with
 | .str w, z, rd =>
  rw [rd.str_inv]
  refine ⟨rfl, ha δ O σ H1 _ (E.same s1) (a0h (a0k z) fun xs zz vs H2 s2 rs => ?_)⟩
  obtain ⟨y, hy, zz⟩ := a3p zz
  exact hm O H2 w xs y vs Q (E.same (s1.trans s2)).oo rs hy fun v' H3 s3 r3 => zz v' H3 ((s1.trans s2).trans s3) r3
def strsOf : List D -> Option (List Str)
 | [] => some []
 | .str z :: r => (strsOf r).map (z :: ·)
 | _ => none
theorem b1l : ∀ {ds : List D} {ts : List Str}, strsOf ds = some ts -> ds = ts.map PyData.str
 | [], ts, h => by cases h; rfl
 | .str z :: r, ts, h => by
  have h : (strsOf r).map (z :: ·) = some ts := h
  cases e : strsOf r with
  | none => rw [e] at h; cases h
  | some cs => rw [e] at h; cases h; rw [b1l e]; rfl
theorem reps_strs {K : PySem.W.Frag} {O : List Addr} {H : Hp} : ∀ {ts : List Str} {vs : List V}, Reps K O H vs (ts.map PyData.str) -> vs = ts.map V.str
 | [], _, .nil => rfl
 | t :: ts, _, .cons r rs => by rw [r.str_inv, reps_strs rs]; rfl
theorem a9m {K : PySem.W.Frag} {O : List Addr} {H : Hp} : ∀ (ts : List Str), Reps K O H (ts.map V.str) (ts.map PyData.str)
 | [] => .nil
 | t :: ts => .cons (.str t) (a9m ts)
def sJoin (z : Str) : List D -> Option D
 | [.list ds] => match strsOf ds with
  | some ts => if JoinOk z ts then some (.str (Txt.join z ts)) else none
  | none => none
 | _ => none
theorem a6n : DMt X "str.join" sJoin := by
 refine ⟨_, mt_join, fun O H z xs d vs Q oo rs e k => ?_⟩
 unfold sJoin at e
 split at e
 ·rename_i ds
  split at e
  ·rename_i ts hts
   by_cases hp : JoinOk z ts = true
   ·rw [if_pos hp] at e
    cases e
    obtain ⟨v, rfl, r⟩ := reps1 rs
    obtain ⟨p, us, rfl, h1, rx⟩ := r.lst_inv
    rw [b1l hts] at rx
    rw [reps_strs rx] at h1
    exact ⟨z, p, ts, rfl, rfl, h1, hp, k _ H (Same.refl H) (.str _)⟩
   ·rw [if_neg hp] at e; cases e
  ·cases e
 ·cases e
def splitOk (z y : Str) : Bool := (y.length == 0) == false && small z.length && small (Txt.split z y).length && small (Builtin.Str.partsBetween z (Builtin.Str.occurrences z y 0 z.length (z.length + 1)) y.length).length
def sSplit (z : Str) : List D -> Option D
 | [.str y] => if splitOk z y then some (.list ((Txt.split z y).map PyData.str)) else none
 | _ => none
theorem a8p : DMt X "str.split" sSplit := by
 refine ⟨_, mt_split, fun O H z xs d vs Q oo rs e k => ?_⟩
 unfold sSplit at e
 split at e
 ·rename_i y
  by_cases hp : splitOk z y = true
  ·rw [if_pos hp] at e
   cases e
   unfold splitOk at hp
   obtain ⟨hp, h4⟩ := Bool.and_eq_true_iff.mp hp
   obtain ⟨hp, h3⟩ := Bool.and_eq_true_iff.mp hp
   obtain ⟨h1, h2⟩ := Bool.and_eq_true_iff.mp hp
   obtain ⟨v, rfl, r⟩ := reps1 rs
   exact ⟨z, y, rfl, by rw [r.str_inv], by simpa using h1, a2a h2, a2a h3, a2a h4, fun p hp => k _ _ (a1l hp) (a6g oo hp (a9m _))⟩
  ·rw [if_neg hp] at e; cases e
 ·cases e
def oIntS : List D -> Option D
 | [.str z] => match PySem.intText? z with
  | some n => if z.length <= 640 then some (.int n) else none
  | none => none
 | ds => oInt ds
theorem dcall_intS : DCall X (.type "int") oIntS := by
 refine ⟨_, b3p.or call_int1, fun O H ds d vs Q oo rs e k => ?_⟩
 unfold oIntS at e
 split at e
 ·rename_i z
  split at e
  ·rename_i n hn
   by_cases hl : z.length <= 640
   ·rw [if_pos hl] at e
    cases e
    obtain ⟨v, rfl, r⟩ := reps1 rs
    exact .inl ⟨z, n, by rw [r.str_inv], hn, hl, k _ H (Same.refl H) (.int _)⟩
   ·rw [if_neg hl] at e; cases e
  ·cases e
 ·unfold oInt at e
  split at e
  ·cases e
   obtain ⟨v, rfl, r⟩ := reps1 rs
   exact .inr (.inl ⟨_, by rw [r.int_inv], k _ H (Same.refl H) (.int _)⟩)
  ·cases e
   obtain ⟨v, rfl, r⟩ := reps1 rs
   exact .inr (.inr ⟨_, by rw [r.bool_inv], k _ H (Same.refl H) (.int _)⟩)
  ·cases e
def oLeD : D -> D -> Option D
 | .int i, .int j => some (.bool (decide (i <= j)))
 | .str i, .str j => some (.bool (!decide (j.cps.toList < i.cps.toList)))
 | _, _ => none
theorem b1b : DOp X (compareOp .LtE) oLeD := by
 refine ⟨_, op_le.or op_le_str, fun O H x y d v u Q oo rx ry e k => ?_⟩
 unfold oLeD at e
 split at e
 ·cases e
  exact .inl ⟨_, _, rx.int_inv, ry.int_inv, k _ H (Same.refl H) (.bl _)⟩
 ·cases e
  exact .inr ⟨_, _, rx.str_inv, ry.str_inv, k _ H (Same.refl H) (.bl _)⟩
 ·cases e
def oInS : D -> D -> Option D
 | .str i, .str j => some (.bool (!(Builtin.Str.occurrences j i 0 j.length 1).isEmpty))
 | _, _ => none
theorem b3j : DOp X (compareOp .In) oInS := by
 refine ⟨_, op_in_str, fun O H x y d v u Q oo rx ry e k => ?_⟩
 unfold oInS at e
 split at e
 ·cases e
  exact ⟨_, _, rx.str_inv, ry.str_inv, k _ H (Same.refl H) (.bl _)⟩
 ·cases e
variable {lo hi : Option Expr} {fl fh : DS -> M (Option Int)} {p2 : Pos}
def oCutS (lo hi : Option Int) : D -> Option D
 | .str z => if small z.length then some (.str (Txt.slice z lo hi)) else none
 | d => oCut lo hi d
def dCutS (f : DS -> M D) (fl fh : DS -> M (Option Int)) : DS -> M D := fun δ => (f δ).thn fun x => (fl δ).thn fun l => (fh δ).thn fun u => M.lift (oCutS l u x)
theorem a2u (he : PD X G e f) (hl : PDO X G lo fl) (hh : PDO X G hi fh) : PD X G (.Subscript e (.Slice lo hi none p2) pos) (dCutS f fl fh) := by
 obtain ⟨t, p, he⟩ := he
 obtain ⟨tl, pl, hl⟩ := hl
 obtain ⟨th, ph, hh⟩ := hh
 refine ⟨_, pe_slice (sl_str.or (sl_list.or sl_tup)) p pl ph, fun δ O σ H Q E k => ?_⟩
 refine he δ O σ H _ E (a0h (a0k k) fun d z v H1 s1 r => ?_)
 refine hl δ O σ H1 _ (E.same s1) (a0h (a0k z) fun l z H2 s2 => ?_)
 refine hh δ O σ H2 _ (E.same (s1.trans s2)) (a0h (a0k z) fun u z H3 s3 => ?_)
 obtain ⟨y, hy, z⟩ := a3p z
 have r3 := (r.same s2).same s3
 have s03 := (s1.trans s2).trans s3
 have E3 := E.same s03
 cases d with
 | str w =>
  have hy : (if small w.length = true then some (PyData.str (Txt.slice w l u)) else none) = some y := hy
  by_cases hw : small w.length = true
  ·rw [if_pos hw] at hy
   cases hy
   exact .inl ⟨w, r3.str_inv, a2a hw, z _ _ s03 (.str _)⟩
  ·rw [if_neg hw] at hy; cases hy
 | list ds =>
  cases hy
  obtain ⟨a, xs, rfl, h1, rs⟩ := r3.lst_inv
  exact .inr (.inl ⟨a, xs, rfl, h1, fun p hp => z _ _ (s03.trans (a1l hp)) (a6g E3.oo hp (rs.cut l u))⟩)
 | tuple ds =>
  have hy : (if HT.sIx ds.length 0 l = 0 /\ HT.sIx ds.length ds.length u = ds.length then none else some (PyData.tuple (cutD ds l u))) = some y := hy
  by_cases hw : HT.sIx ds.length 0 l = 0 /\ HT.sIx ds.length ds.length u = ds.length
  ·rw [if_pos hw] at hy; cases hy
  ·rw [if_neg hw] at hy
   cases hy
   obtain ⟨a, xs, rfl, h1, rs⟩ := r3.tup_inv
   exact .inr (.inr ⟨a, xs, rfl, h1, by rw [rs.length]; exact hw, fun p hp => z _ _ (s03.trans (a1l hp)) (a7p hp (rs.cut l u))⟩)
 | _ => cases hy
end
end DL
namespace L2
open PySem PySem.Spec PyProof.Rows
section
variable {X : Cx}
theorem ps_compG {y : Str} {py spos : Pos} {iy : Nat} {cl : List (Str × Addr)} {fr : List (Nat × Str)} {tn : List Str} {elt iter tg : Expr} {ifs : List Expr} {scope : Scope} {pos : Pos} {wi : TI} {g : TG} {tc : TT} {te : TE} (hc : X.calm = true)
  (hkind : scope.kind = .function) (hcell : ∀ y ∈ scope.names, y.2 ≠ .cell) (hclos : closureFor scope X.env = pure cl) (hsub : ∀ y c, cl.lookup y = some c -> X.env.cells.lookup y = some c)
  (hhas : ∀ y ∈ (relabel scope X.env).names, (y.2 = .cell \/ y.2 = .free) -> ∃ c, cl.lookup y.1 = some c) (hfr : ∀ p ∈ fr, X.N[p.1]? = some p.2 /\ X.env.kindOf p.2 = some .cell /\ (compEnvC scope cl 0 X.env).kindOf p.2 = some .cell /\ ∃ c, cl.lookup p.2 = some c) (hnames : ∀ y ∈ scope.names, y.2 = .local -> scope.names.lookup y.1 = some .local)
  (hi : PI X tg iter wi) (hg : ∀ C s3 H3 fp, PG (compCxG X scope cl fr tn C s3 H3 fp) tg g) (hcs : ∀ C s3 H3 fp, PTs (compCxG X scope cl fr tn C s3 H3 fp) ifs tc) (he : ∀ C s3 H3 fp, PE (compCxG X scope cl fr tn C s3 H3 fp) elt te) (hs : ∀ x, foldedSetIterable iter X.env x = pure x := by intro _; rfl)  (hsw : swapsWith (.ListComp elt [⟨tg, iter, ifs, 0⟩] scope pos) (some (.Name y py)) spos.line X.env = pure true := by rfl)
  (hN : X.N.Nodup) (hiy : X.N[iy]? = some y) (hly : Loc X.env.scope y) (hfy : X.fn y = true \/ X.env.scope.names.lookup y = some .local := by first | exact .inl rfl | exact .inr rfl | assumption) :
  PS X (.Assign [.Name y py] (.ListComp elt [⟨tg, iter, ifs, 0⟩] scope pos) spos) (fun Dn σ H => tCompG tn.length fr wi g tc te σ H fun v H1 => Dn.nx (σ.set iy (some v)) H1) := by
 intro pins s σ H Dn I h
 rw [exec_Assign_Name_used _ _ _ _ hsw]
 refine wpAny_bind (wpAny_standAt (wpAny_bind ?_))
 show wpAny _ X.A (do let _ <- comprehension (.ListComp elt [⟨tg, iter, ifs, 0⟩] scope pos) scope X.env _ (newList []) false (eval iter X.env) (some (assign (.Name y py) X.env))) _ _ s
 refine wpAny_bind (wpAny_mono (wpAny_comprehension_free (use := some (assign (.Name y py) X.env)) (Q := fun _ s' => SP X pins Dn .next s') rfl hs hclos hkind hnames (thn (hi pins s σ H _ I h) fun v s1 h1 => thn h1 fun itv s2 h2 => ?_)) (fun _ s' hq => wpAny_pure (wpAny_pure hq)) fun _ _ e => e)
 obtain ⟨it, fp, tk, J, H2, e, I2, T, st2, f2, R⟩ := h2
 subst e
 have fl : H2 s2.heap.objs.size = none := I2.hok.fresh (Nat.le_refl _)
 obtain ⟨W, ⟨m0, w0⟩, turn⟩ := R s2.heap.objs.size fl
 refine wpAny_newObj_type (wpAny_newFunctionEnv hcell (by intro y hy; simp at hy) (fun h4 hns hsb => ?_) hkind)
 have I3 : Inv X pins σ (upd H2 s2.heap.objs.size (.lst [])) { s2 with heap := s2.heap.push { cls := .type "list", data := .seq ([] : List Value).toArray } } :=
  I2.laid (t' := s2.toks) (fun b o e => Heap.get?_push_of_some _ e) (Nat.le_refl _) ⟨Nat.zero_le _, [], 0, .nil, Heap.get?_push_size _ rfl⟩
 have ob : ∀ b ∈ fp, ∃ o, s2.heap.get? b = some o := fun b hb => let ⟨o, ho, _⟩ := T.obj 0 _ st2 b hb; ⟨o, ho⟩
 have f3 : ∀ b ∈ fp, FpOk X pins (upd H2 s2.heap.objs.size (.lst [])) b := fun b hb => by
  obtain ⟨g0, g1, g2, g3, g4, g5⟩ := f2 b hb
  obtain ⟨o, ho⟩ := ob b hb
  exact ⟨by rw [upd_ne (Nat.ne_of_lt (Heap.lt_size ho))]; exact g0, g1, g2, g3, g4, g5⟩
 generalize hs3 : ({ s2 with heap := s2.heap.push { cls := .type "list", data := .seq ([] : List Value).toArray } } : Shared) = s3 at I3
 have heap3 : s2.heap.push { cls := .type "list", data := .seq ([] : List Value).toArray } = s3.heap := by rw [<- hs3]
 have old3 : ∀ b o, s2.heap.get? b = some o -> s3.heap.get? b = some o := fun b o e => by rw [<- heap3]; exact Heap.get?_push_of_some _ e
 have ok3 : (compCxG X scope cl fr tn s3.heap.objs.size s3 (upd H2 s2.heap.objs.size (.lst [])) fp).Ok := by
  refine compG_ok I3 hkind hsub hhas (Nat.le_refl _) (fun b hb => ⟨f3 b hb, let ⟨o, ho⟩ := ob b hb; ⟨o, old3 b o ho⟩⟩) (fun b hb z => ?_) fun b hb => ?_
  ·obtain ⟨_, g1, g2, _⟩ := f2 b hb
   rcases List.mem_cons.mp (I2.stkSub b z) with q | q
   ·exact g1 q
   ·exact g2 q
  ·obtain ⟨_, _, _, g3, _⟩ := f2 b hb
   rcases g3 with q | q
   ·cases e : X.base.get? b with
    | none => rfl
    | some o => exact absurd q (I.ok.noex b o e)
   ·exact Heap.get?_none_of_le (Nat.le_trans I.ok.bsz q)
 have hns3 : h4.Ns s3.heap.objs.size (fun y => ([] : List (Str × Value)).reverse.lookup y) := by rw [<- heap3]; exact hns
 have keep4 : ∀ b o, s3.heap.get? b = some o -> h4.get? b = some o := fun b o e => by
  have e1 : (s2.heap.push { cls := .type "list", data := .seq ([] : List Value).toArray }).get? b = some o := by rw [heap3]; exact e
  exact (hsb.2 b (Nat.ne_of_lt (Heap.lt_size e1))).trans (Heap.get?_push_of_some _ e1)
 have I4 : Inv (compCxG X scope cl fr tn s3.heap.objs.size s3 (upd H2 s2.heap.objs.size (.lst [])) fp) [] (compSt tn.length fr σ) (upd H2 s2.heap.objs.size (.lst [])) { s3 with heap := h4 } := by
  refine ⟨ok3, rfl, I3.bare, Un.kept keep4, ⟨_, hns3, fun i y v e1 e2 e3 => ?_⟩, (fun y c h => let ⟨v, oc, ho, hd⟩ := I3.cell y c (hsub y c h); ⟨v, oc, keep4 _ _ ho, hd⟩), I3.hok.fresh (Nat.le_refl _), (fun y c h => I3.freeC y c (hsub y c h)), (fun p hp => nomatch hp), I3.hok.kept keep4, by simp [compCxG, compSt]⟩
  have e1 : (tn ++ fr.map (·.2))[i]? = some y := e1
  have e2 : (List.replicate tn.length none ++ fr.map fun p => (σ[p.1]?).join)[i]? = some (some v) := e2
  by_cases hlt : i < tn.length
  ·rw [List.getElem?_append_left (by simpa using hlt), List.getElem?_replicate] at e2
   split at e2 <;> cases e2
  ·rw [List.getElem?_append_right (by omega)] at e1
   rw [List.getElem?_append_right (by simpa using hlt), List.length_replicate] at e2
   rw [List.getElem?_map] at e1 e2
   cases q : fr[i - tn.length]? with
   | none => rw [q] at e1; cases e1
   | some p =>
    rw [q] at e1 e2
    have e1 : p.2 = y := Option.some.inj e1
    have e2 : (σ[p.1]?).join = some v := Option.some.inj e2
    subst e1
    obtain ⟨g1, g2, g3, c, g4⟩ := hfr p (List.mem_of_getElem? q)
    have e4 : σ[p.1]? = some (some v) := by
     cases z : σ[p.1]? with
     | none => rw [z] at e2; cases e2
     | some w' => rw [z] at e2; exact congrArg some e2
    obtain ⟨m, hn, hl⟩ := I3.loc
    obtain ⟨u, ru, lk⟩ := hl p.1 p.2 v g1 e4 (.inr (.inl g2))
    refine ⟨u, ru, .inr ⟨.inl g3, c, g4, ?_⟩⟩
    rcases lk with ⟨k1, _⟩ | ⟨_, c', k2, k3⟩
    ·rw [g2] at k1; cases k1
    ·rw [hsub _ _ g4] at k2
     cases k2
     obtain ⟨oc, ho, hd⟩ := k3
     exact ⟨oc, keep4 _ _ ho, hd⟩
 have st4 : tk 0 h4 := T.keep 0 _ _ st2 fun b hb o e => keep4 b o (old3 b o e)
 have loop : codeAny (model X.prog X.w) X.A (.compLoop (.ListComp elt [⟨tg, iter, ifs, 0⟩] scope pos) 0 (.ref it) (.ref s2.heap.objs.size) (compEnvC scope cl s3.heap.objs.size X.env))
   (compPost (model X.prog X.w) X.A X.xe (some (assign (.Name y py) X.env)) (fun _ s' => SP X pins Dn .next s') (.ref s2.heap.objs.size) s3.heap.objs.size) { s3 with heap := h4 } := by
  refine codeAny_loop rfl (fun n s' => ∃ i σ' xs H', Inv (compCxG X scope cl fr tn s3.heap.objs.size s3 (upd H2 s2.heap.objs.size (.lst [])) fp) [] σ' H' s' /\ tk i s'.heap /\ (∀ b ∈ fp, H' b = none) /\ W i n σ' xs H') (fun n s' hI => ?_) m0
   ⟨0, _, [], _, I4, st4, fun b hb => (f3 b hb).1, w0⟩
  show wpAny _ _ ((compTurn (.ListComp elt [⟨tg, iter, ifs, 0⟩] scope pos) 0 (.ref it) (.ref s2.heap.objs.size) (compEnvC scope cl s3.heap.objs.size X.env)).onRaise (fun x => do noteFrame x _; theTreesLotGoes x)) _ _ s'
  refine wpAny_noted ?_
  rw [compTurn_list]
  obtain ⟨i, σ5, xs, H5, I5, st5, fr5, w5⟩ := hI
  have stat : ∀ {H' : Hp}, (∀ b ∈ fp, H' b = none) -> ∀ b ∈ fp, FpOk (compCxG X scope cl fr tn s3.heap.objs.size s3 (upd H2 s2.heap.objs.size (.lst [])) fp) [] H' b := fun hn b hb =>
   ⟨hn b hb, (ok3.exf b hb).1, ok3.exfs b hb, .inl hb, (ok3.exf b hb).2, fun p hp => nomatch hp⟩
  obtain ⟨hl, alt⟩ := turn i n σ5 xs H5 w5
  rcases alt with ⟨stop, qn⟩ | ⟨go, hz, step⟩
  ·refine wpAny_bind (wpAny_standAt (wpAny_bind (thn (T.done (compCxG X scope cl fr tn s3.heap.objs.size s3 (upd H2 s2.heap.objs.size (.lst [])) fp) rfl rfl rfl hc i [] s' σ5 H5 _ I5 (stat fr5) st5 stop) fun r s6 ⟨hr, I6⟩ => ?_)))
   subst hr
   refine wpAny_pure ?_
   obtain ⟨m, hn6, _⟩ := I6.loc
   have I6' : Inv X pins σ H5 s6 := compG_out I3 f3 (Nat.le_refl _) I6 (h' := s6.heap) ⟨rfl, fun _ _ => rfl⟩
   have ab : ∀ {b : Addr} {o : Obj}, s3.heap.get? b = some o -> b ≠ s3.heap.objs.size := fun e => Nat.ne_of_lt (Heap.lt_size e)
   have nL : X.env.locals ≠ s3.heap.objs.size := by
    obtain ⟨_, ⟨o, _, _, ho, _⟩, _⟩ := I3.loc
    exact ab ho
   have nC : ∀ z c, X.env.cells.lookup z = some c -> c ≠ s3.heap.objs.size := fun z c e => by
    obtain ⟨w', oc, ho, _⟩ := I3.cell z c e
    exact ab ho
   show wpAny _ X.A (assign (.Name y py) X.env (.ref s2.heap.objs.size)) _ _ s6
   refine wpAny_assign_Name (store_ok2 (v := .ref s2.heap.objs.size) I6' hN hiy hly rfl (fun s7 I7 hs7 => ?_) hfy)
   obtain ⟨a, sb, ha⟩ := hs7
   have hna : s3.heap.objs.size ≠ a := by
    rcases ha with rfl | ha
    ·exact nL.symm
    ·exact (nC _ _ ha).symm
   refine ⟨m, hn6.sameBut sb hna, fun h' hs' => ⟨σ.set iy (some (.ref s2.heap.objs.size)), H5, ?_, qn⟩⟩
   have hfr : H5 s3.heap.objs.size = none := I6.free
   exact I7.turned (t' := s7.toks) (fun b o hb e => (hs'.2 b hb).trans e) hfr nL.symm (.inr (Nat.le_trans I3.ok.above (Nat.le_of_lt I3.lt))) nC fun p hp => ab (I3.pin p hp).1
  ·refine wpAny_bind (wpAny_standAt (wpAny_bind (thn (T.item (compCxG X scope cl fr tn s3.heap.objs.size s3 (upd H2 s2.heap.objs.size (.lst [])) fp) rfl rfl rfl hc i [] s' σ5 H5 _ I5 (stat fr5) st5 go) fun r s6 ⟨u, hr, h6⟩ => ?_)))
   subst hr
   refine wpAny_bind (thn h6 fun _ s7 ⟨y, H7, I7, r7, y7, st7, fr7⟩ => ?_)
   have I7' := I7.pinned (stat fr7) (T.obj _ _ st7)
   have hP := hg s3.heap.objs.size s3 (upd H2 s2.heap.objs.size (.lst [])) fp _ s7 σ5 H7 y u _ I7' r7 (step y H7 y7)
   refine wpAny_bind (wpAny_mono hP (fun _ s8 ⟨σ8, H8, I8, q8⟩ => ?_) (fun _ _ z => False.elim z))
   refine wpAny_bind (wpAny_mono (hcs s3.heap.objs.size s3 (upd H2 s2.heap.objs.size (.lst [])) fp _ s8 σ8 H8 _ I8 q8) (fun b s9 ⟨H9, I9, q9⟩ => ?_) (fun _ _ z => False.elim z))
   have again : ∀ {σ7 : St} {H7 : Hp} {s7' : Shared} {xs' : List V}, Inv (compCxG X scope cl fr tn s3.heap.objs.size s3 (upd H2 s2.heap.objs.size (.lst [])) fp) ([] ++ pinsAt fp s7.heap) σ7 H7 s7' -> (∃ m', m' < n /\ W (i + 1) m' σ7 xs' H7) ->
     ∃ m, m < n /\ ∃ i σ' xs H', Inv (compCxG X scope cl fr tn s3.heap.objs.size s3 (upd H2 s2.heap.objs.size (.lst [])) fp) [] σ' H' s7' /\ tk i s7'.heap /\ (∀ b ∈ fp, H' b = none) /\ W i m σ' xs H' := fun {σ7 H7 s7' xs'} I7 n7 => by
    obtain ⟨m', hm, w7⟩ := n7
    refine ⟨m', hm, i + 1, σ7, xs', H7, I7.unpinned, T.keep _ _ _ st7 fun b hb o e => (I7.pin (b, o) (List.mem_append_right _ (List.mem_append_right _ (a5y hb e)))).1, fun b hb => ?_, w7⟩
    obtain ⟨o, e, d⟩ := T.obj _ _ st7 b hb
    exact (I7.pin (b, o) (List.mem_append_right _ (List.mem_append_right _ (a5y hb e)))).2.1
   cases b with
   | false =>
    rw [if_neg Bool.false_ne_true] at q9
    exact wpAny_pure ⟨rfl, again I9 q9⟩
   | true =>
    rw [if_pos rfl] at q9
    refine wpAny_bind (wpAny_bind (wpAny_mono (he _ _ _ _ _ s9 σ8 H9 _ I9 q9) (fun uv s10 ⟨v, H10, I10, r10, hl10, w10⟩ => ?_) fun _ _ z => z.elim))
    refine wpAny_bind (wpAny_mono (b0r (X := compCxG X scope cl fr tn s3.heap.objs.size s3 (upd H2 s2.heap.objs.size (.lst [])) fp) _ s10 _ H10 (.ref s2.heap.objs.size) [v] (.ref s2.heap.objs.size) [uv] (fun _ H' => H' = upd H10 s2.heap.objs.size (.lst (xs ++ [v]))) I10 rfl (.cons r10 .nil) ⟨_, xs, v, rfl, rfl, hl10, hz, rfl⟩) (fun _ s11 ⟨v11, H11, I11, r11, q11⟩ => ?_) (fun _ _ z => False.elim z))
    subst q11
    exact wpAny_pure (wpAny_pure ⟨rfl, again I11 w10⟩)
 subst hs3
 exact codeAny_compStart_list loop (T.self _ 0 _ _ _ st4 loop)
end
end L2
namespace DL
open PySem PySem.Spec PyProof.Rows L2
section
variable {X : Cx} {G : XD -> Hp -> Prop} {fi : DS -> M (List D)} {c : DS -> M Bool} {f : DS -> M D} {t : D -> DS -> Option DS}
theorem comp_reads {fr : List (Nat × Str)} {tn : List Str} {wi : TI} (hi : ∀ {Hr : Hp} (δ : DS) (O : List Addr) (σ : St) (H : Hp) (R : It -> Hp -> Prop), Ev X.K Hr O H σ δ -> ok (GS G Hr) (fi δ) (fun ds => ∀ J H1, Same H H1 -> Yl X.K J O H1 ds -> R J H1) -> wi σ H R)
  {Hr : Hp} (δ : DS) (O : List Addr) (σ : St) (H : Hp) (Q : VK) (E : Ev X.K Hr O H σ δ) (k : ok (GS G Hr) (dCompG tn.length (fr.map (·.1)) t fi c f δ) (fun d => ∀ v H', Same H H' -> Rep X.K O H' v d -> Q v H')) :
  tCompG tn.length fr wi (gD X.K t) (cD X.K c) (tD X.K (fun _ _ => False) f) σ H Q := by
 refine hi δ O σ H _ E (a0h (a0k k) fun ds z J H1 s1 Y => ?_)
 by_cases hsz : small ds.length = true
 case neg =>
  rw [if_neg hsz] at z
  exact z.elim
 rw [if_pos hsz] at z
 intro l hl
 have E1 := E.same s1
 have kk := a0h (a0k z) fun ys (q : ∀ v H', Same H H' -> Rep X.K O H' v (.list ys) -> Q v H') H2 (kp : Kp l H1 H2) r2 => q (.ref l) H2 (s1.trans (kp.same hl)) r2
 refine ⟨fun i m τ xs H2 => m = ds.length - i /\ i <= ds.length /\ xs.length <= i /\ H2 l = some (.lst xs) /\ ∃ δc ys, EC X.K O H1 l H2 τ δc /\ Reps X.K (l :: O) H2 xs ys /\
  ok (GS G Hr) (compD t (nX c) (nX f) (ds.drop i) δc) (fun rest => ∀ H3, Kp l H1 H3 -> Rep X.K O H3 (.ref l) (.list (ys ++ rest)) -> Q (.ref l) H3),
  ⟨_, rfl, Nat.zero_le _, Nat.le_refl _, a1i, _, [], slot_of E1 tn.length hl, .nil, kk⟩, ?_⟩
 rintro i m τ xs H2 ⟨rfl, hi, hx, h2, δc, ys, Ec, ry, kc⟩
 have kp : Kp l H1 H2 := fun b o hb e => Ec.keep b o hb e
 refine ⟨h2, ?_⟩
 have T : To O (l :: O) H1 H2 := kp.to hl
 by_cases hlt : i < ds.length
 ·right
  have hd : ds[i]? = some ds[i] := List.getElem?_eq_getElem hlt
  obtain ⟨go, yl⟩ := Y.step (l :: O) H2 T i _ hd
  refine ⟨go, Nat.lt_of_le_of_lt hx (Nat.lt_of_lt_of_le hlt (a2a hsz)), fun x H3 y => ?_⟩
  obtain ⟨s3, rx⟩ := yl x H3 y
  rw [b0c hd] at kc
  obtain ⟨δ', ht, kc⟩ := a3p (a0k (show ok (GS G Hr) ((M.lift (t ds[i] δc)).thn _) _ from kc))
  refine ⟨_, _, _, _, δc, δ', ds[i], l :: O, Ec.same s3, rx, ht, fun τ' H4 E4 s4 => ?_⟩
  refine ⟨_, δ', l :: O, E4.ev, a0h (ok_nX (a0k kc)) fun b zb H5 s5 => ?_⟩
  have E5 := E4.same s5
  have s25 := (s3.trans s4).trans s5
  dsimp only
  cases b with
  | false =>
   rw [if_neg Bool.false_ne_true] at zb ⊢
   exact ⟨_, by omega, rfl, hlt, by omega, s25 _ _ h2, δ', ys, E5, ry.same s25, zb⟩
  | true =>
   rw [if_pos rfl] at zb ⊢
   refine ⟨_, δ', l :: O, E5.ev, ok_GS0 (a0h (ok_nX (a0k zb)) fun y kz v H6 s6 rv => ?_)⟩
   have h6 : H6 l = some (.lst xs) := s6 _ _ (s25 _ _ h2)
   have ts : To (l :: O) (l :: O) H6 (upd H6 l (.lst (xs ++ [v]))) := To.set h6 List.mem_cons_self
   refine ⟨h6, ds.length - (i + 1), by omega, rfl, hlt, by rw [List.length_append]; show xs.length + 1 <= i + 1; omega, a1i, δ', ys ++ [y], EC.put (E5.same s6) h6, (((ry.same s25).same s6).to ts).append (.cons (rv.to ts) .nil), ?_⟩
   exact a0h (a0k kz) fun rest q H7 kp7 r7 => q H7 kp7 (by rw [List.append_assoc] at r7; exact r7)
 ·left
  have e : i = ds.length := by omega
  subst e
  rw [List.drop_length] at kc
  refine ⟨Y.stop (l :: O) H2 T, kc H2 kp ?_⟩
  rw [List.append_nil]
  exact .lst (.inl h2) (nin E1.oo hl) (ry.to (.less fun b hb => List.mem_cons_of_mem _ hb))

theorem a7q {y : Str} {py spos : Pos} {iy : Nat} {cl : List (Str × Addr)} {fr : List (Nat × Str)} {tn : List Str} {elt iter tg : Expr} {ifs : List Expr} {scope : Scope} {pos : Pos} (hc : X.calm = true)
  (hkind : scope.kind = .function) (hcell : ∀ y ∈ scope.names, y.2 ≠ .cell) (hclos : closureFor scope X.env = pure cl) (hsub : ∀ y c, cl.lookup y = some c -> X.env.cells.lookup y = some c)
  (hhas : ∀ y ∈ (relabel scope X.env).names, (y.2 = .cell \/ y.2 = .free) -> ∃ c, cl.lookup y.1 = some c) (hfr : ∀ p ∈ fr, X.N[p.1]? = some p.2 /\ X.env.kindOf p.2 = some .cell /\ (compEnvC scope cl 0 X.env).kindOf p.2 = some .cell /\ ∃ c, cl.lookup p.2 = some c) (hnames : ∀ y ∈ scope.names, y.2 = .local -> scope.names.lookup y.1 = some .local)
  (hi : PDI X G tg iter fi) (hg : ∀ C s3 H3 fp, PDG (compCxG X scope cl fr tn C s3 H3 fp) tg t) (hcs : ∀ C s3 H3 fp, PDTs (compCxG X scope cl fr tn C s3 H3 fp) ifs c) (he : ∀ C s3 H3 fp, PD (compCxG X scope cl fr tn C s3 H3 fp) (fun _ _ => False) elt f)
  (hN : X.N.Nodup) (hiy : X.N[iy]? = some y) (hly : Loc X.env.scope y) (hs : ∀ x, foldedSetIterable iter X.env x = pure x := by intro _; rfl)
  (hsw : swapsWith (.ListComp elt [⟨tg, iter, ifs, 0⟩] scope pos) (some (.Name y py)) spos.line X.env = pure true := by rfl) (hfy : X.fn y = true \/ X.env.scope.names.lookup y = some .local := by first | exact .inl rfl | exact .inr rfl | assumption) :
  PDS X G (.Assign [.Name y py] (.ListComp elt [⟨tg, iter, ifs, 0⟩] scope pos) spos) (gAsg (dCompG tn.length (fr.map (·.1)) t fi c f) (tgN iy)) := by
 obtain ⟨wi, pi, hi⟩ := hi
 refine ⟨_, ps_compG (g := gD X.K t) (tc := cD X.K c) (te := tD X.K (fun _ _ => False) f) hc hkind hcell hclos hsub hhas hfr hnames pi (fun C s3 H3 fp => (hg C s3 H3 fp).can) (fun C s3 H3 fp => (hcs C s3 H3 fp).can) (fun C s3 H3 fp => (he C s3 H3 fp).can) hs hsw hN hiy hly hfy, fun R0 P0 H0 δ O σ H Dn E k => ?_⟩
 refine comp_reads hi δ O σ H _ E.ev (a0h (a0k k) fun d z v H1 s1 r => ?_)
 obtain ⟨δ', hd, z⟩ := a3p (a0k z)
 cases hd
 exact z O _ H1 ((E.same s1).set r)
end
end DL
namespace L2
open PySem PySem.Spec PyProof.Rows
section
variable {prog : Program} {w : World} {A : Around} {E : Value -> Shared -> Prop} {s : Shared}
theorem args_min4 (a b c d : Value) : argsOk "min" ⟨[a, b, c, d], []⟩ := by unfold argsOk; kernel_rfl
theorem b3n {a b : Value} {rest : List Value} {Q : Value -> Shared -> Prop} (hok : argsOk "min" ⟨a :: b :: rest, []⟩) (hsz : sizeOk (Data.seq (a :: b :: rest).toArray))
  (h : wpAny (model prog w) A.in1 (pyIter (.ref s.heap.objs.size)) (fun it s₂ => ∃ I fp wr n P St bt, it = .ref I /\ Walks prog w A.in1 I fp wr n P St /\ St 0 s₂.heap /\ (∀ b ∈ fp, b < s₂.heap.objs.size) /\ 0 < n /\ CmpOf prog w A.in1 .Lt P bt /\
   ∀ v h' tk, P (argBest bt (n - 1)) v -> (∀ b o, b ∉ wr -> s₂.heap.get? b = some o -> h'.get? b = some o) -> Q v { s₂ with heap := h', toks := tk }) E
   { s with heap := s.heap.push { cls := .type "tuple", data := .seq (a :: b :: rest).toArray } }) :
  wpAny (model prog w) A (call (.builtin "min") (a :: b :: rest)) Q E s := by
 have hname : (toString "min" ++ toString ".loop" : String) = "min.loop" := by decide
 refine call_function_tree F.kind_min F.plain_min F.entry_min hok ?_
 show wpAny _ A.in1 (Builtin.Builtins.bindParams "min" ["key", "default"] 0 ⟨[], []⟩ >>= _) _ _ s
 refine wpAny_bind (wpAny_of_eq (show Builtin.Builtins.bindParams "min" ["key", "default"] 0 ⟨[], []⟩ = pure [none, none] from rfl) ?_)
 show wpAny _ A.in1 (newTuple (a :: b :: rest) >>= _) _ _ s
 refine wpAny_bind (wpAny_newObj_type ?_ (hd := hsz))
 refine wpAny_bind (wpAny_mono h (fun it s₂ h₂ => ?_) fun _ _ e => e)
 obtain ⟨I, fp, wr, n, P, St, bt, rfl, W, hst, hfp, hn, hcmp, hQ⟩ := h₂
 refine wpAny_bind (wpAny_newObj_type ?_)
 have hSf : s₂.heap.objs.size ∉ fp := fun hm => Nat.lt_irrefl _ (hfp _ hm)
 rw [hname]
 refine wpAny_pure ⟨plainId_quiet F.plain_min_loop _, codeAny_min_loop_first W bt hcmp s₂.heap.objs.size hSf hn (W.frame _ _ _ hst fun b _ o e => Heap.get?_push_of_some _ e) (Heap.get?_push_size _ rfl) fun v h' tk hP hk => ?_⟩
 exact hQ v h' tk hP fun b o hbw e => hk b o hbw (Nat.ne_of_lt (Heap.lt_size e)) (Heap.get?_push_of_some _ e)
def minL : List Int -> Int
 | [] => 0
 | a :: r => r.foldl min a
theorem a7h : ∀ (r : List Int) (a : Int), r.foldl min a <= a /\ (∀ x ∈ r, r.foldl min a <= x) /\ (r.foldl min a = a \/ r.foldl min a ∈ r)
 | [], a => ⟨Int.le_refl a, (fun x h => by cases h), .inl rfl⟩
 | b :: r, a => by
  obtain ⟨h1, h2, h3⟩ := a7h r (min a b)
  refine ⟨by show r.foldl min (min a b) <= a; omega, fun x hx => ?_, ?_⟩
  ·show r.foldl min (min a b) <= x
   rcases List.mem_cons.mp hx with rfl | hx
   ·omega
   ·exact h2 x hx
  ·show r.foldl min (min a b) = a \/ r.foldl min (min a b) ∈ b :: r
   rcases h3 with h3 | h3
   ·by_cases hab : a <= b
    ·exact .inl (by omega)
    ·exact .inr (List.mem_cons.mpr (.inl (by omega)))
   ·exact .inr (List.mem_cons_of_mem _ h3)
theorem minL_uniq {l : List Int} {m : Int} (hm : m ∈ l) (h : ∀ x ∈ l, m <= x) : minL l = m := by
 cases l with
 | nil => cases hm
 | cons a r =>
  obtain ⟨h1, h2, h3⟩ := a7h r a
  have hx : minL (a :: r) ∈ a :: r := by
   rcases h3 with h3 | h3
   ·exact List.mem_cons.mpr (.inl h3)
   ·exact List.mem_cons_of_mem _ h3
  have q1 := h _ hx
  have q2 : minL (a :: r) <= m := by
   rcases List.mem_cons.mp hm with rfl | hm
   ·exact h1
   ·exact h2 m hm
  omega
theorem a5x : ∀ {is : List Int} {vs : List Value}, Vals (is.map V.int) vs -> ∃ ts : List (Int × Tok), ts.map (·.1) = is /\ vs = ts.map fun p => .int p.1 p.2
 | [], _, h => by cases h; exact ⟨[], rfl, rfl⟩
 | i :: is, _, h => by
  cases h with
  | cons r rs =>
   obtain ⟨t, rfl⟩ := r
   obtain ⟨ts, e, rfl⟩ := a5x rs
   exact ⟨(i, t) :: ts, by rw [List.map_cons, e], rfl⟩
theorem best_is {ts : List (Int × Tok)} {v : Value} (hne : 0 < ts.length) (h : (intItems ts.toArray)[argBest (fun i j => decide (numAt ts.toArray i < numAt ts.toArray j)) (ts.length - 1)]? = some v) : ∃ t, v = .int (minL (ts.map (·.1))) t := by
 obtain ⟨k1, k2⟩ := argBest_lt (numAt ts.toArray) (ts.length - 1)
 obtain ⟨t, rfl⟩ := intItems_at h
 refine ⟨t, ?_⟩
 have at_ : ∀ j (hj : j < ts.length), numAt ts.toArray j = (ts[j]).1 := fun j hj => by
  unfold numAt
  simp [hj]
 congr 1
 refine (minL_uniq ?_ ?_).symm
 ·rw [at_ _ (by omega)]
  exact List.mem_map_of_mem (List.getElem_mem _)
 ·intro x hx
  obtain ⟨p, hp, rfl⟩ := List.mem_map.mp hx
  obtain ⟨j, hj, rfl⟩ := List.mem_iff_getElem.mp hp
  have := k2 j (by omega)
  rw [at_ j hj] at this
  exact this
end
section
variable {X : Cx}
theorem call_minL (hc : X.calm = true) : CallR X (.builtin "min") (fun xs H Q => ∃ (p : Addr) (is : List Int), xs = [.ref p] /\ SqL X.K H p (is.map V.int) /\ is ≠ [] /\ Q (.int (minL is)) H) := by
 intro pins s σ H xs us Q I r h
 obtain ⟨l, is, rfl, hq, hne, q⟩ := h
 obtain ⟨u, rfl, rx⟩ := vals1 r
 cases rx
 obtain ⟨its, rv, pl, hz⟩ := I.list hq
 obtain ⟨ts, e, rfl⟩ := a5x rv
 have hl : s.heap.IsList l (intItems ts.toArray) := by
  have := pl.isList
  have e2 : intItems ts.toArray = (ts.map fun p => Value.int p.1 p.2).toArray := by unfold intItems; simp
  rw [e2]
  exact this
 have hpos : 0 < ts.length := by
  cases ts with
  | nil => exact absurd e.symm hne
  | cons => exact Nat.succ_pos _
 refine min_intList (I.ok.hd hc) hl (by simpa using hpos) fun v h' tk hv hk => ?_
 obtain ⟨t, rfl⟩ := best_is hpos (by simpa using hv)
 rw [e]
 exact ⟨.int (minL is), H, I.kept hk, ⟨t, rfl⟩, q⟩
theorem call_min4 (hc : X.calm = true) : CallR X (.builtin "min") (fun xs H Q => ∃ a b c d : Int, xs = [.int a, .int b, .int c, .int d] /\ Q (.int (minL [a, b, c, d])) H) := by
 intro pins s σ H xs us Q I r h
 obtain ⟨a, b, c, d, rfl, q⟩ := h
 obtain ⟨ts, e, rfl⟩ := a5x (is := [a, b, c, d]) r
 match ts, e with
 | [p1, p2, p3, p4], e =>
  have hT : (s.heap.push { cls := .type "tuple", data := .seq #[.int p1.1 p1.2, .int p2.1 p2.2, .int p3.1 p3.2, .int p4.1 p4.2] }).IsTuple s.heap.objs.size (intItems #[p1, p2, p3, p4]) := ⟨_, Heap.get?_push_size _ rfl, rfl, 0, by simp [intItems]⟩
  show wpAny _ _ (call (.builtin "min") [.int p1.1 p1.2, .int p2.1 p2.2, .int p3.1 p3.2, .int p4.1 p4.2]) _ _ _
  refine b3n (args_min4 _ _ _ _) (show 4 <= sizeLine by rw [sizeLine_eq]; decide) (wpAny_pyIter_tuple hT ?_)
  have hsz : (s.heap.push { cls := .type "tuple", data := .seq #[.int p1.1 p1.2, .int p2.1 p2.2, .int p3.1 p3.2, .int p4.1 p4.2] }).objs.size = s.heap.objs.size + 1 := Heap.size_push ..
  refine ⟨_, [_, s.heap.objs.size], [_], _, _, _, _, rfl, Walks.tuple (A := X.A.in1) (I.ok.hd hc) _ s.heap.objs.size (by rw [hsz]; exact Nat.ne_of_lt (Nat.lt_succ_self _)) (intItems #[p1, p2, p3, p4]),
   ⟨⟨_, Heap.get?_push_size _ rfl, rfl, rfl⟩, hT.push _⟩, fun d hd => ?_, by simp [intItems], CmpOf.ints_lt (numAt #[p1, p2, p3, p4]) (fun _ _ => intItems_at), fun v h' tk hP hk => ?_⟩
  ·show d < ((s.heap.push _).push _).objs.size
   rw [Heap.size_push, hsz]
   rcases List.mem_cons.mp hd with rfl | hd
   ·rw [hsz]; exact Nat.lt_succ_self _
   ·rcases List.mem_cons.mp hd with rfl | hd
    ·exact Nat.lt_succ_of_lt (Nat.lt_succ_self _)
    ·cases hd
  ·have hold : ∀ d o, s.heap.get? d = some o -> h'.get? d = some o := fun d o e => by
    refine hk d o (fun hm => ?_) (Heap.get?_push_of_some _ (Heap.get?_push_of_some _ e))
    rcases List.mem_cons.mp hm with e1 | hm
    ·have := Heap.lt_size e; rw [e1, hsz] at this; exact Nat.lt_irrefl _ (Nat.lt_of_succ_lt this)
    ·cases hm
   obtain ⟨t, rfl⟩ := best_is (ts := [p1, p2, p3, p4]) (Nat.succ_pos _) (by
    have hz : (intItems #[p1, p2, p3, p4]).size - 1 = 3 := by simp [intItems]
    rw [hz] at hP
    exact hP)
   rw [e]
   exact ⟨.int (minL [a, b, c, d]), H, I.kept hold, ⟨t, rfl⟩, q⟩
end
end L2
namespace DL
open PySem PySem.Spec PyProof.Rows L2
section
variable {X : Cx}
def oMinM : List D -> Option D
 | [.int a, .int b, .int c, .int d] => some (.int (minL [a, b, c, d]))
 | [.list ds] => match intsOf ds with
  | some [] => none
  | some is => some (.int (minL is))
  | none => none
 | _ => none
theorem dcall_minM (hc : X.calm = true) : DCall X (.builtin "min") oMinM := by
 refine ⟨_, (call_min4 hc).or (call_minL hc), fun O H ds d vs Q oo rs e k => ?_⟩
 unfold oMinM at e
 split at e
 ·rename_i a b c d
  cases e
  have := a6r (ns := [a, b, c, d]) rs
  exact .inl ⟨a, b, c, d, this, k _ H (Same.refl H) (.int _)⟩
 ·rename_i es
  split at e
  ·cases e
  ·rename_i is hne he
   cases e
   obtain ⟨v, rfl, r⟩ := reps1 rs
   obtain ⟨p, xs, rfl, h1, rx⟩ := r.lst_inv
   rw [a6s he] at rx
   rw [a6r rx] at h1
   exact .inr ⟨p, is, rfl, h1, fun z => hne (by rw [z] at he; exact z ▸ rfl), k _ H (Same.refl H) (.int _)⟩
  ·cases e
 ·cases e
end
end DL
namespace L2
open PySem PySem.Spec PyProof.Rows
section
variable {X : Cx}
end
end L2
namespace DL
open PySem PySem.Spec PyProof.Rows L2
section
variable {X : Cx}
end
end DL
namespace L2
open PySem PySem.Spec PyProof.Rows
section
variable {X : Cx}
end
end L2
namespace DL
open PySem PySem.Spec PyProof.Rows L2
section
variable {X : Cx}
theorem b0f {cells : List (Str × Addr)} : ∀ y c, ([] : List (Str × Addr)).lookup y = some c -> cells.lookup y = some c := fun _ _ h => by cases h
end
end DL
namespace DL
open PySem PySem.Spec PyProof.Rows L2
def NewOf (K : PySem.W.Frag) (H : Hp) (k : V -> Hp -> Prop) (d : D) : Prop := ∃ ds, d = .list ds /\ flatDs ds = true /\ ∀ l xs H', Same H H' -> H l = none -> H' l = some (.lst xs) -> Reps K [] H' xs ds -> k (.ref l) H'
def PDF (X : Cx) (G : XD -> Hp -> Prop) (e : Expr) (f : DS -> M D) : Prop :=
 ∃ t, PE X e t /\ ∀ {Hr : Hp} (δ : DS) (O : List Addr) (σ : St) (H : Hp) (Q : VK), Ev X.K Hr O H σ δ -> ok (GS G Hr) (f δ) (NewOf X.K H Q) -> t σ H Q
def FinF (K : PySem.W.Frag) (Hr : Hp) (R0 : List Addr) (H0 : Hp) (Dn : Ends) : Out -> Prop
 | .rt d => NewOf K H0 Dn.rt d
 | _ => False
def PDSsF (X : Cx) (G : XD -> Hp -> Prop) (st : List Stmt) (g : DS -> M Out) : Prop :=
 ∃ t, PSs X st t /\ ∀ {Hr : Hp} (R0 : List Addr) (H0 : Hp) (δ : DS) (O : List Addr) (σ : St) (H : Hp) (Dn : Ends), EI X.K Hr R0 (fun _ => False) H0 O H σ δ -> ok (GS G Hr) (g δ) (FinF X.K Hr R0 H0 Dn) -> t Dn σ H
section
variable {X : Cx} {G : XD -> Hp -> Prop} {e : Expr} {es : List Expr} {f : DS -> M D} {fa : DS -> M (List D)} {gt : DS -> M Out} {sts : List Stmt} {pos : Pos}
end
def spDF (K : PySem.W.Frag) (n : Nat) (F : List D -> M D) : Sp := fun vs H Q _ => ∃ O ds, vs.length = n /\ (∀ l ∈ O, Mu H l) /\ Reps K O H vs ds /\ ok (fun _ => False) (F ds) (NewOf K H Q)
structure DefF (P : Program) (w : World) (K : PySem.W.Frag) (mg : Str -> Option Value) (base : Heap) (k : Nat) (x : Str) (n : Nat) (F : List D -> M D) : Prop where
 ex : ∃ (f : Addr) (fd : FuncData) (ps : List Str), FnOk P w K mg base CX0 k f fd ps (spDF K n F) /\ mg x = some (.ref f) /\ PySem.W.keepIn K (.ref f) = true /\ Binds K fd ps []
section
variable {X : Cx} {G : XD -> Hp -> Prop} {e : Expr} {es : List Expr} {f : DS -> M D} {fa : DS -> M (List D)} {pos : Pos}
theorem pdf_call {k n : Nat} {x : Str} {p : Pos} {F : List D -> M D} (h : DefF X.prog X.w X.K X.mg X.base k x n F) (hr : Room k X.A) (hg : Gl X x) (hn : (e :: es).length = n) (ha : PDA X G (e :: es) fa)
  (hdb : (x == ("__debug__" : Str)) = false := by decide) (he : starEach (e :: es) X.env = (false, eval e X.env) :: starEach es X.env := by rfl) (hpl : (backTo pos (starEach es X.env)).any (·.1) = false := by rfl) :
  PDF X G (.Call (.Name x p) (e :: es) [] pos) (dCall (fun ds => noX (F ds)) fa) := by
 obtain ⟨f, fd, ps, F1, hm, hk, hb⟩ := h.ex
 obtain ⟨hl, t, pa, ha⟩ := ha
 refine ⟨_, pe_call F1 hr hg hm hk hb .nil pass0 pa hdb he hpl, fun δ O σ H Q E k => ?_⟩
 have k1 := a0k k
 refine ha δ O σ H _ E ?_
 cases e1 : fa δ with
 | none => rw [e1] at k1; exact k1.elim
 | some r =>
  rw [e1] at k1
  cases r with
  | error x => exact k1
  | ok ds =>
   refine fun vs H1 s1 rs => ?_
   refine ⟨O, ds, ?_, (E.same s1).oo, ?_, a0h (ok_noX k1) fun d z => ?_⟩
   ·rw [List.append_nil, rs.length, hl δ ds e1]
    exact hn
   ·rw [List.append_nil]
    exact rs
   ·obtain ⟨ds', rfl, hf, z⟩ := z
    refine ⟨ds', rfl, hf, fun l xs H' s hl hx rx => z l xs H' (s1.trans s) ?_ hx rx⟩
    cases q : H l with
    | none => rfl
    | some o => rw [s1 l o q] at hl; cases hl
end
section
variable {P : Program} {w : World} {K : PySem.W.Frag} {mg : Str -> Option Value} {base : Heap}
theorem fn_ofDF {x qual : Str} {st : Stmt} {f : Addr} {fd : FuncData} {N ps : List Str} {k : Nat} {g : DS -> M Out} (F0 : Fun K x qual st f fd) (S : FnScope N ps (defScope st))
  (hbody : ∀ (cdv : Value) (A : Around) (outer : List Env) (s : Shared) (H : Hp) (E : XK), Room k (A.deeper (envOfC qual (defScope st) s.heap.objs.size f cdv)) ->
   PDSsF (cxOf CX0 P w K mg base N qual (defScope st) f cdv A outer s H E).nox (fun _ _ => False) (defBody st) g) : FnOk P w K mg base CX0 (k + 1) f fd ps (spDF K ps.length (run N.length g)) := by
 refine F0.ok S (fun vs H Q E h => ?_) (fun cdv A outer s H vs Q E hr h => ?_)
 ·obtain ⟨O, ds, hl, _⟩ := h
  exact hl
 ·obtain ⟨O, ds, hl, oo, r, q⟩ := h
  obtain ⟨t, p, hB⟩ := hbody cdv A outer s H E hr
  refine ⟨t, p, hB O H (startD N.length ds) O (L2.start N vs) H _ ⟨b3e N oo r, fun l hl => .inl hl, fun b o _ h => h, fun l hl => .inl hl, fun i es l h1 ho h2 => ?_, fun l hl => hl⟩ (a0h (b2v (a0k q)) fun o z => ?_)⟩
  ·exact (b2h h1 ho).elim
  ·cases o with
   | rt d => exact z
   | nx δ =>
    obtain ⟨ds', e, _⟩ := (show NewOf K H Q .none from z)
    cases e
   | bk δ => exact z.elim
   | ct δ => exact z.elim
theorem deff_of {x qual : Str} {st : Stmt} {f : Addr} {fd : FuncData} {N ps : List Str} {k : Nat} {g : DS -> M Out} (F0 : Fun K x qual st f fd) (S : FnScope N ps (defScope st)) (hm : mg x = some (.ref f)) (hb : Binds K fd ps [])
  (hbody : ∀ (cdv : Value) (A : Around) (outer : List Env) (s : Shared) (H : Hp) (E : XK), Room k (A.deeper (envOfC qual (defScope st) s.heap.objs.size f cdv)) ->
   PDSsF (cxOf CX0 P w K mg base N qual (defScope st) f cdv A outer s H E).nox (fun _ _ => False) (defBody st) g) : DefF P w K mg base (k + 1) x ps.length (run N.length g) :=
 ⟨f, fd, ps, fn_ofDF F0 S hbody, hm, F0.kp, hb⟩
end
end DL
namespace L2
open PySem PySem.Spec PyProof.Rows
section
variable {X : Cx}
theorem b0l (f : Nat -> Int) (l : List Int) (h : ∀ j, j < l.length -> f j = l.getD j 0) : ∀ n, n <= l.length -> preSum f n = (l.take n).sum
 | 0, _ => by simp [preSum]
 | n + 1, hn => by
  have e : preSum f (n + 1) = preSum f n + f n := rfl
  rw [e, b0l f l h n (by omega), h n (by omega), List.take_succ, List.sum_append]
  have : l[n]? = some l[n] := List.getElem?_eq_getElem (by omega)
  rw [this]
  simp [List.getD, this]
def maxL : List Int -> Int
 | [] => 0
 | a :: r => r.foldl max a
theorem a7i : ∀ (r : List Int) (a : Int), a <= r.foldl max a /\ (∀ x ∈ r, x <= r.foldl max a) /\ (r.foldl max a = a \/ r.foldl max a ∈ r)
 | [], a => ⟨Int.le_refl a, (fun x h => by cases h), .inl rfl⟩
 | b :: r, a => by
  obtain ⟨h1, h2, h3⟩ := a7i r (max a b)
  refine ⟨by show a <= r.foldl max (max a b); omega, fun x hx => ?_, ?_⟩
  ·show x <= r.foldl max (max a b)
   rcases List.mem_cons.mp hx with rfl | hx
   ·omega
   ·exact h2 x hx
  ·show r.foldl max (max a b) = a \/ r.foldl max (max a b) ∈ b :: r
   rcases h3 with h3 | h3
   ·by_cases hab : b <= a
    ·exact .inl (by omega)
    ·exact .inr (List.mem_cons.mpr (.inl (by omega)))
   ·exact .inr (List.mem_cons_of_mem _ h3)
theorem maxL_ge {l : List Int} {x : Int} (h : x ∈ l) : x <= maxL l := by
 cases l with
 | nil => cases h
 | cons a r =>
  obtain ⟨h1, h2, h3⟩ := a7i r a
  rcases List.mem_cons.mp h with rfl | h
  ·exact h1
  ·exact h2 x h
theorem maxL_mem {l : List Int} (h : l ≠ []) : maxL l ∈ l := by
 cases l with
 | nil => exact absurd rfl h
 | cons a r =>
  obtain ⟨h1, h2, h3⟩ := a7i r a
  rcases h3 with h3 | h3
  ·exact List.mem_cons.mpr (.inl h3)
  ·exact List.mem_cons_of_mem _ h3
theorem maxL_uniq {l : List Int} {m : Int} (hm : m ∈ l) (h : ∀ x ∈ l, x <= m) : maxL l = m := by
 have q1 := maxL_ge hm
 have q2 := h _ (maxL_mem (l := l) (by rintro rfl; cases hm))
 omega
theorem call_maxL (hc : X.calm = true) : CallR X (.builtin "max") (fun xs H Q => ∃ (p : Addr) (is : List Int), xs = [.ref p] /\ SqL X.K H p (is.map V.int) /\ is ≠ [] /\ Q (.int (maxL is)) H) := by
 intro pins s σ H xs us Q I r h
 obtain ⟨l, is, rfl, hq, hne, q⟩ := h
 obtain ⟨u, rfl, rx⟩ := vals1 r
 cases rx
 obtain ⟨its, rv, pl, hz⟩ := I.list hq
 obtain ⟨ts, e, rfl⟩ := a5x rv
 have hl : s.heap.IsList l (intItems ts.toArray) := by
  have := pl.isList
  have e2 : intItems ts.toArray = (ts.map fun p => Value.int p.1 p.2).toArray := by unfold intItems; simp
  rw [e2]
  exact this
 have hpos : 0 < ts.length := by
  cases ts with
  | nil => exact absurd e.symm hne
  | cons => exact Nat.succ_pos _
 refine max_intList (I.ok.hd hc) hl (by simpa using hpos) fun v h' tk hv hk => ?_
 have hv : (intItems ts.toArray)[argBest (fun i j => decide (numAt ts.toArray i > numAt ts.toArray j)) (ts.length - 1)]? = some v := by simpa using hv
 obtain ⟨k1, k2⟩ := argBest_gt (numAt ts.toArray) (ts.length - 1)
 obtain ⟨t, rfl⟩ := intItems_at hv
 have at_ : ∀ j (hj : j < ts.length), numAt ts.toArray j = (ts[j]).1 := fun j hj => by
  unfold numAt
  simp [hj]
 have em : maxL is = numAt ts.toArray (argBest (fun i j => decide (numAt ts.toArray i > numAt ts.toArray j)) (ts.length - 1)) := by
  rw [<- e]
  refine maxL_uniq ?_ ?_
  ·rw [at_ _ (by omega)]
   exact List.mem_map_of_mem (List.getElem_mem _)
  ·intro x hx
   obtain ⟨p, hp, rfl⟩ := List.mem_map.mp hx
   obtain ⟨j, hj, rfl⟩ := List.mem_iff_getElem.mp hp
   have := k2 j (by omega)
   rw [at_ j hj] at this
   exact this
 exact ⟨.int (maxL is), H, I.kept hk, ⟨t, by rw [em]⟩, q⟩
end
end L2
namespace DL
open PySem PySem.Spec PyProof.Rows L2
section
variable {X : Cx}
def oMaxM : List D -> Option D
 | [.list ds] => match intsOf ds with
  | some [] => none
  | some is => some (.int (maxL is))
  | none => none
 | _ => none
theorem dcall_maxM (hc : X.calm = true) : DCall X (.builtin "max") oMaxM := by
 refine ⟨_, call_maxL hc, fun O H ds d vs Q oo rs e k => ?_⟩
 unfold oMaxM at e
 split at e
 ·rename_i es
  split at e
  ·cases e
  ·rename_i is hne he
   cases e
   obtain ⟨v, rfl, r⟩ := reps1 rs
   obtain ⟨p, xs, rfl, h1, rx⟩ := r.lst_inv
   rw [a6s he] at rx
   rw [a6r rx] at h1
   exact ⟨p, is, rfl, h1, fun z => hne (by rw [z] at he; exact z ▸ rfl), k _ H (Same.refl H) (.int _)⟩
  ·cases e
 ·cases e
def plainV : D -> Option V
 | .none => some .non
 | .bool b => some (.bl b)
 | .int i => some (.int i)
 | .str x => some (.str x)
 | _ => none
def plainVs : List D -> Option (List V)
 | [] => some []
 | d :: ds => match plainV d, plainVs ds with
  | some v, some vs => some (v :: vs)
  | _, _ => none
theorem b1r {K : PySem.W.Frag} {O : List Addr} {H : Hp} {d : D} {v u : V} (h : plainV d = some v) (r : Rep K O H u d) : u = v /\ flatV v = true := by
 cases r <;> cases h <;> exact ⟨rfl, rfl⟩
theorem b0m {K : PySem.W.Frag} {O : List Addr} {H : Hp} : ∀ {ds : List D} {vs us : List V}, plainVs ds = some vs -> Reps K O H us ds -> us = vs /\ vs.all flatV = true
 | [], vs, _, h, .nil => by cases h; exact ⟨rfl, rfl⟩
 | d :: ds, vs, _, h, .cons r rs => by
  simp only [plainVs] at h
  split at h
  ·rename_i v ws e1 e2
   cases h
   obtain ⟨rfl, f1⟩ := b1r e1 r
   obtain ⟨rfl, f2⟩ := b0m e2 rs
   exact ⟨rfl, by rw [List.all_cons, f1, f2]; rfl⟩
  ·cases h
end
section
variable {X : Cx} {G : XD -> Hp -> Prop} {e : Expr} {es : List Expr} {f : DS -> M D} {fa : DS -> M (List D)} {gs gt : DS -> M Out} {st : Stmt} {sts : List Stmt} {pos : Pos}
def gRetF (i : Nat) : DS -> M Out := fun δ => match δ[i]? with
 | some (.ow ds) => if flatDs ds = true then M.ret (.rt (.list ds)) else none
 | _ => none
theorem EI.sames {K : PySem.W.Frag} {Hr H0 H : Hp} {R0 O : List Addr} {σ : St} {δ : DS} (E : EI K Hr R0 (fun _ => False) H0 O H σ δ) : Same H0 H := fun b o h => E.keep b o (fun w => w) h
theorem pdsf_retO {i : Nat} (he : PE X e (tVar i)) : PDSsF X G [.Return (some e) pos] (gRetF i) := by
 refine ⟨_, pss_one (ps_ret he), fun R0 H0 δ O σ H Dn E k => ?_⟩
 unfold gRetF at k
 split at k
 ·rename_i ds hd
  by_cases hf : flatDs ds = true
  ·rw [if_pos hf] at k
   obtain ⟨l, xs, q1, q2, q3, q4⟩ := E.ev.at_ i _ hd
   obtain ⟨ds', e1, hf', k⟩ := (show NewOf X.K H0 Dn.rt (.list ds) from k)
   cases e1
   have hl : H0 l = none := by
    rcases E.om l q2 with h | h | h
    ·exact absurd h (E.nr i ds l hd q1)
    ·exact h.elim
    ·exact h
   exact ⟨.ref l, q1, k l xs H E.sames hl q3 (q4.flat hf)⟩
  ·rw [if_neg hf] at k
   exact k.elim
 ·exact k.elim
def gSeqN (g h : DS -> M Out) : DS -> M Out := fun δ => (g δ).thn fun o => match o with
 | .nx δ' => h δ'
 | _ => none
theorem pdsf_cons (h1 : PDS X G st gs) (h2 : PDSsF X G sts gt) : PDSsF X G (st :: sts) (gSeqN gs gt) := by
 obtain ⟨t, p, h1⟩ := h1
 obtain ⟨u, q, h2⟩ := h2
 refine ⟨_, b2t p q, fun R0 H0 δ O σ H Dn E k => ?_⟩
 refine h1 R0 _ H0 δ O σ H _ E (a0h (a0k k) fun o z => ?_)
 cases o with
 | nx δ' => exact fun O' σ' H' E' => h2 R0 H0 δ' O' σ' H' Dn E' z
 | rt d => exact z.elim
 | bk δ' => exact z.elim
 | ct δ' => exact z.elim
theorem ev_seqN' {r : M Out} {δ δ' : DS} (h1 : gs δ = M.ret (.nx δ')) (h2 : gt δ' = r) : gSeqN gs gt δ = r := by unfold gSeqN; rw [h1]; exact h2
theorem ev_retF {i : Nat} {δ : DS} {ds : List D} (h : δ[i]? = some (.ow ds)) (hf : flatDs ds = true) : gRetF i δ = M.ret (.rt (.list ds)) := by unfold gRetF; rw [h]; show (if _ then _ else _) = _; rw [if_pos hf]
def dFrzF (i : Nat) (f : DS -> M D) : DS -> M D := fun δ => f (frz i δ)
theorem pdf_frz (i : Nat) (h : PDF X G e f) : PDF X G e (dFrzF i f) := by
 obtain ⟨t, p, h⟩ := h
 refine ⟨t, p, fun δ O σ H Q E k => ?_⟩
 obtain ⟨O', E'⟩ := E.frz (i := i)
 exact h _ O' σ H Q E' k
def dFl (f : DS -> M D) : DS -> M D := fun δ => (f δ).thn fun d => match d with
 | .list ds => if flatDs ds = true then M.ret (.list ds) else none
 | _ => none
theorem pd_ofF (h : PDF X G e f) : PD X G e (dFl f) := by
 obtain ⟨t, p, h⟩ := h
 refine ⟨t, p, fun δ O σ H Q E k => ?_⟩
 refine h _ O σ H Q E (a0h (a0k k) fun d z => ?_)
 match d, z with
 | .list ds, z =>
  by_cases hf : flatDs ds = true
  ·have z : ok _ (if flatDs ds = true then M.ret (PyData.list ds) else none) _ := z
   rw [if_pos hf] at z
   exact ⟨ds, rfl, hf, fun l xs H' s hl hx rx => z (.ref l) H' s (.lst (.inl hx) (nin E.oo hl) (rx.flat hf))⟩
  ·have z : ok _ (if flatDs ds = true then M.ret (PyData.list ds) else none) _ := z
   rw [if_neg hf] at z
   exact z.elim
theorem ev_Fl {δ : DS} {ds : List D} (h : f δ = M.ret (.list ds)) (hf : flatDs ds = true) : dFl f δ = M.ret (.list ds) := by
 unfold dFl
 rw [h]
 show (if flatDs ds = true then _ else _) = _
 rw [if_pos hf]
mutual
theorem Rep.flatTo {K : PySem.W.Frag} {O O' : List Addr} {H H' : Hp} (t : ∀ b xs, Rd H b (.tup xs) -> Rd H' b (.tup xs)) : ∀ {v : V} {d : D}, flatD d = true -> Rep K O H v d -> Rep K O' H' v d
 | _, _, _, .non => .non
 | _, _, _, .bl b => .bl b
 | _, _, _, .int i => .int i
 | _, _, _, .str x => .str x
 | _, _, h, .tup q r => .tup (by rcases q with q | q; exact .inl (t _ _ q); exact .inr q) (Reps.flatTo t (by simpa only [flatD] using h) r)
 | _, _, h, .lst _ _ _ => by simp [flatD] at h
 | _, _, h, .lstK _ _ => by simp [flatD] at h
 | _, _, h, .dct _ _ _ _ => by simp [flatD] at h
 | _, _, h, .ins _ _ _ _ _ => by simp [flatD, insD] at h
theorem Reps.flatTo {K : PySem.W.Frag} {O O' : List Addr} {H H' : Hp} (t : ∀ b xs, Rd H b (.tup xs) -> Rd H' b (.tup xs)) : ∀ {vs : List V} {ds : List D}, flatDs ds = true -> Reps K O H vs ds -> Reps K O' H' vs ds
 | _, _, _, .nil => .nil
 | _, _, h, .cons r rs => by
  simp only [flatDs, Bool.and_eq_true] at h
  exact .cons (Rep.flatTo t h.1 r) (Reps.flatTo t h.2 rs)
end
end
end DL
namespace DL
open PySem PySem.Spec PyProof.Rows L2
section
variable {X : Cx} {G : XD -> Hp -> Prop} {c e : Expr} {fb : DS -> M Bool} {f : DS -> M D} {gs gt : DS -> M Out} {st1 body sts : List Stmt} {st : Stmt} {pos : Pos}
end
end DL
namespace L2
open PySem PySem.Spec PyProof.Rows
section
variable {X : Cx}
def idxV (x : V) : List V -> Option Nat
 | [] => none
 | y :: ys => if eqV y x = true then some 0 else (idxV x ys).map (· + 1)
theorem idxV_at {x : V} : ∀ {xs : List V} {j : Nat}, idxV x xs = some j -> (∃ y, xs[j]? = some y /\ eqV y x = true) /\ ∀ m, m < j -> ∃ y, xs[m]? = some y /\ eqV y x = false
 | [], _, h => by cases h
 | y :: ys, j, h => by
  unfold idxV at h
  by_cases e : eqV y x = true
  ·rw [if_pos e] at h
   cases h
   exact ⟨⟨y, rfl, e⟩, fun m hm => absurd hm (Nat.not_lt_zero m)⟩
  ·rw [if_neg e] at h
   cases q : idxV x ys with
   | none => rw [q] at h; cases h
   | some k =>
    rw [q] at h
    cases h
    obtain ⟨h1, h2⟩ := idxV_at q
    refine ⟨h1, fun m hm => ?_⟩
    cases m with
    | zero => exact ⟨y, rfl, by simpa using e⟩
    | succ m => exact h2 m (by have hm : m + 1 < k + 1 := hm; omega)
def rIndex (K : PySem.W.Frag) : V -> List V -> Hp -> VK -> Prop := fun x vs H Q => ∃ l xs y j, x = .ref l /\ vs = [y] /\ SqL K H l xs /\ flatV y = true /\ xs.all flatV = true /\ idxV y xs = some j /\ Q (.int (j : Nat)) H
theorem mt_index : MtR X "list.index" (rIndex X.K) := by
 intro pins s σ H x vs v us Q I rx rv h
 obtain ⟨l, xs, y, j, rfl, rfl, hq, fy, fs, hj, q⟩ := h
 cases rx
 obtain ⟨u, rfl, ru⟩ := rv.one
 obtain ⟨its, r, pl, hz⟩ := I.list hq
 obtain ⟨⟨z, hz1, hz2⟩, hz3⟩ := idxV_at hj
 have hl := r.length
 have hn := line63
 have hjl : j < its.length := by rw [<- hl]; exact (List.getElem?_eq_some_iff.mp hz1).1
 have at_ : ∀ (m : Nat) (hm : m < its.length), ∃ z, xs[m]? = some z /\ eqU y its[m] = eqV z y := fun m hm => by
  have hm' : m < xs.length := by omega
  have hx : xs[m]? = some xs[m] := List.getElem?_eq_getElem hm'
  obtain ⟨w, hw, rw'⟩ := r.get hx
  have : its[m] = w := by
   have := List.getElem?_eq_getElem hm
   rw [hw] at this
   exact (Option.some.inj this).symm
  refine ⟨xs[m], hx, ?_⟩
  rw [this]
  exact eqU_of rw' (List.all_eq_true.mp fs _ (List.getElem_mem hm'))
 obtain ⟨o, ho, hc, n, hd⟩ := pl.isList
 obtain ⟨oc, od, odat, osl⟩ := o
 have hc : oc = .type "list" := hc
 have hd : odat = .seq its.toArray n := hd
 subst hc
 subst hd
 refine call_meets F.slot_list_index ⟨_, ho, rfl⟩ F.entry_list_index (F.args_list_index_2 _ _) (SeqAt.list_indexAt l its.toArray n od osl u (eqU y) j (by simpa using hjl) ?_ ?_ ?_) ⟨ho, fun w hw => mem_eqAt ru fy r fs w (by simpa using hw), ?_⟩
 ·have : (sizeLine : Nat) < 2 ^ 63 - 1 := by decide
  omega
 ·obtain ⟨z', h1, h2⟩ := at_ j hjl
  rw [hz1] at h1
  cases h1
  simpa [h2] using hz2
 ·intro m hm hmj
  obtain ⟨z', h1, h2⟩ := at_ m (by simpa using hm)
  obtain ⟨w, h3, h4⟩ := hz3 m hmj
  rw [h3] at h1
  cases h1
  simpa [h2] using h4
 ·exact ⟨.int _, H, I.tok _, ⟨_, rfl⟩, q⟩
end
end L2
namespace DL
open PySem PySem.Spec PyProof.Rows L2
theorem EI.put {K : PySem.W.Frag} {Hr : Hp} {R0 : List Addr} {P0 : Addr -> Prop} {H0 H : Hp} {O : List Addr} {σ : St} {δ : DS} {i : Nat} {l : Addr} {xs ys : List V} {ds ds' : List D} (E : EI K Hr R0 P0 H0 O H σ δ) (hd : δ[i]? = some (.ow ds)) (hσ : σ[i]? = some (some (.ref l))) (hl : H l = some (.lst xs)) (ry : Reps K O H ys ds') :
  EI K Hr R0 P0 H0 O (upd H l (.lst ys)) σ (δ.set i (.ow ds')) := by
 obtain ⟨l', xs', q1, lO, q3, _⟩ := E.ev.at_ i _ hd
 rw [hσ] at q1
 cases q1
 have tO : To O O H (upd H l (.lst ys)) := To.set hl lO
 refine ⟨⟨fun b o h => ?_, fun a ha => ?_, by rw [List.length_set]; exact E.ev.len, fun j s h => ?_, fun j k a es es' hjk h1 h2 h3 => ?_⟩, E.omr, fun b o n h => ?_, E.om, fun j es a h1 ho h2 => ?_, E.sub⟩
 ·have q := E.ev.root b o h
  have hne : b ≠ l := fun z => by
   subst z
   rcases E.omr b lO with w | w
   ·exact E.nr i ds b hd hσ w
   ·rw [h] at w; cases w
  rw [upd_ne hne]
  exact q
 ·by_cases hb : a = l
  ·rw [hb]; exact .lst a1i
  ·exact (E.ev.oo a ha).upd_ne hb
 ·rw [a2m] at h
  by_cases hij : i = j
  ·rw [if_pos hij] at h
   split at h
   ·cases h
    rw [<- hij, hσ]
    exact ⟨l, _, rfl, lO, a1i, ry.to tO⟩
   ·cases h
  ·rw [if_neg hij] at h
   refine (E.ev.at_ j s h).to tO (hd_set hl) fun a ys h1 h2 h3 h4 => ⟨h1, ?_⟩
   obtain ⟨es, rfl⟩ := h4
   have hne : a ≠ l := fun z => by
    subst z
    exact E.ev.dis i j a ds es hij hd h hσ h3
   rw [upd_ne hne]
   exact h2
 ·have old : ∀ (j : Nat) (es : List D), (δ.set i (.ow ds'))[j]? = some (.ow es) -> ∃ es', δ[j]? = some (.ow es') := fun j es h => by
   rw [a2m] at h
   by_cases hij : i = j
   ·rw [<- hij]; exact ⟨ds, hd⟩
   ·rw [if_neg hij] at h; exact ⟨es, h⟩
  obtain ⟨e1, h1⟩ := old j es h1
  obtain ⟨e2, h2⟩ := old k es' h2
  exact E.ev.dis j k a e1 e2 hjk h1 h2 h3
 ·have q := E.keep b o n h
  have hne : b ≠ l := fun z => by
   subst z
   rcases E.om b lO with w | w | w
   ·exact E.nr i ds b hd hσ w
   ·exact n w
   ·rw [h] at w; cases w
  rw [upd_ne hne]
  exact q
 ·rw [a2m] at h1
  by_cases hij : i = j
  ·exact E.nr i ds a hd (by rw [hij]; exact h2)
  ·rw [if_neg hij] at h1
   exact E.nr1 j es a h1 ho h2
section
variable {X : Cx} {G : XD -> Hp -> Prop} {a b c e ix : Expr} {es : List Expr} {f g fi : DS -> M D} {fa : DS -> M (List D)} {fn : DS -> M (List D)} {pos tpos : Pos}
theorem Reps.set {K : PySem.W.Frag} {O : List Addr} {H : Hp} : ∀ {xs : List V} {ds : List D} {v : V} {d : D} (j : Nat), Reps K O H xs ds -> Rep K O H v d -> Reps K O H (xs.set j v) (ds.set j d)
 | _, _, _, _, _, .nil, _ => .nil
 | _, _, _, _, 0, .cons _ t, r => .cons r t
 | _, _, _, _, j + 1, .cons q t, r => .cons q (Reps.set j t r)
def gSetO (i : Nat) (fi f : DS -> M D) : DS -> M Out := fun δ => match δ[i]? with
 | some (.ow ds) => (f δ).thn fun d => (fi δ).thn fun k => match k with
  | .int k => match ixN ds.length k with
   | some j => M.ret (.nx (δ.set i (.ow (ds.set j d))))
   | none => none
  | _ => none
 | _ => none
theorem pd_setO {i : Nat} (hv : PE X a (tVar i)) (hi : PD X G ix fi) (he : PD X G e f)
  (ha : ∀ v, assign (.Subscript a ix tpos) X.env v = (do
   let ov <- holding [v] (eval a X.env)
   let iv <- holding [v, ov] (eval ix X.env)
   standAt tpos
   holding [v, ov, iv] (setItem ov iv v)
   release [v, ov, iv] []) := by intro _; rfl)
  (hs : swapsWithSole [.Subscript a ix tpos] e pos.line X.env = pure false := by rfl) (hw : swappedStores [.Subscript a ix tpos] e X.env = pure none := by rfl)
  (h1 : (assignEach [.Subscript a ix tpos] X.env).map (·.2) = [assign (.Subscript a ix tpos) X.env] := by rfl) : PDS X G (.Assign [.Subscript a ix tpos] e pos) (gSetO i fi f) := by
 obtain ⟨t, p, he⟩ := he
 obtain ⟨u, q, hi⟩ := hi
 refine ⟨_, ps_asg p (pg_sub hv q b2k ha) hs hw h1, fun R0 P0 H0 δ O σ H Dn E k => ?_⟩
 unfold gSetO at k
 split at k
 ·rename_i ds hd
  obtain ⟨l, xs, q1, q2, q3, q4⟩ := E.ev.at_ i _ hd
  refine he δ O σ H _ E.ev (a0h (a0k k) fun d z v H1 s1 r => ⟨.ref l, q1, ?_⟩)
  refine hi δ O σ H1 _ (E.same s1).ev (a0h (a0k z) fun kd zz kv H2 s2 rk => ?_)
  match kd, zz, rk with
  | .int n, zz, rk =>
   dsimp only at zz
   rw [rk.int_inv]
   have s12 := s1.trans s2
   cases hj : ixN ds.length n with
   | none => rw [hj] at zz; exact zz.elim
   | some j =>
    rw [hj] at zz
    refine ⟨l, xs, n, j, rfl, rfl, s12 _ _ q3, by rw [q4.length]; exact hj, ?_⟩
    exact zz O σ _ ((E.same s12).put hd q1 (s12 _ _ q3) ((q4.same s12).set j (r.same s2)))
 ·exact k.elim
def dOfN (fn : DS -> M (List D)) : DS -> M D := fun δ => (fn δ).thn fun ds => M.ret (.list ds)
theorem pd_ofN (h : PDN X G e fn) : PD X G e (dOfN fn) := by
 obtain ⟨t, p, h⟩ := h
 refine ⟨t, p, fun δ O σ H Q E k => ?_⟩
 refine h δ O σ H Q E (a0h (a0k k) fun ds z l xs H1 s1 hl rx => ?_)
 exact z (.ref l) _ (s1.trans (a1l hl)) (a6g (E.same s1).oo hl rx)
theorem ev_ofN {δ : DS} {ds : List D} (h : fn δ = M.ret ds) : dOfN fn δ = M.ret (.list ds) := by unfold dOfN; rw [h]; rfl
def nCat (f g : DS -> M D) : DS -> M (List D) := fun δ => (f δ).thn fun x => (g δ).thn fun y => match x, y with
 | .list xs, .list ys => if small (xs.length + ys.length) then M.ret (xs ++ ys) else none
 | _, _ => none
theorem pdn_cat (ha : PD X G a f) (hb : PD X G b g) : PDN X G (.BinOp a .Add b pos) (nCat f g) := by
 obtain ⟨ta, pa, ha⟩ := ha
 obtain ⟨tb, pb, hb⟩ := hb
 refine ⟨_, pe_op op_catS pa pb, fun δ O σ H Q E k => ?_⟩
 refine ha δ O σ H _ E (a0h (a0k k) fun x z v H1 s1 rx => ?_)
 refine hb δ O σ H1 _ (E.same s1) (a0h (a0k z) fun y z u H2 s2 ry => ?_)
 match x, y, z, rx, ry with
 | .list xs, .list ys, z, rx, ry =>
  obtain ⟨p, vs, rfl, h1, r1⟩ := (rx.same s2).lst_inv
  obtain ⟨q, ws, rfl, h2, r2⟩ := ry.lst_inv
  by_cases hz : small (xs.length + ys.length) = true
  ·have z : ok _ (if small (xs.length + ys.length) = true then M.ret (xs ++ ys) else none) _ := z
   rw [if_pos hz] at z
   exact ⟨p, q, vs, ws, rfl, rfl, h1, h2, by rw [r1.length, r2.length]; exact a2a hz, fun l hl => z l _ H2 (s1.trans s2) hl (r1.append r2)⟩
  ·have z : ok _ (if small (xs.length + ys.length) = true then M.ret (xs ++ ys) else none) _ := z
   rw [if_neg hz] at z
   exact z.elim
theorem ev_nCat {δ : DS} {xs ys : List D} (h1 : f δ = M.ret (.list xs)) (h2 : g δ = M.ret (.list ys)) (hz : small (xs.length + ys.length) = true) : nCat f g δ = M.ret (xs ++ ys) := by
 unfold nCat; rw [h1, a0s, h2]; show (if _ then _ else _) = _; rw [if_pos hz]
theorem Reps.rep {K : PySem.W.Frag} {O : List Addr} {H : Hp} {xs : List V} {ds : List D} (h : Reps K O H xs ds) : ∀ k : Nat, Reps K O H (List.replicate k xs).flatten (List.replicate k ds).flatten
 | 0 => .nil
 | k + 1 => by
  rw [List.replicate_succ, List.replicate_succ, List.flatten_cons, List.flatten_cons]
  exact h.append (Reps.rep h k)
def nRep (fn : DS -> M (List D)) (g : DS -> M D) : DS -> M (List D) := fun δ => (fn δ).thn fun ds => (g δ).thn fun y => match y with
 | .int k => if small (ds.length * k.toNat) && decide (-(2 ^ 63) <= k /\ k < 2 ^ 63) then M.ret (List.replicate k.toNat ds).flatten else none
 | _ => none
theorem pdn_rep (ha : PDN X G a fn) (hb : PD X G b g) : PDN X G (.BinOp a .Mult b pos) (nRep fn g) := by
 obtain ⟨ta, pa, ha⟩ := ha
 obtain ⟨tb, pb, hb⟩ := hb
 refine ⟨_, pe_op op_rep pa pb, fun δ O σ H Q E k => ?_⟩
 refine ha δ O σ H _ E (a0h (a0k k) fun ds z l xs H1 s1 hl rx => ?_)
 have s2 : Same H1 (upd H1 l (.lst xs)) := a1l hl
 refine hb δ O σ _ _ (E.same (s1.trans s2)) (a0h (a0k z) fun y z u H2 s3 ry => ?_)
 match y, z, ry with
 | .int n, z, ry =>
  rw [ry.int_inv]
  by_cases hz : (small (ds.length * n.toNat) && decide (-(2 ^ 63) <= n /\ n < 2 ^ 63)) = true
  ·have z : ok _ (if (small (ds.length * n.toNat) && decide (-(2 ^ 63) <= n /\ n < 2 ^ 63)) = true then M.ret (List.replicate n.toNat ds).flatten else none) _ := z
   rw [if_pos hz] at z
   simp only [Bool.and_eq_true, decide_eq_true_eq] at hz
   exact ⟨l, n, xs, rfl, rfl, s3 _ _ a1i, hz.2.1, hz.2.2, by rw [rx.length]; exact a2a hz.1, fun p hp => z p _ H2 ((s1.trans s2).trans s3) hp (((rx.same s2).same s3).rep _)⟩
  ·have z : ok _ (if (small (ds.length * n.toNat) && decide (-(2 ^ 63) <= n /\ n < 2 ^ 63)) = true then M.ret (List.replicate n.toNat ds).flatten else none) _ := z
   rw [if_neg hz] at z
   exact z.elim
theorem flat_rep (d : D) (k : Nat) : (List.replicate k [d]).flatten = List.replicate k d := by
 induction k with
 | zero => rfl
 | succ k ih => rw [List.replicate_succ, List.flatten_cons, ih, List.replicate_succ]; rfl
theorem ev_nRep {δ : DS} {d : D} {k : Int} (h1 : fn δ = M.ret [d]) (h2 : g δ = M.ret (.int k)) (h0 : 0 <= k) (hk : k <= 1000000) : nRep fn g δ = M.ret (List.replicate k.toNat d) := by
 unfold nRep; rw [h1, a0s, h2]
 show (if _ then _ else _) = _
 rw [if_pos, flat_rep]
 simp only [Bool.and_eq_true, decide_eq_true_eq]
 exact ⟨a0l (by show 1 * k.toNat <= _; omega), by omega, by omega⟩
def dIndex (f g : DS -> M D) : DS -> M D := fun δ => (f δ).thn fun x => match x with
 | .list ds => (g δ).thn fun y => match plainV y, plainVs ds with
  | some v, some vs => match idxV v vs with
   | some j => M.ret (.int (j : Nat))
   | none => none
  | _, _ => none
 | _ => none
theorem pd_index {o : Expr} {apos cpos : Pos} (ho : PD X G o f) (ha : PDA X G [e] fa) (hg : ∀ δ, fa δ = (g δ).thn fun d => M.ret [d])
  (hbase : attributeBase o "index" X.env (eval o X.env) = eval o X.env := by rfl)
  (hfew : ((backTo cpos (starEach [e] X.env)).all (fun x => !x.1) && (backToKw cpos (keywordEach [] X.env)).all (fun x => x.1.isSome)
   && decide ([e].length + ([] : List Keyword).length + (if ([] : List Keyword).isEmpty then 0 else 1) < 30)) = true := by rfl)
  (hline : (apos.endLine == cpos.line) = true := by rfl) (hs : starEach [e] X.env = (false, eval e X.env) :: starEach [] X.env := by rfl) (hplain : (backTo cpos (starEach [] X.env)).any (·.1) = false := by rfl) :
  PD X G (.Call (.Attribute o "index" apos) [e] [] cpos) (dIndex f g) := by
 obtain ⟨t, p, ho⟩ := ho
 obtain ⟨_, u, q, ha⟩ := ha
 refine ⟨_, pe_bm PySem.F.plainAttrs_list PySem.F.slot_list_index PySem.F.type_list_index mt_index p q hbase hfew hline hs hplain, fun δ O σ H Q E k => ?_⟩
 refine ho δ O σ H _ E (a0h (a0k k) fun d z v H1 s1 rd => ?_)
 match d, z, rd with
 | .list ds, z, rd =>
  obtain ⟨l, xs, rfl, h1, hto, rs⟩ := rd.lstTo
  refine ⟨.inl ⟨rfl, xs, h1⟩, ha δ O σ H1 _ (E.same s1) ?_⟩
  rw [hg]
  have z := a0k (show ok _ ((g δ).thn _) _ from z)
  cases eg : g δ with
  | none => rw [eg] at z; exact z.elim
  | some r =>
   rw [eg] at z
   cases r with
   | error x => exact z
   | ok y =>
    refine fun vs H2 s2 rv => ?_
    obtain ⟨w, rfl, rw'⟩ := reps1 rv
    have z : ok _ (match plainV y, plainVs ds with
     | some v, some vs => match idxV v vs with
      | some j => M.ret (PyData.int (j : Nat))
      | none => none
     | _, _ => none) _ := z
    split at z
    ·rename_i v vs e1 e2
     obtain ⟨rfl, f1⟩ := b1r e1 rw'
     obtain ⟨rfl, f2⟩ := b0m e2 rs
     split at z
     ·rename_i j hj
      exact ⟨l, _, _, j, rfl, rfl, hto O H2 (.same s2), f1, f2, hj, z _ H2 (s1.trans s2) (.int _)⟩
     ·exact z.elim
    ·exact z.elim
end
end DL
namespace L2
open PySem PySem.Spec PyProof.Rows
theorem call_sumG {X : Cx} (hc : X.calm = true) : CallR X (.builtin "sum") (fun xs H Q => ∃ (p : Addr) (is : List Int), xs = [.ref p] /\ SqL X.K H p (is.map V.int) /\ Q (.int is.sum) H) := by
 intro pins s σ H xs us Q I r h
 obtain ⟨l, is, rfl, hq, q⟩ := h
 obtain ⟨u, rfl, rx⟩ := vals1 r
 cases rx
 obtain ⟨its, rv, pl, hz⟩ := I.list hq
 obtain ⟨ts, e, rfl⟩ := a5x rv
 have hl : s.heap.IsList l (intItems ts.toArray) := by
  have := pl.isList
  have e2 : intItems ts.toArray = (ts.map fun p => Value.int p.1 p.2).toArray := by unfold intItems; simp
  rw [e2]
  exact this
 have hlen : ts.length = is.length := by rw [<- e, List.length_map]
 have hat : ∀ j, j < is.length -> numAt ts.toArray j = is.getD j 0 := fun j hj => by
  unfold numAt
  rw [<- e]
  have : j < ts.length := by omega
  simp [this]
 have hll : l < s.heap.objs.size := by
  obtain ⟨o, ho, _⟩ := hl
  exact Heap.lt_size ho
 refine call_sum_walkG (wpAny_pyIter_list hl ?_)
 refine ⟨_, [_, l], [_], _, _, _, numAt ts.toArray, rfl, Walks.list (A := X.A.in1) (I.ok.hd hc) _ l (Nat.ne_of_lt hll) (intItems ts.toArray), ⟨⟨_, Heap.get?_push_size _ rfl, rfl, rfl⟩, hl.push _⟩, fun d hd => ?_, fun i v hv => intItems_at hv, fun h' tk t' hk => ?_⟩
 ·show d < (s.heap.push _).objs.size
  rw [Heap.size_push]
  rcases List.mem_cons.mp hd with rfl | hd
  ·exact Nat.lt_succ_self _
  ·rcases List.mem_cons.mp hd with rfl | hd
   ·exact Nat.lt_succ_of_lt hll
   ·cases hd
 ·have hold : ∀ d o, s.heap.get? d = some o -> h'.get? d = some o := fun d o e => by
   refine hk d o (fun hm => ?_) (Heap.get?_push_of_some _ e)
   rcases List.mem_cons.mp hm with e1 | hm
   ·have := Heap.lt_size e; rw [e1] at this; exact Nat.lt_irrefl _ this
   ·cases hm
  have hs : (intItems ts.toArray).size = is.length := by unfold intItems; simp [hlen]
  rw [hs, b0l _ is hat _ (Nat.le_refl _), List.take_length]
  exact ⟨.int is.sum, H, I.kept hold, ⟨t', rfl⟩, q⟩
end L2
namespace DL
open PySem PySem.Spec PyProof.Rows L2
theorem a8f {n : Str} {a : Addr} {r cells : List (Str × Addr)} (h : cells.lookup n = some a) (hr : ∀ y c, r.lookup y = some c -> cells.lookup y = some c) : ∀ y c, ((n, a) :: r).lookup y = some c -> cells.lookup y = some c := fun y c q => by
 unfold List.lookup at q
 split at q
 ·rename_i e
  have e : y = n := eq_of_beq e
  cases q
  rw [e]
  exact h
 ·exact hr y c q
section
variable {X : Cx}
def oSumG : List D -> Option D
 | [.list ds] => (intsOf ds).map fun is => .int is.sum
 | _ => none
theorem a9g (hc : X.calm = true) : DCall X (.builtin "sum") oSumG := by
 refine ⟨_, call_sumG hc, fun O H ds d vs Q oo rs e k => ?_⟩
 unfold oSumG at e
 split at e
 ·rename_i es
  cases he : intsOf es with
  | none => rw [he] at e; cases e
  | some is =>
   rw [he] at e
   cases e
   obtain ⟨v, rfl, r⟩ := reps1 rs
   obtain ⟨p, xs, rfl, h1, rx⟩ := r.lst_inv
   rw [a6s he] at rx
   rw [a6r rx] at h1
   exact ⟨p, is, rfl, h1, k _ H (Same.refl H) (.int _)⟩
 ·cases e
def oTupOf : List D -> Option D
 | [.list ds] => some (.tuple ds)
 | _ => none
theorem a8b : DCall X (.type "tuple") oTupOf := by
 refine ⟨_, b3m, fun O H ds d vs Q oo rs e k => ?_⟩
 unfold oTupOf at e
 split at e
 ·cases e
  obtain ⟨v, rfl, r⟩ := reps1 rs
  obtain ⟨p, xs, rfl, h1, rx⟩ := r.lst_inv
  exact ⟨p, xs, rfl, .inl ⟨h1, fun l hl => k _ _ (a1l hl) (a7p hl rx)⟩⟩
 ·cases e
end
end DL
namespace L2
open PySem PySem.Spec PyProof.Rows
theorem rv_nolen : typeLookup (.type "list_reverseiterator") "__len__" = pure none := by
 rw [typeLookup_type, builtinLookup_eq_fast]
 kernel_rfl
theorem rv_hint : typeLookup (.type "list_reverseiterator") "__length_hint__" = pure (some (.builtin "list_reverseiterator.__length_hint__")) := by
 rw [typeLookup_type, builtinLookup_eq_fast]
 kernel_rfl
section
variable {pr : Program} {wo : World} {Ar : Around} {Er : Value -> Shared -> Prop} {st : Shared}
abbrev emptyL (c : Nat) : Obj := { cls := .type "list", data := .seq #[] c }
abbrev RvP (xs : Array Value) : Nat -> Value -> Prop := fun i v => xs[xs.size - 1 - i]? = some v
theorem take_rev {R : Result -> Shared -> Prop} {T l : Addr} {xs : Array Value} {res : Value} {c0 : Nat} {S : Addr} (hh : Ar.handled = none) (hit : st.heap.IsRevIter T l ((xs.size : Int) - 1)) (hl : st.heap.IsList l xs)
  (hne : l ≠ T) (hz : xs.size <= sizeLine) (hS : st.heap.get? S = some (emptyL c0)) (hST : S ≠ T) (hSl : S ≠ l)
  (k : ∀ h2 tk ys c, (∀ b o, b ≠ S -> b ≠ T -> st.heap.get? b = some o -> h2.get? b = some o) -> h2.get? S = some { cls := .type "list", dict := none, data := .seq ys c, slots := #[] } -> ItemsOf (RvP xs) ys xs.size ->
   R (.ok (.ret res)) { st with heap := h2, toks := tk }) :
  wpAny (model pr wo) Ar.in1 (Builtin.List.listExtendWith (.ref S) (.ref T) res) (fun fin s' => match fin with | .done f => R (.ok f) s' | .again c' => c'.quiet = true /\ codeAny (model pr wo) Ar c' R s') (fun e s' => R (.error e) s') st := by
 have W := (Walks.listRev (prog := pr) (w := wo) (A := Ar.in1) hh T l hne xs).toS
 have hT : st.TypeIs (.ref T) "list_reverseiterator" := hit.typeIs
 have hSf : S ∉ [T, l] := fun hm => by
  rcases List.mem_cons.mp hm with q | hm
  ·exact hST q
  ·exact hSl (List.mem_singleton.mp hm)
 have hs0 : ((0 : Nat) <= xs.size /\ st.heap.IsRevIter T l ((xs.size : Int) - 1 - ((0 : Nat) : Int)) /\ st.heap.IsList l xs) := ⟨Nat.zero_le _, by simpa using hit, hl⟩
 unfold Builtin.List.listExtendWith
 refine wpAny_bind (wpAny_typeOf hT ?_)
 have q1 : Builtin.List.listSameRef (.ref S) (.ref T) = false := by
  simp [Builtin.List.listSameRef, hST]
 rw [if_neg (by rw [q1]; decide)]
 refine wpAny_bind (wpAny_pyIter_revIter hit ?_)
 refine wpAny_bind (wpAny_holding ?_)
 unfold Builtin.List.listLengthHint
 refine wpAny_bind (wpAny_specialOf hT rv_nolen ?_)
 show wpAny _ _ (specialOf (Value.ref T) (Str.ofString "__length_hint__") >>= _) _ _ _
 refine wpAny_bind (wpAny_specialOf hT rv_hint ?_)
 generalize hid : ("list_reverseiterator.__length_hint__" : String) = nm
 (fail_if_success (clear hid nm))
 wp_delta
 rw [show splitId nm = some ("list_reverseiterator", "__length_hint__") from by subst hid; decide +kernel]
 subst hid
 refine wpAny_bind (wpAny_isInstance (b := true) hT (by rw [isSubtype_type]; kernel_rfl) ?_)
 refine wpAny_pure ?_
 rw [if_neg (by decide)]
 refine wpAny_pure ⟨plainId_quiet F.plain_extend_loop _, ?_⟩
 refine codeAny_extend_loopS W hz S hSf res xs.size 0 _ #[] c0 rfl (Nat.zero_le _) hs0 hS (ItemsOf.nil _) fun s2 ys c mv h2 hy => ?_
 rw [Moved.eq_with mv]
 refine k s2.heap s2.toks ys c (fun b o b1 b2 e => mv.heap b o (fun hm => ?_) e) h2 hy
 rcases List.mem_cons.mp hm with q | hm
 ·exact b1 q
 ·exact b2 (List.mem_singleton.mp hm)
theorem b3o {Q : Value -> Shared -> Prop} {T l : Addr} {xs : Array Value} (hh : Ar.handled = none) (hit : st.heap.IsRevIter T l ((xs.size : Int) - 1)) (hl : st.heap.IsList l xs) (hne : l ≠ T) (hz : xs.size <= sizeLine)
  (k : ∀ h2 tk ys c, (∀ b o, b ≠ T -> st.heap.get? b = some o -> h2.get? b = some o) -> h2.get? st.heap.objs.size = some { cls := .type "list", dict := none, data := .seq ys c, slots := #[] } -> ItemsOf (RvP xs) ys xs.size ->
   Q (.ref st.heap.objs.size) { st with heap := h2, toks := tk }) :
  wpAny (model pr wo) Ar (call (.type "list") [.ref T]) Q Er st := by
 have hTl : T < st.heap.objs.size := let ⟨_, ho, _⟩ := hit; Heap.lt_size ho
 have hll : l < st.heap.objs.size := let ⟨_, ho, _⟩ := hl; Heap.lt_size ho
 refine callType_codes (Q₁ := fun ob s1 => ob = .ref st.heap.objs.size /\ s1 = { st with heap := st.heap.push (emptyL 0) }) F.called_list (F.typeCall_list_1 _) F.entry_list_init (code_list_new _ ⟨rfl, rfl⟩) ?_
 rintro ob s1 ⟨rfl, rfl⟩
 have hS : (st.heap.push (emptyL 0)).get? st.heap.objs.size = some (emptyL 0) := Heap.get?_push_size _ rfl
 refine ⟨⟨_, hS, rfl⟩, F.args_list_init_2 _ _, ?_⟩
 show wpAny _ _ (Builtin.List.listItems (.ref st.heap.objs.size) >>= fun old => Builtin.List.listUpdate (.ref st.heap.objs.size) (fun _ => #[]) >>= fun _ => letGo old.toList.reverse >>= fun _ => Builtin.List.listExtendWith (.ref st.heap.objs.size) (.ref T) .none) _ _ _
 refine wpAny_bind ?_
 unfold Builtin.List.listItems
 refine wpAny_bind (wpAny_seqItems hS rfl (wpAny_pure ?_))
 refine wpAny_bind (m := updateSeq st.heap.objs.size (fun _ => #[])) (wpAny_updateSeq hS rfl ?_)
 have hS2 := Heap.get?_update_self (Obj.mapSeq (fun _ => (#[] : Array Value))) hS rfl
 have keep : ∀ b o, b ≠ st.heap.objs.size -> st.heap.get? b = some o -> ((st.heap.push (emptyL 0)).update st.heap.objs.size (Obj.mapSeq (fun _ => (#[] : Array Value)))).get? b = some o := fun b o hb e =>
  (Heap.get?_update_other _ _ (Ne.symm hb)).trans (Heap.get?_push_of_some _ e)
 refine wpAny_bind (wpAny_letGo ?_)
 refine take_rev (Ar := Ar.in1) (xs := xs) (l := l) hh (let ⟨o, ho, q⟩ := hit; ⟨o, keep _ _ (Nat.ne_of_lt hTl) ho, q⟩) (let ⟨o, ho, q⟩ := hl; ⟨o, keep _ _ (Nat.ne_of_lt hll) ho, q⟩) hne hz hS2 (Nat.ne_of_gt hTl) (Nat.ne_of_gt hll) ?_
 intro h2 tk ys c kp e2 hy
 exact ⟨rfl, k h2 tk ys c (fun b o b2 e => kp b o (Nat.ne_of_lt (Heap.lt_size e)) b2 (keep b o (Nat.ne_of_lt (Heap.lt_size e)) e)) e2 hy⟩
end
section
variable {X : Cx} {x y : Str} {p p' pos pos' : Pos} {e : Expr} {t : TA} {id T U : String} {r : List V -> Hp -> VK -> Prop}
def CallR2 (X : Cx) (g f : Value) (r : List V -> Hp -> VK -> Prop) : Prop :=
 ∀ (pins : List (Addr × Obj)) (s : Shared) (σ : St) (H : Hp) (xs : List V) (us : List Value) (Q : VK), Inv X pins σ H s -> Vals xs us -> r xs H Q ->
  wpAny (model X.prog X.w) X.A (call f us) (fun v s1 => wpAny (model X.prog X.w) X.A (call g [v]) (EP X pins σ Q) X.xe s1) X.xe s
theorem pe_twoTy (hc : CallR2 X (.type U) (.type T) r) (hg : Gl X x) (hm : X.mg x = none) (hv : bootBuiltins x = some (.type U)) (hg2 : Gl X y) (hm2 : X.mg y = none) (hv2 : bootBuiltins y = some (.type T)) (ha : PA X [e] t)
  (hn : x ≠ "__name__") (hdb : (x == ("__debug__" : Str)) = false) (hn2 : y ≠ "__name__") (hdb2 : (y == ("__debug__" : Str)) = false) (he : starEach [e] X.env = (false, eval e X.env) :: starEach [] X.env) :
  PE X (.Call (.Name x p) [.Call (.Name y p') [e] [] pos'] [] pos) (tCB r t) := by
 intro pins s σ H Q I h
 refine wpAny_Call_Name_kw (a7w I hg hm hv ?_ hn hdb)
 refine PyProof.Rows.callWith_type1 ?_ rfl rfl
 show wpAny _ _ (spliced ((false, eval (.Call (.Name y p') [e] [] pos') X.env) :: backTo pos (starEach [] X.env))) _ _ s
 refine Calls.spliced_cons (wpAny_Call_Name_kw (a7w I hg2 hm2 hv2 ?_ hn2 hdb2))
 exact PyProof.Rows.callWith_type1 (thn (ha pos' pins s σ H _ I h) fun us s1 ⟨vs, H1, I1, r1, q1⟩ => thn (hc pins s1 σ H1 vs us Q I1 r1 q1) fun v s2 h2 => Calls.spliced_nil h2) he rfl
theorem call_listrev (hc : X.calm = true) : CallR2 X (.type "list") (.type "reversed") (fun xs H Q => ∃ (p : Addr) (ys : List V), xs = [.ref p] /\ SqL X.K H p ys /\ ∀ l, H l = none -> Q (.ref l) (upd H l (.lst ys.reverse))) := by
 intro pins s σ H xs us Q I r h
 obtain ⟨l, ys, rfl, hq, q⟩ := h
 obtain ⟨u, rfl, rx⟩ := vals1 r
 cases rx
 obtain ⟨its, rv, pl, hz⟩ := I.list hq
 have hlen := rv.length
 have hll : l < s.heap.objs.size := let ⟨_, ho, _⟩ := pl.isList; Heap.lt_size ho
 refine call_reversed_list pl.isList ?_
 refine b3o (l := l) (xs := its.toArray) (I.ok.hd hc) ⟨_, Heap.get?_push_size _ rfl, rfl, rfl⟩ (pl.isList.push _) (Nat.ne_of_lt hll) (by simp only [List.size_toArray]; omega) fun h2 tk acc c kp e2 hy => ?_
 have kp2 : ∀ b o, s.heap.get? b = some o -> h2.get? b = some o := fun b o e => kp b o (Nat.ne_of_lt (Heap.lt_size e)) (Heap.get?_push_of_some _ e)
 have ea : acc = its.reverse.toArray := by
  apply Array.ext
  ·rw [hy.1]; simp
  ·intro i h1 h3
   have := hy.2 i acc[i] (Array.getElem?_eq_getElem h1)
   simp only [RvP, List.size_toArray, List.getElem?_toArray] at this
   have hi : i < its.length := by simpa using h3
   rw [List.getElem?_eq_getElem (by omega)] at this
   simp only [List.getElem_toArray, List.getElem_reverse]
   exact (Option.some.inj this).symm
 refine ⟨.ref (s.heap.push (revObj l ((its.toArray.size : Int) - 1))).objs.size, _, I.laid (t' := tk) kp2 (by rw [Heap.size_push]; exact Nat.le_succ _) (show ObjOk X.prog X.w _ h2 _ (.lst ys.reverse) from ⟨by rw [List.length_reverse]; exact hz, its.reverse, c, rv.reverse, by rw [ea] at e2; exact e2⟩), rfl, q _ (I.hok.fresh (by rw [Heap.size_push]; exact Nat.le_succ _))⟩
end
end L2
namespace DL
open PySem PySem.Spec PyProof.Rows L2
section
variable {X : Cx} {G : XD -> Hp -> Prop} {e : Expr} {fa : DS -> M (List D)} {pos pos' p p' : Pos} {x y : Str} {id T U : String}
def DCall2 (X : Cx) (g f : Value) (h : List D -> Option D) : Prop :=
 ∃ r, CallR2 X g f r /\ ∀ (O : List Addr) (H : Hp) (ds : List D) (d : D) (vs : List V) (Q : VK), (∀ l ∈ O, Mu H l) -> Reps X.K O H vs ds -> h ds = some d -> (∀ v' H', Same H H' -> Rep X.K O H' v' d -> Q v' H') -> r vs H Q
theorem pd_twoTy {h : List D -> Option D} (hc : DCall2 X (.type U) (.type T) h) (hg : Gl X x) (hm : X.mg x = none) (hv : bootBuiltins x = some (.type U)) (hg2 : Gl X y) (hm2 : X.mg y = none) (hv2 : bootBuiltins y = some (.type T)) (ha : PDA X G [e] fa)
  (hn : x ≠ "__name__" := by decide) (hdb : (x == ("__debug__" : Str)) = false := by decide) (hn2 : y ≠ "__name__" := by decide) (hdb2 : (y == ("__debug__" : Str)) = false := by decide) (he : starEach [e] X.env = (false, eval e X.env) :: starEach [] X.env := by rfl) :
  PD X G (.Call (.Name x p) [.Call (.Name y p') [e] [] pos'] [] pos) (dCB h fa) := by
 obtain ⟨r, hr, hc⟩ := hc
 obtain ⟨_, t, pa, ha⟩ := ha
 refine ⟨_, pe_twoTy hr hg hm hv hg2 hm2 hv2 pa hn hdb hn2 hdb2 he, fun δ O σ H Q E k => ?_⟩
 refine ha δ O σ H _ E (a0h (a0k k) fun ds z vs H1 s1 rs => ?_)
 obtain ⟨d, hd, z⟩ := a3p z
 exact hc O H1 ds d vs Q (E.same s1).oo rs hd fun v' H2 s2 r2 => z v' H2 (s1.trans s2) r2
def oListRev : List D -> Option D
 | [.list ds] => some (.list ds.reverse)
 | _ => none
theorem reps_rev {K : PySem.W.Frag} {O : List Addr} {H : Hp} : ∀ {vs : List V} {ds : List D}, Reps K O H vs ds -> Reps K O H vs.reverse ds.reverse
 | _, _, .nil => .nil
 | _, _, .cons r t => by
  rw [List.reverse_cons, List.reverse_cons]
  exact (reps_rev t).append (.cons r .nil)
theorem dtwo_listrev (hc : X.calm = true) : DCall2 X (.type "list") (.type "reversed") oListRev := by
 refine ⟨_, call_listrev hc, fun O H ds d vs Q oo rs e k => ?_⟩
 unfold oListRev at e
 split at e
 ·cases e
  obtain ⟨v, rfl, r⟩ := reps1 rs
  obtain ⟨p, xs, rfl, h1, rx⟩ := r.lst_inv
  exact ⟨p, xs, rfl, h1, fun l hl => k _ _ (a1l hl) (a6g oo hl (reps_rev rx))⟩
 ·cases e
end
end DL
namespace DL
open PySem PySem.Spec PyProof.Rows L2
section
variable {X : Cx} {G : XD -> Hp -> Prop} {e : Expr} {f : DS -> M D} {pos pos' : Pos}
def oII (h : Int -> Int -> Int) : D -> D -> Option D
 | .int a, .int b => some (.int (h a b))
 | _, _ => none
theorem pd_augN {i : Nat} {x : Str} {op : Operator} {h : Int -> Int -> Int} (hN : X.N.Nodup) (hi : X.N[i]? = some x) (hx : Loc X.env.scope x) (hop : PIp X op (ipI h)) (he : PD X G e f)
  (hf : X.fn x = true \/ X.env.scope.names.lookup x = some .local := by first | exact .inl rfl | exact .inr rfl | assumption) : PDS X G (.AugAssign (.Name x pos') op e pos) (gAsg (d2 (oII h) (dVar i) f) (tgN i)) := by
 obtain ⟨t, p, he⟩ := he
 refine ⟨_, ps_aug hN hi hx p hop hf, fun R0 P0 H0 δ O σ H Dn E k => ?_⟩
 have k1 := a0k k
 unfold d2 at k1
 have k2 := a0k k1
 unfold dVar at k2
 cases hd : δ[i]? with
 | none => rw [hd] at k2; exact k2.elim
 | some s =>
  rw [hd] at k2
  match s, hd, k2 with
  | .vl a, hd, k2 =>
   obtain ⟨v, hv, rv⟩ := E.ev.at_ i _ hd
   refine ⟨v, hv, ?_⟩
   have k3 := a0k k2
   refine he δ O σ H _ E.ev (a0h k3 fun d z u H1 s1 ru => ?_)
   obtain ⟨w, hw, z2⟩ := a3p z
   match a, d, hw, rv, ru with
   | .int a, .int b, hw, rv, ru =>
    cases hw
    rw [rv.int_inv, ru.int_inv]
    refine ⟨a, b, rfl, rfl, ?_⟩
    obtain ⟨δ', hd', z3⟩ := a3p (a0k z2)
    cases hd'
    exact z3 O _ H1 ((E.same s1).set (.int _))
end
end DL
namespace L2
open PySem PySem.Spec PyProof.Rows
section
variable {pr : Program} {wo : World} {Ar : Around} {R : Result -> Shared -> Prop} {T : Addr} {fp wr : List Addr} {n : Nat} {P : Nat -> Value -> Prop} {St : Nat -> Heap -> Prop}
theorem nm_min : (toString "min" ++ toString ".loop" : String) = "min.loop" := by decide
theorem min_rest (W : Walks pr wo Ar.in1 T fp wr n P St) (bt : Nat -> Nat -> Bool) (hc : CmpOf pr wo Ar.in1 .Lt P bt) (S : Addr) (hSf : S ∉ fp) (kw : List (Str × Value)) :
  ∀ (k j : Nat) (s : Shared) (vb : Value) (c : Nat), n - (j + 1) = k -> j + 1 <= n -> St (j + 1) s.heap -> P (argBest bt j) vb -> s.heap.get? S = some { cls := .type "list", dict := none, data := .seq #[vb, vb] c, slots := #[] } ->
   (∀ v h2 tk, P (argBest bt (n - 1)) v -> (∀ b o, b ∉ wr -> b ≠ S -> s.heap.get? b = some o -> h2.get? b = some o) -> R (.ok (.ret v)) { s with heap := h2, toks := tk }) -> codeAny (model pr wo) Ar (.builtin "min.loop" ⟨[.ref T, .none, .ref S], kw⟩) R s := by
 have hSw : S ∉ wr := fun q => hSf (W.sub _ q)
 intro k
 induction k with
 | zero =>
  intro j s vb c hk hj hst hP hS hR
  have hin : j + 1 = n := by omega
  apply codeAny_builtin F.entry_min_loop
  rw [Around.under_plainId F.plain_min_loop _]
  show wpAny _ Ar.in1 (seqItems? (.ref S) >>= _) _ _ s
  refine wpAny_bind (wpAny_seqItems hS rfl ?_)
  show wpAny _ Ar.in1 (tryCatch (pyNext (.ref T)) _ >>= _) _ _ s
  refine wpAny_bind (wpAny_tryCatch (W.done s _ _ (hin ▸ hst) fun h2 tk k2 => ?_))
  have hS2 := k2 S _ hSw hS
  show wpAny _ Ar.in1 (updateSeq S (fun _ => #[]) >>= _) _ _ _
  refine wpAny_bind (wpAny_updateSeq hS2 rfl (wpAny_bind (wpAny_letGo (wpAny_pure ?_))))
  exact hR vb _ tk (by rw [<- hin]; exact hP) fun b o b1 b2 e => (Heap.get?_update_other _ _ (Ne.symm b2)).trans (k2 b o b1 e)
 | succ k ih =>
  intro j s vb c hk hj hst hPb hS hR
  have hlt : j + 1 < n := by omega
  apply codeAny_builtin F.entry_min_loop
  rw [Around.under_plainId F.plain_min_loop _]
  show wpAny _ Ar.in1 (seqItems? (.ref S) >>= _) _ _ s
  refine wpAny_bind (wpAny_seqItems hS rfl ?_)
  show wpAny _ Ar.in1 (tryCatch (pyNext (.ref T)) _ >>= _) _ _ s
  refine wpAny_bind (wpAny_tryCatch (W.item (j + 1) s _ _ hlt hst fun v h2 tk hP hst2 k2 => ?_))
  have hS2 := k2 S _ hSw hS
  show wpAny _ Ar.in1 (tryCatch (holding [v, v] (richCompare .Lt v vb >>= _)) _ >>= _) _ _ _
  refine wpAny_bind (wpAny_tryCatch (wpAny_holding (wpAny_bind (hc (j + 1) (argBest bt j) v vb _ _ _ hP hPb ?_))))
  refine wpAny_bind (wpAny_holding (wpAny_truthy_bool (wpAny_bind (wpAny_letGo (wpAny_pure ?_)))))
  cases hb : bt (j + 1) (argBest bt j) with
  | true =>
   simp only [if_true]
   refine wpAny_bind (wpAny_updateSeq hS2 rfl (wpAny_bind (wpAny_letGo ?_)))
   rw [nm_min]
   refine wpAny_pure ⟨plainId_quiet F.plain_min_loop _, ih (j + 1) _ v _ (by omega) hlt (W.frame _ _ _ hst2 fun b q o e => (Heap.get?_update_other _ _ (fun z : S = b => hSf (by rw [z]; exact q))).trans e) (by simp only [argBest, hb, if_true]; exact hP) (Heap.get?_update_self _ hS2 rfl) fun v3 h3 tk3 p3 k3 => ?_⟩
   exact hR v3 h3 tk3 p3 fun b o b1 b2 e => k3 b o b1 b2 ((Heap.get?_update_other _ _ (Ne.symm b2)).trans (k2 b o b1 e))
  | false =>
   simp only [Bool.false_eq_true, if_false]
   refine wpAny_bind (wpAny_letGo ?_)
   rw [nm_min]
   refine wpAny_pure ⟨plainId_quiet F.plain_min_loop _, ih (j + 1) _ vb c (by omega) hlt hst2 (by simp only [argBest, hb, Bool.false_eq_true, if_false]; exact hPb) hS2 fun v3 h3 tk3 p3 k3 => ?_⟩
   exact hR v3 h3 tk3 p3 fun b o b1 b2 e => k3 b o b1 b2 (k2 b o b1 e)
theorem min_all (W : Walks pr wo Ar.in1 T fp wr n P St) (bt : Nat -> Nat -> Bool) (hc : CmpOf pr wo Ar.in1 .Lt P bt) (S : Addr) (hSf : S ∉ fp) {nm : Str} {d : Value} {s : Shared} {c : Nat} (hst : St 0 s.heap)
  (hS : s.heap.get? S = some { cls := .type "list", dict := none, data := .seq #[] c, slots := #[] })
  (hR : ∀ v h2 tk, (n = 0 -> v = d) -> (0 < n -> P (argBest bt (n - 1)) v) -> (∀ b o, b ∉ wr -> b ≠ S -> s.heap.get? b = some o -> h2.get? b = some o) -> R (.ok (.ret v)) { s with heap := h2, toks := tk }) :
  codeAny (model pr wo) Ar (.builtin "min.loop" ⟨[.ref T, .none, .ref S], [(nm, d)]⟩) R s := by
 have hSw : S ∉ wr := fun q => hSf (W.sub _ q)
 apply codeAny_builtin F.entry_min_loop
 rw [Around.under_plainId F.plain_min_loop _]
 show wpAny _ Ar.in1 (seqItems? (.ref S) >>= _) _ _ s
 refine wpAny_bind (wpAny_seqItems hS rfl ?_)
 show wpAny _ Ar.in1 (tryCatch (pyNext (.ref T)) _ >>= _) _ _ s
 by_cases hn : 0 < n
 ·refine wpAny_bind (wpAny_tryCatch (W.item 0 s _ _ hn hst fun v h2 tk hP hst2 k2 => ?_))
  have hS2 := k2 S _ hSw hS
  show wpAny _ Ar.in1 (updateSeq S (fun _ => #[v, v]) >>= _) _ _ _
  refine wpAny_bind (wpAny_updateSeq hS2 rfl ?_)
  rw [nm_min]
  refine wpAny_pure ⟨plainId_quiet F.plain_min_loop _, min_rest W bt hc S hSf _ _ 0 _ v _ rfl hn (W.frame _ _ _ hst2 fun b q o e => (Heap.get?_update_other _ _ (fun z : S = b => hSf (by rw [z]; exact q))).trans e) hP (Heap.get?_update_self _ hS2 rfl) fun v3 h3 tk3 p3 k3 => ?_⟩
  exact hR v3 h3 tk3 (fun z => by omega) (fun _ => p3) fun b o b1 b2 e => k3 b o b1 b2 ((Heap.get?_update_other _ _ (Ne.symm b2)).trans (k2 b o b1 e))
 ·have h0 : n = 0 := by omega
  refine wpAny_bind (wpAny_tryCatch (W.done s _ _ (h0 ▸ hst) fun h2 tk k2 => ?_))
  show wpAny _ Ar.in1 (rule _ >>= fun _ => ret d) _ _ _
  refine wpAny_bind (wpAny_rule (wpAny_pure ?_))
  exact hR d h2 tk (fun _ => rfl) (fun z => absurd z hn) fun b o b1 _ e => k2 b o b1 e
end
section
variable {pr : Program} {wo : World} {Ar : Around} {Er : Value -> Shared -> Prop} {st : Shared}
theorem call_tree_kw {id : String} {b : Builtin} {xs : List Value} {kw : List (Str × Value)} {Q : Value -> Shared -> Prop} (hk : builtinKind id = none) (hp : plainId id = true) (hb : entryFor table id = some b) (ha : argsOk id ⟨xs, kw⟩)
  (hc : wpAny (model pr wo) Ar.in1 (b ⟨xs, kw⟩) (fun fin s2 => match fin with
   | .done f => (match (Except.ok f : Result) with | .ok (.ret v) => Q v s2 | .ok _ => False | .error e => Er e s2)
   | .again c2 => c2.quiet = true /\ codeAny (model pr wo) Ar c2 (fun r s2 => match r with | .ok (.ret v) => Q v s2 | .ok _ => False | .error e => Er e s2) s2) Er st) :
  wpAny (model pr wo) Ar (call (.builtin id) xs kw) Q Er st := by
 apply wpAny_call
 refine codeAny_call_builtin hp hb ?_
 simp only [checkBuiltinCall, hk]
 cases hs : Manifest.signature? id with
 | none => exact wpAny_pure hc
 | some sg =>
  simp only [argsOk, hs] at ha
  have h2 : Bind.checkArgs id sg ⟨xs, kw⟩ = pure () := ha
  show wpAny _ Ar.in1 (Bind.checkArgs id sg ⟨xs, kw⟩) _ _ st
  rw [h2]
  exact wpAny_pure hc
theorem args_minD (a d : Value) : argsOk "min" ⟨[a], [(Str.ofString "default", d)]⟩ := by
 unfold argsOk
 kernel_rfl
theorem min_defList {Q : Value -> Shared -> Prop} {l : Addr} {xs : Array (Int × Tok)} {d : Value} (hh : Ar.handled = none) (hl : st.heap.IsList l (intItems xs))
  (h : ∀ v h2 tk, (xs.size = 0 -> v = d) -> (0 < xs.size -> (intItems xs)[argBest (fun i j => decide (numAt xs i < numAt xs j)) (xs.size - 1)]? = some v) -> (∀ b o, st.heap.get? b = some o -> h2.get? b = some o) -> Q v { st with heap := h2, toks := tk }) :
  wpAny (model pr wo) Ar (call (.builtin "min") [.ref l] [(Str.ofString "default", d)]) Q Er st := by
 refine call_tree_kw F.kind_min F.plain_min F.entry_min (args_minD _ _) ?_
 show wpAny _ Ar.in1 (Builtin.Builtins.bindParams "min" ["key", "default"] 0 ⟨[], [(Str.ofString "default", d)]⟩ >>= _) _ _ st
 refine wpAny_bind (wpAny_of_eq (show Builtin.Builtins.bindParams "min" ["key", "default"] 0 ⟨[], [(Str.ofString "default", d)]⟩ = pure [none, some d] from rfl) ?_)
 apply wpAny_bind
 refine wpAny_pure (wpAny_bind (iter_intList hl fun s2 e hst hfp hlI => ?_))
 subst e
 refine wpAny_bind (wpAny_newObj_type ?_)
 have W := Walks.list (prog := pr) (w := wo) (A := Ar.in1) hh _ l hlI (intItems xs)
 have hn : (intItems xs).size = xs.size := by simp [intItems]
 rw [nm_min]
 refine wpAny_pure ⟨plainId_quiet F.plain_min_loop _, min_all W (fun i j => decide (numAt xs i < numAt xs j)) (CmpOf.ints_lt (numAt xs) (fun _ _ => intItems_at)) _ (fun hm => Nat.lt_irrefl _ (hfp _ hm)) (W.frame _ _ _ hst fun b _ o e => Heap.get?_push_of_some _ e) (Heap.get?_push_size _ rfl) fun v h2 tk q0 q1 hk => ?_⟩
 rw [hn] at q0 q1
 refine h v h2 tk q0 q1 (old_kept fun b o b1 e => hk b o b1 (Nat.ne_of_lt (Heap.lt_size e)) (Heap.get?_push_of_some _ e))
end
section
variable {X : Cx} {x : Str} {p pos kpos : Pos} {e d : Expr} {t : TA} {tk : TE}
def tMinD (K : PySem.W.Frag) (t : TA) (tk : TE) : TE := fun σ H Q => t σ H fun vs H1 => tk σ H1 fun z H2 => ∃ (l : Addr) (is : List Int), vs = [.ref l] /\ SqL K H2 l (is.map V.int) /\ (is = [] -> Q z H2) /\ (is ≠ [] -> Q (.int (minL is)) H2)
theorem pe_minD (hc : X.calm = true) (hx : x = "min") (hg : Gl X x) (hm : X.mg x = none) (ha : PA X [e] t) (hd : PE X d tk) (he : starEach [e] X.env = (false, eval e X.env) :: starEach [] X.env) :
  PE X (.Call (.Name x p) [e] [⟨some (Str.ofString "default"), d, kpos⟩] pos) (tMinD X.K t tk) := by
 subst hx
 intro pins s σ H Q I h
 refine wpAny_Call_Name_kw (a7w I hg hm PyProof.Rows.boot_min ?_ (by decide) (by decide))
 refine PyProof.Rows.callWith_kw ?_ (by rw [he]; rfl) (by rw [he]; rfl) rfl rfl
 refine thn (ha pos pins s σ H _ I h) fun us s1 ⟨vs, H1, I1, r, q⟩ => ?_
 refine PyProof.Rows.kws_cons (thn (hd pins s1 σ H1 _ I1 q) fun u s2 ⟨z, H2, I2, rz, l, is, e1, hq, q0, q1⟩ => PyProof.Rows.kws_nil ?_)
 subst e1
 obtain ⟨u1, rfl, rx⟩ := vals1 r
 cases rx
 obtain ⟨its, rv, pl, hz⟩ := I2.list hq
 obtain ⟨ts, e2, rfl⟩ := a5x rv
 have hl : s2.heap.IsList l (intItems ts.toArray) := by
  have := pl.isList
  have e3 : intItems ts.toArray = (ts.map fun p => Value.int p.1 p.2).toArray := by unfold intItems; simp
  rw [e3]
  exact this
 show wpAny _ _ (call (.builtin "min") [.ref l] [(Str.ofString "default", u)]) _ _ _
 refine min_defList (I2.ok.hd hc) hl fun v h2 tk w0 w1 hk => ?_
 by_cases hn : is = []
 ·have h0 : ts = [] := by
   cases ts with
   | nil => rfl
   | cons a b => rw [hn] at e2; cases e2
  rw [w0 (by rw [h0]; rfl)]
  exact ⟨z, H2, I2.kept hk, rz, q0 hn⟩
 ·have hpos : 0 < ts.length := by
   cases ts with
   | nil => exact absurd e2.symm hn
   | cons => exact Nat.succ_pos _
  obtain ⟨t3, rfl⟩ := best_is hpos (by simpa using w1 (by simpa using hpos))
  rw [e2]
  exact ⟨.int (minL is), H2, I2.kept hk, ⟨t3, rfl⟩, q1 hn⟩
end
end L2
namespace DL
open PySem PySem.Spec PyProof.Rows L2
section
variable {X : Cx} {G : XD -> Hp -> Prop} {e d : Expr} {fa : DS -> M (List D)} {g : DS -> M D} {pos p kpos : Pos} {x : Str}
def minDf : List D -> D -> Option D
 | [.list ds], y => match intsOf ds with
  | some [] => some y
  | some (i :: is) => some (.int (minL (i :: is)))
  | none => none
 | _, _ => none
def dMinD (fa : DS -> M (List D)) (g : DS -> M D) : DS -> M D := fun δ => (fa δ).thn fun xs => (g δ).thn fun y => M.lift (minDf xs y)
theorem pd_minD (hc : X.calm = true) (hx : x = "min") (hg : Gl X x) (hm : X.mg x = none) (ha : PDA X G [e] fa) (hd : PD X G d g) (he : starEach [e] X.env = (false, eval e X.env) :: starEach [] X.env := by rfl) :
  PD X G (.Call (.Name x p) [e] [⟨some (Str.ofString "default"), d, kpos⟩] pos) (dMinD fa g) := by
 obtain ⟨_, t, pa, ha⟩ := ha
 obtain ⟨u, pd, hd⟩ := hd
 refine ⟨_, pe_minD hc hx hg hm pa pd he, fun δ O σ H Q E k => ?_⟩
 refine ha δ O σ H _ E (a0h (a0k k) fun xs z vs H1 s1 rs => ?_)
 refine hd δ O σ H1 _ (E.same s1) (a0h (a0k z) fun y z2 v H2 s2 rv => ?_)
 obtain ⟨w, hw, z3⟩ := a3p z2
 unfold minDf at hw
 split at hw
 ·rename_i ds
  obtain ⟨v1, rfl, r⟩ := reps1 rs
  obtain ⟨l, us, rfl, h1, rx⟩ := (r.same s2).lst_inv
  cases hi : intsOf ds with
  | none => rw [hi] at hw; cases hw
  | some is =>
   rw [hi] at hw
   rw [a6s hi] at rx
   rw [a6r rx] at h1
   cases is with
   | nil =>
    cases hw
    exact ⟨l, [], rfl, h1, fun _ => z3 v H2 (s1.trans s2) rv, fun q => absurd rfl q⟩
   | cons i is =>
    cases hw
    exact ⟨l, i :: is, rfl, h1, fun q => (by cases q), fun _ => z3 _ H2 (s1.trans s2) (.int _)⟩
 ·cases hw
end
end DL
namespace L2
open PySem PySem.Spec PyProof.Rows

section
variable {κ : Type} [DecidableEq κ]
end


section
variable {P : Program} {w : World} {H : Hp} {h : Heap} {a : Addr}
end

section
variable {X : Cx} {pins : List (Addr × Obj)} {σ : St} {H : Hp} {s : Shared} {a : Addr} {y v : V} {u r : Value} {o : Option V} {A : Around} {E : Value -> Shared -> Prop}

end

section
variable {X : Cx} {pins : List (Addr × Obj)} {σ : St} {H : Hp} {s : Shared} {a : Addr} {kvs : List (Key × V)} {k : Key} {u : Value} {A : Around} {E : Value -> Shared -> Prop}
end


section
variable {X : Cx} {o i e value : Expr} {pos pos' tpos : Pos} {td ty tv : TE}
end


section
variable {X : Cx} {pos : Pos}
end

structure M1 (X : Cx) (o : Expr) (m : Str) (apos : Pos) (e : Expr) (cpos : Pos) : Prop where
 base : attributeBase o m X.env (eval o X.env) = eval o X.env
 few : ((backTo cpos (starEach [e] X.env)).all (fun x => !x.1) && (backToKw cpos (keywordEach [] X.env)).all (fun x => x.1.isSome)
  && decide (([e] : List Expr).length + ([] : List Keyword).length + (if ([] : List Keyword).isEmpty then 0 else 1) < 30)) = true
 line : (apos.endLine == cpos.line) = true
 trees : backTo cpos (starEach [e] X.env) = [(false, eval e X.env)]
section
variable {X : Cx} {pins : List (Addr × Obj)} {σ : St} {H : Hp} {s : Shared} {a : Addr} {y d : V} {u r : Value} {o : Option V} {A : Around} {E : Value -> Shared -> Prop}
end

section
variable {X : Cx} {o e f : Expr} {apos cpos : Pos} {td ty tx : TE}
end

section
variable {X : Cx} {pins : List (Addr × Obj)} {σ : St} {H : Hp} {s : Shared} {a : Addr} {kvs : List (Key × V)} {A : Around} {E : Value -> Shared -> Prop}
end


section
variable {X : Cx} {pins : List (Addr × Obj)} {σ : St} {H : Hp} {s : Shared} {a : Addr} {y : V} {u : Value} {A : Around} {E : Value -> Shared -> Prop}
end
end L2
namespace DL
open PySem PySem.Spec PyProof.Rows L2
section
variable {K : PySem.W.Frag} {O : List Addr} {H : Hp}
end
section
variable {X : Cx} {G : XD -> Hp -> Prop} {a b o i e : Expr} {f g : DS -> M D} {pos pos' lp : Pos}
end
section
variable {K : PySem.W.Frag} {Hr : Hp} {R0 : List Addr} {P0 : Addr -> Prop} {H0 H H' : Hp} {O : List Addr} {σ : St} {δ : DS}
end
section
variable {X : Cx} {G : XD -> Hp -> Prop} {a b o ix e : Expr} {f g : DS -> M D} {pos pos' lp tpos : Pos}
end
end DL
namespace DL
open PySem PySem.Spec PyProof.Rows L2
section
variable {X : Cx} {G : XD -> Hp -> Prop} {a b c o i e : Expr} {f g : DS -> M D} {fb : DS -> M Bool} {fn : DS -> M (List D)} {gs gt : DS -> M Out} {st1 sts : List Stmt} {pos pos' lp : Pos}
end
section
variable {X : Cx} {G : XD -> Hp -> Prop} {k v : Expr} {ks : List (Option Expr)} {vs : List Expr} {f g : DS -> M D} {fp : DS -> M (List (Key × D))} {pos pos' lp : Pos}
end
section
variable {P : Program} {w : World} {K : PySem.W.Frag} {mg : Str -> Option Value} {base : Heap}
end
end DL
namespace DL
open PySem PySem.Spec PyProof.Rows L2
variable {X : Cx}
section
variable {G : XD -> Hp -> Prop} {e : Expr} {es : List Expr} {fa : DS -> M (List D)} {pos : Pos}
end
section
variable {P : Program} {w : World} {K : PySem.W.Frag} {mg : Str -> Option Value} {base : Heap}
end
end DL
namespace DL
open PySem PySem.Spec PyProof.Rows L2
variable {X : Cx} {G : XD -> Hp -> Prop} {e o : Expr} {es : List Expr} {f g : DS -> M D} {fa : DS -> M (List D)} {pos apos : Pos}
end DL
namespace OI
open PySem PySem.Spec PyProof.Rows
end OI
namespace DL
open PySem PySem.Spec PyProof.Rows L2
section
variable {X : Cx} {G : XD -> Hp -> Prop} {C f : Addr} {x nm fl : Str} {p pos : Pos} {e : Expr} {es : List Expr} {g : DS -> M D}
end
section
variable {P : Program} {w : World} {K : PySem.W.Frag} {mg : Str -> Option Value} {base : Heap}
end
end DL
namespace L2
open PySem PySem.Spec PyProof.Rows
section
variable {X : Cx}
def tTryN (X : Cx) (C : Addr) (body suite : List Stmt) : TS := fun D σ H => ∃ Ex : XK,
 (∀ pn xe, Passes (CXE X.prog X.w) (X.tri pn xe) Ex -> tCan (X.tri pn xe) body D σ H) /\
 ∀ c d H', Ex c d H' -> c = .ref C /\ ∀ pn ea oe, (ea, oe) ∈ pn -> oe.cls = .ref C -> tCan (X.held pn ea) suite D (List.replicate X.N.length none) H'
theorem ps_try_no {x : Str} {C : Addr} {B newId initId : String} {bm : List Value} {body suite : List Stmt} {b0 : Stmt} {np hp pos : Pos} (hK : PySem.W.excIn X.K C bm newId = true) (FB : ExcBaseFacts B newId initId bm)
  (hst : X.stack = X.env :: X.outer) (hfr : X.env.frame = some X.env.locals) (hg : Gl X x) (hm : X.mg x = some (.ref C)) (hd : (x == ("__debug__" : Str)) = false := by decide) :
  PS X (.Try body [.ExceptHandler (some (.Name x np)) none (b0 :: suite) hp] [] [] pos) (tTryN X C body (b0 :: suite)) := by
 intro pins s σ H D I ⟨Ex, hb, hs⟩
 refine wpAny_Try_except ?_
 have hps : Passes (CXE X.prog X.w) (X.tri (X.pn ++ pins) fun e s' => ∃ σ1 H1 s1, Inv X pins σ1 H1 s1 /\ CXE X.prog X.w X.stack H1 s1 Ex e s') Ex := fun pins' σ1 H1 s1 e s' I1 h1 => ⟨σ1, H1, s1, I1.untri, h1⟩
 have hw := pss_can [] s σ H D (I.tri _) (hb _ _ hps)
 refine wpAny_mono hw (fun f s1 h1 => ?_) (fun e s1 h1 => ?_)
 ·cases f with
  | next =>
   obtain ⟨σ', H', I', q⟩ := h1
   exact wpAny_execs_nil (show SP X pins D .next s1 from ⟨σ', H', I'.untri, q⟩)
  | brk => obtain ⟨σ', H', I', q⟩ := h1; exact ⟨σ', H', I'.untri, q⟩
  | cont => obtain ⟨σ', H', I', q⟩ := h1; exact ⟨σ', H', I'.untri, q⟩
  | ret u => obtain ⟨v, σ', H', I', r, q⟩ := h1; exact ⟨v, σ', H', I'.untri, r, q⟩
 ·obtain ⟨σ1, H1, s0, I0, ea, C', t, dx, H', B0, rfl, F⟩ := h1
  obtain ⟨hc, hsuite⟩ := hs _ _ _ F.wish
  cases hc
  obtain ⟨flv, fl⟩ := F.fl
  rw [hst] at fl
  refine XF.looks_on (I.ok.frames.trans (by rw [hst])) hfr fl F.dict fun h4 hheld4 dd4 hsm4 => ?_
  refine XF.lands (s := { s1 with heap := h4 }) hheld4 dd4 fun h5 hheld5 dd5 hsm5 => ?_
  have key : ∀ {h6 : Heap}, XF.FlyF B0 (X.env :: X.outer) ea (.ref C) (.ref t) .none h6 -> s1.heap.UpToSlots h6 -> ∃ oe, oe.cls = .ref C /\ h6.get? ea = some oe /\ Inv (X.held (X.pn ++ pins ++ [(ea, oe)]) ea) [] σ1 H' { s1 with heap := h6 } := by
   intro h6 hfl6 hsm6
   have I6 := fly_on I0 F hfl6.1 hsm6
   obtain ⟨oe, vs, hoe, hoec, hoed, _⟩ := hfl6.first
   refine ⟨oe, hoec, hoe, I6.held ⟨hoe, ?_, ?_, ?_, fun v z => by rw [hoed] at z; cases z⟩⟩
   ·cases e : H' ea with
    | none => rfl
    | some o =>
     obtain ⟨ob, q⟩ := F.trk _ _ e
     rw [hfl6.2.1] at q; cases q
   ·rintro rfl
    obtain ⟨m, ⟨o', es, ep, ho', hd', _⟩, _⟩ := I6.loc
    have ho' : h6.get? X.env.locals = some o' := ho'
    rw [hoe] at ho'; cases ho'; rw [hoed] at hd'; cases hd'
   ·intro hb'
    obtain ⟨_, o', ho', hd'⟩ := I6.funs.mem hb'
    have ho' : h6.get? ea = some o' := ho'
    rw [hoe] at ho'; cases ho'
    exact hd' _ hoed
  obtain ⟨ob, hobc, hob, I5⟩ := key hheld5 (hsm4.trans hsm5)
  obtain ⟨tl, N, nm, q, bs, hdct, sn, sub, ab, col, dd, k0, k1, k2, k3, k5, mN, hC, hNs, hni, T⟩ := exc_obj I.ok.mod.kin hK
  refine wpAny_handleBy_cons (codeAny_handlers_test (ld_glob I5 hg hm ?_ hd)) (by intro q; cases q)
  refine wpAny_excMatches_sub_self (I5.bk _ _ hC) hob hobc (T.hasType FB.hasBase) (codeAny_handlers_suite ?_)
  refine XF.lands (s := { s1 with heap := h5 }) hheld5 dd5 fun h6 hfl6 dd6 hsm6 => ?_
  obtain ⟨oe, hoec, hoe, I6⟩ := key hfl6 ((hsm4.trans hsm5).trans hsm6)
  have I7 := I6.weak (σ' := List.replicate X.N.length none) (by rw [List.length_replicate]; exact I6.len.symm) (fun j v z => by
   rw [List.getElem?_replicate] at z
   split at z <;> cases z)
  refine wpAny_mono (pss_can [] _ _ H' D I7 (hsuite _ ea oe (by simp) hoec)) (fun f s10 z => ?_) (fun _ _ z => z.elim)
  cases f with
  | next => obtain ⟨σ', H2, J, q⟩ := z; exact ⟨σ', H2, J.unheld I.ok.hd, q⟩
  | brk => obtain ⟨σ', H2, J, q⟩ := z; exact ⟨σ', H2, J.unheld I.ok.hd, q⟩
  | cont => obtain ⟨σ', H2, J, q⟩ := z; exact ⟨σ', H2, J.unheld I.ok.hd, q⟩
  | ret u => obtain ⟨v, σ', H2, J, r, q⟩ := z; exact ⟨v, σ', H2, J.unheld I.ok.hd, r, q⟩
end
end L2
namespace DL
open PySem PySem.Spec PyProof.Rows L2
section
variable {K : PySem.W.Frag} {Hr H0 H H' : Hp} {R0 O : List Addr} {P0 : Addr -> Prop} {σ : St} {δ : DS}
theorem ei_unS {N : Nat} (E : EI K Hr R0 P0 H0 O H σ δ) (s : Same H H') : EI K H O (fun _ => False) H O H' (List.replicate N none) (List.replicate N Sl.un) := by
 have no : ∀ {j : Nat} {s : Sl}, (List.replicate N Sl.un)[j]? = some s -> s = .un := fun {j s} h => by
  rw [List.getElem?_replicate] at h
  split at h <;> cases h
  rfl
 refine ⟨⟨s, fun l hl => (E.ev.oo l hl).same s, by simp, fun j sl h => ?_, fun j k l ds es _ h1 => ?_⟩, fun l hl => .inl hl, fun b o _ h => s _ _ h, fun l hl => .inl hl, fun j ds l h1 ho => ?_, fun l hl => hl⟩
 ·rw [no h]
  trivial
 ·have := no h1
  cases this
 ·have := no h1
  subst this
  exact ho.elim
def gTryN (x : Str) (N : Nat) (gb gs : DS -> M Out) : DS -> M Out := fun δ => match gb (noOw δ) with
 | none => none
 | some (.ok o) => some (.ok o)
 | some (.error y) => if y.cls = x then noX (gs (List.replicate N .un)) else none
end
section
variable {X : Cx} {G : XD -> Hp -> Prop} {a b e o : Expr} {es : List Expr} {f : DS -> M D} {fa : DS -> M (List D)} {pos apos p p1 p2 : Pos}
theorem pd_try_no {x : Str} {C : Addr} {B newId initId : String} {bm : List Value} {body suite : List Stmt} {b0 : Stmt} {np hp pos : Pos} {gb gs : DS -> M Out} (hK : PySem.W.excIn X.K C bm newId = true) (FB : ExcBaseFacts B newId initId bm)
  (hst : X.stack = X.env :: X.outer) (hfr : X.env.frame = some X.env.locals) (hg : Gl X x) (hm : X.mg x = some (.ref C))
  (hb : ∀ pn xe Ex, Passes (CXE X.prog X.w) (X.tri pn xe) Ex -> PDSs (X.tri pn xe) (GX X.mg Ex) body gb)
  (hs : ∀ pn ea, PDSs (X.held pn ea) (fun _ _ => False) (b0 :: suite) gs)
  (hd : (x == ("__debug__" : Str)) = false := by decide) :
  PDS X G (.Try body [.ExceptHandler (some (.Name x np)) none (b0 :: suite) hp] [] [] pos) (gTryN x X.N.length gb gs) := by
 refine ⟨_, ps_try_no hK FB hst hfr hg hm hd, @fun Hr R0 P0 H0 δ O σ H Dn E k => ?_⟩
 unfold gTryN at k
 cases e : gb (noOw δ) with
 | none => rw [e] at k; exact k.elim
 | some r =>
  rw [e] at k
  cases r with
  | ok o =>
   refine ⟨E0, fun pn xe hps => ?_, fun c d H' z => z.elim⟩
   obtain ⟨t, p, hB⟩ := hb pn xe E0 hps
   exact ⟨t, p, hB O (fun _ => False) H (noOw δ) O σ H Dn E.fresh (by rw [e]; exact Fin.fresh E k)⟩
  | error y =>
   have k : ok (GS G Hr) (if y.cls = x then noX (gs (List.replicate X.N.length .un)) else none) (Fin X.K Hr R0 P0 H0 Dn) := k
   by_cases hy : y.cls = x
   ·rw [if_pos hy] at k
    refine ⟨fun c _ H' => c = .ref C /\ Same H H', fun pn xe hps => ?_, fun c d H' z => ⟨z.1, fun pn ea oe hin hoe => ?_⟩⟩
    ·obtain ⟨t, p, hB⟩ := hb pn xe _ hps
     refine ⟨t, p, hB O (fun _ => False) H (noOw δ) O σ H Dn E.fresh ?_⟩
     rw [e]
     intro H' s C' hC'
     rw [hy, hm] at hC'
     split
     ·exact ⟨Option.some.inj hC'.symm ▸ rfl, s⟩
     ·exact fun a ha => ⟨Option.some.inj hC'.symm ▸ rfl, s.trans (a1l ha)⟩
     ·trivial
    ·obtain ⟨t, p, hB⟩ := hs pn ea
     refine ⟨t, p, hB O (fun _ => False) H (List.replicate X.N.length .un) O _ H' Dn (ei_unS E z.2) ?_⟩
     exact ok_weak (a0h (ok_noX k) fun o q => Fin.fresh E q) fun y z => z.elim
   ·rw [if_neg hy] at k
    exact k.elim
theorem ev_tryN_ok {x : Str} {N : Nat} {gb gs : DS -> M Out} {δ : DS} {o : Out} (h : gb (noOw δ) = M.ret o) : gTryN x N gb gs δ = M.ret o := by unfold gTryN; rw [h]; rfl
theorem ev_tryN_x {x : Str} {N : Nat} {gb gs : DS -> M Out} {δ : DS} {y : XD} {o : Out} (h : gb (noOw δ) = some (.error y)) (hy : y.cls = x) (hs : gs (List.replicate N .un) = M.ret o) : gTryN x N gb gs δ = M.ret o := by
 unfold gTryN
 rw [h]
 dsimp only
 rw [if_pos hy, hs]
 rfl
end
section
variable {P : Program} {w : World} {K : PySem.W.Frag} {mg : Str -> Option Value} {base : Heap}
end
section
variable {X : Cx} {G : XD -> Hp -> Prop} {e : Expr} {f : DS -> M D} {pos p p2 : Pos}
end
end DL
namespace SL
open PySem PySem.Spec PyProof.Rows L2 DL
inductive Val where
 | d (x : D)
 | h (k : Nat)
 | t (xs : List Val)
inductive Ob where
 | lst (xs : List Val)
 | dct (es : List (Key × Val))
 | ins (c : Str) (fs : List (Str × Val))
 | gone
abbrev EnvS := List (Option Val)
abbrev Sto := List Ob
abbrev R (β : Type) := Option (Except (XD × Sto) β)
section
variable {β γ : Type}
def R.ret (b : β) : R β := some (.ok b)
def R.thn (r : R β) (f : β -> R γ) : R γ := match r with
 | none => none
 | some (.ok a) => f a
 | some (.error x) => some (.error x)
def okR (G : XD -> Sto -> Prop) (r : R β) (k : β -> Prop) : Prop := match r with
 | none => False
 | some (.ok a) => k a
 | some (.error x) => G x.1 x.2
theorem a2b {G : XD -> Sto -> Prop} {r : R β} {k k' : β -> Prop} (h : okR G r k) (f : ∀ a, k a -> k' a) : okR G r k' := by
 match r, h with
 | some (.ok a), h => exact f a h
 | some (.error x), h => exact h
theorem a5s {G G' : XD -> Sto -> Prop} {r : R β} {k : β -> Prop} (h : okR G r k) (f : ∀ x μ, G x μ -> G' x μ) : okR G' r k := by
 match r, h with
 | some (.ok a), h => exact h
 | some (.error x), h => exact f _ _ h
theorem a2l {G : XD -> Sto -> Prop} {r : R β} {f : β -> R γ} {k : γ -> Prop} (h : okR G (r.thn f) k) : okR G r (fun a => okR G (f a) k) := by
 match r, h with
 | some (.ok a), h => exact h
 | some (.error x), h => exact h
theorem a6u (a : β) (f : β -> R γ) : (R.ret a).thn f = f a := rfl
end
def ofM {β : Type} (r : M β) (μ : Sto) : R β := match r with
 | none => none
 | some (.ok a) => some (.ok a)
 | some (.error x) => some (.error (x, μ))
mutual
inductive VR (K : PySem.W.Frag) (O : List Addr) (α : List (Option Addr)) (H : Hp) : V -> Val -> Prop
 | d {v : V} {x : D} (r : Rep K O H v x) : VR K O α H v (.d x)
 | h {k : Nat} {a : Addr} (e : α[k]? = some (some a)) : VR K O α H (.ref a) (.h k)
 | t {a : Addr} {vs : List V} {xs : List Val} (s : SqT K H a vs) (rs : VRs K O α H vs xs) : VR K O α H (.ref a) (.t xs)
inductive VRs (K : PySem.W.Frag) (O : List Addr) (α : List (Option Addr)) (H : Hp) : List V -> List Val -> Prop
 | nil : VRs K O α H [] []
 | cons {v : V} {x : Val} {vs : List V} {xs : List Val} (r : VR K O α H v x) (rs : VRs K O α H vs xs) : VRs K O α H (v :: vs) (x :: xs)
end
theorem VR.dinv {K : PySem.W.Frag} {O : List Addr} {α : List (Option Addr)} {H : Hp} {v : V} {x : D} (r : VR K O α H v (.d x)) : Rep K O H v x := by cases r; assumption
theorem VR.hinv {K : PySem.W.Frag} {O : List Addr} {α : List (Option Addr)} {H : Hp} {v : V} {k : Nat} (r : VR K O α H v (.h k)) : ∃ a, α[k]? = some (some a) /\ v = .ref a := by
 cases r with
 | h e => exact ⟨_, e, rfl⟩
theorem VR.tinv {K : PySem.W.Frag} {O : List Addr} {α : List (Option Addr)} {H : Hp} {v : V} {xs : List Val} (r : VR K O α H v (.t xs)) : ∃ a vs, v = .ref a /\ SqT K H a vs /\ VRs K O α H vs xs := by
 cases r with
 | t s rs => exact ⟨_, _, rfl, s, rs⟩
def OR (K : PySem.W.Frag) (mg : Str -> Option Value) (R0 O : List Addr) (α : List (Option Addr)) (H : Hp) (a : Addr) : Ob -> Prop
 | .lst xs => a ∈ O /\ a ∉ R0 /\ ∃ vs, H a = some (.lst vs) /\ VRs K O α H vs xs
 | .dct es => a ∈ O /\ a ∉ R0 /\ ∃ kvs, H a = some (.dK kvs) /\ kvs.map (·.1) = es.map (·.1) /\ VRs K O α H (kvs.map (·.2)) (es.map (·.2))
 | .ins c fs => a ∈ O /\ ∃ C dx vfs, mg c = some (.ref C) /\ H a = some (.ins C dx vfs) /\ vfs.map (·.1) = fs.map (·.1) /\ VRs K O α H (vfs.map (·.2)) (fs.map (·.2))
 | .gone => False
structure SR (K : PySem.W.Frag) (mg : Str -> Option Value) (R0 O : List Addr) (α : List (Option Addr)) (H : Hp) (μ : Sto) : Prop where
 len : α.length = μ.length
 nd : ∀ (i j : Nat) (a : Addr), α[i]? = some (some a) -> α[j]? = some (some a) -> i = j
 oo : ∀ l ∈ O, Mu H l
 sub : ∀ l ∈ R0, l ∈ O
 at_ : ∀ (k : Nat) (a : Addr), α[k]? = some (some a) -> ∃ ob, μ[k]? = some ob /\ OR K mg R0 O α H a ob
structure Go (O0 : List Addr) (α0 : List (Option Addr)) (H0 : Hp) (O : List Addr) (α : List (Option Addr)) (H : Hp) : Prop where
 keep : ∀ b o, (∀ k : Nat, α0[k]? ≠ some (some b)) -> H0 b = some o -> H b = some o
 ex : ∀ (k : Nat) (a : Addr), α0[k]? = some (some a) -> α[k]? = some (some a)
 len : α0.length <= α.length
 new : ∀ (k : Nat) (b : Addr), α[k]? = some (some b) -> (α0[k]? = some (some b)) \/ H0 b = none
 ol : ∀ l ∈ O, l ∈ O0 \/ H0 l = none
 live : ∀ b, H b = none -> H0 b = none
section
variable {K : PySem.W.Frag} {mg : Str -> Option Value} {R0 O O' O1 : List Addr} {α α' α1 : List (Option Addr)} {H H' H1 : Hp} {μ μ' : Sto}
theorem Go.refl : Go O α H O α H := ⟨fun _ _ _ h => h, fun _ _ h => h, Nat.le_refl _, fun _ _ h => .inl h, fun _ h => .inl h, fun _ h => h⟩
theorem none_same (s : Same H H') {b : Addr} (h : H' b = none) : H b = none := by
 cases q : H b with
 | none => rfl
 | some o => rw [s b o q] at h; cases h
theorem Go.same (s : Same H H') : Go O α H O α H' := ⟨fun b o _ h => s b o h, fun _ _ h => h, Nat.le_refl _, fun _ _ h => .inl h, fun _ h => .inl h, fun _ h => none_same s h⟩
theorem SR.tracked (S : SR K mg R0 O α H μ) {k : Nat} {a : Addr} (h : α[k]? = some (some a)) : ∃ o, H a = some o /\ (∀ xs, o ≠ .tup xs) /\ (∀ u xs, o ≠ .frz u (.tup xs)) /\ (∀ u xs, o ≠ .frz u (.lst xs)) /\ (∀ u xs, o ≠ .frz u (.dK xs)) /\ (((∃ xs, o = .lst xs) \/ (∃ xs, o = .dK xs) \/ ∃ C dx fs, o = .ins C dx fs) -> a ∈ O) := by
 obtain ⟨ob, _, h⟩ := S.at_ k a h
 cases ob with
 | lst xs =>
  obtain ⟨h1, _, vs, h2, _⟩ := h
  exact ⟨_, h2, (fun _ z => nomatch z), (fun _ _ z => nomatch z), (fun _ _ z => nomatch z), (fun _ _ z => nomatch z), fun _ => h1⟩
 | dct es =>
  obtain ⟨h1, _, vs, h2, _⟩ := h
  exact ⟨_, h2, (fun _ z => nomatch z), (fun _ _ z => nomatch z), (fun _ _ z => nomatch z), (fun _ _ z => nomatch z), fun _ => h1⟩
 | ins c fs =>
  obtain ⟨h1, C, dx, vfs, _, h2, _⟩ := h
  exact ⟨_, h2, (fun _ z => nomatch z), (fun _ _ z => nomatch z), (fun _ _ z => nomatch z), (fun _ _ z => nomatch z), fun _ => h1⟩
 | gone => exact h.elim
theorem Go.to (S : SR K mg R0 O α H μ) (T : Go O α H O' α' H') : To O O' H H' := by
 have tr : ∀ {b : Addr} {u : HO}, (Rd H b u) -> ((∃ xs, u = .tup xs) \/ (((∃ xs, u = .lst xs) \/ (∃ xs, u = .dK xs)) /\ b ∉ O)) -> ∀ k : Nat, α[k]? ≠ some (some b) := fun {b u} h hu k e => by
  obtain ⟨o, h1, h2, h3, h4, h5, h6⟩ := S.tracked e
  rcases h with h | ⟨w, h⟩
  ·rw [h1] at h
   cases h
   rcases hu with ⟨xs, rfl⟩ | ⟨hu, n⟩
   ·exact h2 xs rfl
   ·exact n (h6 (hu.elim .inl fun z => .inr (.inl z)))
  ·rw [h1] at h
   cases h
   rcases hu with ⟨xs, rfl⟩ | ⟨⟨xs, rfl⟩ | ⟨xs, rfl⟩, n⟩
   ·exact h3 w xs rfl
   ·exact h4 w xs rfl
   ·exact h5 w xs rfl
 have mv : ∀ {b : Addr} {u : HO}, Rd H b u -> (∀ k : Nat, α[k]? ≠ some (some b)) -> Rd H' b u := fun {b u} h n => by
  rcases h with h | ⟨w, h⟩
  ·exact .inl (T.keep _ _ n h)
  ·exact .inr ⟨w, T.keep _ _ n h⟩
 have no : ∀ {b : Addr} {u : HO}, Rd H b u -> b ∉ O -> b ∉ O' := fun {b u} h n z => by
  rcases T.ol b z with z | z
  ·exact n z
  ·rcases h with h | ⟨w, h⟩ <;> (rw [z] at h; cases h)
 refine ⟨fun b xs h => mv h (tr h (.inl ⟨xs, rfl⟩)), fun b xs n h => ⟨no h n, mv h (tr h (.inr ⟨.inl ⟨xs, rfl⟩, n⟩))⟩, fun b xs n h => ⟨no h n, mv h (tr h (.inr ⟨.inr ⟨xs, rfl⟩, n⟩))⟩, fun b C dx fs n h => ⟨no (.inl h) n, T.keep _ _ (fun k e => ?_) h⟩⟩
 obtain ⟨o, h1, _, _, _, _, h6⟩ := S.tracked e
 rw [h] at h1
 cases h1
 exact n (h6 (.inr (.inr ⟨_, _, _, rfl⟩)))
theorem Go.trans (T : Go O α H O1 α1 H1) (U : Go O1 α1 H1 O' α' H') : Go O α H O' α' H' := by
 refine ⟨fun b o n h => U.keep b o (fun k e => ?_) (T.keep b o n h), fun k a h => U.ex k a (T.ex k a h), Nat.le_trans T.len U.len, fun k b h => ?_, fun l hl => ?_, fun b h => T.live b (U.live b h)⟩
 ·rcases T.new k b e with z | z
  ·exact n k z
  ·rw [z] at h; cases h
 ·rcases U.new k b h with z | z
  ·exact T.new k b z
  ·exact .inr (T.live b z)
 ·rcases U.ol l hl with z | z
  ·exact T.ol l z
  ·exact .inr (T.live l z)
mutual
theorem VR.to (T : To O O' H H') (e : ∀ (k : Nat) (a : Addr), α[k]? = some (some a) -> α'[k]? = some (some a)) : ∀ {v : V} {x : Val}, VR K O α H v x -> VR K O' α' H' v x
 | _, _, .d r => .d (Rep.to T r)
 | _, _, .h h => .h (e _ _ h)
 | _, _, .t s rs => .t (T.sqT s) (VRs.to T e rs)
theorem VRs.to (T : To O O' H H') (e : ∀ (k : Nat) (a : Addr), α[k]? = some (some a) -> α'[k]? = some (some a)) : ∀ {vs : List V} {xs : List Val}, VRs K O α H vs xs -> VRs K O' α' H' vs xs
 | _, _, .nil => .nil
 | _, _, .cons r rs => .cons (VR.to T e r) (VRs.to T e rs)
end
theorem VRs.length : ∀ {vs : List V} {xs : List Val}, VRs K O α H vs xs -> vs.length = xs.length
 | _, _, .nil => rfl
 | _, _, .cons _ rs => congrArg (· + 1) (VRs.length rs)
theorem VRs.get : ∀ {vs : List V} {xs : List Val} {i : Nat} {x : Val}, VRs K O α H vs xs -> xs[i]? = some x -> ∃ v, vs[i]? = some v /\ VR K O α H v x
 | _, _, _, _, .nil, e => by simp at e
 | _, _, 0, _, .cons r _, e => by simp at e; subst e; exact ⟨_, rfl, r⟩
 | _, _, i + 1, x, .cons _ rs, e => by
  obtain ⟨u, h1, h2⟩ := VRs.get (i := i) (x := x) rs (by simpa using e)
  exact ⟨u, by simpa using h1, h2⟩
theorem VRs.set {v : V} {x : Val} (r : VR K O α H v x) : ∀ {vs : List V} {xs : List Val} (i : Nat), VRs K O α H vs xs -> VRs K O α H (vs.set i v) (xs.set i x)
 | _, _, _, .nil => .nil
 | _, _, 0, .cons _ rs => .cons r rs
 | _, _, i + 1, .cons q rs => .cons q (VRs.set r i rs)
theorem VRs.append : ∀ {vs us : List V} {xs ys : List Val}, VRs K O α H vs xs -> VRs K O α H us ys -> VRs K O α H (vs ++ us) (xs ++ ys)
 | _, _, _, _, .nil, s => s
 | _, _, _, _, .cons r t, s => .cons r (VRs.append t s)
theorem VRs.data : ∀ {vs : List V} {ds : List D}, Reps K O H vs ds -> VRs K O α H vs (ds.map Val.d)
 | _, _, .nil => .nil
 | _, _, .cons r rs => .cons (.d r) (VRs.data rs)
theorem VRs.undata : ∀ {ds : List D} {vs : List V}, VRs K O α H vs (ds.map Val.d) -> Reps K O H vs ds
 | [], _, .nil => .nil
 | _ :: _, _, .cons r rs => .cons r.dinv (VRs.undata rs)
theorem OR.to (T : To O O' H H') (e : ∀ (k : Nat) (a : Addr), α[k]? = some (some a) -> α'[k]? = some (some a)) {a : Addr} {ob : Ob} (ho : a ∈ O -> a ∈ O') (hh : H' a = H a) (r : OR K mg R0 O α H a ob) : OR K mg R0 O' α' H' a ob := by
 cases ob with
 | lst xs => obtain ⟨h1, h2, vs, h3, h4⟩ := r; exact ⟨ho h1, h2, vs, by rw [hh]; exact h3, h4.to T e⟩
 | dct es => obtain ⟨h1, h2, vs, h3, h4, h5⟩ := r; exact ⟨ho h1, h2, vs, by rw [hh]; exact h3, h4, h5.to T e⟩
 | ins c fs => obtain ⟨h0, C, dx, vfs, h1, h3, h4, h5⟩ := r; exact ⟨ho h0, C, dx, vfs, h1, by rw [hh]; exact h3, h4, h5.to T e⟩
 | gone => exact r
theorem SR.same (s : Same H H') (S : SR K mg R0 O α H μ) : SR K mg R0 O α H' μ := by
 refine ⟨S.len, S.nd, fun l hl => (S.oo l hl).same s, S.sub, fun k a h => ?_⟩
 obtain ⟨ob, h1, h2⟩ := S.at_ k a h
 obtain ⟨o, h3, _⟩ := S.tracked h
 exact ⟨ob, h1, h2.to (To.same s) (fun _ _ h => h) (fun h => h) (by rw [h3]; exact s a o h3)⟩
theorem SR.newL (S : SR K mg R0 O α H μ) {l : Addr} {vs : List V} {xs : List Val} (hl : H l = none) (r : VRs K O α H vs xs) : SR K mg R0 (l :: O) (α ++ [some l]) (upd H l (.lst vs)) (μ ++ [.lst xs]) := by
 have T : To O (l :: O) H (upd H l (.lst vs)) := To.own hl
 have e : ∀ (k : Nat) (a : Addr), α[k]? = some (some a) -> (α ++ [some l])[k]? = some (some a) := fun k a h => by
  rw [List.getElem?_append_left (List.getElem?_eq_some_iff.mp h).1]; exact h
 have cs : ∀ (k : Nat) (a : Addr), (α ++ [some l])[k]? = some (some a) -> α[k]? = some (some a) \/ (k = α.length /\ a = l) := fun k a h => by
  by_cases hk : k < α.length
  ·rw [List.getElem?_append_left hk] at h; exact .inl h
  ·rw [List.getElem?_append_right (by omega)] at h
   have h0 : k - α.length = 0 := by
    have := (List.getElem?_eq_some_iff.mp h).1
    simp at this
    omega
   rw [h0] at h
   simp at h
   exact .inr ⟨by omega, h.symm⟩
 have ne : ∀ (k : Nat) (a : Addr), α[k]? = some (some a) -> a ≠ l := fun k a h z => by
  obtain ⟨o, h3, _⟩ := S.tracked h
  rw [z, hl] at h3; cases h3
 refine ⟨by rw [List.length_append, List.length_append, S.len]; rfl, fun i j a h1 h2 => ?_, fun b hb => ?_, fun b hb => List.mem_cons_of_mem _ (S.sub b hb), fun k a h => ?_⟩
 ·rcases cs i a h1 with h1 | ⟨h1, z⟩ <;> rcases cs j a h2 with h2 | ⟨h2, z2⟩
  ·exact S.nd i j a h1 h2
  ·exact absurd z2 (ne i a h1)
  ·exact absurd z (ne j a h2)
  ·omega
 ·rcases List.mem_cons.mp hb with rfl | hb
  ·exact .inl ⟨vs, a1i⟩
  ·exact (S.oo b hb).new hl
 ·rcases cs k a h with h | ⟨rfl, rfl⟩
  ·obtain ⟨ob, h1, h2⟩ := S.at_ k a h
   exact ⟨ob, by rw [List.getElem?_append_left (List.getElem?_eq_some_iff.mp h1).1]; exact h1, h2.to T e (fun z => List.mem_cons_of_mem _ z) (upd_ne (ne k a h))⟩
  ·refine ⟨.lst xs, by rw [S.len, List.getElem?_append_right (Nat.le_refl _), Nat.sub_self]; rfl, List.mem_cons_self, fun z => ?_, vs, a1i, r.to T e⟩
   obtain ⟨o, ho⟩ := (S.oo a (S.sub a z)).some
   rw [hl] at ho; cases ho
theorem Go.newL {l : Addr} {o : HO} (hl : H l = none) : Go O α H (l :: O) (α ++ [some l]) (upd H l o) := by
 refine ⟨fun b u _ h => by rw [upd_ne (a0v h hl)]; exact h, fun k a h => by rw [List.getElem?_append_left (List.getElem?_eq_some_iff.mp h).1]; exact h, by rw [List.length_append]; omega, fun k b h => ?_, fun b hb => ?_, fun b h => ?_⟩
 ·by_cases hk : k < α.length
  ·rw [List.getElem?_append_left hk] at h; exact .inl h
  ·rw [List.getElem?_append_right (by omega)] at h
   have h0 : k - α.length = 0 := by
    have := (List.getElem?_eq_some_iff.mp h).1
    simp at this
    omega
   rw [h0] at h
   simp at h
   exact .inr (by rw [<- h]; exact hl)
 ·rcases List.mem_cons.mp hb with rfl | hb
  ·exact .inr hl
  ·exact .inl hb
 ·by_cases e : b = l
  ·rw [e]; exact hl
  ·rw [upd_ne e] at h; exact h
theorem SR.setL (S : SR K mg R0 O α H μ) {k : Nat} {a : Addr} {xs : List Val} {vs' : List V} {xs' : List Val} (h : α[k]? = some (some a)) (hk : μ[k]? = some (.lst xs)) (r : VRs K O α H vs' xs') : SR K mg R0 O α (upd H a (.lst vs')) (μ.set k (.lst xs')) := by
 obtain ⟨ob, h1, h2⟩ := S.at_ k a h
 rw [hk] at h1
 cases h1
 obtain ⟨ho, hn, vs, hv, _⟩ := h2
 have T : To O O H (upd H a (.lst vs')) := To.set hv ho
 refine ⟨by rw [List.length_set]; exact S.len, S.nd, fun l hl => ?_, S.sub, fun j b hj => ?_⟩
 ·by_cases e : l = a
  ·subst e; exact .inl ⟨vs', a1i⟩
  ·exact (S.oo l hl).upd_ne e
 ·by_cases e : j = k
  ·subst e
   rw [h] at hj
   cases hj
   exact ⟨.lst xs', by rw [a2m, if_pos rfl, if_pos (List.getElem?_eq_some_iff.mp hk).1], ho, hn, vs', a1i, r.to T fun _ _ h => h⟩
  ·obtain ⟨ob, g1, g2⟩ := S.at_ j b hj
   have hb : b ≠ a := fun z => e (S.nd j k a (z ▸ hj) h)
   exact ⟨ob, by rw [a2m, if_neg (fun z => e z.symm)]; exact g1, g2.to T (fun _ _ h => h) (fun z => z) (upd_ne hb)⟩
theorem Go.setL {k : Nat} {a : Addr} {o : HO} (h : α[k]? = some (some a)) : Go O α H O α (upd H a o) := by
 refine ⟨fun b u n hb => ?_, fun _ _ h => h, Nat.le_refl _, fun _ _ h => .inl h, fun _ h => .inl h, fun b hb => ?_⟩
 ·rw [upd_ne (fun z : b = a => n k (by rw [z]; exact h))]; exact hb
 ·by_cases e : b = a
  ·subst e; rw [a1i] at hb; cases hb
  ·rw [upd_ne e] at hb; exact hb
end
end SL
namespace SL
open PySem PySem.Spec PyProof.Rows L2 DL
structure An where
 R0 : List Addr
 O : List Addr
 α : List (Option Addr)
 H : Hp
structure SEv (K : PySem.W.Frag) (mg : Str -> Option Value) (A : An) (O : List Addr) (α : List (Option Addr)) (H : Hp) (σ : L2.St) (δ : EnvS) (μ : Sto) : Prop where
 sr : SR K mg A.R0 O α H μ
 st : Go A.O A.α A.H O α H
 len : σ.length = δ.length
 at_ : ∀ (i : Nat) (x : Val), δ[i]? = some (some x) -> ∃ v, σ[i]? = some (some v) /\ VR K O α H v x
def Er (K : PySem.W.Frag) (mg : Str -> Option Value) (G : XD -> Hp -> Prop) (R0 O : List Addr) (α : List (Option Addr)) (H : Hp) (x : XD) (μ : Sto) : Prop := ∀ O' α' H', Go O α H O' α' H' -> SR K mg R0 O' α' H' μ -> G x H'
def SX (X : Cx) (G : XD -> Hp -> Prop) (e : Expr) (f : EnvS -> Sto -> R (Val × Sto)) : Prop :=
 ∃ t, PE X e t /\ ∀ (A : An) (δ : EnvS) (μ : Sto) (O : List Addr) (α : List (Option Addr)) (σ : L2.St) (H : Hp) (Q : VK), SEv X.K X.mg A O α H σ δ μ -> okR (Er X.K X.mg G A.R0 O α H) (f δ μ) (fun r => ∀ v O' α' H', Go O α H O' α' H' -> SR X.K X.mg A.R0 O' α' H' r.2 -> VR X.K O' α' H' v r.1 -> Q v H') -> t σ H Q
def SA (X : Cx) (G : XD -> Hp -> Prop) (es : List Expr) (f : EnvS -> Sto -> R (List Val × Sto)) : Prop :=
 (∀ δ μ r, f δ μ = some (.ok r) -> r.1.length = es.length) /\ ∃ t, PA X es t /\ ∀ (A : An) (δ : EnvS) (μ : Sto) (O : List Addr) (α : List (Option Addr)) (σ : L2.St) (H : Hp) (Q : List V -> Hp -> Prop), SEv X.K X.mg A O α H σ δ μ -> okR (Er X.K X.mg G A.R0 O α H) (f δ μ) (fun r => ∀ vs O' α' H', Go O α H O' α' H' -> SR X.K X.mg A.R0 O' α' H' r.2 -> VRs X.K O' α' H' vs r.1 -> Q vs H') -> t σ H Q
def ST (X : Cx) (G : XD -> Hp -> Prop) (e : Expr) (f : EnvS -> Sto -> R (Bool × Sto)) : Prop :=
 ∃ t, PT X e t /\ ∀ (A : An) (δ : EnvS) (μ : Sto) (O : List Addr) (α : List (Option Addr)) (σ : L2.St) (H : Hp) (Q : Bool -> Hp -> Prop), SEv X.K X.mg A O α H σ δ μ -> okR (Er X.K X.mg G A.R0 O α H) (f δ μ) (fun r => ∀ O' α' H', Go O α H O' α' H' -> SR X.K X.mg A.R0 O' α' H' r.2 -> Q r.1 H') -> t σ H Q
inductive OutS where
 | nx (δ : EnvS) (μ : Sto)
 | rt (v : Val) (μ : Sto)
 | bk (δ : EnvS) (μ : Sto)
 | ct (δ : EnvS) (μ : Sto)
def FinS (K : PySem.W.Frag) (mg : Str -> Option Value) (A : An) (O0 : List Addr) (α0 : List (Option Addr)) (H0 : Hp) (Dn : Ends) : OutS -> Prop
 | .nx δ μ => ∀ O α σ H, SEv K mg A O α H σ δ μ -> Go O0 α0 H0 O α H -> Dn.nx σ H
 | .rt x μ => ∀ v O α H, SR K mg A.R0 O α H μ -> Go A.O A.α A.H O α H -> VR K O α H v x -> Dn.rt v H
 | .bk δ μ => ∀ O α σ H, SEv K mg A O α H σ δ μ -> Go O0 α0 H0 O α H -> Dn.bk σ H
 | .ct δ μ => ∀ O α σ H, SEv K mg A O α H σ δ μ -> Go O0 α0 H0 O α H -> Dn.ct σ H
theorem FinS.go {K : PySem.W.Frag} {mg : Str -> Option Value} {A : An} {O0 O1 : List Addr} {α0 α1 : List (Option Addr)} {H0 H1 : Hp} {Dn : Ends} {o : OutS} (T : Go O0 α0 H0 O1 α1 H1) (h : FinS K mg A O0 α0 H0 Dn o) : FinS K mg A O1 α1 H1 Dn o := by
 cases o with
 | nx δ μ => exact fun O α σ H E U => h O α σ H E (T.trans U)
 | rt x μ => exact h
 | bk δ μ => exact fun O α σ H E U => h O α σ H E (T.trans U)
 | ct δ μ => exact fun O α σ H E U => h O α σ H E (T.trans U)
abbrev SG := Nat -> EnvS -> Sto -> R OutS
def SS (X : Cx) (G : XD -> Hp -> Prop) (st : Stmt) (g : SG) : Prop :=
 ∃ t, PS X st t /\ ∀ (A : An) (δ : EnvS) (μ : Sto) (O : List Addr) (α : List (Option Addr)) (σ : L2.St) (H : Hp) (Dn : Ends), SEv X.K X.mg A O α H σ δ μ -> okR (Er X.K X.mg G A.R0 A.O A.α A.H) (g A.α.length δ μ) (FinS X.K X.mg A O α H Dn) -> t Dn σ H
def SSs (X : Cx) (G : XD -> Hp -> Prop) (sts : List Stmt) (g : SG) : Prop :=
 ∃ t, PSs X sts t /\ ∀ (A : An) (δ : EnvS) (μ : Sto) (O : List Addr) (α : List (Option Addr)) (σ : L2.St) (H : Hp) (Dn : Ends), SEv X.K X.mg A O α H σ δ μ -> okR (Er X.K X.mg G A.R0 A.O A.α A.H) (g A.α.length δ μ) (FinS X.K X.mg A O α H Dn) -> t Dn σ H
section
variable {K : PySem.W.Frag} {mg : Str -> Option Value} {A : An} {R0 O O' O1 : List Addr} {α α' α1 : List (Option Addr)} {H H' H1 : Hp} {μ μ' : Sto} {σ : L2.St} {δ : EnvS} {G : XD -> Hp -> Prop}
theorem SEv.go (E : SEv K mg A O α H σ δ μ) (T : Go O α H O' α' H') (S : SR K mg A.R0 O' α' H' μ') : SEv K mg A O' α' H' σ δ μ' :=
 ⟨S, E.st.trans T, E.len, fun i x h => let ⟨v, h1, h2⟩ := E.at_ i x h; ⟨v, h1, h2.to (T.to E.sr) T.ex⟩⟩
theorem SEv.same (E : SEv K mg A O α H σ δ μ) (s : Same H H') : SEv K mg A O α H' σ δ μ := E.go (Go.same s) (E.sr.same s)
theorem SEv.set {i : Nat} {v : V} {x : Val} (E : SEv K mg A O α H σ δ μ) (r : VR K O α H v x) : SEv K mg A O α H (σ.set i (some v)) (δ.set i (some x)) μ := by
 refine ⟨E.sr, E.st, by rw [List.length_set, List.length_set, E.len], fun j y h => ?_⟩
 rw [a2m] at h
 by_cases hij : i = j
 ·subst hij
  rw [if_pos rfl] at h
  split at h
  ·cases h
   rename_i hl
   exact ⟨v, by rw [a2m, if_pos rfl, if_pos (by rw [E.len]; exact hl)], r⟩
  ·cases h
 ·rw [if_neg hij] at h
  obtain ⟨w, h1, h2⟩ := E.at_ j y h
  exact ⟨w, by rw [a2m, if_neg hij]; exact h1, h2⟩
theorem Er.go {x : XD} (T : Go O α H O' α' H') (h : Er K mg G R0 O α H x μ) : Er K mg G R0 O' α' H' x μ := fun O2 α2 H2 U S => h O2 α2 H2 (T.trans U) S
def v0 : Option Val -> Sl
 | some (.d x) => .vl x
 | _ => .un
def view (δ : EnvS) : DS := δ.map v0
theorem view_get {i : Nat} {s : Sl} (h : (view δ)[i]? = some s) : (∃ x, δ[i]? = some (some (.d x)) /\ s = .vl x) \/ s = .un := by
 unfold view at h
 rw [List.getElem?_map] at h
 cases e : δ[i]? with
 | none => rw [e] at h; cases h
 | some o =>
  rw [e] at h
  cases o with
  | none => cases h; exact .inr rfl
  | some x =>
   cases x with
   | d x => cases h; exact .inl ⟨x, rfl, rfl⟩
   | h k => cases h; exact .inr rfl
   | t xs => cases h; exact .inr rfl
theorem SEv.view (E : SEv K mg A O α H σ δ μ) : Ev K H O H σ (view δ) := by
 refine ⟨Same.refl H, E.sr.oo, by unfold SL.view; rw [List.length_map]; exact E.len, fun i s h => ?_, fun i j l ds es hij h1 => ?_⟩
 ·rcases view_get h with ⟨x, h1, rfl⟩ | rfl
  ·obtain ⟨v, g1, g2⟩ := E.at_ i _ h1
   exact ⟨v, g1, g2.dinv⟩
  ·trivial
 ·rcases view_get h1 with ⟨x, _, z⟩ | z <;> cases z
def dataOf : List Val -> Option (List D)
 | [] => some []
 | .d x :: r => (dataOf r).map (x :: ·)
 | _ :: _ => none
theorem b1d : ∀ {xs : List Val} {ds : List D}, dataOf xs = some ds -> xs = ds.map Val.d
 | [], ds, h => by cases h; rfl
 | .d x :: r, ds, h => by
  unfold dataOf at h
  cases e : dataOf r with
  | none => rw [e] at h; cases h
  | some q => rw [e] at h; cases h; rw [b1d e]; rfl
theorem dataOf_map (ds : List D) : dataOf (ds.map Val.d) = some ds := by
 induction ds with
 | nil => rfl
 | cons d r ih => show (dataOf (r.map Val.d)).map (d :: ·) = _; rw [ih]; rfl
def lv1 (n : Nat) (μ : Sto) : Val -> Option D
 | .d x => some x
 | .h k => if n <= k then (match μ[k]? with
  | some (.lst xs) => (dataOf xs).map PyData.list
  | _ => none) else none
 | .t _ => none
def lv1s (n : Nat) (μ : Sto) : List Val -> Option (List D)
 | [] => some []
 | x :: xs => match lv1 n μ x, lv1s n μ xs with
  | some d, some ds => some (d :: ds)
  | _, _ => none
def lv2 (n : Nat) (μ : Sto) : Val -> Option D
 | .d x => some x
 | .h k => if n <= k then (match μ[k]? with
  | some (.lst xs) => (lv1s n μ xs).map PyData.list
  | _ => none) else none
 | .t xs => (lv1s n μ xs).map PyData.tuple
def v1 (n : Nat) (μ : Sto) : Option Val -> Sl
 | some x => match lv2 n μ x with
  | some d => .vl d
  | none => .un
 | none => .un
def viewL (n : Nat) (μ : Sto) (δ : EnvS) : DS := δ.map (v1 n μ)
theorem v1_of {n : Nat} {μ : Sto} {x : Val} {d : D} (h : lv2 n μ x = some d) : v1 n μ (some x) = .vl d := by
 show (match lv2 n μ x with | some d => Sl.vl d | none => .un) = _
 rw [h]
theorem lv2_h {n k : Nat} {μ : Sto} {xs : List Val} {ds : List D} (hn : n <= k) (h : μ[k]? = some (.lst xs)) (hx : lv1s n μ xs = some ds) : lv2 n μ (.h k) = some (.list ds) := by
 show (if n <= k then (match μ[k]? with | some (.lst xs) => (lv1s n μ xs).map PyData.list | _ => none) else none) = _
 rw [if_pos hn, h]
 show (lv1s n μ xs).map PyData.list = _
 rw [hx]
 rfl
section
variable {n : Nat}
theorem lv1_rep (S : SR K mg R0 O α H μ) (T : To O O' H H) (hn : ∀ (k : Nat) (a : Addr) (xs : List Val), α[k]? = some (some a) -> n <= k -> μ[k]? = some (.lst xs) -> a ∉ O') {v : V} {x : Val} {d : D} (r : VR K O α H v x) (h : lv1 n μ x = some d) : Rep K O' H v d := by
 cases x with
 | d x => cases h; exact Rep.to T r.dinv
 | t xs => cases h
 | h k =>
  obtain ⟨a, ha, rfl⟩ := r.hinv
  have h : (if n <= k then (match μ[k]? with | some (.lst xs) => (dataOf xs).map PyData.list | _ => none) else none) = some d := h
  by_cases hk : n <= k
  ·rw [if_pos hk] at h
   obtain ⟨ob, g1, g2⟩ := S.at_ k a ha
   rw [g1] at h
   cases ob with
   | lst xs =>
    have h : (dataOf xs).map PyData.list = some d := h
    cases e : dataOf xs with
    | none => rw [e] at h; cases h
    | some ds =>
     rw [e] at h
     cases h
     obtain ⟨_, _, vs, g5, g6⟩ := g2
     rw [b1d e] at g6
     exact .lst (.inl g5) (hn k a xs ha hk g1) (g6.undata.to T)
   | dct es => cases h
   | ins c fs => cases h
   | gone => cases h
  ·rw [if_neg hk] at h; cases h
theorem b2y (S : SR K mg R0 O α H μ) (T : To O O' H H) (hn : ∀ (k : Nat) (a : Addr) (xs : List Val), α[k]? = some (some a) -> n <= k -> μ[k]? = some (.lst xs) -> a ∉ O') : ∀ {xs : List Val} {vs : List V} {ds : List D}, VRs K O α H vs xs -> lv1s n μ xs = some ds -> Reps K O' H vs ds
 | [], _, ds, .nil, h => by cases h; exact .nil
 | x :: xs, _, ds, .cons r rs, h => by
  unfold lv1s at h
  split at h
  ·rename_i d ds' e1 e2
   cases h
   exact .cons (lv1_rep S T hn r e1) (b2y S T hn rs e2)
  ·cases h
theorem lv2_rep (S : SR K mg R0 O α H μ) (T : To O O' H H) (hn : ∀ (k : Nat) (a : Addr) (xs : List Val), α[k]? = some (some a) -> n <= k -> μ[k]? = some (.lst xs) -> a ∉ O') {v : V} {x : Val} {d : D} (r : VR K O α H v x) (h : lv2 n μ x = some d) : Rep K O' H v d := by
 cases x with
 | d x => cases h; exact Rep.to T r.dinv
 | t xs =>
  obtain ⟨a, vs, rfl, hs, rs⟩ := r.tinv
  have h : (lv1s n μ xs).map PyData.tuple = some d := h
  cases e : lv1s n μ xs with
  | none => rw [e] at h; cases h
  | some ds =>
   rw [e] at h
   cases h
   exact .tup hs (b2y S T hn rs e)
 | h k =>
  obtain ⟨a, ha, rfl⟩ := r.hinv
  have h : (if n <= k then (match μ[k]? with | some (.lst xs) => (lv1s n μ xs).map PyData.list | _ => none) else none) = some d := h
  by_cases hk : n <= k
  ·rw [if_pos hk] at h
   obtain ⟨ob, g1, g2⟩ := S.at_ k a ha
   rw [g1] at h
   cases ob with
   | lst xs =>
    have h : (lv1s n μ xs).map PyData.list = some d := h
    cases e : lv1s n μ xs with
    | none => rw [e] at h; cases h
    | some ds =>
     rw [e] at h
     cases h
     obtain ⟨_, _, vs, g5, g6⟩ := g2
     exact .lst (.inl g5) (hn k a xs ha hk g1) (b2y S T hn g6 e)
   | dct es => cases h
   | ins c fs => cases h
   | gone => cases h
  ·rw [if_neg hk] at h; cases h
end
theorem viewL_get {n i : Nat} {s : Sl} (h : (viewL n μ δ)[i]? = some s) : (∃ x d, δ[i]? = some (some x) /\ lv2 n μ x = some d /\ s = .vl d) \/ s = .un := by
 unfold viewL at h
 rw [List.getElem?_map] at h
 cases e : δ[i]? with
 | none => rw [e] at h; cases h
 | some o =>
  rw [e] at h
  cases o with
  | none => cases h; exact .inr rfl
  | some x =>
   have h : some (match lv2 n μ x with | some d => Sl.vl d | none => .un) = some s := h
   cases e2 : lv2 n μ x with
   | none => rw [e2] at h; cases h; exact .inr rfl
   | some d => rw [e2] at h; cases h; exact .inl ⟨x, d, rfl, e2, rfl⟩
theorem SEv.viewL {n : Nat} (E : SEv K mg A O α H σ δ μ) (hs : ∀ l ∈ O', l ∈ O) (hn : ∀ (k : Nat) (a : Addr) (xs : List Val), α[k]? = some (some a) -> n <= k -> μ[k]? = some (.lst xs) -> a ∉ O') : Ev K H O' H σ (SL.viewL n μ δ) := by
 have T : To O O' H H := .less hs
 refine ⟨Same.refl H, fun l hl => E.sr.oo l (hs l hl), by unfold SL.viewL; rw [List.length_map]; exact E.len, fun i s h => ?_, fun i j l ds es hij h1 => ?_⟩
 ·rcases viewL_get h with ⟨x, d, h1, h2, rfl⟩ | rfl
  ·obtain ⟨v, g1, g2⟩ := E.at_ i _ h1
   exact ⟨v, g1, lv2_rep E.sr T hn g2 h2⟩
  ·trivial
 ·rcases viewL_get h1 with ⟨x, d, _, _, z⟩ | z <;> cases z
end
section
variable {X : Cx} {G : XD -> Hp -> Prop} {a b c e : Expr} {es rest : List Expr} {pos pos' : Pos} {st : Stmt} {sts sts' : List Stmt}
def sPure (f : DS -> M D) : EnvS -> Sto -> R (Val × Sto) := fun δ μ => (ofM (f (view δ)) μ).thn fun d => R.ret (.d d, μ)
theorem b1u {β : Type} {K : PySem.W.Frag} {mg : Str -> Option Value} {R0 O : List Addr} {α : List (Option Addr)} {H : Hp} {μ : Sto} {r : M β} {k : β -> Prop} (S : SR K mg R0 O α H μ) (h : okR (Er K mg G R0 O α H) (ofM r μ) k) : ok (GS G H) r k := by
 match r, h with
 | some (.ok a), h => exact h
 | some (.error x), h => exact fun H' s => h O α H' (Go.same s) (S.same s)
theorem a8r {f : DS -> M D} (h : PD X G e f) : SX X G e (sPure f) := by
 obtain ⟨t, p, h⟩ := h
 refine ⟨t, p, fun A δ μ O α σ H Q E k => ?_⟩
 refine h (view δ) O σ H Q E.view (a0h (b1u E.sr (a2l k)) fun d z v H' s r => z v O α H' (Go.same s) (E.sr.same s) (.d r))
def sLend (f : DS -> M D) : EnvS -> Sto -> R (Val × Sto) := fun δ μ => (ofM (f (viewL 0 μ δ)) μ).thn fun d => if flatD d = true then R.ret (.d d, μ) else none
theorem b2f {f : DS -> M D} (h : PD X G e f) : SX X G e (sLend f) := by
 obtain ⟨t, p, h⟩ := h
 refine ⟨t, p, fun A δ μ O α σ H Q E k => ?_⟩
 refine h (viewL 0 μ δ) A.R0 σ H Q (E.viewL E.sr.sub fun k a xs ha _ hx => ?_) (a0h (b1u E.sr (a2l k)) fun d z v H' s r => ?_)
 ·obtain ⟨ob, h1, h2⟩ := E.sr.at_ k a ha
  rw [hx] at h1
  cases h1
  exact h2.2.1
 ·by_cases hf : flatD d = true
  ·rw [if_pos hf] at z
   exact z v O α H' (Go.same s) (E.sr.same s) (.d (r.flat hf))
  ·rw [if_neg hf] at z; exact z.elim
end
end SL
namespace SL
open PySem PySem.Spec PyProof.Rows L2 DL
section
variable {X : Cx} {G : XD -> Hp -> Prop} {a b c e ix : Expr} {es rest : List Expr} {pos pos' tpos : Pos} {st : Stmt} {sts sts' : List Stmt}
def sVar (i : Nat) : EnvS -> Sto -> R (Val × Sto) := fun δ μ => match δ[i]? with
 | some (some x) => R.ret (x, μ)
 | _ => none
theorem a6q {i : Nat} (h : PE X e (tVar i)) : SX X G e (sVar i) := by
 refine ⟨_, h, fun A δ μ O α σ H Q E k => ?_⟩
 unfold sVar at k
 split at k
 ·rename_i x hx
  obtain ⟨v, h1, h2⟩ := E.at_ i x hx
  exact ⟨v, h1, k v O α H Go.refl E.sr h2⟩
 ·exact k.elim
def sNil : EnvS -> Sto -> R (List Val × Sto) := fun _ μ => R.ret ([], μ)
def sCons (f : EnvS -> Sto -> R (Val × Sto)) (fa : EnvS -> Sto -> R (List Val × Sto)) : EnvS -> Sto -> R (List Val × Sto) := fun δ μ => (f δ μ).thn fun r => (fa δ r.2).thn fun q => R.ret (r.1 :: q.1, q.2)
theorem sa_nil : SA X G [] sNil := by
 refine ⟨fun δ μ r h => by cases h; rfl, _, pa_nil, fun A δ μ O α σ H Q E k => k [] O α H Go.refl E.sr .nil⟩
theorem b2r {f : EnvS -> Sto -> R (Val × Sto)} {fa : EnvS -> Sto -> R (List Val × Sto)} (ha : SX X G e f) (hr : SA X G es fa) (hs : starEach (e :: es) X.env = (false, eval e X.env) :: starEach es X.env := by rfl) : SA X G (e :: es) (sCons f fa) := by
 obtain ⟨t, p, ha⟩ := ha
 obtain ⟨hl, u, q, hr⟩ := hr
 refine ⟨fun δ μ r h => ?_, _, b0p p q hs, fun A δ μ O α σ H Q E k => ?_⟩
 ·unfold sCons at h
  cases e1 : f δ μ with
  | none => rw [e1] at h; cases h
  | some r1 =>
   rw [e1] at h
   cases r1 with
   | error x => cases h
   | ok x =>
    have h : R.thn (fa δ x.2) _ = _ := h
    cases e2 : fa δ x.2 with
    | none => rw [e2] at h; cases h
    | some r2 =>
     rw [e2] at h
     cases r2 with
     | error x => cases h
     | ok xs =>
      cases h
      show (x.1 :: xs.1).length = _
      rw [List.length_cons, List.length_cons, hl δ x.2 xs e2]
 ·refine ha A δ μ O α σ H _ E (a2b (a2l k) fun r z v O1 α1 H1 T1 S1 r1 => ?_)
  refine hr A δ r.2 O1 α1 σ H1 _ (E.go T1 S1) (a2b (a5s (a2l z) fun x μ h => Er.go T1 h) fun q y vs O2 α2 H2 T2 S2 rs => ?_)
  exact y (v :: vs) O2 α2 H2 (T1.trans T2) S2 (.cons (r1.to (T2.to S1) T2.ex) rs)
def sTest (fb : DS -> M Bool) : EnvS -> Sto -> R (Bool × Sto) := fun δ μ => (ofM (fb (viewL 0 μ δ)) μ).thn fun b => R.ret (b, μ)
theorem a8s {fb : DS -> M Bool} (h : PDT X G e fb) : ST X G e (sTest fb) := by
 obtain ⟨t, p, h⟩ := h
 refine ⟨t, p, fun A δ μ O α σ H Q E k => ?_⟩
 refine h (viewL 0 μ δ) A.R0 σ H Q (E.viewL E.sr.sub fun k a xs ha _ hx => ?_) (a0h (b1u E.sr (a2l k)) fun d z H' s => z O α H' (Go.same s) (E.sr.same s))
 obtain ⟨ob, h1, h2⟩ := E.sr.at_ k a ha
 rw [hx] at h1
 cases h1
 exact h2.2.1
def sNext : SG := fun _ δ μ => R.ret (.nx δ μ)
def sSeq (g h : SG) : SG := fun n δ μ => (g n δ μ).thn fun o => match o with
 | .nx δ' μ' => h n δ' μ'
 | o => R.ret o
theorem b0g : SSs X G [] sNext := ⟨_, pss_nil, fun A δ μ O α σ H Dn E k => k O α σ H E Go.refl⟩
theorem a7d {g : SG} (h : SS X G st g) : SSs X G [st] g := by
 obtain ⟨t, p, h⟩ := h
 exact ⟨_, pss_one p, h⟩
theorem a5v {g h : SG} (h1 : SS X G st g) (h2 : SSs X G sts h) : SSs X G (st :: sts) (sSeq g h) := by
 obtain ⟨t, p, h1⟩ := h1
 obtain ⟨u, q, h2⟩ := h2
 refine ⟨_, b2t p q, fun A δ μ O α σ H Dn E k => ?_⟩
 refine h1 A δ μ O α σ H _ E (a2b (a2l k) fun o z => ?_)
 cases o with
 | nx δ' μ' => exact fun O' α' σ' H' E' T => h2 A δ' μ' O' α' σ' H' Dn E' (a2b z fun o w => w.go T)
 | rt v μ' => exact z
 | bk δ' μ' => exact z
 | ct δ' μ' => exact z
def sIf (c : EnvS -> Sto -> R (Bool × Sto)) (g h : SG) : SG := fun n δ μ => (c δ μ).thn fun r => if r.1 = true then g n δ r.2 else h n δ r.2
theorem ss_if {fc : EnvS -> Sto -> R (Bool × Sto)} {g h : SG} (hc : ST X G c fc) (h1 : SSs X G sts g) (h2 : SSs X G sts' h) : SS X G (.If c sts sts' pos) (sIf fc g h) := by
 obtain ⟨t, p, hc⟩ := hc
 obtain ⟨u, q, h1⟩ := h1
 obtain ⟨w, r, h2⟩ := h2
 refine ⟨_, ps_if p q r, fun A δ μ O α σ H Dn E k => ?_⟩
 refine hc A δ μ O α σ H _ E (a2b (a5s (a2l k) fun x μ h => Er.go E.st h) fun r z O1 α1 H1 T1 S1 => ?_)
 cases hb : r.1 with
 | true =>
  rw [hb, if_pos rfl] at z
  rw [if_pos rfl]
  exact h1 A δ r.2 O1 α1 σ H1 Dn (E.go T1 S1) (a2b z fun o w => w.go T1)
 | false =>
  rw [hb, if_neg Bool.false_ne_true] at z
  rw [if_neg Bool.false_ne_true]
  exact h2 A δ r.2 O1 α1 σ H1 Dn (E.go T1 S1) (a2b z fun o w => w.go T1)
def sAsg (i : Nat) (f : EnvS -> Sto -> R (Val × Sto)) : SG := fun _ δ μ => (f δ μ).thn fun r => R.ret (.nx (δ.set i (some r.1)) r.2)
theorem ss_set {i : Nat} {x : Str} {f : EnvS -> Sto -> R (Val × Sto)} (hN : X.N.Nodup) (hi : X.N[i]? = some x) (hx : Loc X.env.scope x) (he : SX X G e f) (hs : swapsWith e (some (.Name x pos')) pos.line X.env = pure false := by rfl) (hf : X.fn x = true \/ X.env.scope.names.lookup x = some .local := by first | exact .inl rfl | exact .inr rfl | assumption) :
  SS X G (.Assign [.Name x pos'] e pos) (sAsg i f) := by
 obtain ⟨t, p, he⟩ := he
 refine ⟨_, ps_set hN hi hx p hs hf, fun A δ μ O α σ H Dn E k => ?_⟩
 refine he A δ μ O α σ H _ E (a2b (a5s (a2l k) fun x μ h => Er.go E.st h) fun r z v O1 α1 H1 T1 S1 r1 => ?_)
 exact z O1 α1 _ H1 ((E.go T1 S1).set r1) T1
def sSetI (i : Nat) (fi f : EnvS -> Sto -> R (Val × Sto)) : SG := fun _ δ μ => (f δ μ).thn fun r => (match δ[i]? with
 | some (some (.h k)) => (fi δ r.2).thn fun q => match q.1, q.2[k]? with
  | .d (.int n), some (.lst xs) => match ixN xs.length n with
   | some j => R.ret (.nx δ (q.2.set k (.lst (xs.set j r.1))))
   | none => none
  | _, _ => none
 | _ => none)
theorem ss_setI {i : Nat} {fi f : EnvS -> Sto -> R (Val × Sto)} (hv : PE X a (tVar i)) (hi : SX X G ix fi) (he : SX X G e f)
  (ha : ∀ v, assign (.Subscript a ix tpos) X.env v = (do
   let ov <- holding [v] (eval a X.env)
   let iv <- holding [v, ov] (eval ix X.env)
   standAt tpos
   holding [v, ov, iv] (setItem ov iv v)
   release [v, ov, iv] []) := by intro _; rfl)
  (hs : swapsWithSole [.Subscript a ix tpos] e pos.line X.env = pure false := by rfl) (hw : swappedStores [.Subscript a ix tpos] e X.env = pure none := by rfl)
  (h1 : (assignEach [.Subscript a ix tpos] X.env).map (·.2) = [assign (.Subscript a ix tpos) X.env] := by rfl) : SS X G (.Assign [.Subscript a ix tpos] e pos) (sSetI i fi f) := by
 obtain ⟨t, p, he⟩ := he
 obtain ⟨u, q, hi⟩ := hi
 refine ⟨_, ps_asg p (pg_sub hv q b2k ha) hs hw h1, fun A δ μ O α σ H Dn E k => ?_⟩
 refine he A δ μ O α σ H _ E (a2b (a5s (a2l k) fun x μ h => Er.go E.st h) fun r z v O1 α1 H1 T1 S1 r1 => ?_)
 have E1 := E.go T1 S1
 split at z
 ·rename_i kk hd
  obtain ⟨w, q1, q2⟩ := E1.at_ i _ hd
  obtain ⟨l, q3, rfl⟩ := q2.hinv
  refine ⟨.ref l, q1, ?_⟩
  refine hi A δ r.2 O1 α1 σ H1 _ E1 (a2b (a5s (a2l z) fun x μ h => Er.go E1.st h) fun qq y kv O2 α2 H2 T2 S2 r2 => ?_)
  split at y
  ·rename_i n xs hq hk
   rw [hq] at r2
   have hkv := Rep.int_inv r2.dinv
   subst hkv
   have q3' := T2.ex _ _ q3
   obtain ⟨ob, g1, g2⟩ := S2.at_ kk l q3'
   rw [hk] at g1
   cases g1
   obtain ⟨g3, g4, vs, g5, g6⟩ := g2
   cases hj : ixN xs.length n with
   | none => rw [hj] at y; exact y.elim
   | some j =>
    rw [hj] at y
    refine ⟨l, vs, n, j, rfl, rfl, g5, by rw [g6.length]; exact hj, ?_⟩
    have r1' := r1.to (T2.to S1) T2.ex
    exact y O2 α2 σ _ (((E1.go T2 S2)).go (Go.setL q3') (S2.setL q3' hk (g6.set r1' j))) (T1.trans (T2.trans (Go.setL q3')))
  ·exact y.elim
 ·exact z.elim
mutual
def closedV (n : Nat) : Val -> Bool
 | .d _ => true
 | .h k => decide (k < n)
 | .t xs => closedVs n xs
def closedVs (n : Nat) : List Val -> Bool
 | [] => true
 | x :: xs => closedV n x && closedVs n xs
end
def closedO (n : Nat) : Ob -> Bool
 | .lst xs => closedVs n xs
 | .dct es => closedVs n (es.map (·.2))
 | .ins _ fs => closedVs n (fs.map (·.2))
 | .gone => true
def sRetF (f : DS -> M D) : SG := fun n δ μ => if (μ.take n).all (closedO n) = true then (ofM (f (viewL n μ δ)) μ).thn fun d => R.ret (.rt (.d d) (μ.take n)) else none
section
variable {K : PySem.W.Frag} {mg : Str -> Option Value} {R0 O O' : List Addr} {α α' : List (Option Addr)} {H H' : Hp} {μ : Sto}
mutual
theorem VR.cut {n : Nat} (T : To O O' H H') : ∀ {v : V} {x : Val}, closedV n x = true -> VR K O α H v x -> VR K O' (α.take n) H' v x
 | _, _, _, .d r => .d (Rep.to T r)
 | _, .h k, hc, .h e => by
  have hk : k < n := of_decide_eq_true hc
  exact .h (by rw [List.getElem?_take, if_pos hk]; exact e)
 | _, .t xs, hc, .t s rs => .t (T.sqT s) (VRs.cut T hc rs)
theorem VRs.cut {n : Nat} (T : To O O' H H') : ∀ {vs : List V} {xs : List Val}, closedVs n xs = true -> VRs K O α H vs xs -> VRs K O' (α.take n) H' vs xs
 | _, _, _, .nil => .nil
 | _, _ :: _, hc, .cons r rs => .cons (VR.cut T (Bool.and_eq_true_iff.mp hc).1 r) (VRs.cut T (Bool.and_eq_true_iff.mp hc).2 rs)
end
theorem SR.cut {n : Nat} (S : SR K mg R0 O α H μ) (hs : ∀ l ∈ O', l ∈ O) (hr : ∀ l ∈ R0, l ∈ O') (hk : ∀ (k : Nat) (a : Addr), k < n -> α[k]? = some (some a) -> a ∈ O -> a ∈ O') (hc : (μ.take n).all (closedO n) = true) : SR K mg R0 O' (α.take n) H (μ.take n) := by
 have T : To O O' H H := .less hs
 have gt : ∀ (k : Nat) (a : Addr), (α.take n)[k]? = some (some a) -> k < n /\ α[k]? = some (some a) := fun k a h => by
  rw [List.getElem?_take] at h
  split at h
  ·rename_i hk; exact ⟨hk, h⟩
  ·cases h
 refine ⟨by rw [List.length_take, List.length_take, S.len], fun i j a h1 h2 => S.nd i j a (gt i a h1).2 (gt j a h2).2, fun l hl => S.oo l (hs l hl), hr, fun k a h => ?_⟩
 obtain ⟨h1, h2⟩ := gt k a h
 obtain ⟨ob, g1, g2⟩ := S.at_ k a h2
 have gk : (μ.take n)[k]? = some ob := by rw [List.getElem?_take, if_pos h1]; exact g1
 have hco : closedO n ob = true := List.all_eq_true.mp hc ob (List.mem_of_getElem? gk)
 refine ⟨ob, gk, ?_⟩
 cases ob with
 | lst xs => obtain ⟨p1, p2, vs, p3, p4⟩ := g2; exact ⟨hk k a h1 h2 p1, p2, vs, p3, p4.cut T hco⟩
 | dct es =>
  obtain ⟨p1, p2, kvs, p3, p4, p5⟩ := g2
  exact ⟨hk k a h1 h2 p1, p2, kvs, p3, p4, p5.cut T hco⟩
 | ins c fs =>
  obtain ⟨p1, C, dx, vfs, p2, p3, p4, p5⟩ := g2
  exact ⟨hk k a h1 h2 p1, C, dx, vfs, p2, p3, p4, p5.cut T hco⟩
 | gone => exact g2
end
theorem ss_retF {f : DS -> M D} (h : PD X G e f) : SS X G (.Return (some e) pos) (sRetF f) := by
 obtain ⟨t, p, h⟩ := h
 refine ⟨_, ps_ret p, fun A δ μ O α σ H Dn E k => ?_⟩
 unfold sRetF at k
 by_cases hc : (μ.take A.α.length).all (closedO A.α.length) = true
 ·rw [if_pos hc] at k
  obtain ⟨O', hO'⟩ : ∃ O' : List Addr, ∀ l, l ∈ O' ↔ l ∈ O /\ ∀ k : Nat, A.α.length <= k -> α[k]? ≠ some (some l) := by
   refine ⟨O.filter fun l => decide ((some l) ∉ α.drop A.α.length), fun l => ?_⟩
   rw [List.mem_filter, decide_eq_true_eq]
   refine and_congr Iff.rfl ⟨fun hn k hk he => hn (List.mem_iff_getElem?.mpr ⟨k - A.α.length, by rw [List.getElem?_drop, show A.α.length + (k - A.α.length) = k by omega]; exact he⟩), fun hn hm => ?_⟩
   obtain ⟨j, hj⟩ := List.mem_iff_getElem?.mp hm
   rw [List.getElem?_drop] at hj
   exact hn _ (by omega) hj
  have hs : ∀ l ∈ O', l ∈ O := fun l hl => ((hO' l).mp hl).1
  refine h (viewL A.α.length μ δ) O' σ H _ (E.viewL hs fun k a xs ha hk _ hm => ((hO' a).mp hm).2 k hk ha) (a0h (b1u E.sr (a5s (a2l k) fun x μ h => Er.go E.st h)) fun d z v H' s r => ?_)
  have E' := E.same s
  have hlt : ∀ (k : Nat) (a : Addr), k < A.α.length -> α[k]? = some (some a) -> a ∈ O -> a ∈ O' := fun k a hk ha ho => (hO' a).mpr ⟨ho, fun j hj hz => by
   have := E.sr.nd k j a ha hz
   omega⟩
  refine z v O' (α.take A.α.length) H' (E'.sr.cut hs (fun l hl => (hO' l).mpr ⟨E.sr.sub l hl, fun k _ hz => ?_⟩) hlt hc) ?_ (.d r)
  ·obtain ⟨ob, g1, g2⟩ := E.sr.at_ k l hz
   cases ob with
   | lst xs => exact g2.2.1 hl
   | dct es => exact g2.2.1 hl
   | ins c fs =>
    obtain ⟨_, C, dx, vfs, _, p3, _⟩ := g2
    rcases E.sr.oo l (E.sr.sub l hl) with ⟨xs, w⟩ | ⟨xs, w⟩ <;> (rw [p3] at w; cases w)
   | gone => exact g2
  ·have g := E'.st
   refine ⟨g.keep, fun k a hk => ?_, ?_, fun k b hk => ?_, fun l hl => g.ol l (hs l hl), g.live⟩
   ·rw [List.getElem?_take, if_pos (List.getElem?_eq_some_iff.mp hk).1]; exact g.ex k a hk
   ·rw [List.length_take]; have := g.len; omega
   ·rw [List.getElem?_take] at hk
    split at hk
    ·exact g.new k b hk
    ·cases hk
 ·rw [if_neg hc] at k; exact k.elim
end
end SL
namespace SL
open PySem PySem.Spec PyProof.Rows L2 DL
def spS (K : PySem.W.Frag) (mg : Str -> Option Value) (n : Nat) (F : List Val -> Sto -> R (Val × Sto)) : Sp := fun vs H Q _ => ∃ R0 O α μ xs, vs.length = n /\ SR K mg R0 O α H μ /\ VRs K O α H vs xs /\ okR (fun _ _ => False) (F xs μ) (fun r => ∀ v O' α' H', Go O α H O' α' H' -> SR K mg R0 O' α' H' r.2 -> VR K O' α' H' v r.1 -> Q v H')
structure DefS (P : Program) (w : World) (K : PySem.W.Frag) (mg : Str -> Option Value) (base : Heap) (k : Nat) (x : Str) (n : Nat) (F : List Val -> Sto -> R (Val × Sto)) : Prop where
 ex : ∃ (f : Addr) (fd : FuncData) (ps : List Str), FnOk P w K mg base CX0 k f fd ps (spS K mg n F) /\ mg x = some (.ref f) /\ PySem.W.keepIn K (.ref f) = true /\ Binds K fd ps []
section
variable {X : Cx} {G : XD -> Hp -> Prop} {e : Expr} {es : List Expr} {pos p : Pos}
end
def startS (n : Nat) (xs : List Val) : EnvS := xs.map some ++ List.replicate (n - xs.length) none
def endS (o : OutS) : R (Val × Sto) := match o with
 | .rt v μ => R.ret (v, μ)
 | .nx _ μ => R.ret (.d .none, μ)
 | _ => none
def runS (n : Nat) (g : SG) (xs : List Val) (μ : Sto) : R (Val × Sto) := (g μ.length (startS n xs) μ).thn endS
section
variable {P : Program} {w : World} {K : PySem.W.Frag} {mg : Str -> Option Value} {base : Heap}
theorem ev_startS {R0 O : List Addr} {α : List (Option Addr)} {H : Hp} {μ : Sto} {vs : List V} {xs : List Val} (N : List Str) (S : SR K mg R0 O α H μ) (r : VRs K O α H vs xs) : SEv K mg ⟨R0, O, α, H⟩ O α H (L2.start N vs) (startS N.length xs) μ := by
 refine ⟨S, Go.refl, ?_, fun i x h => ?_⟩
 ·unfold L2.start startS
  simp [r.length]
 ·unfold startS at h
  by_cases hi : i < xs.length
  ·rw [List.getElem?_append_left (by simpa using hi), List.getElem?_map] at h
   cases e : xs[i]? with
   | none => rw [e] at h; cases h
   | some y =>
    rw [e] at h
    cases h
    obtain ⟨v, hv, rv⟩ := r.get e
    refine ⟨v, ?_, rv⟩
    unfold L2.start
    have hi : i < vs.length := (List.getElem?_eq_some_iff.mp hv).1
    rw [List.getElem?_append_left (by simpa using hi), List.getElem?_map, hv]
    rfl
  ·rw [List.getElem?_append_right (by simpa using hi), List.getElem?_replicate] at h
   split at h <;> cases h
theorem fn_ofS {x qual : Str} {st : Stmt} {f : Addr} {fd : FuncData} {N ps : List Str} {k : Nat} {g : SG} (F0 : Fun K x qual st f fd) (S : FnScope N ps (defScope st))
  (hbody : ∀ (cdv : Value) (A : Around) (outer : List PySem.Env) (s : Shared) (H : Hp) (E : XK), Room k (A.deeper (envOfC qual (defScope st) s.heap.objs.size f cdv)) ->
   SSs (cxOf CX0 P w K mg base N qual (defScope st) f cdv A outer s H E).nox (fun _ _ => False) (defBody st) g) : FnOk P w K mg base CX0 (k + 1) f fd ps (spS K mg ps.length (runS N.length g)) := by
 refine F0.ok S (fun vs H Q E h => ?_) (fun cdv A outer s H vs Q E hr h => ?_)
 ·obtain ⟨R0, O, α, μ, xs, hl, _⟩ := h
  exact hl
 ·obtain ⟨R0, O, α, μ, xs, hl, S0, r, q⟩ := h
  obtain ⟨t, p, hB⟩ := hbody cdv A outer s H E hr
  refine ⟨t, p, hB ⟨R0, O, α, H⟩ (startS N.length xs) μ O α (L2.start N vs) H _ (ev_startS N S0 r) ?_⟩
  have q1 := a2l (show okR _ ((g μ.length (startS N.length xs) μ).thn endS) _ from q)
  rw [<- S0.len] at q1
  refine a2b (a5s q1 fun x μ h => h.elim) fun o z => ?_
  cases o with
  | rt v μ' => exact fun u O' α' H' S' G' r' => z u O' α' H' G' S' r'
  | nx δ μ' => exact fun O' α' σ' H' E' G' => z .non O' α' H' G' E'.sr (.d .non)
  | bk δ μ' => exact z.elim
  | ct δ μ' => exact z.elim
theorem defs_of {x qual : Str} {st : Stmt} {f : Addr} {fd : FuncData} {N ps : List Str} {k : Nat} {g : SG} (F0 : Fun K x qual st f fd) (S : FnScope N ps (defScope st)) (hm : mg x = some (.ref f)) (hb : Binds K fd ps [])
  (hbody : ∀ (cdv : Value) (A : Around) (outer : List PySem.Env) (s : Shared) (H : Hp) (E : XK), Room k (A.deeper (envOfC qual (defScope st) s.heap.objs.size f cdv)) ->
   SSs (cxOf CX0 P w K mg base N qual (defScope st) f cdv A outer s H E).nox (fun _ _ => False) (defBody st) g) : DefS P w K mg base (k + 1) x ps.length (runS N.length g) :=
 ⟨f, fd, ps, fn_ofS F0 S hbody, hm, F0.kp, hb⟩
def asD (F : List Val -> Sto -> R (Val × Sto)) : List D -> M D := fun ds => match F (ds.map Val.d) [] with
 | some (.ok (.d x, _)) => M.ret x
 | _ => none
theorem DefS.toD {k n : Nat} {x : Str} {F : List Val -> Sto -> R (Val × Sto)} (h : DefS P w K mg base k x n F) : Def P w K mg base k x n (asD F) := by
 obtain ⟨f, fd, ps, F1, hm, hk, hb⟩ := h.ex
 refine ⟨f, fd, ps, F1.imp fun vs H Q E q => ?_, hm, hk, hb⟩
 obtain ⟨O, ds, hl, oo, rs, q⟩ := q
 refine ⟨O, O, [], [], ds.map Val.d, hl, ⟨rfl, fun i j a h => (by simp at h), oo, fun _ h => h, fun k a h => (by simp at h)⟩, VRs.data rs, ?_⟩
 unfold asD at q
 match hF : F (ds.map Val.d) [], q with
 | some (.ok (.d x, μ')), q =>
  refine fun v O' α' H' T S r => q v H' (fun b o h => T.keep b o (fun k => by simp) h) ?_
  exact Rep.to (To.less S.sub) r.dinv
end
section
variable {δ δ' : EnvS} {μ μ' μ1 : Sto} {n : Nat} {f fi : EnvS -> Sto -> R (Val × Sto)} {fa : EnvS -> Sto -> R (List Val × Sto)} {fc : EnvS -> Sto -> R (Bool × Sto)} {g h : SG} {v : Val} {r : R OutS}
theorem es_var {i : Nat} (h : δ[i]? = some (some v)) : sVar i δ μ = R.ret (v, μ) := by unfold sVar; rw [h]
theorem a9f {f : DS -> M D} {d : D} (h : f (view δ) = M.ret d) : sPure f δ μ = R.ret (.d d, μ) := by unfold sPure; rw [h]; rfl
theorem b3g {f : DS -> M D} {d : D} (h : f (viewL 0 μ δ) = M.ret d) (hf : flatD d = true) : sLend f δ μ = R.ret (.d d, μ) := by
 unfold sLend; rw [h]; show (if flatD d = true then _ else _) = _; rw [if_pos hf]
theorem es_nil : sNil δ μ = R.ret ([], μ) := rfl
theorem b3h {xs : List Val} (h1 : f δ μ = R.ret (v, μ1)) (h2 : fa δ μ1 = R.ret (xs, μ')) : sCons f fa δ μ = R.ret (v :: xs, μ') := by unfold sCons; rw [h1]; show R.thn (fa δ μ1) _ = _; rw [h2]; rfl
theorem a9n (h1 : g n δ μ = R.ret (.nx δ' μ')) (h2 : h n δ' μ' = r) : sSeq g h n δ μ = r := by unfold sSeq; rw [h1]; exact h2
theorem es_seqR (h1 : g n δ μ = R.ret (.rt v μ')) : sSeq g h n δ μ = R.ret (.rt v μ') := by unfold sSeq; rw [h1]; rfl
theorem es_asg {i : Nat} (h : f δ μ = R.ret (v, μ')) : sAsg i f n δ μ = R.ret (.nx (δ.set i (some v)) μ') := by unfold sAsg; rw [h]; rfl
theorem es_setI {i k j : Nat} {m : Int} {xs : List Val} (h1 : f δ μ = R.ret (v, μ1)) (h0 : δ[i]? = some (some (.h k))) (h2 : fi δ μ1 = R.ret (.d (.int m), μ')) (h3 : μ'[k]? = some (.lst xs)) (h4 : ixN xs.length m = some j) : sSetI i fi f n δ μ = R.ret (.nx δ (μ'.set k (.lst (xs.set j v)))) := by
 unfold sSetI
 rw [h1]
 show (match δ[i]? with | some (some (.h k)) => _ | _ => _) = _
 rw [h0]
 show R.thn (fi δ μ1) _ = _
 rw [h2, a6u]
 dsimp only
 rw [h3]
 dsimp only
 rw [h4]
theorem es_retF {f : DS -> M D} {d : D} (hc : (μ.take n).all (closedO n) = true) (h : f (viewL n μ δ) = M.ret d) : sRetF f n δ μ = R.ret (.rt (.d d) (μ.take n)) := by unfold sRetF; rw [if_pos hc, h]; rfl
theorem es_if {b : Bool} (h1 : fc δ μ = R.ret (b, μ1)) (h2 : (if b = true then g n δ μ1 else h n δ μ1) = r) : sIf fc g h n δ μ = r := by unfold sIf; rw [h1]; exact h2
theorem a9e {fb : DS -> M Bool} {b : Bool} (h : fb (viewL 0 μ δ) = M.ret b) : sTest fb δ μ = R.ret (b, μ) := by unfold sTest; rw [h]; rfl
theorem b1y {k : Nat} {xs : List Val} (h : g μ.length (startS k xs) μ = R.ret (.rt v μ')) : runS k g xs μ = R.ret (v, μ') := by unfold runS; rw [h]; rfl
end
end SL
namespace SL
open PySem PySem.Spec PyProof.Rows L2 DL
section
variable {K : PySem.W.Frag} {mg : Str -> Option Value} {R0 O O' : List Addr} {α α' : List (Option Addr)} {H H' : Hp} {μ μ' : Sto}
theorem SR.at_new (S : SR K mg R0 O α H μ) {l : Addr} : (α ++ [some l])[μ.length]? = some (some l) := by
 rw [<- S.len, List.getElem?_append_right (Nat.le_refl _), Nat.sub_self]; rfl
theorem VRs.atI {vs : List V} {xs : List Val} {i : Int} {x : Val} (r : VRs K O α H vs xs) (h : L2.atI xs i = some x) : ∃ v, L2.atI vs i = some v /\ VR K O α H v x := by
 unfold L2.atI at h ⊢
 rw [r.length]
 cases e : ixN xs.length i with
 | none => rw [e] at h; cases h
 | some j =>
  rw [e] at h
  exact r.get h
end
section
variable {X : Cx} {G : XD -> Hp -> Prop} {a b c e ix o : Expr} {es : List Expr} {pos pos' tpos apos cpos : Pos} {f fi fo : EnvS -> Sto -> R (Val × Sto)} {fa : EnvS -> Sto -> R (List Val × Sto)}
def sNewL' (fn : DS -> M (List D)) : EnvS -> Sto -> R (Val × Sto) := fun δ μ => (ofM (fn (viewL 0 μ δ)) μ).thn fun ds => if flatDs ds = true then R.ret (.h μ.length, μ ++ [.lst (ds.map Val.d)]) else none
theorem sx_newL' {fn : DS -> M (List D)} (he : PDN X G e fn) : SX X G e (sNewL' fn) := by
 obtain ⟨t, p, he⟩ := he
 refine ⟨t, p, fun A δ μ O α σ H Q E k => ?_⟩
 refine he (viewL 0 μ δ) A.R0 σ H _ (E.viewL E.sr.sub fun k a xs ha _ hx => ?_) (a0h (b1u E.sr (a2l k)) fun ds z l xs H1 s1 hl rx => ?_)
 ·obtain ⟨ob, h1, h2⟩ := E.sr.at_ k a ha
  rw [hx] at h1
  cases h1
  exact h2.2.1
 ·by_cases hf : flatDs ds = true
  ·rw [if_pos hf] at z
   have E1 := E.same s1
   exact z _ (l :: O) (α ++ [some l]) _ ((Go.same s1).trans (Go.newL hl)) (E1.sr.newL hl (VRs.data (α := α) (rx.flat hf))) (.h E.sr.at_new)
  ·rw [if_neg hf] at z; exact z.elim
def sLst (fa : EnvS -> Sto -> R (List Val × Sto)) : EnvS -> Sto -> R (Val × Sto) := fun δ μ => (fa δ μ).thn fun r => if small r.1.length = true then R.ret (.h r.2.length, r.2 ++ [.lst r.1]) else none
theorem sx_lst (h : SA X G es fa) : SX X G (.List es pos) (sLst fa) := by
 obtain ⟨_, t, p, h⟩ := h
 refine ⟨_, pe_lst p, fun A δ μ O α σ H Q E k => ?_⟩
 refine h A δ μ O α σ H _ E (a2b (a2l k) fun r z vs O1 α1 H1 T1 S1 rs => ?_)
 by_cases hz : small r.1.length = true
 ·rw [if_pos hz] at z
  exact ⟨by rw [rs.length]; exact a2a hz, fun p hp => z _ (p :: O1) (α1 ++ [some p]) _ (T1.trans (Go.newL hp)) (S1.newL hp rs) (.h S1.at_new)⟩
 ·rw [if_neg hz] at z; exact z.elim
def sIx (fo fi : EnvS -> Sto -> R (Val × Sto)) : EnvS -> Sto -> R (Val × Sto) := fun δ μ => (fo δ μ).thn fun r => (fi δ r.2).thn fun q => match q.1 with
 | .d (.int i) => match r.1 with
  | .h k => match q.2[k]? with
   | some (.lst xs) => match L2.atI xs i with
    | some x => R.ret (x, q.2)
    | none => none
   | _ => none
  | .t xs => match L2.atI xs i with
   | some x => R.ret (x, q.2)
   | none => none
  | .d (.tuple ds) => match L2.atI ds i with
   | some d => R.ret (.d d, q.2)
   | none => none
  | .d (.list ds) => match L2.atI ds i with
   | some d => R.ret (.d d, q.2)
   | none => none
  | _ => none
 | _ => none
theorem sx_ix (ha : SX X G a fo) (hb : SX X G b fi) (hs : PlainIx b) : SX X G (.Subscript a b pos) (sIx fo fi) := by
 obtain ⟨ta, pa, ha⟩ := ha
 obtain ⟨tb, pb, hb⟩ := hb
 refine ⟨_, pe_ix ix_seq pa pb hs, fun A δ μ O α σ H Q E k => ?_⟩
 refine ha A δ μ O α σ H _ E (a2b (a2l k) fun r z v O1 α1 H1 T1 S1 r1 => ?_)
 refine hb A δ r.2 O1 α1 σ H1 _ (E.go T1 S1) (a2b (a5s (a2l z) fun x μ h => Er.go T1 h) fun q y w O2 α2 H2 T2 S2 r2 => ?_)
 have T := T1.trans T2
 obtain ⟨q1, q2⟩ := q
 obtain ⟨p1, p2⟩ := r
 match q1, y, r2 with
 | .d (.int i), y, r2 =>
  have hw := Rep.int_inv r2.dinv
  subst hw
  match p1, y, r1 with
  | .h k, y, r1 =>
   obtain ⟨l, hl, rfl⟩ := r1.hinv
   have hl2 := T2.ex _ _ hl
   obtain ⟨ob, g1, g2⟩ := S2.at_ k l hl2
   dsimp only at y
   rw [g1] at y
   match ob, y, g2 with
   | .lst xs, y, g2 =>
    obtain ⟨_, _, vs, g3, g4⟩ := g2
    dsimp only at y
    cases hx : L2.atI xs i with
    | none => rw [hx] at y; exact y.elim
    | some x =>
     rw [hx] at y
     obtain ⟨u, hu, ru⟩ := g4.atI hx
     exact .inl ⟨l, vs, i, u, rfl, rfl, .inl (.inl g3), hu, y u O2 α2 H2 T S2 ru⟩
  | .t xs, y, r1 =>
   obtain ⟨p, vs, rfl, h1, rs⟩ := (r1.to (T2.to S1) T2.ex).tinv
   dsimp only at y
   cases hx : L2.atI xs i with
   | none => rw [hx] at y; exact y.elim
   | some x =>
    rw [hx] at y
    obtain ⟨u, hu, ru⟩ := rs.atI hx
    exact .inr (.inl ⟨p, vs, i, u, rfl, rfl, h1, hu, y u O2 α2 H2 T S2 ru⟩)
  | .d (.tuple ds), y, r1 =>
   have rx := (r1.to (T2.to S1) T2.ex).dinv
   dsimp only at y
   cases hx : L2.atI ds i with
   | none => rw [hx] at y; exact y.elim
   | some x =>
    rw [hx] at y
    obtain ⟨p, vs, rfl, h1, r3⟩ := rx.tup_inv
    obtain ⟨u, hu, ru⟩ := r3.atI hx
    exact .inr (.inl ⟨p, vs, i, u, rfl, rfl, h1, hu, y u O2 α2 H2 T S2 (.d ru)⟩)
  | .d (.list ds), y, r1 =>
   have rx := (r1.to (T2.to S1) T2.ex).dinv
   dsimp only at y
   cases hx : L2.atI ds i with
   | none => rw [hx] at y; exact y.elim
   | some x =>
    rw [hx] at y
    obtain ⟨p, vs, rfl, h1, r3⟩ := rx.lst_inv
    obtain ⟨u, hu, ru⟩ := r3.atI hx
    exact .inl ⟨p, vs, i, u, rfl, rfl, h1, hu, y u O2 α2 H2 T S2 (.d ru)⟩
end
end SL
namespace SL
open PySem PySem.Spec PyProof.Rows L2 DL
section
variable {X : Cx} {G : XD -> Hp -> Prop} {a b c e ix o : Expr} {es : List Expr} {pos pos' tpos apos cpos : Pos} {f fi fo : EnvS -> Sto -> R (Val × Sto)}
open Classical in
noncomputable def forT (i k : Nat) (xs : List Val) (g : EnvS -> Sto -> R OutS) : List Val -> EnvS -> Sto -> R OutS
 | [], δ, μ => if μ[k]? = some (.lst xs) then R.ret (.nx δ μ) else none
 | v :: vs, δ, μ => if μ[k]? = some (.lst xs) then (g (δ.set i (some v)) μ).thn fun o => match o with
   | .nx δ' μ' => forT i k xs g vs δ' μ'
   | .ct δ' μ' => forT i k xs g vs δ' μ'
   | .bk δ' μ' => R.ret (.nx δ' μ')
   | .rt v μ' => R.ret (.rt v μ') else none
def sSetX (fo fi f : EnvS -> Sto -> R (Val × Sto)) : SG := fun _ δ μ => (f δ μ).thn fun r => (fo δ r.2).thn fun p => match p.1 with
 | .h k => (fi δ p.2).thn fun q => match q.1, q.2[k]? with
  | .d (.int n), some (.lst xs) => match ixN xs.length n with
   | some j => R.ret (.nx δ (q.2.set k (.lst (xs.set j r.1))))
   | none => none
  | _, _ => none
 | _ => none
theorem b2i (ho : SX X G a fo) (hi : SX X G ix fi) (he : SX X G e f)
  (ha : ∀ v, assign (.Subscript a ix tpos) X.env v = (do
   let ov <- holding [v] (eval a X.env)
   let iv <- holding [v, ov] (eval ix X.env)
   standAt tpos
   holding [v, ov, iv] (setItem ov iv v)
   release [v, ov, iv] []) := by intro _; rfl)
  (hs : swapsWithSole [.Subscript a ix tpos] e pos.line X.env = pure false := by rfl) (hw : swappedStores [.Subscript a ix tpos] e X.env = pure none := by rfl)
  (h1 : (assignEach [.Subscript a ix tpos] X.env).map (·.2) = [assign (.Subscript a ix tpos) X.env] := by rfl) : SS X G (.Assign [.Subscript a ix tpos] e pos) (sSetX fo fi f) := by
 obtain ⟨t, p, he⟩ := he
 obtain ⟨u, q, hi⟩ := hi
 obtain ⟨w, pw, ho⟩ := ho
 refine ⟨_, ps_asg p (pg_sub pw q b2k ha) hs hw h1, fun A δ μ O α σ H Dn E k => ?_⟩
 refine he A δ μ O α σ H _ E (a2b (a5s (a2l k) fun x μ h => Er.go E.st h) fun r z v O1 α1 H1 T1 S1 r1 => ?_)
 have E1 := E.go T1 S1
 refine ho A δ r.2 O1 α1 σ H1 _ E1 (a2b (a5s (a2l z) fun x μ h => Er.go E1.st h) fun pp y ov O2 α2 H2 T2 S2 r2 => ?_)
 have E2 := E1.go T2 S2
 obtain ⟨pv, pμ⟩ := pp
 match pv, y, r2 with
 | .h kk, y, r2 =>
  obtain ⟨l, q3, rfl⟩ := r2.hinv
  refine hi A δ pμ O2 α2 σ H2 _ E2 (a2b (a5s (a2l y) fun x μ h => Er.go E2.st h) fun qq y kv O3 α3 H3 T3 S3 r3 => ?_)
  split at y
  ·rename_i n xs hq hk
   rw [hq] at r3
   have hkv := Rep.int_inv r3.dinv
   subst hkv
   have q3' := T3.ex _ _ q3
   obtain ⟨ob, g1, g2⟩ := S3.at_ kk l q3'
   rw [hk] at g1
   cases g1
   obtain ⟨g3, g4, vs, g5, g6⟩ := g2
   cases hj : ixN xs.length n with
   | none => rw [hj] at y; exact y.elim
   | some j =>
    rw [hj] at y
    refine ⟨l, vs, n, j, rfl, rfl, g5, by rw [g6.length]; exact hj, ?_⟩
    have r1' := (r1.to (T2.to S1) T2.ex).to (T3.to S2) T3.ex
    exact y O3 α3 σ _ ((E2.go T3 S3).go (Go.setL q3') (S3.setL q3' hk (g6.set r1' j))) (T1.trans (T2.trans (T3.trans (Go.setL q3'))))
  ·exact y.elim
theorem es_setX {fo fi f : EnvS -> Sto -> R (Val × Sto)} {n : Nat} {δ : EnvS} {μ μ1 μ2 μ3 : Sto} {v : Val} {k j : Nat} {i : Int} {xs : List Val} (h1 : f δ μ = R.ret (v, μ1)) (h2 : fo δ μ1 = R.ret (.h k, μ2)) (h3 : fi δ μ2 = R.ret (.d (.int i), μ3)) (h4 : μ3[k]? = some (.lst xs)) (h5 : ixN xs.length i = some j) : sSetX fo fi f n δ μ = R.ret (.nx δ (μ3.set k (.lst (xs.set j v)))) := by
 unfold sSetX
 rw [h1, a6u, h2, a6u]
 dsimp only
 rw [h3, a6u]
 dsimp only
 rw [h4]
 dsimp only
 rw [h5]
end
end SL
namespace SL
open PySem PySem.Spec PyProof.Rows L2 DL
section
variable {X : Cx} {G : XD -> Hp -> Prop} {pos : Pos}
def nD (K : PySem.W.Frag) (f : DS -> M (List D)) : TE := fun σ H Q => ∃ Hr δ O, Ev K Hr O H σ δ /\ ok (GS (fun _ _ => False) Hr) (f δ) (fun ds => ∀ l xs H1, Same H H1 -> H1 l = none -> Reps K O H1 xs ds -> Q (.ref l) (upd H1 l (.lst xs)))
theorem PDN.can {X : Cx} {e : Expr} {f : DS -> M (List D)} (h : PDN X (fun _ _ => False) e f) : PE X e (nD X.K f) := by
 obtain ⟨t, p, h⟩ := h
 intro pins s σ H Q I hw
 obtain ⟨Hr, δ, O, E, k⟩ := hw
 exact p pins s σ H Q I (h δ O σ H Q E k)
theorem ofM_thn {α β : Type} {g : XD -> Sto -> Prop} {r : M α} {h : α -> M β} {μ : Sto} {k : β -> Prop} (q : okR g (ofM (r.thn h) μ) k) : okR g (ofM r μ) (fun a => okR g (ofM (h a) μ) k) := by
 match r, q with
 | some (.ok a), q => exact q
 | some (.error x), q => exact q
def compN (f : DS -> M (List D)) : List D -> M (List (List D))
 | [] => M.ret []
 | d :: ds => (nX f [.vl d]).thn fun r => if flatDs r = true then (compN f ds).thn fun rest => M.ret (r :: rest) else none
def addRows (k : Nat) : List (List D) -> List Val -> Sto -> Sto
 | [], _, μ => μ
 | r :: rs, hs, μ => addRows k rs (hs ++ [Val.h μ.length]) ((μ ++ [Ob.lst (r.map Val.d)]).set k (Ob.lst (hs ++ [Val.h μ.length])))
def sCompN (fi : DS -> M (List D)) (f : DS -> M (List D)) : EnvS -> Sto -> R (Val × Sto) := fun δ μ => (ofM (fi (viewL 0 μ δ)) μ).thn fun ds => if small ds.length = true then (ofM (compN f ds) μ).thn fun rows => R.ret (.h μ.length, addRows μ.length rows [] (μ ++ [.lst []])) else none
theorem compN_run {wi : TI} {fi : DS -> M (List D)} {f : DS -> M (List D)} (hi : ∀ {Hr : Hp} (δ : DS) (O : List Addr) (σ : DL.St) (H : Hp) (R : It -> Hp -> Prop), Ev X.K Hr O H σ δ -> ok (GS G Hr) (fi δ) (fun ds => ∀ J H1, Same H H1 -> Yl X.K J O H1 ds -> R J H1) -> wi σ H R)
  (A : An) (δ : EnvS) (μ : Sto) (O : List Addr) (α : List (Option Addr)) (σ : L2.St) (H : Hp) (Q : VK) (E : SEv X.K X.mg A O α H σ δ μ) (k : okR (Er X.K X.mg G A.R0 O α H) (sCompN fi f δ μ) (fun r => ∀ v O' α' H', Go O α H O' α' H' -> SR X.K X.mg A.R0 O' α' H' r.2 -> VR X.K O' α' H' v r.1 -> Q v H')) :
  tCompG 1 [] wi (gD X.K (tgN 0)) (cD X.K dYes) (nD X.K f) σ H Q := by
 have hv := E.viewL (n := 0) (O' := A.R0) E.sr.sub fun k a xs ha _ hx => by
  obtain ⟨ob, h1, h2⟩ := E.sr.at_ k a ha
  rw [hx] at h1
  cases h1
  exact h2.2.1
 refine hi (viewL 0 μ δ) A.R0 σ H _ hv (a0h (b1u E.sr (a2l k)) fun ds z J H1 s1 Y => ?_)
 by_cases hsz : small ds.length = true
 case neg =>
  rw [if_neg hsz] at z
  exact z.elim
 rw [if_pos hsz] at z
 intro l hl
 have E1 := E.same s1
 have hv1 := hv.same s1
 have S0 := E1.sr.newL hl (VRs.nil (K := X.K) (O := O) (α := α) (H := H1))
 have z := a2l z
 refine ⟨fun i m τ xs H2 => m = ds.length - i /\ i <= ds.length /\ xs.length <= i /\ H2 l = some (.lst xs) /\ ∃ δc hs μ2 O2 α2, EC X.K A.R0 H1 l H2 τ δc /\ δc.length = 1 /\ SR X.K X.mg A.R0 O2 α2 H2 μ2 /\ Go O α H O2 α2 H2 /\ α2[μ.length]? = some (some l) /\ μ2[μ.length]? = some (.lst hs) /\
  okR (Er X.K X.mg G A.R0 O α H) (ofM (compN f (ds.drop i)) μ) (fun rows => ∀ v O' α' H', Go O α H O' α' H' -> SR X.K X.mg A.R0 O' α' H' (addRows μ.length rows hs μ2) -> VR X.K O' α' H' v (.h μ.length) -> Q v H'), ?_, ?_⟩
 ·refine ⟨_, rfl, Nat.zero_le _, Nat.le_refl _, a1i, _, [], _, _, _, slot_of (fr := []) hv1 1 hl, rfl, S0, (Go.same s1).trans (Go.newL hl), E.sr.at_new, by simp, ?_⟩
  exact a2b z fun rows q v O' α' H' T S r => q v O' α' H' T S r
 rintro i m τ xs H2 ⟨rfl, hi', hx, h2, δc, hs2, μ2, O2, α2, Ec, hδ, S2, T2, a2, m2, kc⟩
 have kp : Kp l H1 H2 := fun b o hb e => Ec.keep b o hb e
 refine ⟨h2, ?_⟩
 have T : To A.R0 (l :: A.R0) H1 H2 := kp.to hl
 by_cases hlt : i < ds.length
 ·right
  have hd : ds[i]? = some ds[i] := List.getElem?_eq_getElem hlt
  obtain ⟨go, yl⟩ := Y.step (l :: A.R0) H2 T i _ hd
  refine ⟨go, Nat.lt_of_le_of_lt hx (Nat.lt_of_lt_of_le hlt (a2a hsz)), fun y H3 hy => ?_⟩
  obtain ⟨s3, rx⟩ := yl y H3 hy
  rw [b0c hd] at kc
  obtain ⟨s0, rfl⟩ : ∃ s0, δc = [s0] := by
   match δc, hδ with
   | [s0], _ => exact ⟨s0, rfl⟩
  have kc := ofM_thn (show okR _ (ofM ((nX f [.vl ds[i]]).thn _) μ) _ from kc)
  refine ⟨_, _, _, _, [s0], [.vl ds[i]], ds[i], l :: A.R0, Ec.same s3, rx, rfl, fun τ' H4 E4 s4 => ?_⟩
  refine ⟨_, [.vl ds[i]], l :: A.R0, E4.ev, fun H5 s5 => ?_⟩
  dsimp only
  rw [if_pos rfl]
  have E5 := E4.same s5
  have s25 := (s3.trans s4).trans s5
  refine ⟨_, [.vl ds[i]], l :: A.R0, E5.ev, ?_⟩
  cases hf1 : f [.vl ds[i]] with
  | none =>
   have : nX f [.vl ds[i]] = none := by unfold nX; rw [hf1]; rfl
   rw [this] at kc
   exact kc.elim
  | some rr =>
   cases rr with
   | error y =>
    have : nX f [.vl ds[i]] = none := by unfold nX; rw [hf1]; rfl
    rw [this] at kc
    exact kc.elim
   | ok row =>
    have en : nX f [.vl ds[i]] = some (.ok row) := by unfold nX; rw [hf1]; rfl
    rw [en] at kc
    have kc : okR (Er X.K X.mg G A.R0 O α H) (ofM (if flatDs row = true then (compN f (ds.drop (i + 1))).thn fun rest => M.ret (row :: rest) else none) μ) _ := kc
    by_cases hf : flatDs row = true
    case neg =>
     rw [if_neg hf] at kc
     exact kc.elim
    rw [if_pos hf] at kc
    have kc := ofM_thn kc
    intro l' xs' H6 s6 hl' rs
    have h6 : H6 l = some (.lst xs) := s6 _ _ (s25 _ _ h2)
    have hne : l ≠ l' := fun z => by rw [z, hl'] at h6; cases h6
    have h7 : (upd H6 l' (.lst xs')) l = some (.lst xs) := by rw [upd_ne hne]; exact h6
    have S6 := S2.same (s25.trans s6)
    have rs' : VRs X.K O2 α2 H6 xs' (row.map Val.d) := VRs.data (rs.flat hf)
    have S7 := S6.newL hl' rs'
    have a7 : (α2 ++ [some l'])[μ.length]? = some (some l) := by
     rw [List.getElem?_append_left (List.getElem?_eq_some_iff.mp a2).1]
     exact a2
    have m7 : (μ2 ++ [Ob.lst (row.map Val.d)])[μ.length]? = some (.lst hs2) := by
     rw [List.getElem?_append_left (List.getElem?_eq_some_iff.mp m2).1]
     exact m2
    obtain ⟨ob, g1, g2⟩ := S7.at_ μ.length l a7
    rw [m7] at g1
    cases g1
    obtain ⟨g3, g4, vs, g5, g6⟩ := g2
    rw [h7] at g5
    cases g5
    have rn := g6.append (VRs.cons (VR.h (H := upd H6 l' (.lst xs')) S6.at_new) VRs.nil)
    refine ⟨h7, ds.length - (i + 1), by omega, rfl, hlt, by rw [List.length_append]; show xs.length + 1 <= i + 1; omega, a1i, [.vl ds[i]], _, _, _, _, EC.put ((E5.same s6).same (a1l hl')) h7, rfl, S7.setL a7 m7 rn, ((T2.trans (Go.same (s25.trans s6))).trans (Go.newL hl')).trans (Go.setL a7), a7, by rw [List.getElem?_set_self (by rw [List.length_append]; have := (List.getElem?_eq_some_iff.mp m2).1; omega)], ?_⟩
    exact a2b kc fun rest q v O' α' H' T S r => q v O' α' H' T S r
 ·left
  have e : i = ds.length := by omega
  subst e
  rw [List.drop_length] at kc
  exact ⟨Y.stop (l :: A.R0) H2 T, kc (.ref l) O2 α2 H2 T2 S2 (.h a2)⟩
theorem ss_compN {y : Str} {py spos : Pos} {iy : Nat} {cl : List (Str × Addr)} {x : Str} {elt iter tg : Expr} {scope : Scope} {fi : DS -> M (List D)} {f : DS -> M (List D)} (hc : X.calm = true)
  (hkind : scope.kind = .function) (hcell : ∀ y ∈ scope.names, y.2 ≠ .cell) (hclos : closureFor scope X.env = pure cl) (hsub : ∀ y c, cl.lookup y = some c -> X.env.cells.lookup y = some c)
  (hhas : ∀ y ∈ (relabel scope X.env).names, (y.2 = .cell \/ y.2 = .free) -> ∃ c, cl.lookup y.1 = some c) (hnames : ∀ y ∈ scope.names, y.2 = .local -> scope.names.lookup y.1 = some .local)
  (hi : PDI X G tg iter fi) (hg : ∀ C s3 H3 fp, PDG (compCxG X scope cl [] [x] C s3 H3 fp) tg (tgN 0)) (hcs : ∀ C s3 H3 fp, PDTs (compCxG X scope cl [] [x] C s3 H3 fp) [] dYes) (he : ∀ C s3 H3 fp, PDN (compCxG X scope cl [] [x] C s3 H3 fp) (fun _ _ => False) elt f) (hN : X.N.Nodup) (hiy : X.N[iy]? = some y) (hly : Loc X.env.scope y) (hs : ∀ x, foldedSetIterable iter X.env x = pure x := by intro _; rfl) (hsw : swapsWith (.ListComp elt [⟨tg, iter, [], 0⟩] scope pos) (some (.Name y py)) spos.line X.env = pure true := by rfl) (hfy : X.fn y = true \/ X.env.scope.names.lookup y = some .local := by first | exact .inl rfl | exact .inr rfl | assumption) :
  SS X G (.Assign [.Name y py] (.ListComp elt [⟨tg, iter, [], 0⟩] scope pos) spos) (sAsg iy (sCompN fi f)) := by
 obtain ⟨wi, pi, hi⟩ := hi
 refine ⟨_, ps_compG (iy := iy) (fr := []) (tn := [x]) (g := gD X.K (tgN 0)) (tc := cD X.K dYes) (te := nD X.K f) hc hkind hcell hclos hsub hhas (fun p hp => nomatch hp) hnames pi (fun C s3 H3 fp => (hg C s3 H3 fp).can) (fun C s3 H3 fp => (hcs C s3 H3 fp).can) (fun C s3 H3 fp => PDN.can (he C s3 H3 fp)) hs hsw hN hiy hly hfy, fun A δ μ O α σ H Dn E k => compN_run hi A δ μ O α σ H _ E (a2b (a5s (a2l k) fun x μ h => Er.go E.st h) fun r z v O1 α1 H1 T1 S1 r1 => z O1 α1 _ H1 ((E.go T1 S1).set r1) T1)⟩
open Classical in
noncomputable def forTI (k : Nat) (xs : List Val) (t : D -> EnvS -> Option EnvS) (g : EnvS -> Sto -> R OutS) : List D -> EnvS -> Sto -> R OutS
 | [], δ, μ => if μ[k]? = some (.lst xs) then R.ret (.nx δ μ) else none
 | d :: ds, δ, μ => if μ[k]? = some (.lst xs) then (match t d δ with
  | none => none
  | some δ1 => (g δ1 μ).thn fun o => match o with
   | .nx δ' μ' => forTI k xs t g ds δ' μ'
   | .ct δ' μ' => forTI k xs t g ds δ' μ'
   | .bk δ' μ' => R.ret (.nx δ' μ')
   | .rt v μ' => R.ret (.rt v μ')) else none
variable {f : EnvS -> Sto -> R (Val × Sto)}
theorem es_compN {fi : DS -> M (List D)} {fn : DS -> M (List D)} {δ : EnvS} {μ : Sto} {ds : List D} {rows : List (List D)} (h1 : fi (viewL 0 μ δ) = M.ret ds) (hz : small ds.length = true) (h2 : compN fn ds = M.ret rows) : sCompN fi fn δ μ = R.ret (.h μ.length, addRows μ.length rows [] (μ ++ [.lst []])) := by
 unfold sCompN
 rw [h1]
 show (if small ds.length = true then _ else _) = _
 rw [if_pos hz, h2]
 rfl
end
end SL
namespace DL
open PySem PySem.Spec PyProof.Rows L2
section
variable {X : Cx} {G : XD -> Hp -> Prop} {e : Expr} {f : DS -> M D} {pos p2 : Pos} {lo hi : Option Expr} {fl fh : DS -> M (Option Int)}
def nCut (f : DS -> M D) (fl fh : DS -> M (Option Int)) : DS -> M (List D) := fun δ => (f δ).thn fun x => (fl δ).thn fun l => (fh δ).thn fun u => match x with
 | .list ds => M.ret (cutD ds l u)
 | _ => none
theorem pdn_cut (he : PD X G e f) (hl : PDO X G lo fl) (hh : PDO X G hi fh) : PDN X G (.Subscript e (.Slice lo hi none p2) pos) (nCut f fl fh) := by
 obtain ⟨t, p, he⟩ := he
 obtain ⟨tl, pl, hl⟩ := hl
 obtain ⟨th, ph, hh⟩ := hh
 refine ⟨_, pe_slice sl_list p pl ph, fun δ O σ H Q E k => ?_⟩
 refine he δ O σ H _ E (a0h (a0k k) fun d z v H1 s1 r => ?_)
 refine hl δ O σ H1 _ (E.same s1) (a0h (a0k z) fun l z H2 s2 => ?_)
 refine hh δ O σ H2 _ (E.same (s1.trans s2)) (a0h (a0k z) fun u z H3 s3 => ?_)
 have r3 := (r.same s2).same s3
 have s03 := (s1.trans s2).trans s3
 cases d with
 | list ds =>
  obtain ⟨a, xs, rfl, h1, rs⟩ := r3.lst_inv
  exact ⟨a, xs, rfl, h1, fun p hp => z p _ H3 s03 hp (rs.cut l u)⟩
 | _ => exact z.elim
end
end DL
namespace CT
open PySem PySem.Spec L2 DL SL
noncomputable def a8z : DS -> M Out := (gRet (dAndV (dIs "int" (dVar 0)) (dNotV (dIs "bool" (dVar 0)))))
noncomputable def a5j : List D -> M D := run 1 a8z
noncomputable def a6y : DS -> M Out := (gRet (d2 oMul (d2 oSub (dVar 1) (dCB oLen (dCons (dVar 0) dNil))) (d2 oSub (dVar 1) (dCB oLen (dCons (dVar 0) dNil)))))
noncomputable def a1u : List D -> M D := run 2 a6y
noncomputable def a5w : DS -> M Out := (gSeq (gIf (dB (d2 oInS (d2 oIx (dVar 0) (d1 oNeg (dC (.int 1)))) (dC (.str ".!?")))) (gRet (dC (.int 0))) gNext)
  (gRet (dIf (dB (d2 oInS (d2 oIx (dVar 0) (d1 oNeg (dC (.int 1)))) (dC (.str ",;:")))) (dC (.int 50)) (dC (.int 200)))))
noncomputable def a1w : List D -> M D := run 1 a5w
noncomputable def a4w : DS -> M Out := (gRet (d2 oAdd (dCB oSumG (dCons (dCompG 1 [1] (tgN 0) (dAny (dVar 0)) dYes (dCall (fun ds => noX (a1u ds)) (dCons (dVar 0) (dCons (dVar 1) dNil)))) dNil)) (dCB oSumG (dCons (dCompG 1 [] (tgN 0) (dAny (dCutS (dVar 0) dNoPart (dPart (d1 oNeg (dC (.int 1)))))) dYes (dCall (fun ds => noX (a1w ds)) (dCons (dVar 0) dNil))) dNil))))
noncomputable def a4a : List D -> M D := run 2 a4w
noncomputable def a6a : DS -> M Out := (gSeq (gAsg (dMeth sSplit (dVar 0) (dCons (dC (.str " ")) dNil)) (tgN 2))
  (gSeq (gNewL 3 (nLst dNil))
  (gSeq (gForI (dRng rng1 (dCons (dCB oLen (dCons (dVar 2) dNil)) dNil)) (tgN 4) (gSeq (gAsg (d2 oIx (dVar 2) (dVar 4)) (tgN 5))
  (gSeq (gAsg (d2 oAdd (dVar 4) (dC (.int 1))) (tgN 6))
  (gSeq (gWhile (dAnd (dB (d2 oLeD (dCB oLen (dCons (dVar 5) dNil)) (dVar 1))) (dB (d2 oLt (dVar 6) (dCB oLen (dCons (dVar 2) dNil))))) (gSeq (gApp 3 (dTup (dCons (dVar 4) (dCons (dVar 6) (dCons (d2 oAdd (dCall (fun ds => noX (a1u ds)) (dCons (dVar 5) (dCons (dVar 1) dNil))) (dCall (fun ds => noX (a1w ds)) (dCons (dVar 5) dNil))) dNil)))))
  (gSeq (gAsg (d2 oAdd (d2 oAdd (dVar 5) (dC (.str " "))) (d2 oIx (dVar 2) (dVar 6))) (tgN 5))
  (gAsg (d2 (oII (fun i j => i + j)) (dVar 6) (dC (.int 1))) (tgN 6)))))
  (gIf (dB (d2 oLeD (dCB oLen (dCons (dVar 5) dNil)) (dVar 1))) (gApp 3 (dTup (dCons (dVar 4) (dCons (dVar 6) (dCons (dCall (fun ds => noX (a1u ds)) (dCons (dVar 5) (dCons (dVar 1) dNil))) dNil))))) gNext)))))
  (gRetO 3))))
noncomputable def a1v : List D -> M D := run 7 a6a
noncomputable def a6i : DS -> M Out := (gSeqN (gNewL 2 (nRep (nLst (dCons (dC .none) dNil)) (dCB oLen (dCons (dVar 1) dNil))))
  (gSeqN (gForI (dAny (dVar 0)) (tgTup 3 (tgCons (tgN 3) (tgCons (tgN 4) (tgCons (tgN 5) tgNil)))) (gIf (dLendT 2 (dAnd (dB (d2 oIsNot (d2 oIx (dVar 1) (dVar 3)) (dC .none))) (dOr (dB (d2 oIs (d2 oIx (dVar 2) (dVar 4)) (dC .none))) (dB (d2 oLt (d2 oAdd (d2 oIx (dVar 1) (dVar 3)) (dVar 5)) (d2 oIx (dVar 2) (dVar 4))))))) (gSetO 2 (dVar 4) (d2 oAdd (d2 oIx (dVar 1) (dVar 3)) (dVar 5))) gNext))
  (gRetF 2)))
noncomputable def a3d : List D -> M D := run 6 a6i
noncomputable def a3u : DS -> M Out := (gSeq (gAsg (dCall (fun ds => noX (a1v ds)) (dCons (dVar 0) (dCons (dVar 1) dNil))) (tgN 3))
  (gSeq (gNewL 4 (nLst (dCons (d2 oAdd (dLst (dCons (dC (.int 0)) dNil)) (dOfN (nRep (nLst (dCons (dC .none) dNil)) (dCB oLen (dCons (dMeth sSplit (dVar 0) (dCons (dC (.str " ")) dNil)) dNil))))) dNil)))
  (gSeq (gForI (dRng rng1 (dCons (dVar 2) dNil)) (tgN 5) (gApp 4 (dFl (dFrzF 4 (dCall (fun ds => noX (a3d ds)) (dCons (dVar 3) (dCons (d2 oIx (dVar 4) (dVar 5)) dNil)))))))
  (gRetO 4))))
noncomputable def a1x : List D -> M D := run 6 a3u
noncomputable def a3r : DS -> M Out := (gRet (dMinD (dCons (dCompG 1 [] (tgN 0) (dAny (dCutS (dVar 0) (dPart (dC (.int 1))) dNoPart)) (dB (d2 oIsNot (d2 oIx (dVar 0) (d1 oNeg (dC (.int 1)))) (dC .none))) (d2 oIx (dVar 0) (d1 oNeg (dC (.int 1))))) dNil) (dC .none)))
noncomputable def a1p : List D -> M D := run 1 a3r
noncomputable def a5l : DS -> M Out := (gSeq (gAsg (dCompG 3 [2, 3, 1] (tgTup 3 (tgCons (tgN 0) (tgCons (tgN 1) (tgCons (tgN 2) tgNil)))) (dAny (dVar 0)) (dAnd (dB (d2 oEq (dVar 1) (dVar 3))) (dAnd (dB (d2 oIsNot (d2 oIx (dVar 5) (dVar 0)) (dC .none))) (dB (d2 oEq (d2 oAdd (d2 oIx (dVar 5) (dVar 0)) (dVar 2)) (dVar 4))))) (dVar 0)) (tgN 4))
  (gRet (d2 oIx (dVar 4) (dC (.int 0)))))
noncomputable def a3o : List D -> M D := run 5 a5l
noncomputable def a6x : DS -> M Out := (gSeq (gAsg (dMeth sSplit (dVar 0) (dCons (dC (.str " ")) dNil)) (tgN 4))
  (gSeq (gAsg (dCB oLen (dCons (dVar 4) dNil)) (tgN 5))
  (gSeq (gNewL 6 (nLst dNil))
  (gSeq (gWhile (dB (d2 oGt (dVar 3) (dC (.int 0)))) (gSeq (gAsg (dCall (fun ds => noX (a3o ds)) (dCons (dVar 1) (dCons (d2 oIx (dVar 2) (d2 oSub (dVar 3) (dC (.int 1)))) (dCons (dVar 5) (dCons (d2 oIx (d2 oIx (dVar 2) (dVar 3)) (dVar 5)) dNil))))) (tgN 7))
  (gSeq (gApp 6 (dMeth sJoin (dC (.str " ")) (dCons (dCutS (dVar 4) (dPart (dVar 7)) (dPart (dVar 5))) dNil)))
  (gSeq (gAsg (dVar 7) (tgN 5))
  (gAsg (d2 (oII (fun i j => i - j)) (dVar 3) (dC (.int 1))) (tgN 3))))))
  (gFrz 6 (gRet (dCB oListRev (dCons (dVar 6) dNil))))))))
noncomputable def a6f : List D -> M D := run 8 a6x
noncomputable def a8m : DS -> M Out := (gSeq (gAsg (dCall (fun ds => noX (a1x ds)) (dCons (dVar 0) (dCons (dVar 1) (dCons (dVar 2) dNil)))) (tgN 3))
  (gSeq (gAsg (dCall (fun ds => noX (a1p ds)) (dCons (dVar 3) dNil)) (tgN 4))
  (gSeq (gIf (dB (d2 oIs (dVar 4) (dC .none))) (gRaise "NoParting" (dCons (dC (.str "these words can't be parted so")) dNil)) gNext)
  (gSeq (gAsg (dCompG 1 [] (tgN 0) (dAny (dVar 3)) dYes (d2 oIx (dVar 0) (d1 oNeg (dC (.int 1))))) (tgN 5))
  (gRet (dCall (fun ds => noX (a6f ds)) (dCons (dVar 0) (dCons (dCall (fun ds => noX (a1v ds)) (dCons (dVar 0) (dCons (dVar 1) dNil))) (dCons (dVar 3) (dCons (dIndex (dVar 5) (dVar 4)) dNil))))))))))
noncomputable def a6o : List D -> M D := run 6 a8m
noncomputable def a3v : DS -> M Out := (gSeq (gIf (dOr (dNot (dB (dIs "list" (dVar 3)))) (dOr (dB (d2 oGt (dCB oLen (dCons (dVar 3) dNil)) (dVar 2))) (dNot (dB (dCB oAll (dCons (dCompG 1 [] (tgN 0) (dAny (dVar 3)) dYes (dIs "str" (dVar 0))) dNil)))))) (gRet (dC (.bool false))) gNext)
  (gRet (dAndV (d2 oEq (dMeth sJoin (dC (.str " ")) (dCons (dVar 3) dNil)) (dVar 0)) (dCB oAll (dCons (dCompG 1 [1] (tgN 0) (dAny (dVar 3)) dYes (d2 oLeD (dCB oLen (dCons (dVar 0) dNil)) (dVar 1))) dNil)))))
noncomputable def a3e : List D -> M D := run 4 a3v
noncomputable def a6j : DS -> M Out := (gSeq (gIf (dOr (dNot (dB (dIs "list" (dVar 1)))) (dB (d2 oNe (dCB oLen (dCons (dVar 1) dNil)) (d2 oAdd (dVar 0) (dC (.int 1)))))) (gRet (dC (.bool false))) gNext)
  (gRet (dCB oAll (dCons (dCompG 1 [] (tgN 0) (dAny (dVar 1)) dYes (dOrV (d2 oIs (dVar 0) (dC .none)) (dCall (fun ds => noX (a5j ds)) (dCons (dVar 0) dNil)))) dNil))))
noncomputable def a4r : List D -> M D := run 2 a6j
noncomputable def a5f : DS -> M Out := (gSeq (gIf (dOr (dNot (dB (dIs "list" (dVar 2)))) (dB (d2 oNe (dCB oLen (dCons (dVar 2) dNil)) (d2 oAdd (dVar 1) (dC (.int 1)))))) (gRet (dC (.bool false))) gNext)
  (gRet (dAndV (dCB oAll (dCons (dCompG 1 [0] (tgN 0) (dAny (dVar 2)) dYes (dCall (fun ds => noX (a4r ds)) (dCons (dVar 1) (dCons (dVar 0) dNil)))) dNil)) (d2 oEq (d2 oIx (d2 oIx (dVar 2) (dC (.int 0))) (dC (.int 0))) (dC (.int 0))))))
noncomputable def a4q : List D -> M D := run 3 a5f
noncomputable def a4o : DS -> M Out := (gSeq (gIf (dB (d2 oIs (d2 oIx (dVar 1) (d2 oIx (dVar 0) (dC (.int 0)))) (dC .none))) (gRet (dC (.bool true))) gNext)
  (gRet (dAndV (d2 oIsNot (d2 oIx (dVar 2) (d2 oIx (dVar 0) (dC (.int 1)))) (dC .none)) (d2 oLeD (d2 oIx (dVar 2) (d2 oIx (dVar 0) (dC (.int 1)))) (d2 oAdd (d2 oIx (dVar 1) (d2 oIx (dVar 0) (dC (.int 0)))) (d2 oIx (dVar 0) (dC (.int 2))))))))
noncomputable def a4b : List D -> M D := run 3 a4o
noncomputable def a2p : DS -> M Out := (gIf (dNot (dB (dCall (fun ds => noX (a4b ds)) (dCons (dVar 5) (dCons (dVar 6) (dCons (dVar 7) dNil)))))) (gRet (dC (.bool false))) gNext)
noncomputable def a2c : DS -> M Out := (gForI (dZip (dCons (dVar 4) (dCons (dCutS (dVar 4) (dPart (dC (.int 1))) dNoPart) dNil))) (tgTup 2 (tgCons (tgN 6) (tgCons (tgN 7) tgNil))) a2p)
noncomputable def a2v : DS -> M Out := (gSeq (gIf (dOr (dNot (dB (dCall (fun ds => noX (a3e ds)) (dCons (dVar 0) (dCons (dVar 1) (dCons (dVar 2) (dCons (dVar 3) dNil))))))) (dNot (dB (dCall (fun ds => noX (a4q ds)) (dCons (dCB oLen (dCons (dMeth sSplit (dVar 0) (dCons (dC (.str " ")) dNil)) dNil)) (dCons (dVar 2) (dCons (dVar 4) dNil))))))) (gRet (dC (.bool false))) gNext)
  (gSeq (gForI (dAny (dCall (fun ds => noX (a1v ds)) (dCons (dVar 0) (dCons (dVar 1) dNil)))) (tgN 5) a2c)
  (gRet (d2 oEq (dCall (fun ds => noX (a1p ds)) (dCons (dVar 4) dNil)) (dCall (fun ds => noX (a4a ds)) (dCons (dVar 3) (dCons (dVar 1) dNil)))))))
noncomputable def a2f : List D -> M D := run 8 a2v
end CT
open PySem PySem.Spec L2 DL
local macro_rules | `(tactic| walk_at "call") => `(tactic| fail)
local macro_rules | `(tactic| walk_at "cond") => `(tactic| first | rfl | omega | (simp only [Bool.or_eq_false_iff, Bool.and_eq_false_iff, Bool.or_eq_true, Bool.and_eq_true, Bool.not_eq_false', Bool.not_eq_true', decide_eq_false_iff_not, decide_eq_true_eq, Bool.not_true, Bool.not_false, Bool.false_or, Bool.true_and, Bool.false_and, Bool.true_or, isD, tyD]; omega) | (simp [isD, tyD]; done) | (simp [isD, tyD]; omega))
local macro_rules | `(tactic| walk_at "side") => `(tactic| first | assumption | omega | decide | exact bMul_l (by omega) (by omega) | exact bMul_r (by omega) (by omega) | exact a4e (by omega) (by omega) | rfl)
local macro_rules | `(tactic| walk_at "ev1") => `(tactic| (first
 | with_reducible assumption | with_reducible exact ev_c | exact a0a rfl | with_reducible exact a0f | with_reducible exact ev_next | with_reducible exact a1n
 | with_reducible apply ev_2 | with_reducible apply a0d | with_reducible apply ev_1
 | with_reducible exact a5e | with_reducible exact o_sub | with_reducible exact o_lt | with_reducible exact o_ltD | with_reducible exact o_le | with_reducible exact o_gt | with_reducible exact o_ge | with_reducible exact o_eq | with_reducible exact o_ne
 | (with_reducible refine o_mul ?_; walk_at "side") | (with_reducible refine a9t ?_; walk_at "side") | (with_reducible refine a6w ?_; walk_at "side")
 | ((with_reducible show oIx _ (PyData.int (OfNat.ofNat _)) = some _); exact rfl) | with_reducible exact o_pow6 | with_reducible exact o_pow9 | with_reducible exact o_pow15 | with_reducible exact o_pow18 | with_reducible exact o_pow4 | with_reducible exact o_pow7 | with_reducible exact o_pow8 | with_reducible exact o_pow10 | with_reducible exact o_pow12 | with_reducible exact o_pow19 | with_reducible exact o_pow20 | with_reducible exact o_pow24 | ((with_reducible show tgTup _ _ _ _ = some _); exact rfl) | ((with_reducible show oNeg _ = some _); exact rfl)
 | ((with_reducible show small _ = true); exact rfl) | with_reducible apply a1s | with_reducible exact o_max | with_reducible exact o_min | with_reducible exact a4n | with_reducible exact o_lenT | with_reducible exact o_intI | with_reducible exact o_intB
 | with_reducible apply a0q | walk_at "call"
 | (with_reducible refine a2n ?_ ?_ ?_) | with_reducible apply a1c | with_reducible apply ev_seqN | (with_reducible apply a0o; with_reducible apply a1a) | with_reducible apply a0p | (with_reducible apply a1h; with_reducible apply a0p)
 | with_reducible apply a1a | (with_reducible apply a0o; with_reducible apply ev_asgT) | with_reducible apply ev_par | (with_reducible apply a0o; with_reducible apply ev_par)
 | with_reducible apply ev_b | with_reducible apply a2e | with_reducible apply ev_notV | with_reducible apply a5t
 | with_reducible apply ev_tup | with_reducible apply a2q | with_reducible apply ev_cut | with_reducible apply a1r
 | with_reducible apply a7t | with_reducible apply a4z
 | with_reducible apply b1i | with_reducible apply ev_and | with_reducible apply ev_orV | with_reducible apply ev_andV | with_reducible apply ev_if
 | ((with_reducible show (_ : Bool) = false); walk_at "cond")
 | ((with_reducible show (if _ = true then _ else _) = _); first | (refine ite_F rfl ?_) | (refine a4v rfl ?_) | (refine ite_t (by omega) ?_) | (refine ite_f (by omega) ?_) | (refine ite_F (by walk_at "cond") ?_) | (refine a4v (by walk_at "cond") ?_))))
local macro_rules | `(tactic| walk_at "ev") => `(tactic| repeat (walk_at "ev1"))
open PySem PySem.Spec L2 DL NumText
namespace TX
def S (l : List Nat) : Str := ⟨l.toArray⟩
theorem L_S (l : List Nat) : (S l).cps.toList = l := by unfold S; simp
theorem S_L (x : Str) : S x.cps.toList = x := by unfold S; simp
theorem S_app (a b : List Nat) : S a ++ S b = S (a ++ b) := by
 have : (S a ++ S b).cps = (S (a ++ b)).cps := by
  show a.toArray ++ b.toArray = (a ++ b).toArray
  simp
 cases h1 : S a ++ S b
 cases h2 : S (a ++ b)
 rw [h1, h2] at this
 cases this
 rfl
theorem a9k (l : List Nat) : (S l).length = l.length := by unfold S; show l.toArray.size = _; simp
theorem S_inj {a b : List Nat} (h : S a = S b) : a = b := by rw [<- L_S a, h, L_S]
decreasing_by omega
end TX
namespace DL
open PySem PySem.Spec L2
section
variable {δ : DS} {f g k : DS -> M D} {fa : DS -> M (List D)} {x d : D}
theorem a4y {h : Str -> List D -> Option D} {z : Str} {xs : List D} (h1 : f δ = M.ret (.str z)) (h2 : fa δ = M.ret xs) (h3 : h z xs = some d) : dMeth h f fa δ = M.ret d := by
 unfold dMeth
 rw [h1]
 show (fa δ).thn _ = _
 rw [h2]
 show M.lift (h z xs) = _
 rw [h3]
 rfl
theorem a2w {fl fh : DS -> M (Option Int)} {lo hi : Option Int} (h1 : f δ = M.ret x) (h2 : fl δ = M.ret lo) (h3 : fh δ = M.ret hi) (h4 : oCutS lo hi x = some d) : dCutS f fl fh δ = M.ret d := by
 unfold dCutS; rw [h1, a0s, h2, a0s, h3, a0s, h4]; rfl
theorem o_leD {i j : Int} : oLeD (.int i) (.int j) = some (.bool (decide (i <= j))) := rfl
theorem o_eqS {a b : Str} (ha : PyData.strOk a = true) (hb : PyData.strOk b = true) : oEq (.str a) (.str b) = some (.bool (a == b)) := by
 unfold oEq flat
 simp [PyData.canLay0, PyData.depth, PyData.eqv, ha, hb]
end
end DL
namespace TX
open PySem PySem.Spec L2 DL NumText
theorem S_beq (a b : List Nat) : (S a == S b) = decide (a = b) := by
 by_cases h : a = b
 ·subst h
  rw [decide_eq_true rfl]
  exact beq_self_eq_true _
 ·rw [decide_eq_false h]
  refine beq_eq_false_iff_ne.mpr fun e => h (S_inj e)
def isF (c : Nat) : Bool := decide (48 <= c /\ c <= 57)
def isFig (l : List Nat) : Bool := !decide (l = []) && l.all isF
def hasF (k : Nat) (l : List Nat) : Bool := decide (l.length = k) && isFig l
def hrs (l : List Nat) : Bool := hasF 2 l || (decide (3 <= l.length /\ l.length <= 20) && (isFig l && !decide (l.head? = some 48)))
def pre (c : Nat) (l : List Nat) : List Nat := l.takeWhile (· != c)
def post (c : Nat) (l : List Nat) : List Nat := (l.dropWhile (· != c)).drop 1
theorem pre_app {c : Nat} {u v : List Nat} (h : c ∉ u) : pre c (u ++ c :: v) = u /\ post c (u ++ c :: v) = v := by
 induction u with
 | nil =>
  unfold pre post
  rw [List.nil_append, List.takeWhile_cons_of_neg (by simp), List.dropWhile_cons_of_neg (by simp)]
  exact ⟨rfl, rfl⟩
 | cons a r ih =>
  have ha : a ≠ c := fun e => h (e ▸ List.mem_cons_self)
  have ih := ih (fun e => h (List.mem_cons_of_mem _ e))
  unfold pre post at ih ⊢
  rw [List.cons_append, List.takeWhile_cons_of_pos (by simpa using ha), List.dropWhile_cons_of_pos (by simpa using ha), ih.1, ih.2]
  exact ⟨rfl, rfl⟩
theorem ix_sign {l : List Nat} {i : Int} {c : Nat} (hl : l.length <= 1000) (h0 : 0 <= i) (h : l[i.toNat]? = some c) : oIx (.str (S l)) (.int i) = some (.str ⟨#[c]⟩) := by
 show (if small (S l).length = true then _ else _) = _
 rw [if_pos (by rw [a9k]; exact a0l (by omega)), L_S]
 have e := L2.atI_nat h
 rw [Int.toNat_of_nonneg h0] at e
 rw [e]
 rfl
end TX
open PySem PySem.Spec L2 DL CT TX NumText
namespace TX
theorem ok_S {l : List Nat} (h : ∀ c ∈ l, c < 1114112) : PyData.strOk (S l) = true := by
 unfold PyData.strOk S
 rw [<- Array.all_toList]
 simpa using h
theorem o_eqT {a b : List Nat} (ha : ∀ c ∈ a, c < 1114112) (hb : ∀ c ∈ b, c < 1114112) : oEq (.str (S a)) (.str (S b)) = some (.bool (decide (a = b))) := by rw [o_eqS (ok_S ha) (ok_S hb), S_beq]
end TX
open PySem PySem.Spec L2 DL TX NumText
namespace TX
def cLo (n : Nat) : Option Int -> Nat
 | none => 0
 | some i => (max 0 (min (if i < 0 then i + n else i) n)).toNat
def cHi (n : Nat) : Option Int -> Nat
 | none => n
 | some i => (max 0 (min (if i < 0 then i + n else i) n)).toNat
theorem pick_take (l : List Nat) (a : Nat) : ∀ c : Nat, ((List.range c).map (a + ·)).filterMap (l[·]?) = (l.drop a).take c := by
 intro c
 induction c with
 | zero => simp
 | succ c ih =>
  rw [List.range_succ, List.map_append, List.filterMap_append, ih, List.take_add_one, List.getElem?_drop]
  congr 1
theorem range_is (A B : Nat) : sliceRange (A : Int) (B : Int) 1 = (List.range (B - A)).map (A + ·) := by
 unfold sliceRange
 simp only [show (1 : Int) > 0 by decide, if_true]
 have ec : (if (A : Int) < (B : Int) then ((B : Int) - A + 1 - 1) / 1 else 0).toNat = B - A := by
  split <;> omega
 rw [ec]
 refine List.map_congr_left fun k _ => ?_
 omega
theorem b3l (n : Nat) (i : Int) : (if (1 : Int) > 0 then max 0 (min (if i < 0 then i + (n : Int) else i) n) else max (-1) (min (if i < 0 then i + (n : Int) else i) ((n : Int) - 1))) = (((max 0 (min (if i < 0 then i + (n : Int) else i) n)).toNat : Nat) : Int) := by
 rw [if_pos (by decide)]
 omega
theorem indices_is (n : Nat) (lo hi : Option Int) : Builtin.Str.strSliceIndices lo hi 1 n = (List.range (cHi n hi - cLo n lo)).map (cLo n lo + ·) := by
 rw [<- range_is]
 unfold Builtin.Str.strSliceIndices
 cases lo with
 | none => cases hi with
  | none => rfl
  | some j => exact congrArg (fun y => sliceRange 0 y 1) (b3l n j)
 | some i => cases hi with
  | none => exact congrArg (fun y => sliceRange y n 1) (b3l n i)
  | some j =>
   refine Eq.trans (congrArg (fun y => sliceRange y _ 1) (b3l n i)) ?_
   exact congrArg (fun y => sliceRange _ y 1) (b3l n j)
theorem slice_is (l : List Nat) (lo hi : Option Int) : Txt.slice (S l) lo hi = S ((l.drop (cLo l.length lo)).take (cHi l.length hi - cLo l.length lo)) := by
 have e := indices_is (S l).length lo hi
 unfold Txt.slice
 rw [e, a9k]
 by_cases hw : ((1 : Int) == 1 && ((List.range (cHi l.length hi - cLo l.length lo)).map (cLo l.length lo + ·)).length == l.length) = true
 ·rw [if_pos hw]
  have hh : cHi l.length hi <= l.length := by
   cases hi with
   | none => exact Nat.le_refl _
   | some i => show (max 0 (min _ (l.length : Int))).toNat <= _; omega
  have hz : cHi l.length hi - cLo l.length lo = l.length := by
   rw [List.length_map, List.length_range] at hw
   simpa using hw
  congr 1
  by_cases hl : l.length = 0
  ·have : l = [] := List.length_eq_zero_iff.mp hl
   subst this
   simp
  ·have : cLo l.length lo = 0 := by omega
   rw [hz, this, List.drop_zero, List.take_length]
 ·rw [if_neg hw]
  have : (fun x : Nat => (S l).cps[x]?) = fun x => l[x]? := by
   funext x
   unfold S
   simp
  rw [this, pick_take]
  rfl
theorem o_cut {l : List Nat} (hl : l.length <= 1000) (lo hi : Option Int) : oCutS lo hi (.str (S l)) = some (.str (S ((l.drop (cLo l.length lo)).take (cHi l.length hi - cLo l.length lo)))) := by
 show (if small (S l).length = true then _ else _) = _
 rw [a9k, if_pos (a0l (by omega)), slice_is]
theorem ix_back {u w : List Nat} {c : Nat} {j : Int} (hl : u.length + w.length <= 900) (hj : j = -((w.length + 1 : Nat) : Int)) : oIx (.str (S (u ++ c :: w))) (.int j) = some (.str (S [c])) := by
 show (if small (S (u ++ c :: w)).length = true then _ else _) = _
 have n : (u ++ c :: w).length = u.length + w.length + 1 := by rw [List.length_append, List.length_cons]; omega
 rw [a9k, if_pos (a0l (by omega)), L_S]
 have : L2.atI (u ++ c :: w) j = some c := by
  unfold L2.atI L2.ixN
  rw [if_neg (by omega), if_pos (by omega), n]
  show (u ++ c :: w)[(j + ((u.length + w.length + 1 : Nat) : Int)).toNat]? = _
  rw [show (j + ((u.length + w.length + 1 : Nat) : Int)).toNat = u.length by omega, List.getElem?_append_right (Nat.le_refl _)]
  simp
 rw [this]
 rfl
end TX
open PySem PySem.Spec L2 DL
namespace DL
theorem ints_lay (l : List Int) : ∀ d ∈ l.map PyData.int, d.canLay0 = true /\ d.depth <= 5 := fun d hd => by
 obtain ⟨i, _, rfl⟩ := List.mem_map.mp hd
 exact ⟨rfl, Nat.zero_le _⟩
section
variable {δ δ' : DS} {c : DS -> M Bool} {f : DS -> M D} {t : D -> DS -> Option DS} {y d : D} {ds ys : List D}
theorem a8o (h1 : t d δ = some δ') (hc : c δ' = M.ret true) (h2 : f δ' = M.ret y) (h3 : compD t (nX c) (nX f) ds δ' = M.ret ys) : compD t (nX c) (nX f) (d :: ds) δ = M.ret (y :: ys) := by
 show (M.lift (t d δ)).thn _ = _
 rw [h1, b0t, a0s]
 show (noX (c δ')).thn _ = _
 rw [hc]
 show (noX (f δ')).thn _ = _
 rw [h2]
 show (compD _ _ _ _ _).thn _ = _
 rw [h3]
 rfl
theorem b3f (h1 : t d δ = some δ') (hc : c δ' = M.ret false) (h3 : compD t (nX c) (nX f) ds δ' = M.ret ys) : compD t (nX c) (nX f) (d :: ds) δ = M.ret ys := by
 show (M.lift (t d δ)).thn _ = _
 rw [h1, b0t, a0s]
 show (noX (c δ')).thn _ = _
 rw [hc]
 exact h3
end
theorem b3c (l : List Int) : intsOf (l.map PyData.int) = some l := by
 induction l with
 | nil => rfl
 | cons a r ih => show (intsOf (r.map PyData.int)).map (a :: ·) = _; rw [ih]; rfl
end DL
namespace DL
theorem a4x {body : D -> DS -> M Out} {d : D} {ds : List D} {δ δ' : DS} {r : M Out} (h1 : body d δ = M.ret (.nx δ')) (h2 : forD body ds δ' = r) : forD body (d :: ds) δ = r := by
 show (body d δ).thn _ = _
 rw [h1]
 exact h2
end DL
namespace DL
section
variable {f fi : DS -> M D} {δ : DS} {ds es : List D} {d : D} {i j m : Nat} {k n a : Int}
theorem ev_setO (h : δ[i]? = some (.ow ds)) (h1 : f δ = M.ret d) (h2 : fi δ = M.ret (.int k)) (h3 : L2.ixN ds.length k = some j) : gSetO i fi f δ = M.ret (.nx (δ.set i (.ow (ds.set j d)))) := by
 unfold gSetO
 rw [h]
 dsimp only
 rw [h1, a0s, h2, a0s]
 dsimp only
 rw [h3]
end
end DL
namespace DL
end DL
open PySem PySem.Spec L2 DL CT TX NumText
namespace CT
def jn (c : Nat) : List (List Nat) -> List Nat
 | [] => []
 | [a] => a
 | a :: b :: r => a ++ c :: jn c (b :: r)
theorem a8x (c : Nat) (a : List Nat) {r : List (List Nat)} (h : r ≠ []) : jn c (a :: r) = a ++ c :: jn c r := by
 cases r with
 | nil => exact absurd rfl h
 | cons b r => rfl
theorem join_S (c : Nat) : ∀ ts : List (List Nat), (S [c]).join (ts.map S) = S (jn c ts)
 | [] => rfl
 | [a] => rfl
 | a :: b :: r => by
  have ih := join_S c (b :: r)
  show S a ++ S [c] ++ (S [c]).join ((b :: r).map S) = _
  rw [ih, S_app, S_app, List.append_assoc]
  rfl
def tot : List (List Nat) -> Nat
 | [] => 0
 | a :: r => a.length + 1 + tot r
theorem b1v (c : Nat) : ∀ {ts : List (List Nat)}, ts ≠ [] -> (jn c ts).length + 1 = tot ts
 | [], h => absurd rfl h
 | [a], _ => rfl
 | a :: b :: r, _ => by
  have ih := b1v c (ts := b :: r) (by simp)
  rw [a8x c a (by simp), List.length_append, List.length_cons, tot]
  omega
theorem strsOf_S (ts : List (List Nat)) : strsOf (ts.map fun l => PyData.str (S l)) = some (ts.map S) := by
 induction ts with
 | nil => rfl
 | cons a r ih => show (strsOf (r.map _)).map _ = _; rw [ih]; rfl
theorem joinOk_S {c : Nat} {ts : List (List Nat)} (h : tot ts <= 1000000) : JoinOk (S [c]) (ts.map S) = true := by
 have main : ∀ (ts : List (List Nat)) (a : Nat), (ts.map S).foldl (fun x1 x2 => x1 + x2.length + (S [c]).length) a = a + tot ts := by
  intro ts
  induction ts with
  | nil => intro a; rfl
  | cons t r ih =>
   intro a
   rw [List.map_cons, List.foldl_cons, ih, a9k, a9k, tot]
   show a + t.length + 1 + tot r = _
   omega
 unfold JoinOk
 have e := main ts 0
 rw [show Array.foldl (fun x1 x2 => x1 + x2.length + (S [c]).length) 0 (ts.map S).toArray = tot ts by rw [List.foldl_toArray' (h := rfl), e]; omega]
 show (!decide (tot ts > sizeLine)) = true
 rw [sizeLine_eq, decide_eq_false (by omega)]
 rfl
theorem b0q {c : Nat} {ts : List (List Nat)} (h : tot ts <= 1000000) : sJoin (S [c]) [.list (ts.map fun l => .str (S l))] = some (.str (S (jn c ts))) := by
 show (match strsOf (ts.map fun l => PyData.str (S l)) with | some ts => if JoinOk (S [c]) ts then some (PyData.str (Txt.join (S [c]) ts)) else none | none => none) = _
 rw [strsOf_S]
 show (if JoinOk (S [c]) (ts.map S) = true then some (PyData.str (Builtin.Str.glued (S [c]) (ts.map S))) else none) = _
 rw [if_pos (joinOk_S h), StrLaws.glued_eq_join, join_S]
theorem jn_inj {c : Nat} : ∀ {ts us : List (List Nat)}, ts ≠ [] -> us ≠ [] -> (∀ t ∈ ts, c ∉ t) -> (∀ t ∈ us, c ∉ t) -> jn c ts = jn c us -> ts = us
 | [], _, h, _, _, _, _ => absurd rfl h
 | _, [], _, h, _, _, _ => absurd rfl h
 | [a], [b], _, _, _, _, e => by rw [show a = b from e]
 | [a], b :: b' :: us, _, _, h1, _, e => by
  have e : a = b ++ c :: jn c (b' :: us) := e
  exact absurd (by rw [e]; simp : c ∈ a) (h1 a List.mem_cons_self)
 | a :: a' :: ts, [b], _, _, _, h2, e => by
  have e : a ++ c :: jn c (a' :: ts) = b := e
  exact absurd (by rw [<- e]; simp : c ∈ b) (h2 b List.mem_cons_self)
 | a :: a' :: ts, b :: b' :: us, _, _, h1, h2, e => by
  have e : a ++ c :: jn c (a' :: ts) = b ++ c :: jn c (b' :: us) := e
  have p1 := pre_app (v := jn c (a' :: ts)) (h1 a List.mem_cons_self)
  have p2 := pre_app (v := jn c (b' :: us)) (h2 b List.mem_cons_self)
  rw [e] at p1
  have q1 : b = a := p2.1.symm.trans p1.1
  have q2 : jn c (b' :: us) = jn c (a' :: ts) := p2.2.symm.trans p1.2
  have ih := jn_inj (ts := a' :: ts) (us := b' :: us) (by simp) (by simp) (fun t ht => h1 t (List.mem_cons_of_mem _ ht)) (fun t ht => h2 t (List.mem_cons_of_mem _ ht)) q2.symm
  rw [q1, ih]
theorem split_ne (x y : Str) : Txt.split x y ≠ [] := by
 unfold Txt.split
 split
 ·simp
 ·split
  ·simp
  ·intro z
   have := congrArg List.length z
   rw [length_partsBetween] at this
   simp at this
theorem split_is {c : Nat} {ts : List (List Nat)} (h0 : ts ≠ []) (h : ∀ t ∈ ts, c ∉ t) : Txt.split (S (jn c ts)) (S [c]) = ts.map S := by
 have e1 := StrLaws.join_split (S (jn c ts)) (S [c])
 have e2 : ∀ p, p ∈ Txt.split (S (jn c ts)) (S [c]) -> ¬ c ∈ p.cps.toList := fun p => StrLaws.split_free (S (jn c ts)) c p
 have e3 := split_ne (S (jn c ts)) (S [c])
 generalize Txt.split (S (jn c ts)) (S [c]) = ps at *
 have hp : ps = (ps.map fun p => p.cps.toList).map S := by
  rw [List.map_map]
  conv => lhs; rw [<- List.map_id ps]
  exact List.map_congr_left fun p _ => (S_L p).symm
 rw [hp, join_S] at e1
 have e4 := S_inj e1
 have := jn_inj (by simpa using e3) h0 (fun t ht => by
  obtain ⟨p, hp, rfl⟩ := List.mem_map.mp ht
  exact e2 p hp) h e4
 rw [hp, this]
theorem len_tot : ∀ ts : List (List Nat), ts.length <= tot ts
 | [] => Nat.zero_le _
 | a :: r => by have := len_tot r; rw [List.length_cons, tot]; omega
theorem b2w {c : Nat} {ts : List (List Nat)} (h0 : ts ≠ []) (h : ∀ t ∈ ts, c ∉ t) (hz : tot ts <= 1000000) : sSplit (S (jn c ts)) [.str (S [c])] = some (.list (ts.map fun l => .str (S l))) := by
 have hl := b1v c h0
 show (if splitOk (S (jn c ts)) (S [c]) = true then some (PyData.list ((Txt.split (S (jn c ts)) (S [c])).map PyData.str)) else none) = _
 have ok : splitOk (S (jn c ts)) (S [c]) = true := by
  unfold splitOk
  have h1 : ((S [c]).length == 0) == false := by rw [a9k]; rfl
  have h2 : small (S (jn c ts)).length = true := a0l (by rw [a9k]; omega)
  have hts := len_tot ts
  have h3 : small (Txt.split (S (jn c ts)) (S [c])).length = true := a0l (by rw [split_is h0 h, List.length_map]; omega)
  have h4 : small (Builtin.Str.partsBetween (S (jn c ts)) (Builtin.Str.occurrences (S (jn c ts)) (S [c]) 0 (S (jn c ts)).length ((S (jn c ts)).length + 1)) (S [c]).length).length = true := a0l (by
   rw [length_partsBetween]
   have := StrLaws.occ_length_le (S (jn c ts)) (S [c]) 0 (S (jn c ts)).length ((S (jn c ts)).length + 1)
   rw [a9k] at this ⊢
   omega)
  rw [h1, h2, h3, h4]
  rfl
 rw [if_pos ok, split_is h0 h, List.map_map]
 rfl
theorem tot_app (a b : List (List Nat)) : tot (a ++ b) = tot a + tot b := by
 induction a with
 | nil => simp [tot]
 | cons x a ih => rw [List.cons_append, tot, tot, ih]; omega
end CT
open PySem PySem.Spec L2 DL CT TX NumText
namespace CT
theorem cut_take {α : Type} (xs : List α) (n : Nat) : cutD xs none (some (n : Int)) = xs.take n := by
 unfold cutD
 rw [HT.b2s, HT.a8t, List.drop_zero, Nat.sub_zero]
 rcases Nat.le_total n xs.length with h | h
 ·rw [Nat.min_eq_left h]
 ·rw [Nat.min_eq_right h, List.take_length, List.take_of_length_le h]
theorem b0e {α : Type} (xs : List α) (n : Nat) : cutD xs (some (n : Int)) none = xs.drop n := by
 unfold cutD
 rw [HT.b2s, HT.a8t]
 rcases Nat.le_total n xs.length with h | h
 ·rw [Nat.min_eq_left h, List.take_of_length_le (by rw [List.length_drop]; omega)]
 ·rw [Nat.min_eq_right h, List.drop_eq_nil_of_le (Nat.le_refl _), List.drop_eq_nil_of_le h, List.take_nil]
theorem b0d {α : Type} (xs : List α) (h : xs ≠ []) : cutD xs none (some (-1)) = xs.dropLast := by
 unfold cutD
 rw [HT.b2s, List.drop_zero, Nat.sub_zero, List.dropLast_eq_take]
 have : HT.sIx xs.length xs.length (some (-1)) = xs.length - 1 := by
  have := List.length_pos_iff.mpr h
  show (if (-1 : Int) < 0 then ((-1 : Int) + (xs.length : Int)).toNat else min (-1 : Int).toNat xs.length) = _
  rw [if_pos (by decide)]
  omega
 rw [this]
abbrev tx (l : List Nat) : D := .str (S l)
theorem a8l {l : List Nat} (h : l.length <= 1000000) : oLen [.str (S l)] = some (.int ((l.length : Nat) : Int)) := by
 show (if small (S l).length = true then _ else _) = _
 rw [a9k, if_pos (a0l (by omega))]
end CT
open PySem PySem.Spec L2 DL CT TX NumText
namespace CT
structure Wd (w : List Nat) : Prop where
 ne : w ≠ []
 free : ∀ c ∈ w, 33 <= c /\ c < 128
 len : w.length <= 40
theorem Wd.no {w : List Nat} (h : Wd w) : 32 ∉ w := fun z => by have := h.free 32 z; omega
end CT
open PySem PySem.Spec L2 DL CT TX NumText
namespace CT
def bp (c : Nat) : Int := if c = 46 \/ c = 33 \/ c = 63 then 0 else if c = 44 \/ c = 59 \/ c = 58 then 50 else 200
theorem a9y (c : Nat) : oInS (.str (S [c])) (.str ".!?") = some (.bool (decide (c = 46 \/ c = 33 \/ c = 63))) := by
 show some (PyData.bool _) = _
 rw [show S [c] = ⟨#[c]⟩ from rfl, StrLaws.found_one]
 congr 2
 have : (".!?" : Str).cps.toList = [46, 33, 63] := by decide
 rw [this]
 refine decide_eq_decide.mpr ?_
 simp only [List.mem_cons, List.not_mem_nil, or_false]
theorem a9z (c : Nat) : oInS (.str (S [c])) (.str ",;:") = some (.bool (decide (c = 44 \/ c = 59 \/ c = 58))) := by
 show some (PyData.bool _) = _
 rw [show S [c] = ⟨#[c]⟩ from rfl, StrLaws.found_one]
 congr 2
 have : (",;:" : Str).cps.toList = [44, 59, 58] := by decide
 rw [this]
 refine decide_eq_decide.mpr ?_
 simp only [List.mem_cons, List.not_mem_nil, or_false]
theorem last_ix {u : List Nat} {c : Nat} (h : u.length <= 900) : oIx (.str (S (u ++ [c]))) (.int (-1)) = some (.str (S [c])) := ix_back (w := []) (by simpa using h) rfl
theorem b1j {u : List Nat} {c : Nat} (h : u.length <= 900) : a1w [.str (S (u ++ [c]))] = M.ret (.int (bp c)) := by
 have hx := last_ix (c := c) h
 have e1 : d2 oIx (dVar 0) (d1 oNeg (dC (.int 1))) [.vl (.str (S (u ++ [c])))] = M.ret (.str (S [c])) := ev_2 (a0a rfl) (ev_1 ev_c rfl) hx
 refine a0y ?_
 unfold a5w bp
 by_cases h1 : c = 46 \/ c = 33 \/ c = 63
 ·rw [if_pos h1]
  exact a1c (b := true) (ev_b (ev_2 e1 ev_c (by rw [a9y, decide_eq_true h1]))) (a4v rfl (a1h (a0p ev_c)))
 ·rw [if_neg h1]
  refine a1c (b := false) (ev_b (ev_2 e1 ev_c (by rw [a9y, decide_eq_false h1]))) (ite_F rfl (ev_seqN (a0p ?_)))
  by_cases h2 : c = 44 \/ c = 59 \/ c = 58
  ·rw [if_pos h2]
   exact ev_if (b := true) (ev_b (ev_2 e1 ev_c (by rw [a9z, decide_eq_true h2]))) (a4v rfl ev_c)
  ·rw [if_neg h2]
   exact ev_if (b := false) (ev_b (ev_2 e1 ev_c (by rw [a9z, decide_eq_false h2]))) (ite_F rfl ev_c)
theorem b1m {w : List Nat} (h : w ≠ []) : ∃ u c, w = u ++ [c] := ⟨w.dropLast, w.getLast h, (List.dropLast_concat_getLast h).symm⟩
def lst (w : List Nat) : Nat := w.getLast?.getD 0
theorem lst_snoc (u : List Nat) (c : Nat) : lst (u ++ [c]) = c := by unfold lst; simp
end CT
open PySem PySem.Spec L2 DL CT TX NumText
namespace CT
theorem jn_app (c : Nat) : ∀ (a b : List (List Nat)), a ≠ [] -> b ≠ [] -> jn c (a ++ b) = jn c a ++ c :: jn c b
 | [], _, h, _ => absurd rfl h
 | [x], b, _, hb => by rw [List.singleton_append, a8x c x hb]; rfl
 | x :: y :: r, b, _, hb => by
  have ih := jn_app c (y :: r) b (by simp) hb
  rw [List.cons_append, a8x c x (by simp), ih, a8x c x (by simp), List.append_assoc]
  rfl
def row (ws : List (List Nat)) (i j : Nat) : List Nat := jn 32 ((ws.drop i).take (j - i))
theorem seg_ne {α : Type} {ws : List α} {i j : Nat} (h : i < j) (hj : j <= ws.length) : (ws.drop i).take (j - i) ≠ [] := by
 intro z
 have := congrArg List.length z
 rw [List.length_take, List.length_drop] at this
 simp at this
 omega
theorem seg_cat {α : Type} (ws : List α) {i j k : Nat} (h : i <= j) (h2 : j <= k) : (ws.drop i).take (k - i) = (ws.drop i).take (j - i) ++ (ws.drop j).take (k - j) := by
 have e1 : k - i = (j - i) + (k - j) := by omega
 rw [e1, List.take_add, List.drop_drop, show i + (j - i) = j by omega]
theorem row_cat {ws : List (List Nat)} {i j k : Nat} (h : i < j) (h2 : j < k) (hk : k <= ws.length) : row ws i k = row ws i j ++ 32 :: row ws j k := by
 unfold row
 rw [seg_cat ws (by omega : i <= j) (by omega : j <= k), jn_app _ _ _ (seg_ne h (by omega)) (seg_ne h2 hk)]
theorem row_one {ws : List (List Nat)} {i : Nat} (h : i < ws.length) : row ws i (i + 1) = ws[i] := by
 unfold row
 rw [show i + 1 - i = 1 by omega, List.drop_eq_getElem_cons h]
 rfl
theorem row_more {ws : List (List Nat)} {i j : Nat} (h : i < j) (hj : j < ws.length) : row ws i (j + 1) = row ws i j ++ 32 :: ws[j] := by
 rw [row_cat h (by omega) hj, row_one hj]
theorem row_all (ws : List (List Nat)) : row ws 0 ws.length = jn 32 ws := by
 unfold row
 rw [List.drop_zero, Nat.sub_zero, List.take_length]
theorem row_lt {ws : List (List Nat)} {i j k : Nat} (h : i < j) (h2 : j < k) (hk : k <= ws.length) : (row ws i j).length < (row ws i k).length := by
 rw [row_cat h h2 hk, List.length_append, List.length_cons]
 omega
theorem row_le {ws : List (List Nat)} {i j k : Nat} (h : i < j) (h2 : j <= k) (hk : k <= ws.length) : (row ws i j).length <= (row ws i k).length := by
 rcases Nat.lt_or_eq_of_le h2 with q | rfl
 ·exact Nat.le_of_lt (row_lt h q hk)
 ·exact Nat.le_refl _
theorem b2e {ws : List (List Nat)} (i m : Nat) : tot ((ws.drop i).take m) <= tot ws := by
 have e : ws = ws.take i ++ ((ws.drop i).take m ++ (ws.drop i).drop m) := by rw [List.take_append_drop, List.take_append_drop]
 have := congrArg tot e
 rw [tot_app, tot_app] at this
 omega
theorem a8u {ws : List (List Nat)} {i j : Nat} (h : i < j) (hj : j <= ws.length) : (row ws i j).length + 1 <= tot ws := by
 have := b1v 32 (seg_ne (ws := ws) h hj)
 have := b2e (ws := ws) i (j - i)
 unfold row
 omega
theorem b0v {c : Nat} {P : Nat -> Prop} (hc : P c) : ∀ {l : List (List Nat)}, (∀ w ∈ l, ∀ x ∈ w, P x) -> ∀ x ∈ jn c l, P x
 | [], _, x, hx => nomatch hx
 | [a], h, x, hx => h a List.mem_cons_self x hx
 | a :: b :: r, h, x, hx => by
  rw [a8x c a (by simp)] at hx
  rcases List.mem_append.mp hx with hx | hx
  ·exact h a List.mem_cons_self x hx
  ·rcases List.mem_cons.mp hx with rfl | hx
   ·exact hc
   ·exact b0v hc (fun w hw => h w (List.mem_cons_of_mem _ hw)) x hx
theorem seg_mem {α : Type} {ws : List α} {i m : Nat} {w : α} (h : w ∈ (ws.drop i).take m) : w ∈ ws := List.mem_of_mem_drop (List.mem_of_mem_take h)
theorem row_free {ws : List (List Nat)} (h : ∀ w ∈ ws, Wd w) (i j : Nat) : ∀ c ∈ row ws i j, 32 <= c /\ c < 128 :=
 b0v (P := fun c => 32 <= c /\ c < 128) (by omega) fun w hw x hx => by
  have := (h w (seg_mem hw)).free x hx
  omega
theorem jn_ne {c : Nat} {l : List (List Nat)} (h0 : l ≠ []) (h : ∀ w ∈ l, w ≠ []) : jn c l ≠ [] := by
 match l, h0 with
 | [a], _ => exact h a List.mem_cons_self
 | a :: b :: r, _ => rw [a8x c a (by simp)]; simp
theorem row_ne {ws : List (List Nat)} (h : ∀ w ∈ ws, Wd w) {i j : Nat} (hi : i < j) (hj : j <= ws.length) : row ws i j ≠ [] :=
 jn_ne (seg_ne hi hj) fun w hw => (h w (seg_mem hw)).ne
def rp (W : Int) (r : List Nat) : Int := (W - (r.length : Nat)) * (W - (r.length : Nat))
def rb (r : List Nat) : Int := bp (lst r)
def pc (ws : List (List Nat)) (W : Int) (i j : Nat) : Int := rp W (row ws i j) + (if j = ws.length then 0 else rb (row ws i j))
abbrev Pc := Nat × Nat × Int
def Ft (ws : List (List Nat)) (W : Int) (i j : Nat) : Prop := i < j /\ j <= ws.length /\ (((row ws i j).length : Nat) : Int) <= W
def Pcs (ws : List (List Nat)) (W : Int) (ps : List Pc) : Prop := ∀ i j p, (i, j, p) ∈ ps ↔ Ft ws W i j /\ p = pc ws W i j
theorem Ft.less {ws : List (List Nat)} {W : Int} {i j k : Nat} (h : Ft ws W i k) (hj : i < j) (hk : j <= k) : Ft ws W i j := by
 have := row_le hj hk h.2.1
 exact ⟨hj, by have := h.2.1; omega, by have := h.2.2; omega⟩
structure Bl (ps : List Pc) (a b : List (Option Int)) : Prop where
 len : b.length = a.length
 snd : ∀ j v, b[j]? = some (some v) -> ∃ i p x, (i, j, p) ∈ ps /\ a[i]? = some (some x) /\ x + p = v
 cpl : ∀ i j p x, (i, j, p) ∈ ps -> a[i]? = some (some x) -> ∃ v, b[j]? = some (some v) /\ v <= x + p
theorem Bl.nil (a : List (Option Int)) : Bl [] a (List.replicate a.length none) := ⟨by simp, fun j v h => by
 rw [List.getElem?_replicate] at h
 split at h
 ·cases h
 ·(cases h), fun i j p x h => nomatch h⟩
theorem Bl.skip {ps : List Pc} {a b : List (Option Int)} {i j : Nat} {p : Int} (h : Bl ps a b) (ha : a[i]? = some none) : Bl (ps ++ [(i, j, p)]) a b := ⟨h.len, fun j v q => by
  obtain ⟨i, p, x, q1, q2⟩ := h.snd j v q
  exact ⟨i, p, x, List.mem_append_left _ q1, q2⟩, fun i' j' p' x q1 q2 => by
  rcases List.mem_append.mp q1 with q1 | q1
  ·exact h.cpl i' j' p' x q1 q2
  ·rw [List.mem_singleton] at q1
   cases q1
   rw [ha] at q2
   cases q2⟩
theorem Bl.keep {ps : List Pc} {a b : List (Option Int)} {i j : Nat} {p x v : Int} (h : Bl ps a b) (ha : a[i]? = some (some x)) (hb : b[j]? = some (some v)) (hv : v <= x + p) : Bl (ps ++ [(i, j, p)]) a b := ⟨h.len, fun j v q => by
  obtain ⟨i, p, x, q1, q2⟩ := h.snd j v q
  exact ⟨i, p, x, List.mem_append_left _ q1, q2⟩, fun i' j' p' x' q1 q2 => by
  rcases List.mem_append.mp q1 with q1 | q1
  ·exact h.cpl i' j' p' x' q1 q2
  ·rw [List.mem_singleton] at q1
   cases q1
   rw [ha] at q2
   cases q2
   exact ⟨v, hb, hv⟩⟩
theorem Bl.put {ps : List Pc} {a b : List (Option Int)} {i j : Nat} {p x : Int} (h : Bl ps a b) (ha : a[i]? = some (some x)) (hj : j < b.length) (hv : ∀ v, b[j]? = some (some v) -> x + p <= v) : Bl (ps ++ [(i, j, p)]) a (b.set j (some (x + p))) := by
 refine ⟨by rw [List.length_set]; exact h.len, fun j' v q => ?_, fun i' j' p' x' q1 q2 => ?_⟩
 ·rw [List.getElem?_set] at q
  by_cases e : j = j'
  ·subst e
   rw [if_pos rfl, if_pos hj] at q
   cases q
   exact ⟨i, p, x, List.mem_append_right _ (List.mem_singleton.mpr rfl), ha, rfl⟩
  ·rw [if_neg e] at q
   obtain ⟨i, p, x, q1, q2⟩ := h.snd j' v q
   exact ⟨i, p, x, List.mem_append_left _ q1, q2⟩
 ·rcases List.mem_append.mp q1 with q1 | q1
  ·obtain ⟨v, hb, hle⟩ := h.cpl i' j' p' x' q1 q2
   by_cases e : j = j'
   ·subst e
    have := hv v hb
    exact ⟨x + p, by rw [List.getElem?_set, if_pos rfl, if_pos hj], by omega⟩
   ·exact ⟨v, by rw [List.getElem?_set, if_neg e]; exact hb, hle⟩
  ·rw [List.mem_singleton] at q1
   cases q1
   rw [ha] at q2
   cases q2
   exact ⟨x + p, by rw [List.getElem?_set, if_pos rfl, if_pos hj], Int.le_refl _⟩
structure Tb (ws : List (List Nat)) (W : Int) (ps : List Pc) (m : Nat) (T : List (List (Option Int))) : Prop where
 len : T.length = m + 1
 first : T[0]? = some (some 0 :: List.replicate ws.length none)
 next : ∀ k, k < m -> ∃ a b, T[k]? = some a /\ T[k + 1]? = some b /\ Bl ps a b
theorem Tb.rows {ws : List (List Nat)} {W : Int} {ps : List Pc} {m : Nat} {T : List (List (Option Int))} (h : Tb ws W ps m T) : ∀ k, k <= m -> ∃ a, T[k]? = some a /\ a.length = ws.length + 1
 | 0, _ => ⟨_, h.first, by simp⟩
 | k + 1, hk => by
  obtain ⟨a, b, h1, h2, h3⟩ := h.next k (by omega)
  obtain ⟨a', h4, h5⟩ := Tb.rows h k (by omega)
  rw [h1] at h4
  cases h4
  exact ⟨b, h2, by rw [h3.len, h5]⟩
inductive Path (ws : List (List Nat)) (W : Int) : Nat -> Nat -> Int -> List (List Nat) -> Prop
 | zero : Path ws W 0 0 0 []
 | step {k b e : Nat} {v : Int} {rs : List (List Nat)} : Path ws W k b v rs -> Ft ws W b e -> Path ws W (k + 1) e (v + pc ws W b e) (rs ++ [row ws b e])
theorem Path.len {ws : List (List Nat)} {W : Int} {k e : Nat} {v : Int} {rs : List (List Nat)} (h : Path ws W k e v rs) : rs.length = k := by
 induction h with
 | zero => rfl
 | step _ _ ih => rw [List.length_append, ih]; rfl
theorem Path.zero_iff {ws : List (List Nat)} {W : Int} {k e : Nat} {v : Int} {rs : List (List Nat)} (h : Path ws W k e v rs) : (rs = [] /\ e = 0 /\ v = 0) \/ (rs ≠ [] /\ 0 < e) := by
 cases h with
 | zero => exact .inl ⟨rfl, rfl, rfl⟩
 | step _ f => exact .inr ⟨by simp, by have := f.1; omega⟩
theorem Path.join {ws : List (List Nat)} {W : Int} {k e : Nat} {v : Int} {rs : List (List Nat)} (h : Path ws W k e v rs) (h0 : rs ≠ []) : jn 32 rs = row ws 0 e := by
 induction h with
 | zero => exact absurd rfl h0
 | @step k b e v rs p f ih =>
  rcases p.zero_iff with ⟨rfl, rfl, _⟩ | ⟨h1, h2⟩
  ·rfl
  ·rw [jn_app 32 rs _ h1 (by simp), ih h1]
   exact (row_cat h2 f.1 f.2.1).symm
theorem Path.mem {ws : List (List Nat)} {W : Int} {k e : Nat} {v : Int} {rs : List (List Nat)} (h : Path ws W k e v rs) : ∀ r ∈ rs, ∃ b e, Ft ws W b e /\ r = row ws b e := by
 induction h with
 | zero => exact fun r hr => nomatch hr
 | @step k b e v rs p f ih =>
  intro r hr
  rcases List.mem_append.mp hr with hr | hr
  ·exact ih r hr
  ·rw [List.mem_singleton] at hr
   exact ⟨b, e, f, hr⟩
theorem Path.cost {ws : List (List Nat)} {W : Int} {k e : Nat} {v : Int} {rs : List (List Nat)} (h : Path ws W k e v rs) (he : e < ws.length) : v = (rs.map (rp W)).sum + (rs.map rb).sum := by
 induction h with
 | zero => rfl
 | @step k b e v rs p f ih =>
  have := ih (by have := f.1; omega)
  have e1 : pc ws W b e = rp W (row ws b e) + rb (row ws b e) := by unfold pc; rw [if_neg (by omega)]
  rw [List.map_append, List.map_append, List.sum_append, List.sum_append, e1, this]
  simp only [List.map_cons, List.map_nil, List.sum_cons, List.sum_nil]
  omega
theorem Path.costs {ws : List (List Nat)} {W : Int} {k : Nat} {v : Int} {rs : List (List Nat)} (h : Path ws W k ws.length v rs) (h0 : rs ≠ []) : v = (rs.map (rp W)).sum + (rs.dropLast.map rb).sum := by
 generalize he : ws.length = e at h
 cases h with
 | zero => exact absurd rfl h0
 | @step k b e v rs p f =>
  have := p.cost (by have := f.1; omega)
  have e1 : pc ws W b ws.length = rp W (row ws b ws.length) := by unfold pc; rw [if_pos rfl, Int.add_zero]
  rw [<- he, e1, List.dropLast_concat, List.map_append, List.sum_append, this]
  simp only [List.map_cons, List.map_nil, List.sum_cons, List.sum_nil]
  omega
end CT
open PySem PySem.Spec L2 DL CT TX NumText
namespace CT
theorem a7e {r : List Nat} {W : Int} (hl : r.length <= 1000) (hW : -100000 <= W /\ W <= 100000) : a1u [.str (S r), .int W] = M.ret (.int (rp W r)) := by
 have l := a8l (l := r) (by omega)
 have e : d2 oSub (dVar 1) (dCB oLen (dCons (dVar 0) dNil)) [.vl (.str (S r)), .vl (.int W)] = M.ret (.int (W - (r.length : Nat))) := ev_2 (a0a rfl) (a1s (a0d (a0a rfl) a0f) l) o_sub
 refine a0y ?_
 unfold a6y rp
 exact a0p (ev_2 e e (o_mul (bMul_l (by omega) (by omega))))
theorem rb_ev {r : List Nat} (h : r ≠ []) (hl : r.length <= 900) : a1w [.str (S r)] = M.ret (.int (rb r)) := by
 obtain ⟨u, c, rfl⟩ := b1m h
 rw [List.length_append] at hl
 unfold rb
 rw [lst_snoc]
 exact b1j (by omega)
def pcD (x : Pc) : D := .tuple [.int (x.1 : Int), .int (x.2.1 : Int), .int x.2.2]
def oD : Option Int -> D
 | none => .none
 | some a => .int a
def rD (r : List (Option Int)) : D := .list (r.map oD)
theorem a9u {ds : List D} {i : Nat} {d : D} (h : ds[i]? = some d) : oIx (.list ds) (.int (i : Int)) = some d := ix_nat (by omega) (by rw [Int.toNat_natCast]; exact h)
theorem rng_at {m : Nat} {p q : List D} {d : D} (e : rngD 0 m = p ++ d :: q) : d = .int (p.length : Int) /\ p.length < m := by
 have hlen : (rngD 0 m).length = m := by unfold rngD; rw [List.length_map, List.length_range]
 have h1 : (rngD 0 m)[p.length]? = some d := by rw [e]; simp
 have h2 : p.length < m := by
  have := congrArg List.length e
  rw [hlen, List.length_append, List.length_cons] at this
  omega
 unfold rngD at h1
 rw [List.getElem?_map, List.getElem?_range h2] at h1
 refine ⟨?_, h2⟩
 have := Option.some.inj h1
 rw [<- this]
 show PyData.int (0 + ((p.length : Nat) : Int)) = _
 rw [Int.zero_add]
theorem rng_len (n : Nat) : (rngD 0 n).length = n := by unfold rngD; rw [List.length_map, List.length_range]
theorem a8i {n : Nat} (h : n <= 1000000) : rng1 [.int (n : Int)] = some (rngD 0 n) := by
 show (if b62 (n : Int) = true then some (rngD 0 (n : Int).toNat) else none) = _
 rw [if_pos (by unfold b62; simp; omega), Int.toNat_natCast]
theorem a9j {a b : List Nat} (h : a.length + b.length <= 1000) : oAdd (.str (S a)) (.str (S b)) = some (.str (S (a ++ b))) := by
 rw [o_addS (a0l (by rw [a9k, a9k]; omega)), S_app]
noncomputable def cW : DS -> M Bool := dAnd (dB (d2 oLeD (dCB oLen (dCons (dVar 5) dNil)) (dVar 1))) (dB (d2 oLt (dVar 6) (dCB oLen (dCons (dVar 2) dNil))))
noncomputable def bW : DS -> M Out := gSeq (gApp 3 (dTup (dCons (dVar 4) (dCons (dVar 6) (dCons (d2 oAdd (dCall (fun ds => noX (a1u ds)) (dCons (dVar 5) (dCons (dVar 1) dNil))) (dCall (fun ds => noX (a1w ds)) (dCons (dVar 5) dNil))) dNil)))))
  (gSeq (gAsg (d2 oAdd (d2 oAdd (dVar 5) (dC (.str " "))) (d2 oIx (dVar 2) (dVar 6))) (tgN 5))
  (gAsg (d2 (oII (fun i j => i + j)) (dVar 6) (dC (.int 1))) (tgN 6)))
section
variable {ws : List (List Nat)} {W : Int}
theorem pc_in {i j : Nat} (h : j < ws.length) : pc ws W i j = rp W (row ws i j) + rb (row ws i j) := by unfold pc; rw [if_neg (by omega)]
theorem pc_while (h : ∀ w ∈ ws, Wd w) (hz : tot ws <= 900) (hW : 0 <= W /\ W <= 1000) (A : D) (i : Nat) : ∀ (m j : Nat) (acc : List D), ws.length - j = m -> i < j -> j <= ws.length -> acc.length + m <= 100000 ->
  ∃ j', gWhile cW bW [.vl A, .vl (.int W), .vl (.list (ws.map tx)), .ow acc, .vl (.int (i : Int)), .vl (tx (row ws i j)), .vl (.int (j : Int))] = M.ret (.nx [.vl A, .vl (.int W), .vl (.list (ws.map tx)), .ow (acc ++ (List.range' j (j' - j)).map fun k => pcD (i, k, pc ws W i k)), .vl (.int (i : Int)), .vl (tx (row ws i j')), .vl (.int (j' : Int))]) /\ j <= j' /\ j' <= ws.length /\ (∀ k, j <= k -> k < j' -> Ft ws W i k) /\ (j' = ws.length \/ ¬ Ft ws W i j') := by
 have hln : oLen [.list (ws.map tx)] = some (.int ((ws.length : Nat) : Int)) := by rw [a4n, List.length_map]
 intro m
 induction m with
 | zero =>
  intro j acc hm hi hj ha
  have hjn : j = ws.length := by omega
  have l := a8l (l := row ws i j) (by have := a8u hi hj; omega)
  refine ⟨j, ?_, Nat.le_refl j, hj, fun k k1 k2 => by omega, .inl hjn⟩
  rw [Nat.sub_self, show List.range' j 0 = [] from rfl, List.map_nil, List.append_nil]
  refine a9b ?_
  unfold cW
  have c2 : dB (d2 oLt (dVar 6) (dCB oLen (dCons (dVar 2) dNil))) [.vl A, .vl (.int W), .vl (.list (ws.map tx)), .ow acc, .vl (.int (i : Int)), .vl (tx (row ws i j)), .vl (.int (j : Int))] = M.ret false := ev_b (ev_2 (a0a rfl) (a1s (a0d (a0a rfl) a0f) hln) (by rw [o_lt, decide_eq_false (by omega)]))
  have c1 := ev_and (ev_b (ev_2 (h := oLeD) (δ := [.vl A, .vl (.int W), .vl (.list (ws.map tx)), .ow acc, .vl (.int (i : Int)), .vl (tx (row ws i j)), .vl (.int (j : Int))]) (f := dCB oLen (dCons (dVar 5) dNil)) (g := dVar 1) (a1s (a0d (a0a rfl) a0f) l) (a0a rfl) o_leD)) c2
  rw [Bool.and_false] at c1
  exact c1
 | succ m ih =>
  intro j acc hm hi hj ha
  have hjn : j < ws.length := by omega
  have rl := a8u hi hj
  have l := a8l (l := row ws i j) (by omega)
  have c1 : dB (d2 oLeD (dCB oLen (dCons (dVar 5) dNil)) (dVar 1)) [.vl A, .vl (.int W), .vl (.list (ws.map tx)), .ow acc, .vl (.int (i : Int)), .vl (tx (row ws i j)), .vl (.int (j : Int))] = M.ret (decide ((((row ws i j).length : Nat) : Int) <= W)) := ev_b (ev_2 (a1s (a0d (a0a rfl) a0f) l) (a0a rfl) o_leD)
  by_cases hf : (((row ws i j).length : Nat) : Int) <= W
  ·rw [decide_eq_true hf] at c1
   have c2 : dB (d2 oLt (dVar 6) (dCB oLen (dCons (dVar 2) dNil))) [.vl A, .vl (.int W), .vl (.list (ws.map tx)), .ow acc, .vl (.int (i : Int)), .vl (tx (row ws i j)), .vl (.int (j : Int))] = M.ret true := ev_b (ev_2 (a0a rfl) (a1s (a0d (a0a rfl) a0f) hln) (by rw [o_lt, decide_eq_true (by omega)]))
   obtain ⟨j', h1, h2, h3, h4, h5⟩ := ih (j + 1) (acc ++ [pcD (i, j, pc ws W i j)]) (by omega) (by omega) (by omega) (by rw [List.length_append, List.length_singleton]; omega)
   refine ⟨j', ?_, by omega, h3, fun k k1 k2 => ?_, h5⟩
   ·have e : List.range' j (j' - j) = j :: List.range' (j + 1) (j' - (j + 1)) := by
     rw [show j' - j = (j' - (j + 1)) + 1 by omega, List.range'_succ]
    rw [e, List.map_cons, List.append_cons]
    refine b1x (a3h c1 c2) ?_ h1
    unfold bW
    have hpr := a7e (r := row ws i j) (W := W) (by omega) (by omega)
    have hbr := rb_ev (row_ne h hi hj) (by omega)
    refine a0o (ev_app (d := pcD (i, j, pc ws W i j)) rfl (ev_tup (ds := [.int (i : Int), .int (j : Int), .int (pc ws W i j)]) (a0d (a0a rfl) (a0d (a0a rfl) (a0d ?_ a0f))) rfl) (a0l (by omega))) ?_
    ·rw [pc_in hjn]
     exact ev_2 (a0q (a0d (a0a rfl) (a0d (a0a rfl) a0f)) hpr) (a0q (a0d (a0a rfl) a0f) hbr) a5e
    ·have rm := row_more hi hjn
     have rl2 := a8u (ws := ws) (i := i) (j := j + 1) (by omega) (by omega)
     have ll := congrArg List.length rm
     rw [List.length_append, List.length_cons] at ll
     have a1 := a9j (a := row ws i j) (b := [32]) (by show _ + 1 <= _; omega)
     have a2 := a9j (a := row ws i j ++ [32]) (b := ws[j]) (by rw [List.length_append]; show _ + 1 + _ <= _; omega)
     rw [List.append_assoc, List.singleton_append, <- rm] at a2
     have ix := a9u (ds := ws.map tx) (i := j) (d := tx ws[j]) (by rw [List.getElem?_map, List.getElem?_eq_getElem hjn]; rfl)
     refine a0o (a1a (d := tx (row ws i (j + 1))) (ev_2 (ev_2 (y := .str (S [32])) (a0a rfl) ev_c a1) (ev_2 (a0a rfl) (a0a rfl) ix) a2)) ?_
     exact a1a (d := .int ((j + 1 : Nat) : Int)) (ev_2 (a0a rfl) ev_c rfl)
   ·rcases Nat.lt_or_eq_of_le k1 with q | rfl
    ·exact h4 k q k2
    ·exact ⟨hi, hj, hf⟩
  ·rw [decide_eq_false hf] at c1
   refine ⟨j, ?_, Nat.le_refl j, hj, fun k k1 k2 => by omega, .inr fun z => hf z.2.2⟩
   rw [Nat.sub_self, show List.range' j 0 = [] from rfl, List.map_nil, List.append_nil]
   exact a9b (a7u c1)
theorem pieces_ev (h0 : ws ≠ []) (h : ∀ w ∈ ws, Wd w) (hz : tot ws <= 900) (hn : ws.length <= 64) (hW : 0 <= W /\ W <= 1000) : ∃ ps, Pcs ws W ps /\ ps.length <= 100000 /\ a1v [tx (jn 32 ws), .int W] = M.ret (.list (ps.map pcD)) := by
 have hs := b2w h0 (fun w hw => (h w hw).no) (by omega : tot ws <= 1000000)
 have hln : oLen [.list (ws.map tx)] = some (.int ((ws.length : Nat) : Int)) := by rw [a4n, List.length_map]
 have main : ∃ ps, Pcs ws W ps /\ ps.length <= 100000 /\ a6a (startD 7 [tx (jn 32 ws), .int W]) = M.ret (.rt (.list (ps.map pcD))) := by
  unfold a6a
  have hbody := fun (p : List D) (d : D) (q : List D) (δ : DS) (e : rngD 0 ws.length = p ++ d :: q) (hδ : ∃ (ps : List Pc) (x4 x5 x6 : Sl), ps.length <= 66 * p.length /\ (∀ i j c, (i, j, c) ∈ ps ↔ i < p.length /\ Ft ws W i j /\ c = pc ws W i j) /\ δ = [.vl (tx (jn 32 ws)), .vl (.int W), .vl (.list (ws.map tx)), .ow (ps.map pcD), x4, x5, x6]) => (show ∃ δ', bodyD (tgN 4) (gSeq (gAsg (d2 oIx (dVar 2) (dVar 4)) (tgN 5))
  (gSeq (gAsg (d2 oAdd (dVar 4) (dC (.int 1))) (tgN 6))
  (gSeq (gWhile cW bW)
  (gIf (dB (d2 oLeD (dCB oLen (dCons (dVar 5) dNil)) (dVar 1))) (gApp 3 (dTup (dCons (dVar 4) (dCons (dVar 6) (dCons (dCall (fun ds => noX (a1u ds)) (dCons (dVar 5) (dCons (dVar 1) dNil))) dNil))))) gNext)))) d δ = M.ret (.nx δ') /\ ∃ (ps : List Pc) (x4 x5 x6 : Sl), ps.length <= 66 * (p ++ [d]).length /\ (∀ i j c, (i, j, c) ∈ ps ↔ i < (p ++ [d]).length /\ Ft ws W i j /\ c = pc ws W i j) /\ δ' = [.vl (tx (jn 32 ws)), .vl (.int W), .vl (.list (ws.map tx)), .ow (ps.map pcD), x4, x5, x6] from by
   obtain ⟨ps, x4, x5, x6, q1, q2, rfl⟩ := hδ
   obtain ⟨rfl, hp⟩ := rng_at e
   obtain ⟨i, hi⟩ : ∃ i, i = p.length := ⟨_, rfl⟩
   rw [List.length_append, List.length_singleton]
   rw [<- hi] at q1 q2 hp ⊢
   have ix := a9u (ds := ws.map tx) (i := i) (d := tx ws[i]) (by rw [List.getElem?_map, List.getElem?_eq_getElem hp]; rfl)
   rw [<- row_one hp] at ix
   obtain ⟨j', w1, w2, w3, w4, w5⟩ := pc_while h hz hW (tx (jn 32 ws)) i _ (i + 1) (ps.map pcD) rfl (by omega) (by omega) (by rw [List.length_map]; omega)
   have rl := a8u (ws := ws) (i := i) (j := j') (by omega) w3
   have l := a8l (l := row ws i j') (by omega)
   have e1 : (List.range' (i + 1) (j' - (i + 1))).map (fun k => pcD (i, k, pc ws W i k)) = ((List.range' (i + 1) (j' - (i + 1))).map fun k => ((i, k, pc ws W i k) : Pc)).map pcD := by rw [List.map_map]; rfl
   rw [e1, <- List.map_append] at w1
   obtain ⟨ad, had⟩ : ∃ ad : List Pc, ad = (List.range' (i + 1) (j' - (i + 1))).map fun k => ((i, k, pc ws W i k) : Pc) := ⟨_, rfl⟩
   have hal : ad.length = j' - (i + 1) := by rw [had, List.length_map, List.length_range']
   have ham : ∀ i2 j2 c, (i2, j2, c) ∈ ad ↔ i2 = i /\ (i + 1 <= j2 /\ j2 < j') /\ c = pc ws W i2 j2 := fun i2 j2 c => by
    rw [had, List.mem_map]
    constructor
    ·rintro ⟨k, hk, hk2⟩
     cases hk2
     have := List.mem_range'_1.mp hk
     exact ⟨rfl, by omega, rfl⟩
    ·rintro ⟨rfl, hk, rfl⟩
     exact ⟨j2, List.mem_range'_1.mpr (by omega), rfl⟩
   rw [<- had] at w1
   have b1 : dB (d2 oLeD (dCB oLen (dCons (dVar 5) dNil)) (dVar 1)) [.vl (tx (jn 32 ws)), .vl (.int W), .vl (.list (ws.map tx)), .ow ((ps ++ ad).map pcD), .vl (.int (i : Int)), .vl (tx (row ws i j')), .vl (.int (j' : Int))] = M.ret (decide ((((row ws i j').length : Nat) : Int) <= W)) := ev_b (ev_2 (a1s (a0d (a0a rfl) a0f) l) (a0a rfl) o_leD)
   have st : ∀ r, gIf (dB (d2 oLeD (dCB oLen (dCons (dVar 5) dNil)) (dVar 1))) (gApp 3 (dTup (dCons (dVar 4) (dCons (dVar 6) (dCons (dCall (fun ds => noX (a1u ds)) (dCons (dVar 5) (dCons (dVar 1) dNil))) dNil))))) gNext [.vl (tx (jn 32 ws)), .vl (.int W), .vl (.list (ws.map tx)), .ow ((ps ++ ad).map pcD), .vl (.int (i : Int)), .vl (tx (row ws i j')), .vl (.int (j' : Int))] = r -> bodyD (tgN 4) (gSeq (gAsg (d2 oIx (dVar 2) (dVar 4)) (tgN 5)) (gSeq (gAsg (d2 oAdd (dVar 4) (dC (.int 1))) (tgN 6)) (gSeq (gWhile cW bW) (gIf (dB (d2 oLeD (dCB oLen (dCons (dVar 5) dNil)) (dVar 1))) (gApp 3 (dTup (dCons (dVar 4) (dCons (dVar 6) (dCons (dCall (fun ds => noX (a1u ds)) (dCons (dVar 5) (dCons (dVar 1) dNil))) dNil))))) gNext)))) (.int (i : Int)) [.vl (tx (jn 32 ws)), .vl (.int W), .vl (.list (ws.map tx)), .ow (ps.map pcD), x4, x5, x6] = r := fun r hr =>
    a3x (δ' := [.vl (tx (jn 32 ws)), .vl (.int W), .vl (.list (ws.map tx)), .ow (ps.map pcD), .vl (.int (i : Int)), x5, x6]) rfl (a0o (a1a (d := tx (row ws i (i + 1))) (ev_2 (a0a rfl) (a0a rfl) ix)) (a0o (a1a (d := .int ((i + 1 : Nat) : Int)) (ev_2 (a0a rfl) ev_c a5e)) (a0o w1 hr)))
   by_cases hf : Ft ws W i j'
   ·have hjn : j' = ws.length := by
     rcases w5 with w5 | w5
     ·exact w5
     ·exact absurd hf w5
    rw [decide_eq_true hf.2.2] at b1
    have hpr := a7e (r := row ws i j') (W := W) (by omega) (by omega)
    have e2 : pc ws W i j' = rp W (row ws i j') := by unfold pc; rw [if_pos hjn, Int.add_zero]
    rw [<- e2] at hpr
    refine ⟨[.vl (tx (jn 32 ws)), .vl (.int W), .vl (.list (ws.map tx)), .ow ((ps ++ ad).map pcD ++ [pcD (i, j', pc ws W i j')]), .vl (.int (i : Int)), .vl (tx (row ws i j')), .vl (.int (j' : Int))], st _ (a4z b1 (a4v rfl (ev_app (d := pcD (i, j', pc ws W i j')) rfl (ev_tup (ds := [.int (i : Int), .int (j' : Int), .int (pc ws W i j')]) (a0d (a0a rfl) (a0d (a0a rfl) (a0d (a0q (a0d (a0a rfl) (a0d (a0a rfl) a0f)) hpr) a0f))) rfl) (a0l (by rw [List.length_map, List.length_append]; omega))))), ps ++ ad ++ [(i, j', pc ws W i j')], _, _, _, ?_, fun i2 j2 c => ?_, by rw [List.map_append (l₁ := ps ++ ad)]; rfl⟩
    ·rw [List.length_append, List.length_append, List.length_singleton]; omega
    ·rw [List.mem_append, List.mem_append, q2, ham, List.mem_singleton]
     constructor
     ·rintro ((⟨k1, k2, k3⟩ | ⟨rfl, k2, k3⟩) | k)
      ·exact ⟨by omega, k2, k3⟩
      ·exact ⟨by omega, w4 j2 (by omega) k2.2, k3⟩
      ·cases k
       exact ⟨by omega, hf, rfl⟩
     ·rintro ⟨k1, k2, k3⟩
      by_cases k4 : i2 < i
      ·exact .inl (.inl ⟨k4, k2, k3⟩)
      ·have k5 : i2 = i := by omega
       subst k5
       by_cases k6 : j2 < j'
       ·exact .inl (.inr ⟨rfl, ⟨k2.1, k6⟩, k3⟩)
       ·have k7 : j2 = j' := by have := k2.2.1; omega
        subst k7
        exact .inr (by rw [k3])
   ·have hno : ¬ (((row ws i j').length : Nat) : Int) <= W := fun z => hf ⟨by omega, w3, z⟩
    rw [decide_eq_false hno] at b1
    refine ⟨[.vl (tx (jn 32 ws)), .vl (.int W), .vl (.list (ws.map tx)), .ow ((ps ++ ad).map pcD), .vl (.int (i : Int)), .vl (tx (row ws i j')), .vl (.int (j' : Int))], st _ (a7t b1 rfl), ps ++ ad, _, _, _, ?_, fun i2 j2 c => ?_, rfl⟩
    ·rw [List.length_append]; omega
    ·rw [List.mem_append, q2, ham]
     constructor
     ·rintro (⟨k1, k2, k3⟩ | ⟨rfl, k2, k3⟩)
      ·exact ⟨by omega, k2, k3⟩
      ·exact ⟨by omega, w4 j2 (by omega) k2.2, k3⟩
     ·rintro ⟨k1, k2, k3⟩
      by_cases k4 : i2 < i
      ·exact .inl ⟨k4, k2, k3⟩
      ·have k5 : i2 = i := by omega
       subst k5
       by_cases k6 : j2 < j'
       ·exact .inr ⟨rfl, ⟨k2.1, k6⟩, k3⟩
       ·exact absurd (k2.less (by omega) (by omega)) hf)
  obtain ⟨δ', h3, ps, x4, x5, x6, q1, q2, rfl⟩ := b3d _ (rngD 0 ws.length) [] [.vl (tx (jn 32 ws)), .vl (.int W), .vl (.list (ws.map tx)), .ow (([] : List Pc).map pcD), .un, .un, .un] ⟨[], _, _, _, Nat.zero_le _, (fun i j c => ⟨(fun z => nomatch z), fun z => absurd z.1 (Nat.not_lt_zero i)⟩), rfl⟩ hbody
  refine ⟨ps, fun i j p => ?_, by rw [List.nil_append, rng_len] at q1; omega, ?_⟩
  ·rw [q2 i j p, List.nil_append, rng_len]
   exact ⟨fun z => z.2, fun z => ⟨by have := z.1.1; have := z.1.2.1; omega, z⟩⟩
  ·refine a0o (a1a (d := .list (ws.map tx)) (a4y (a0a rfl) (a0d ev_c a0f) hs)) ?_
   refine a0o (b0y (ds := []) (a9d a0f rfl)) ?_
   exact a0o (a3q (a9c (a0d (a1s (a0d (a0a rfl) a0f) hln) a0f) (a8i (by omega))) h3) rfl
 obtain ⟨ps, h1, hl, h2⟩ := main
 exact ⟨ps, h1, hl, a0y h2⟩
end
end CT
open PySem PySem.Spec L2 DL CT TX NumText
namespace CT
theorem is_oD (x : Option Int) : oIs (oD x) .none = some (.bool x.isNone) := by cases x <;> rfl
theorem a6h (x : Option Int) : oIsNot (oD x) .none = some (.bool x.isSome) := by cases x <;> rfl
theorem a9a (l : List (Option Int)) : flatDs (l.map oD) = true := by
 induction l with
 | nil => rfl
 | cons a r ih => cases a <;> simp only [List.map_cons, flatDs, ih, oD, flatD, Bool.and_self]
theorem b3a {l : List (Option Int)} {i : Nat} {x : Option Int} (h : l[i]? = some x) : oIx (.list (l.map oD)) (.int (i : Int)) = some (oD x) := a9u (by rw [List.getElem?_map, h]; rfl)
theorem b3b {n i : Nat} (h : i < n) : L2.ixN n (i : Int) = some i := by
 unfold L2.ixN
 rw [if_pos (by omega), if_pos (by omega), Int.toNat_natCast]
theorem below_ev {ps : List Pc} {a : List (Option Int)} (hb : ∀ i j p, (i, j, p) ∈ ps -> i < a.length /\ j < a.length) (hl : a.length <= 100000) : ∃ b, Bl ps a b /\ a3d [.list (ps.map pcD), .list (a.map oD)] = M.ret (.list (b.map oD)) := by
 obtain ⟨PS, hPS⟩ : ∃ PS : D, PS = .list (ps.map pcD) := ⟨_, rfl⟩
 have main : ∀ (q p : List Pc) (b : List (Option Int)) (x3 x4 x5 : Sl), ps = p ++ q -> Bl p a b -> ∃ b' y3 y4 y5, Bl ps a b' /\ forD (bodyD (tgTup 3 (tgCons (tgN 3) (tgCons (tgN 4) (tgCons (tgN 5) tgNil)))) (gIf (dLendT 2 (dAnd (dB (d2 oIsNot (d2 oIx (dVar 1) (dVar 3)) (dC .none))) (dOr (dB (d2 oIs (d2 oIx (dVar 2) (dVar 4)) (dC .none))) (dB (d2 oLt (d2 oAdd (d2 oIx (dVar 1) (dVar 3)) (dVar 5)) (d2 oIx (dVar 2) (dVar 4))))))) (gSetO 2 (dVar 4) (d2 oAdd (d2 oIx (dVar 1) (dVar 3)) (dVar 5))) gNext)) (q.map pcD) [.vl PS, .vl (.list (a.map oD)), .ow (b.map oD), x3, x4, x5] = M.ret (.nx [.vl PS, .vl (.list (a.map oD)), .ow (b'.map oD), y3, y4, y5]) := by
  intro q
  induction q with
  | nil =>
   intro p b x3 x4 x5 e B
   rw [List.append_nil] at e
   subst e
   exact ⟨b, x3, x4, x5, B, rfl⟩
  | cons c q ih =>
   intro p b x3 x4 x5 e B
   obtain ⟨i, j, w⟩ := c
   obtain ⟨hi, hj⟩ := hb i j w (by rw [e]; simp)
   have e2 : ps = (p ++ [(i, j, w)]) ++ q := by rw [List.append_assoc]; exact e
   obtain ⟨xa, ha⟩ : ∃ xa, a[i]? = some xa := ⟨_, List.getElem?_eq_getElem hi⟩
   have hjb : j < b.length := by rw [B.len]; exact hj
   obtain ⟨xb, hxb⟩ : ∃ xb, b[j]? = some xb := ⟨_, List.getElem?_eq_getElem hjb⟩
   have ia := b3a ha
   have ib := b3a hxb
   have tg : tgTup 3 (tgCons (tgN 3) (tgCons (tgN 4) (tgCons (tgN 5) tgNil))) (pcD (i, j, w)) [.vl PS, .vl (.list (a.map oD)), .ow (b.map oD), x3, x4, x5] = some [.vl PS, .vl (.list (a.map oD)), .ow (b.map oD), .vl (.int (i : Int)), .vl (.int (j : Int)), .vl (.int w)] := rfl
   have g1 : ∀ x2 : Sl, d2 oIx (dVar 1) (dVar 3) [.vl PS, .vl (.list (a.map oD)), x2, .vl (.int (i : Int)), .vl (.int (j : Int)), .vl (.int w)] = M.ret (oD xa) := fun x2 => ev_2 (a0a rfl) (a0a rfl) ia
   have g2 : d2 oIx (dVar 2) (dVar 4) [.vl PS, .vl (.list (a.map oD)), .vl (.list (b.map oD)), .vl (.int (i : Int)), .vl (.int (j : Int)), .vl (.int w)] = M.ret (oD xb) := ev_2 (a0a rfl) (a0a rfl) ib
   have g3 := ev_b (ev_2 (g1 (.vl (.list (b.map oD)))) ev_c (a6h xa))
   have g4 := ev_b (ev_2 g2 ev_c (is_oD xb))
   have pass : ∀ (b0 : Bool), b0 = false -> dAnd (dB (d2 oIsNot (d2 oIx (dVar 1) (dVar 3)) (dC .none))) (dOr (dB (d2 oIs (d2 oIx (dVar 2) (dVar 4)) (dC .none))) (dB (d2 oLt (d2 oAdd (d2 oIx (dVar 1) (dVar 3)) (dVar 5)) (d2 oIx (dVar 2) (dVar 4))))) [.vl PS, .vl (.list (a.map oD)), .vl (.list (b.map oD)), .vl (.int (i : Int)), .vl (.int (j : Int)), .vl (.int w)] = M.ret b0 -> Bl (p ++ [(i, j, w)]) a b -> ∃ b' y3 y4 y5, Bl ps a b' /\ forD (bodyD (tgTup 3 (tgCons (tgN 3) (tgCons (tgN 4) (tgCons (tgN 5) tgNil)))) (gIf (dLendT 2 (dAnd (dB (d2 oIsNot (d2 oIx (dVar 1) (dVar 3)) (dC .none))) (dOr (dB (d2 oIs (d2 oIx (dVar 2) (dVar 4)) (dC .none))) (dB (d2 oLt (d2 oAdd (d2 oIx (dVar 1) (dVar 3)) (dVar 5)) (d2 oIx (dVar 2) (dVar 4))))))) (gSetO 2 (dVar 4) (d2 oAdd (d2 oIx (dVar 1) (dVar 3)) (dVar 5))) gNext)) (((i, j, w) :: q).map pcD) [.vl PS, .vl (.list (a.map oD)), .ow (b.map oD), x3, x4, x5] = M.ret (.nx [.vl PS, .vl (.list (a.map oD)), .ow (b'.map oD), y3, y4, y5]) := fun b0 hb0 hc B2 => by
    obtain ⟨b', y3, y4, y5, B3, hI⟩ := ih _ b (.vl (.int (i : Int))) (.vl (.int (j : Int))) (.vl (.int w)) e2 B2
    exact ⟨b', y3, y4, y5, B3, a4x (a3x tg (a7t (ev_lendT (δ := [.vl PS, .vl (.list (a.map oD)), .ow (b.map oD), .vl (.int (i : Int)), .vl (.int (j : Int)), .vl (.int w)]) hc) hb0)) hI⟩
   have put : ∀ x : Int, xa = some x -> dAnd (dB (d2 oIsNot (d2 oIx (dVar 1) (dVar 3)) (dC .none))) (dOr (dB (d2 oIs (d2 oIx (dVar 2) (dVar 4)) (dC .none))) (dB (d2 oLt (d2 oAdd (d2 oIx (dVar 1) (dVar 3)) (dVar 5)) (d2 oIx (dVar 2) (dVar 4))))) [.vl PS, .vl (.list (a.map oD)), .vl (.list (b.map oD)), .vl (.int (i : Int)), .vl (.int (j : Int)), .vl (.int w)] = M.ret true -> (∀ v, b[j]? = some (some v) -> x + w <= v) -> ∃ b' y3 y4 y5, Bl ps a b' /\ forD (bodyD (tgTup 3 (tgCons (tgN 3) (tgCons (tgN 4) (tgCons (tgN 5) tgNil)))) (gIf (dLendT 2 (dAnd (dB (d2 oIsNot (d2 oIx (dVar 1) (dVar 3)) (dC .none))) (dOr (dB (d2 oIs (d2 oIx (dVar 2) (dVar 4)) (dC .none))) (dB (d2 oLt (d2 oAdd (d2 oIx (dVar 1) (dVar 3)) (dVar 5)) (d2 oIx (dVar 2) (dVar 4))))))) (gSetO 2 (dVar 4) (d2 oAdd (d2 oIx (dVar 1) (dVar 3)) (dVar 5))) gNext)) (((i, j, w) :: q).map pcD) [.vl PS, .vl (.list (a.map oD)), .ow (b.map oD), x3, x4, x5] = M.ret (.nx [.vl PS, .vl (.list (a.map oD)), .ow (b'.map oD), y3, y4, y5]) := fun x hx hc hv => by
    subst hx
    obtain ⟨b', y3, y4, y5, B3, hI⟩ := ih _ (b.set j (some (x + w))) (.vl (.int (i : Int))) (.vl (.int (j : Int))) (.vl (.int w)) e2 (B.put ha hjb hv)
    refine ⟨b', y3, y4, y5, B3, a4x (a3x tg (a4z (ev_lendT (δ := [.vl PS, .vl (.list (a.map oD)), .ow (b.map oD), .vl (.int (i : Int)), .vl (.int (j : Int)), .vl (.int w)]) hc) (a4v rfl (ev_setO (ds := b.map oD) (d := .int (x + w)) (k := (j : Int)) (j := j) rfl (ev_2 (g1 _) (a0a rfl) a5e) (a0a rfl) (b3b (by rw [List.length_map]; exact hjb)))))) ?_⟩
    have es : (b.map oD).set j (.int (x + w)) = (b.set j (some (x + w))).map oD := by rw [List.map_set]; rfl
    rw [es]
    exact hI
   cases xa with
   | none => exact pass false rfl (a7u g3) (B.skip ha)
   | some x =>
    cases xb with
    | none => exact put x rfl (a3h g3 (a3w g4)) fun v hv => (by rw [hxb] at hv; cases hv)
    | some v =>
     have g5 := ev_b (ev_2 (h := oLt) (ev_2 (h := oAdd) (d := .int (x + w)) (g1 (.vl (.list (b.map oD)))) (a0a (n := 5) rfl) a5e) g2 o_lt)
     by_cases hlt : x + w < v
     ·rw [decide_eq_true hlt] at g5
      exact put x rfl (a3h g3 (a6c g4 g5)) fun v' hv => (by rw [hxb] at hv; cases hv; omega)
     ·rw [decide_eq_false hlt] at g5
      exact pass false rfl (a3h g3 (a6c g4 g5)) (B.keep ha hxb (by omega))
 obtain ⟨b', y3, y4, y5, B, hm⟩ := main ps [] (List.replicate a.length none) .un .un .un rfl (Bl.nil a)
 refine ⟨b', B, a0y ?_⟩
 unfold a6i
 have hln : oLen [.list (a.map oD)] = some (.int ((a.length : Nat) : Int)) := by rw [a4n, List.length_map]
 have hrep := ev_nRep (δ := [.vl PS, .vl (.list (a.map oD)), .un, .un, .un, .un]) (d := .none) (fn := nLst (dCons (dC .none) dNil)) (g := dCB oLen (dCons (dVar 1) dNil)) (a9d (a0d ev_c a0f) rfl) (a1s (a0d (a0a rfl) a0f) hln) (by omega) (by omega)
 rw [Int.toNat_natCast] at hrep
 rw [<- hPS]
 refine ev_seqN' (b0y hrep) ?_
 have er : List.replicate a.length (PyData.none) = (List.replicate a.length (none : Option Int)).map oD := by rw [List.map_replicate]; rfl
 rw [er]
 refine ev_seqN' (a3q (ds := ps.map pcD) (a3m (x := PS) (a0a rfl) (by rw [hPS]; rfl)) hm) ?_
 exact ev_retF rfl (a9a b')
section
variable {ws : List (List Nat)} {W : Int}
theorem table_ev (h0 : ws ≠ []) (h : ∀ w ∈ ws, Wd w) (hz : tot ws <= 900) (hn : ws.length <= 64) {ps : List Pc} (hps : Pcs ws W ps) (hp : a1v [tx (jn 32 ws), .int W] = M.ret (.list (ps.map pcD))) (m : Nat) (hm : m <= 1000) : ∃ T, Tb ws W ps m T /\ a1x [tx (jn 32 ws), .int W, .int (m : Int)] = M.ret (.list (T.map rD)) := by
 have hs := b2w h0 (fun w hw => (h w hw).no) (by omega : tot ws <= 1000000)
 have hln : oLen [.list (ws.map tx)] = some (.int ((ws.length : Nat) : Int)) := by rw [a4n, List.length_map]
 have main : ∃ T, Tb ws W ps m T /\ a3u (startD 6 [tx (jn 32 ws), .int W, .int (m : Int)]) = M.ret (.rt (.list (T.map rD))) := by
  unfold a3u
  have hbody := fun (p : List D) (d : D) (q : List D) (δ : DS) (e : rngD 0 m = p ++ d :: q) (hδ : ∃ (T : List (List (Option Int))) (x5 : Sl), Tb ws W ps p.length T /\ δ = [.vl (tx (jn 32 ws)), .vl (.int W), .vl (.int (m : Int)), .vl (.list (ps.map pcD)), .ow (T.map rD), x5]) => (show ∃ δ', bodyD (tgN 5) (gApp 4 (dFl (dFrzF 4 (dCall (fun ds => noX (a3d ds)) (dCons (dVar 3) (dCons (d2 oIx (dVar 4) (dVar 5)) dNil)))))) d δ = M.ret (.nx δ') /\ ∃ (T : List (List (Option Int))) (x5 : Sl), Tb ws W ps (p ++ [d]).length T /\ δ' = [.vl (tx (jn 32 ws)), .vl (.int W), .vl (.int (m : Int)), .vl (.list (ps.map pcD)), .ow (T.map rD), x5] from by
   obtain ⟨T, x5, q1, rfl⟩ := hδ
   obtain ⟨rfl, hp⟩ := rng_at e
   obtain ⟨a, ha, hal⟩ := q1.rows p.length (Nat.le_refl _)
   obtain ⟨b, B, hb⟩ := below_ev (ps := ps) (a := a) (fun i j c hc => by
    have := ((hps i j c).mp hc).1
    have := this.1
    have := ((hps i j c).mp hc).1.2.1
    omega) (by omega)
   have ix : oIx (.list (T.map rD)) (.int (p.length : Int)) = some (rD a) := a9u (by rw [List.getElem?_map, ha]; rfl)
   refine ⟨[.vl (tx (jn 32 ws)), .vl (.int W), .vl (.int (m : Int)), .vl (.list (ps.map pcD)), .ow (T.map rD ++ [rD b]), .vl (.int (p.length : Int))], ?_, T ++ [b], _, ?_, by rw [List.map_append]; rfl⟩
   ·refine a3x (δ' := [.vl (tx (jn 32 ws)), .vl (.int W), .vl (.int (m : Int)), .vl (.list (ps.map pcD)), .ow (T.map rD), .vl (.int (p.length : Int))]) rfl ?_
    have cl : dCall (fun ds => noX (a3d ds)) (dCons (dVar 3) (dCons (d2 oIx (dVar 4) (dVar 5)) dNil)) [.vl (tx (jn 32 ws)), .vl (.int W), .vl (.int (m : Int)), .vl (.list (ps.map pcD)), .vl (.list (T.map rD)), .vl (.int (p.length : Int))] = M.ret (.list (b.map oD)) := a0q (ds := [.list (ps.map pcD), .list (a.map oD)]) (a0d (a0a rfl) (a0d (ev_2 (a0a rfl) (a0a rfl) ix) a0f)) hb
    exact ev_app (d := rD b) rfl (ev_Fl (f := dFrzF 4 (dCall (fun ds => noX (a3d ds)) (dCons (dVar 3) (dCons (d2 oIx (dVar 4) (dVar 5)) dNil)))) cl (a9a b)) (a0l (by rw [List.length_map, q1.len]; omega))
   ·rw [List.length_append, List.length_singleton]
    refine ⟨by rw [List.length_append, q1.len]; rfl, ?_, fun k hk => ?_⟩
    ·rw [List.getElem?_append_left (by rw [q1.len]; omega)]
     exact q1.first
    ·rcases Nat.lt_or_eq_of_le (Nat.le_of_lt_succ hk) with q | rfl
     ·obtain ⟨a', b', k1, k2, k3⟩ := q1.next k q
      exact ⟨a', b', by rw [List.getElem?_append_left (by rw [q1.len]; omega)]; exact k1, by rw [List.getElem?_append_left (by rw [q1.len]; omega)]; exact k2, k3⟩
     ·exact ⟨a, b, by rw [List.getElem?_append_left (by rw [q1.len]; omega)]; exact ha, by rw [List.getElem?_append_right (by rw [q1.len]; omega), q1.len, Nat.sub_self]; rfl, B⟩)
  obtain ⟨δ', h3, T, x5, q1, rfl⟩ := b3d _ (rngD 0 m) [] [.vl (tx (jn 32 ws)), .vl (.int W), .vl (.int (m : Int)), .vl (.list (ps.map pcD)), .ow ([some 0 :: List.replicate ws.length none].map rD), .un] ⟨[some 0 :: List.replicate ws.length none], _, ⟨rfl, rfl, fun k hk => absurd hk (Nat.not_lt_zero k)⟩, rfl⟩ hbody
  rw [List.nil_append, rng_len] at q1
  refine ⟨T, q1, ?_⟩
  refine a0o (a1a (d := .list (ps.map pcD)) (a0q (a0d (a0a rfl) (a0d (a0a rfl) a0f)) hp)) ?_
  have hrep := ev_nRep (δ := [.vl (tx (jn 32 ws)), .vl (.int W), .vl (.int (m : Int)), .vl (.list (ps.map pcD)), .un, .un]) (d := .none) (fn := nLst (dCons (dC .none) dNil)) (g := dCB oLen (dCons (dMeth sSplit (dVar 0) (dCons (dC (.str " ")) dNil)) dNil)) (a9d (a0d ev_c a0f) rfl) (a1s (a0d (a4y (a0a rfl) (a0d ev_c a0f) hs) a0f) hln) (by omega) (by omega)
  rw [Int.toNat_natCast] at hrep
  have er : rD (some 0 :: List.replicate ws.length none) = .list ([.int 0] ++ List.replicate ws.length (PyData.none)) := by
   unfold rD
   rw [List.map_cons, List.map_replicate]
   rfl
  refine a0o (b0y (ds := [rD (some 0 :: List.replicate ws.length none)]) (a9d (a0d ?_ a0f) rfl)) ?_
  ·rw [er]
   exact ev_2 (a2q (a0d ev_c a0f) rfl) (ev_ofN hrep) (a7f (a0l (by rw [List.length_replicate]; show 1 + _ <= _; omega)))
  ·exact a0o (a3q (a9c (a0d (a0a rfl) a0f) (a8i (by omega))) h3) rfl
 obtain ⟨T, h1, h2⟩ := main
 exact ⟨T, h1, a0y h2⟩
end
end CT
open PySem PySem.Spec L2 DL CT TX NumText
namespace CT
theorem minL_mem {l : List Int} (h : l ≠ []) : minL l ∈ l := by
 cases l with
 | nil => exact absurd rfl h
 | cons a r =>
  obtain ⟨_, _, h3⟩ := a7h r a
  rcases h3 with h3 | h3
  ·exact List.mem_cons.mpr (.inl h3)
  ·exact List.mem_cons_of_mem _ h3
theorem o_minL {l : List Int} (h : l ≠ []) : oMinM [.list (l.map PyData.int)] = some (.int (minL l)) := by
 match l, h with
 | [], h => exact absurd rfl h
 | a :: r, _ =>
  match hr : r with
  | [] => rfl
  | b :: [] => rfl
  | b :: c :: t =>
   show (match intsOf ((a :: b :: c :: t).map PyData.int) with | some [] => none | some is => some (PyData.int (minL is)) | none => none) = _
   rw [b3c]
theorem ix_last {ds : List D} {d : D} (h : ds.getLast? = some d) : oIx (.list ds) (.int (-1)) = some d := by
 show L2.atI ds (-1) = some d
 have hne : ds ≠ [] := by rintro rfl; cases h
 have hp := List.length_pos_iff.mpr hne
 unfold L2.atI L2.ixN
 rw [if_neg (by omega), if_pos (by omega)]
 show ds[_]? = _
 rw [List.getLast?_eq_getElem?] at h
 rw [<- h]
 congr 1
 omega
def lstO (r : List (Option Int)) : Option Int := r.getLast?.getD none
theorem lstO_at {r : List (Option Int)} {n : Nat} (h : r.length = n + 1) : r[n]? = some (lstO r) := by
 unfold lstO
 rw [List.getLast?_eq_getElem?, h, Nat.add_sub_cancel, List.getElem?_eq_getElem (by omega)]
 rfl
theorem ix_lstO {r : List (Option Int)} (h : r ≠ []) : oIx (rD r) (.int (-1)) = some (oD (lstO r)) := by
 refine ix_last ?_
 rw [List.getLast?_map]
 unfold lstO
 rw [List.getLast?_eq_getLast h]
 rfl
def lasts (T : List (List (Option Int))) : List Int := (T.drop 1).filterMap lstO
theorem b2b : ∀ (q : List (List (Option Int))) (x : Sl), (∀ r ∈ q, r ≠ []) -> compD (tgN 0) (nX (dB (d2 oIsNot (d2 oIx (dVar 0) (d1 oNeg (dC (.int 1)))) (dC .none)))) (nX (d2 oIx (dVar 0) (d1 oNeg (dC (.int 1))))) (q.map rD) [x] = M.ret ((q.filterMap lstO).map PyData.int) := by
 intro q
 induction q with
 | nil => intro x _; rfl
 | cons r q ih =>
  intro x hr
  have h1 := hr r List.mem_cons_self
  have h2 := ih (.vl (rD r)) fun s hs => hr s (List.mem_cons_of_mem _ hs)
  have g : d2 oIx (dVar 0) (d1 oNeg (dC (.int 1))) [.vl (rD r)] = M.ret (oD (lstO r)) := ev_2 (a0a rfl) (ev_1 ev_c rfl) (ix_lstO h1)
  have c := ev_b (ev_2 g ev_c (a6h (lstO r)))
  cases hl : lstO r with
  | none =>
   rw [hl] at c
   rw [List.filterMap_cons_none hl]
   exact b3f (δ' := [.vl (rD r)]) rfl c h2
  | some v =>
   rw [hl] at c g
   rw [List.filterMap_cons_some hl, List.map_cons]
   exact a8o (δ' := [.vl (rD r)]) rfl c g h2
theorem cut_one {T : List D} : oCutS (some 1) none (.list T) = some (.list (T.drop 1)) := by
 show some (PyData.list (cutD T (some 1) none)) = _
 rw [show cutD T (some 1) none = T.drop 1 from b0e T 1]
theorem least_ev {T : List (List (Option Int))} (h : ∀ r ∈ T, r ≠ []) (hl : T.length <= 100000) : a1p [.list (T.map rD)] = M.ret (oD (if lasts T = [] then none else some (minL (lasts T)))) := by
 refine a0y ?_
 unfold a3r
 refine a0p ?_
 have c := b2b (T.drop 1) .un fun r hr => h r (List.mem_of_mem_drop hr)
 have e : dCons (dCompG 1 [] (tgN 0) (dAny (dCutS (dVar 0) (dPart (dC (.int 1))) dNoPart)) (dB (d2 oIsNot (d2 oIx (dVar 0) (d1 oNeg (dC (.int 1)))) (dC .none))) (d2 oIx (dVar 0) (d1 oNeg (dC (.int 1))))) dNil [.vl (.list (T.map rD))] = M.ret [.list ((lasts T).map PyData.int)] := a0d (a3g (ds := (T.drop 1).map rD) (a3m (x := .list ((T.drop 1).map rD)) (a2w (a0a rfl) (a1r ev_c) a1n (by rw [cut_one, List.map_drop])) rfl) (a0l (by rw [List.length_map, List.length_drop]; omega)) c) a0f
 show dMinD _ _ [.vl (.list (T.map rD))] = _
 unfold dMinD
 rw [e, a0s, show dC .none [.vl (.list (T.map rD))] = M.ret PyData.none from rfl, a0s]
 unfold minDf
 dsimp only
 rw [b3c]
 cases lasts T with
 | nil => rfl
 | cons a r => rfl
section
variable {a : List (Option Int)} {e : Nat} {v : Int}
theorem begins_comp : ∀ (q : List Pc) (x0 x1 x2 : Sl), (∀ i j p, (i, j, p) ∈ q -> i < a.length) -> ∃ is : List Nat, compD (tgTup 3 (tgCons (tgN 0) (tgCons (tgN 1) (tgCons (tgN 2) tgNil)))) (nX (dAnd (dB (d2 oEq (dVar 1) (dVar 3))) (dAnd (dB (d2 oIsNot (d2 oIx (dVar 5) (dVar 0)) (dC .none))) (dB (d2 oEq (d2 oAdd (d2 oIx (dVar 5) (dVar 0)) (dVar 2)) (dVar 4)))))) (nX (dVar 0)) (q.map pcD) [x0, x1, x2, .vl (.int (e : Int)), .vl (.int v), .vl (rD a)] = M.ret (is.map fun i => PyData.int ((i : Nat) : Int)) /\ (∀ i ∈ is, ∃ p x, (i, e, p) ∈ q /\ a[i]? = some (some x) /\ x + p = v) /\ ((∃ i p x, (i, e, p) ∈ q /\ a[i]? = some (some x) /\ x + p = v) -> is ≠ []) := by
 intro q
 induction q with
 | nil => intro x0 x1 x2 _; exact ⟨[], rfl, (fun i hi => nomatch hi), fun ⟨_, _, _, z, _⟩ => nomatch z⟩
 | cons c q ih =>
  intro x0 x1 x2 hq
  obtain ⟨i, j, p⟩ := c
  have hi := hq i j p List.mem_cons_self
  obtain ⟨xa, ha⟩ : ∃ xa, a[i]? = some xa := ⟨_, List.getElem?_eq_getElem hi⟩
  obtain ⟨is, h1, h2, h3⟩ := ih (.vl (.int (i : Int))) (.vl (.int (j : Int))) (.vl (.int p)) fun i j p z => hq i j p (List.mem_cons_of_mem _ z)
  have tg : tgTup 3 (tgCons (tgN 0) (tgCons (tgN 1) (tgCons (tgN 2) tgNil))) (pcD (i, j, p)) [x0, x1, x2, .vl (.int (e : Int)), .vl (.int v), .vl (rD a)] = some [.vl (.int (i : Int)), .vl (.int (j : Int)), .vl (.int p), .vl (.int (e : Int)), .vl (.int v), .vl (rD a)] := rfl
  have c1 : dB (d2 oEq (dVar 1) (dVar 3)) [.vl (.int (i : Int)), .vl (.int (j : Int)), .vl (.int p), .vl (.int (e : Int)), .vl (.int v), .vl (rD a)] = M.ret (decide ((j : Int) = (e : Int))) := ev_b (ev_2 (a0a rfl) (a0a rfl) o_eq)
  have g : d2 oIx (dVar 5) (dVar 0) [.vl (.int (i : Int)), .vl (.int (j : Int)), .vl (.int p), .vl (.int (e : Int)), .vl (.int v), .vl (rD a)] = M.ret (oD xa) := ev_2 (a0a rfl) (a0a rfl) (b3a ha)
  have c2 := ev_b (ev_2 g ev_c (a6h xa))
  have no : ∀ (b : Bool), dAnd (dB (d2 oEq (dVar 1) (dVar 3))) (dAnd (dB (d2 oIsNot (d2 oIx (dVar 5) (dVar 0)) (dC .none))) (dB (d2 oEq (d2 oAdd (d2 oIx (dVar 5) (dVar 0)) (dVar 2)) (dVar 4)))) [.vl (.int (i : Int)), .vl (.int (j : Int)), .vl (.int p), .vl (.int (e : Int)), .vl (.int v), .vl (rD a)] = M.ret b -> b = false -> (¬ (j = e /\ ∃ x, xa = some x /\ x + p = v)) -> ∃ is : List Nat, compD (tgTup 3 (tgCons (tgN 0) (tgCons (tgN 1) (tgCons (tgN 2) tgNil)))) (nX (dAnd (dB (d2 oEq (dVar 1) (dVar 3))) (dAnd (dB (d2 oIsNot (d2 oIx (dVar 5) (dVar 0)) (dC .none))) (dB (d2 oEq (d2 oAdd (d2 oIx (dVar 5) (dVar 0)) (dVar 2)) (dVar 4)))))) (nX (dVar 0)) (((i, j, p) :: q).map pcD) [x0, x1, x2, .vl (.int (e : Int)), .vl (.int v), .vl (rD a)] = M.ret (is.map fun i => PyData.int ((i : Nat) : Int)) /\ (∀ i' ∈ is, ∃ p' x, (i', e, p') ∈ ((i, j, p) :: q) /\ a[i']? = some (some x) /\ x + p' = v) /\ ((∃ i' p' x, (i', e, p') ∈ ((i, j, p) :: q) /\ a[i']? = some (some x) /\ x + p' = v) -> is ≠ []) := fun b hb hf hno => by
   subst hf
   refine ⟨is, b3f tg hb h1, fun i' hi' => ?_, ?_⟩
   ·obtain ⟨p', x, z1, z2⟩ := h2 i' hi'
    exact ⟨p', x, List.mem_cons_of_mem _ z1, z2⟩
   ·rintro ⟨i', p', x, z1, z2, z3⟩
    rcases List.mem_cons.mp z1 with z1 | z1
    ·cases z1
     rw [ha] at z2
     exact absurd ⟨rfl, x, Option.some.inj z2, z3⟩ hno
    ·exact h3 ⟨i', p', x, z1, z2, z3⟩
  by_cases hj : j = e
  ·subst hj
   rw [decide_eq_true rfl] at c1
   cases xa with
   | none => exact no false (a3h c1 (a7u c2)) rfl fun z => by obtain ⟨_, x, z, _⟩ := z; cases z
   | some x =>
    have c3 : dB (d2 oEq (d2 oAdd (d2 oIx (dVar 5) (dVar 0)) (dVar 2)) (dVar 4)) [.vl (.int (i : Int)), .vl (.int (j : Int)), .vl (.int p), .vl (.int (j : Int)), .vl (.int v), .vl (rD a)] = M.ret (decide (x + p = v)) := ev_b (ev_2 (ev_2 g (a0a rfl) a5e) (a0a rfl) o_eq)
    by_cases hv : x + p = v
    ·rw [decide_eq_true hv] at c3
     refine ⟨i :: is, a8o tg (a3h c1 (a3h c2 c3)) (a0a rfl) h1, fun i' hi' => ?_, fun _ => by simp⟩
     rcases List.mem_cons.mp hi' with rfl | hi'
     ·exact ⟨p, x, List.mem_cons_self, ha, hv⟩
     ·obtain ⟨p', x, z1, z2⟩ := h2 i' hi'
      exact ⟨p', x, List.mem_cons_of_mem _ z1, z2⟩
    ·rw [decide_eq_false hv] at c3
     exact no false (a3h c1 (a3h c2 c3)) rfl fun z => by
      obtain ⟨_, x', z, z2⟩ := z
      cases z
      exact hv z2
  ·rw [decide_eq_false (by omega)] at c1
   exact no false (a7u c1) rfl fun z => hj z.1
theorem begin_ev {ps : List Pc} (hps : ∀ i j p, (i, j, p) ∈ ps -> i < a.length) (hl : ps.length <= 100000) (hex : ∃ i p x, (i, e, p) ∈ ps /\ a[i]? = some (some x) /\ x + p = v) : ∃ i p x, (i, e, p) ∈ ps /\ a[i]? = some (some x) /\ x + p = v /\ a3o [.list (ps.map pcD), rD a, .int (e : Int), .int v] = M.ret (.int (i : Int)) := by
 obtain ⟨is, h1, h2, h3⟩ := begins_comp (a := a) (e := e) (v := v) ps .un .un .un hps
 match is, h3 hex, h1, h2 with
 | [], h, _, _ => exact absurd rfl h
 | i :: is, _, h1, h2 =>
  obtain ⟨p, x, z1, z2, z3⟩ := h2 i List.mem_cons_self
  refine ⟨i, p, x, z1, z2, z3, a0y ?_⟩
  unfold a5l
  refine a0o (a1a (a3g (ds := ps.map pcD) (a3m (a0a rfl) rfl) (a0l (by rw [List.length_map]; omega)) h1)) ?_
  exact a0p (ev_2 (a0a rfl) ev_c (a9u (i := 0) rfl))
end
theorem cut_seg {xs : List D} {i e : Nat} (hi : i <= e) (he : e <= xs.length) : cutD xs (some (i : Int)) (some (e : Int)) = (xs.drop i).take (e - i) := by
 unfold cutD
 rw [HT.a8t, HT.a8t, Nat.min_eq_left (show i <= xs.length by omega), Nat.min_eq_left he]
theorem o_rowJ {ws : List (List Nat)} {i j : Nat} (hi : i <= j) (hj : j <= ws.length) (hz : tot ws <= 900) : oCutS (some (i : Int)) (some (j : Int)) (.list (ws.map tx)) = some (.list (((ws.drop i).take (j - i)).map tx)) /\ sJoin (S [32]) [.list (((ws.drop i).take (j - i)).map tx)] = some (tx (row ws i j)) := by
 constructor
 ·show some (PyData.list (cutD (ws.map tx) (some (i : Int)) (some (j : Int)))) = _
  rw [cut_seg hi (by rw [List.length_map]; exact hj), <- List.map_drop, <- List.map_take]
 ·exact b0q (by have := b2e (ws := ws) i (j - i); omega)
section
variable {ws : List (List Nat)} {W : Int} {ps : List Pc} {m : Nat} {T : List (List (Option Int))}
noncomputable def bB : DS -> M Out := (gSeq (gAsg (dCall (fun ds => noX (a3o ds)) (dCons (dVar 1) (dCons (d2 oIx (dVar 2) (d2 oSub (dVar 3) (dC (.int 1)))) (dCons (dVar 5) (dCons (d2 oIx (d2 oIx (dVar 2) (dVar 3)) (dVar 5)) dNil))))) (tgN 7))
  (gSeq (gApp 6 (dMeth sJoin (dC (.str " ")) (dCons (dCutS (dVar 4) (dPart (dVar 7)) (dPart (dVar 5))) dNil)))
  (gSeq (gAsg (dVar 7) (tgN 5))
  (gAsg (d2 (oII (fun i j => i - j)) (dVar 3) (dC (.int 1))) (tgN 3)))))
theorem back_while (hz : tot ws <= 900) (hps : Pcs ws W ps) (hpl : ps.length <= 100000) (hT : Tb ws W ps m T) (A : D) : ∀ (k e : Nat) (v : Int) (rs0 : List (List Nat)) (x7 : Sl), k <= m -> rs0.length + k <= 100000 -> (∃ a, T[k]? = some a /\ a[e]? = some (some v)) -> ∃ rs y7, Path ws W k e v rs /\ gWhile (dB (d2 oGt (dVar 3) (dC (.int 0)))) bB [.vl A, .vl (.list (ps.map pcD)), .vl (.list (T.map rD)), .vl (.int (k : Int)), .vl (.list (ws.map tx)), .vl (.int (e : Int)), .ow (rs0.map tx), x7] = M.ret (.nx [.vl A, .vl (.list (ps.map pcD)), .vl (.list (T.map rD)), .vl (.int 0), .vl (.list (ws.map tx)), .vl (.int 0), .ow ((rs0 ++ rs.reverse).map tx), y7]) := by
 intro k
 induction k with
 | zero =>
  intro e v rs0 x7 hk hr hx
  obtain ⟨a, h1, h2⟩ := hx
  rw [hT.first] at h1
  cases h1
  cases e with
  | zero =>
   cases h2
   refine ⟨[], x7, .zero, ?_⟩
   rw [List.reverse_nil, List.append_nil]
   exact a9b (ev_b (ev_2 (a0a rfl) ev_c (by rw [o_gt]; rfl)))
  | succ e =>
   rw [List.getElem?_cons_succ, List.getElem?_replicate] at h2
   split at h2
   ·cases h2
   ·cases h2
 | succ k ih =>
  intro e v rs0 x7 hk hr hx
  obtain ⟨b0, h1, h2⟩ := hx
  obtain ⟨a, b, n1, n2, B⟩ := hT.next k (by omega)
  rw [n2] at h1
  cases h1
  obtain ⟨a', r1, r2⟩ := hT.rows k (by omega)
  rw [n1] at r1
  cases r1
  obtain ⟨i, p, x, z1, z2, z3, hb⟩ := begin_ev (a := a) (e := e) (v := v) (ps := ps) (fun i j p hc => by
   have := ((hps i j p).mp hc).1
   have := this.1
   have := ((hps i j p).mp hc).1.2.1
   omega) hpl (B.snd e v h2)
  obtain ⟨hf, rfl⟩ := (hps i e p).mp z1
  obtain ⟨rs, y7, hP, hw⟩ := ih i x (rs0 ++ [row ws i e]) (.vl (.int (i : Int))) (by omega) (by rw [List.length_append, List.length_singleton]; omega) ⟨a, n1, z2⟩
  refine ⟨rs ++ [row ws i e], y7, by rw [<- z3]; exact hP.step hf, ?_⟩
  rw [List.reverse_append, List.reverse_singleton, <- List.append_assoc]
  refine b1x (ev_b (ev_2 (a0a rfl) ev_c (by rw [o_gt, decide_eq_true (by omega)]))) ?_ hw
  unfold bB
  obtain ⟨j1, j2⟩ := o_rowJ (ws := ws) (Nat.le_of_lt hf.1) hf.2.1 hz
  have t1 : oIx (.list (T.map rD)) (.int ((k + 1 : Nat) : Int)) = some (rD b0) := a9u (by rw [List.getElem?_map, n2]; rfl)
  have t2 : oIx (.list (T.map rD)) (.int (((k + 1 : Nat) : Int) - 1)) = some (rD a) := by
   rw [show ((k + 1 : Nat) : Int) - 1 = (k : Int) by omega]
   exact a9u (by rw [List.getElem?_map, n1]; rfl)
  refine a0o (a1a (d := .int (i : Int)) (a0q (ds := [.list (ps.map pcD), rD a, .int (e : Int), .int v]) (a0d (a0a rfl) (a0d (ev_2 (a0a rfl) (ev_2 (a0a rfl) ev_c o_sub) t2) (a0d (a0a rfl) (a0d (ev_2 (ev_2 (a0a rfl) (a0a rfl) t1) (a0a rfl) (b3a h2)) a0f)))) hb)) ?_
  refine a0o (ev_app (ds := rs0.map tx) (d := tx (row ws i e)) rfl (a4y (z := S [32]) ev_c (a0d (a2w (a0a rfl) (a1r (a0a rfl)) (a1r (a0a rfl)) j1) a0f) j2) (a0l (by rw [List.length_map]; omega))) ?_
  refine a0o (a1a (d := .int (i : Int)) (a0a rfl)) ?_
  have em : rs0.map tx ++ [tx (row ws i e)] = (rs0 ++ [row ws i e]).map tx := by rw [List.map_append]; rfl
  rw [em]
  exact a1a (d := .int (k : Int)) (ev_2 (x := .int ((k + 1 : Nat) : Int)) (y := .int 1) (a0a rfl) ev_c (by show some (PyData.int (((k + 1 : Nat) : Int) - 1)) = _; rw [show ((k + 1 : Nat) : Int) - 1 = (k : Int) by omega]))
theorem back_ev (h0 : ws ≠ []) (h : ∀ w ∈ ws, Wd w) (hz : tot ws <= 900) (hps : Pcs ws W ps) (hpl : ps.length <= 100000) (hT : Tb ws W ps m T) {k : Nat} {v : Int} (hk : k <= m) (hk2 : k <= 1000) (hv : ∃ a, T[k]? = some a /\ a[ws.length]? = some (some v)) : ∃ rs, Path ws W k ws.length v rs /\ a6f [tx (jn 32 ws), .list (ps.map pcD), .list (T.map rD), .int (k : Int)] = M.ret (.list (rs.map tx)) := by
 have hs := b2w h0 (fun w hw => (h w hw).no) (by omega : tot ws <= 1000000)
 have hln : oLen [.list (ws.map tx)] = some (.int ((ws.length : Nat) : Int)) := by rw [a4n, List.length_map]
 obtain ⟨rs, y7, hP, hw⟩ := back_while hz hps hpl hT (tx (jn 32 ws)) k ws.length v [] .un hk (by show 0 + k <= _; omega) hv
 refine ⟨rs, hP, a0y ?_⟩
 unfold a6x
 refine a0o (a1a (d := .list (ws.map tx)) (a4y (a0a rfl) (a0d ev_c a0f) hs)) ?_
 refine a0o (a1a (a1s (a0d (a0a rfl) a0f) hln)) ?_
 refine a0o (b0y (ds := []) (a9d a0f rfl)) ?_
 refine a0o hw (ev_frz ?_)
 refine a0p (a1s (a0d (x := .list (([] ++ rs.reverse).map tx)) (a0a rfl) a0f) ?_)
 show some (PyData.list (((([] : List (List Nat)) ++ rs.reverse).map tx).reverse)) = _
 rw [List.nil_append, List.map_reverse, List.reverse_reverse]
end
theorem ev_index {f g : DS -> M D} {δ : DS} {ds : List D} {y : D} {v : V} {vs : List V} {j : Nat} (h1 : f δ = M.ret (.list ds)) (h2 : g δ = M.ret y) (h3 : plainV y = some v) (h4 : plainVs ds = some vs) (h5 : idxV v vs = some j) : dIndex f g δ = M.ret (.int (j : Nat)) := by
 unfold dIndex
 rw [h1, a0s]
 dsimp only
 rw [h2, a0s, h3, h4]
 dsimp only
 rw [h5]
def oV : Option Int -> V
 | none => .non
 | some a => .int a
theorem plain_oD (l : List (Option Int)) : plainVs (l.map oD) = some (l.map oV) := by
 induction l with
 | nil => rfl
 | cons a r ih => rw [List.map_cons, plainVs, ih]; cases a <;> rfl
theorem idx_oV {l : List (Option Int)} {m : Int} (h : some m ∈ l) : ∃ j, idxV (.int m) (l.map oV) = some j /\ l[j]? = some (some m) := by
 induction l with
 | nil => cases h
 | cons a r ih =>
  by_cases e : a = some m
  ·subst e
   exact ⟨0, by rw [List.map_cons, idxV, if_pos (by simp [eqV, oV])], rfl⟩
  ·have h' : some m ∈ r := by
    rcases List.mem_cons.mp h with h | h
    ·exact absurd h.symm e
    ·exact h
   obtain ⟨j, h1, h2⟩ := ih h'
   refine ⟨j + 1, ?_, h2⟩
   rw [List.map_cons, idxV, if_neg, h1]
   ·rfl
   ·cases a with
    | none => simp [eqV, oV]
    | some x => simp only [eqV, oV, beq_iff_eq]; intro z; exact e (by rw [z])
section
variable {ws : List (List Nat)} {W : Int} {ps : List Pc} {m : Nat} {T : List (List (Option Int))}
theorem Tb.all_ne (hT : Tb ws W ps m T) : ∀ r ∈ T, r.length = ws.length + 1 := fun r hr => by
 obtain ⟨k, hk, hk2⟩ := List.mem_iff_getElem.mp hr
 obtain ⟨a, h1, h2⟩ := hT.rows k (by have := hT.len; omega)
 rw [List.getElem?_eq_getElem hk, hk2] at h1
 cases h1
 exact h2
theorem parted_ev (h0 : ws ≠ []) (h : ∀ w ∈ ws, Wd w) (hz : tot ws <= 900) (hps : Pcs ws W ps) (hpl : ps.length <= 100000) (hp : a1v [tx (jn 32 ws), .int W] = M.ret (.list (ps.map pcD))) (hm : m <= 1000) (hT : Tb ws W ps m T) (ht : a1x [tx (jn 32 ws), .int W, .int (m : Int)] = M.ret (.list (T.map rD))) :
  (lasts T = [] -> a6o [tx (jn 32 ws), .int W, .int (m : Int)] = some (.error ⟨"NoParting", []⟩)) /\
  (lasts T ≠ [] -> ∃ k rs, k <= m /\ Path ws W k ws.length (minL (lasts T)) rs /\ a6o [tx (jn 32 ws), .int W, .int (m : Int)] = M.ret (.list (rs.map tx))) := by
 have hne : ∀ r ∈ T, r ≠ [] := fun r hr z => by have := hT.all_ne r hr; rw [z] at this; cases this
 have hl := least_ev hne (by have := hT.len; omega)
 constructor
 ·intro e
  rw [if_pos e] at hl
  refine er_run ?_
  unfold a8m
  refine a0o (a1a (a0q (a0d (a0a rfl) (a0d (a0a rfl) (a0d (a0a rfl) a0f))) ht)) ?_
  refine a0o (a1a (a0q (a0d (a0a rfl) a0f) hl)) ?_
  exact er_seq (er_if_t (ev_b (ev_2 (a0a rfl) ev_c rfl)) (ev_raise (a0d ev_c a0f) rfl))
 ·intro e
  rw [if_neg e] at hl
  have hmem : some (minL (lasts T)) ∈ T.map lstO := by
   have := minL_mem e
   unfold lasts at this
   obtain ⟨r, hr, hr2⟩ := List.mem_filterMap.mp this
   exact List.mem_map.mpr ⟨r, List.mem_of_mem_drop hr, hr2⟩
  obtain ⟨k, k1, k2⟩ := idx_oV hmem
  rw [List.getElem?_map] at k2
  obtain ⟨a, a1, a2⟩ := Option.map_eq_some_iff.mp k2
  have hk : k < T.length := by
   rcases Nat.lt_or_ge k T.length with q | q
   ·exact q
   ·rw [List.getElem?_eq_none q] at a1; cases a1
  have hkm : k <= m := by have := hT.len; omega
  have hal := hT.all_ne a (List.mem_of_getElem? a1)
  have a3 := lstO_at hal
  rw [a2] at a3
  generalize hM : minL (lasts T) = Mn at *
  obtain ⟨rs, hP, hb⟩ := back_ev h0 h hz hps hpl hT hkm (by omega) ⟨a, a1, a3⟩
  refine ⟨k, rs, hkm, hP, a0y ?_⟩
  unfold a8m
  refine a0o (a1a (a0q (a0d (a0a rfl) (a0d (a0a rfl) (a0d (a0a rfl) a0f))) ht)) ?_
  refine a0o (a1a (a0q (a0d (a0a rfl) a0f) hl)) ?_
  refine a2n (b := false) (ev_b (ev_2 (a0a rfl) ev_c rfl)) rfl ?_
  have comp : ∀ (q : List (List (Option Int))) (x : Sl), (∀ r ∈ q, r ≠ []) -> compD (tgN 0) (nX dYes) (nX (d2 oIx (dVar 0) (d1 oNeg (dC (.int 1))))) (q.map rD) [x] = M.ret ((q.map lstO).map oD) := by
   intro q
   induction q with
   | nil => intro x _; rfl
   | cons r q ih =>
    intro x hr
    exact a5m (δ' := [.vl (rD r)]) rfl (ev_2 (a0a rfl) (ev_1 ev_c rfl) (ix_lstO (hr r List.mem_cons_self))) (ih _ fun s hs => hr s (List.mem_cons_of_mem _ hs))
  refine a0o (a1a (d := .list ((T.map lstO).map oD)) (a3g (ds := T.map rD) (a3m (a0a rfl) rfl) (a0l (by rw [List.length_map, hT.len]; omega)) (comp T .un hne))) ?_
  refine a0p (a0q (a0d (a0a rfl) (a0d (a0q (a0d (a0a rfl) (a0d (a0a rfl) a0f)) hp) (a0d (a0a rfl) (a0d ?_ a0f)))) hb)
  exact ev_index (a0a rfl) (a0a rfl) (show plainV (.int Mn) = some (.int Mn) from rfl) (plain_oD _) k1
end
end CT
namespace K51
open PySem PySem.Spec L2 DL CT SL
noncomputable def a4f : DS -> M Out := (gSeq (gIf (dB (d2 oLt (dVar 1) (dCB oLen (dCons (dVar 0) dNil)))) (gRet (d2 oIx (dVar 0) (dVar 1))) gNext)
  (gRet (dC (.int 0))))
noncomputable def a2g : List D -> M D := run 2 a4f
noncomputable def a6l : DS -> M Out := (gRet (d2 oMod (d2 oMul (d2 oMod (dVar 0) (dC (.int 2147483647))) (dVar 1)) (dC (.int 2147483647))))
noncomputable def a2t : List D -> M D := run 2 a6l
noncomputable def a6k : DS -> M Out := (gSeq (gNewL 1 (nLst dNil))
  (gSeq (gForI (dAny (dVar 0)) (tgN 2) (gSeq (gAsg (dCall (fun ds => noX (a2t ds)) (dCons (dVar 2) (dCons (dC (.int 48271)) dNil))) (tgN 3))
  (gSeq (gAsg (d2 oAdd (d2 oIx (dC (.str "aB.c-D,e!")) (d2 oMod (d2 oDiv (dVar 3) (dC (.int 9))) (dC (.int 9)))) (dCutS (dC (.str "so-and-so")) dNoPart (dPart (d2 oMod (dVar 3) (dC (.int 9)))))) (tgN 4))
  (gSeq (gIf (dB (d2 oEq (d2 oMod (d2 oDiv (dVar 3) (dC (.int 7))) (dC (.int 3))) (dC (.int 0)))) (gAsg (d2 oAdd (dCutS (dVar 4) dNoPart (dPart (d1 oNeg (dC (.int 1))))) (d2 oIx (dC (.str ".!?,;:")) (d2 oMod (d2 oDiv (dVar 3) (dC (.int 21))) (dC (.int 6))))) (tgN 4)) gNext)
  (gApp 1 (dVar 4))))))
  (gRetO 1)))
noncomputable def a5q : List D -> M D := run 5 a6k
noncomputable def a6z : DS -> M Out := (gSeq (gAsg (d2 oPow (d2 oSub (dVar 1) (dCB oLen (dCons (dVar 0) dNil))) (dC (.int 2))) (tgN 3))
  (gSeq (gIf (dOr (dB (dVar 2)) (dB (d2 oInS (d2 oIx (dVar 0) (d1 oNeg (dC (.int 1)))) (dC (.str ".!?"))))) (gRet (dVar 3)) gNext)
  (gRet (d2 oAdd (dVar 3) (d2 oIx (dLst (dCons (dC (.int 200)) (dCons (dC (.int 50)) dNil))) (dCB oIntS (dCons (d2 oInS (d2 oIx (dVar 0) (d1 oNeg (dC (.int 1)))) (dC (.str ",;:"))) dNil)))))))
noncomputable def a4c : List D -> M D := run 4 a6z
noncomputable def a2i : DS -> M Out := (gIf (dOr (dNot (dB (dIs "str" (dVar 4)))) (dOr (dB (d2 oEq (dVar 4) (dC (.str "")))) (dB (d2 oGt (dCB oLen (dCons (dVar 4) dNil)) (dVar 1))))) (gRet (dC (.bool false))) gNext)
noncomputable def a1q : DS -> M Out := (gSeq (gIf (dOr (dNot (dB (dIs "list" (dVar 3)))) (dB (d2 oGt (dCB oLen (dCons (dVar 3) dNil)) (dVar 2)))) (gRet (dC (.bool false))) gNext)
  (gSeq (gForI (dAny (dVar 3)) (tgN 4) a2i)
  (gRet (d2 oEq (dMeth sJoin (dC (.str " ")) (dCons (dVar 3) dNil)) (dMeth sJoin (dC (.str " ")) (dCons (dVar 0) dNil))))))
noncomputable def a1k : List D -> M D := run 5 a1q
noncomputable def a3b : DS -> M Out := (gIf (dAnd (dB (d2 oIsNot (dVar 4) (dC .none))) (dOr (dNot (dB (dIs "int" (dVar 4)))) (dB (dIs "bool" (dVar 4))))) (gRet (dC (.bool false))) gNext)
noncomputable def a1t : DS -> M Out := (gSeq (gIf (dOr (dNot (dB (dIs "list" (dVar 3)))) (dB (d2 oNe (dCB oLen (dCons (dVar 3) dNil)) (d2 oAdd (dCB oLen (dCons (dVar 0) dNil)) (dC (.int 1)))))) (gRet (dC (.bool false))) gNext)
  (gForI (dAny (dVar 3)) (tgN 4) a3b))
noncomputable def a2h : DS -> M Out := (gSeq (gIf (dOr (dNot (dB (dIs "list" (dVar 2)))) (dB (d2 oNe (dCB oLen (dCons (dVar 2) dNil)) (d2 oAdd (dVar 1) (dC (.int 1)))))) (gRet (dC (.bool false))) gNext)
  (gSeq (gForI (dAny (dVar 2)) (tgN 3) a1t)
  (gRet (d2 oEq (d2 oIx (d2 oIx (dVar 2) (dC (.int 0))) (dC (.int 0))) (dC (.int 0))))))
noncomputable def a1y : List D -> M D := run 5 a2h
noncomputable def a1o : DS -> M Out := (gSeq (gAsg (d2 oIx (d2 oIx (dVar 4) (dVar 11)) (dVar 5)) (tgN 12))
  (gSeq (gAsg (d2 oIx (d2 oIx (dVar 4) (d2 oAdd (dVar 11) (dC (.int 1)))) (dVar 8)) (tgN 13))
  (gIf (dAnd (dB (d2 oIsNot (dVar 12) (dC .none))) (dOr (dB (d2 oIs (dVar 13) (dC .none))) (dB (d2 oGt (dVar 13) (d2 oAdd (dVar 12) (dVar 10)))))) (gRet (dC (.bool false))) gNext)))
noncomputable def a3j : DS -> M Out := (gSeq (gAsg (dMeth sJoin (dC (.str " ")) (dCons (dCutS (dVar 0) (dPart (dVar 5)) (dPart (dVar 8))) dNil)) (tgN 9))
  (gIf (dB (d2 oLeD (dCB oLen (dCons (dVar 9) dNil)) (dVar 1))) (gSeq (gAsg (dCall (fun ds => noX (a4c ds)) (dCons (dVar 9) (dCons (dVar 1) (dCons (d2 oEq (dVar 8) (dCB oLen (dCons (dVar 0) dNil))) dNil)))) (tgN 10))
  (gForI (dRng rng1 (dCons (dVar 2) dNil)) (tgN 11) a1o)) gNext))
noncomputable def a3i : DS -> M Out := (gForI (dRng rng2 (dCons (d2 oAdd (dVar 5) (dC (.int 1))) (dCons (d2 oAdd (dCB oLen (dCons (dVar 0) dNil)) (dC (.int 1))) dNil))) (tgN 8) a3j)
noncomputable def a4j : DS -> M Out := (gSeq (gIf (dOr (dNot (dB (dCall (fun ds => noX (a1k ds)) (dCons (dVar 0) (dCons (dVar 1) (dCons (dVar 2) (dCons (dVar 3) dNil))))))) (dNot (dB (dCall (fun ds => noX (a1y ds)) (dCons (dVar 0) (dCons (dVar 2) (dCons (dVar 4) dNil))))))) (gRet (dC (.bool false))) gNext)
  (gSeq (gForI (dRng rng1 (dCons (dCB oLen (dCons (dVar 0) dNil)) dNil)) (tgN 5) a3i)
  (gSeq (gAsg (dCompG 1 [] (tgN 0) (dAny (dCutS (dVar 4) (dPart (dC (.int 1))) dNoPart)) (dB (d2 oIsNot (d2 oIx (dVar 0) (d1 oNeg (dC (.int 1)))) (dC .none))) (d2 oIx (dVar 0) (d1 oNeg (dC (.int 1))))) (tgN 6))
  (gSeq (gAsg (dCompG 2 [1, 3] (tgTup 2 (tgCons (tgN 0) (tgCons (tgN 1) tgNil))) (dEnum (dCons (dVar 3) dNil)) dYes (dCall (fun ds => noX (a4c ds)) (dCons (dVar 1) (dCons (dVar 2) (dCons (d2 oEq (d2 oAdd (dVar 0) (dC (.int 1))) (dCB oLen (dCons (dVar 3) dNil))) dNil))))) (tgN 7))
  (gRet (dAndV (d2 oNe (dVar 6) (dLst dNil)) (d2 oEq (dCB oMinM (dCons (dVar 6) dNil)) (dCB oSumG (dCons (dVar 7) dNil)))))))))
noncomputable def a4m : List D -> M D := run 14 a4j
noncomputable def a1b : DS -> M Out := (gSeq (gAsg (d2 oMod (d2 oDiv (dVar 2) (dC (.int 16))) (dCB oLen (dCons (dVar 1) dNil))) (tgN 3))
  (gSeq (gAsg (d2 oMod (dVar 2) (dC (.int 16))) (tgN 4))
  (gSeq (gIf (dB (d2 oEq (dVar 4) (dC (.int 0)))) (gRet (d2 oIx (dLst (dCons (dCB oTupOf (dCons (dVar 1) dNil)) (dCons (dC .none) (dCons (dMeth sJoin (dC (.str " ")) (dCons (dVar 1) dNil)) (dCons (dLst (dCons (dVar 1) dNil)) dNil))))) (d2 oMod (d2 oDiv (dVar 2) (dC (.int 16))) (dC (.int 4))))) gNext)
  (gSeq (gIf (dB (d2 oEq (dVar 4) (dC (.int 1)))) (gRet (d2 oAdd (d2 oAdd (dCutS (dVar 1) dNoPart (dPart (dVar 3))) (dLst (dCons (d2 oIx (dLst (dCons (dC .none) (dCons (dLst (dCons (d2 oIx (dVar 1) (dVar 3)) dNil)) (dCons (d2 oAdd (d2 oIx (dVar 1) (dVar 3)) (dC (.str " "))) (dCons (d2 oAdd (dC (.str " ")) (d2 oIx (dVar 1) (dVar 3))) (dCons (dC (.str "")) dNil)))))) (d2 oMod (d2 oDiv (dVar 2) (dC (.int 64))) (dC (.int 5)))) dNil))) (dCutS (dVar 1) (dPart (d2 oAdd (dVar 3) (dC (.int 1)))) dNoPart))) gNext)
  (gSeq (gIf (dB (d2 oEq (dVar 4) (dC (.int 2)))) (gRet (d2 oAdd (dCutS (dVar 1) dNoPart (dPart (dVar 3))) (dCutS (dVar 1) (dPart (d2 oAdd (dVar 3) (dC (.int 1)))) dNoPart))) gNext)
  (gSeq (gIf (dB (d2 oEq (dVar 4) (dC (.int 3)))) (gRet (d2 oAdd (d2 oAdd (dCutS (dVar 1) dNoPart (dPart (dVar 3))) (dLst (dCons (dC (.str "")) dNil))) (dCutS (dVar 1) (dPart (dVar 3)) dNoPart))) gNext)
  (gSeq (gIf (dB (d2 oEq (dVar 4) (dC (.int 4)))) (gRet (d2 oAdd (dCutS (dVar 1) (dPart (dVar 3)) dNoPart) (dCutS (dVar 1) dNoPart (dPart (dVar 3))))) gNext)
  (gSeq (gIf (dB (d2 oGt (dVar 4) (dC (.int 8)))) (gRet (dCB oListOf (dCons (dVar 1) dNil))) gNext)
  (gSeq (gAsg (d2 oAdd (dC (.int 1)) (d2 oMod (d2 oDiv (dVar 2) (dC (.int 16))) (dCB oLen (dCons (dVar 0) dNil)))) (tgN 5))
  (gRet (dCompG 1 [] (tgN 0) (dAny (dLst (dCons (dCutS (dVar 0) dNoPart (dPart (dVar 5))) (dCons (dCutS (dVar 0) (dPart (dVar 5)) dNoPart) dNil)))) (dB (d2 oNe (dVar 0) (dLst dNil))) (dMeth sJoin (dC (.str " ")) (dCons (dVar 0) dNil)))))))))))))
noncomputable def a3c : List D -> M D := run 6 a1b
noncomputable def a0u : SL.SG := (sSeq (sAsg 2 (sCompN (dAny (dVar 0)) (nList (dCons (dVar 0) dNil))))
  (sSeq (sAsg 3 (sLend (d2 oMod (d2 oDiv (dVar 1) (dC (.int 16))) (dCB oLen (dCons (dVar 2) dNil)))))
  (sSeq (sAsg 4 (sLend (d2 oMod (d2 oDiv (dVar 1) (dC (.int 128))) (dCB oLen (dCons (d2 oIx (dVar 2) (dVar 3)) dNil)))))
  (sSeq (sAsg 5 (sPure (d2 oMod (dVar 1) (dC (.int 16)))))
  (sSeq (sIf (sTest (dB (d2 oLt (dVar 5) (dC (.int 5))))) (sIf (sTest (dB (d2 oIs (d2 oIx (d2 oIx (dVar 2) (dVar 3)) (dVar 4)) (dC .none)))) (sSetX (sIx (sVar 2) (sVar 3)) (sVar 4) (sPure (d2 oIx (dLst (dCons (dC (.int 0)) (dCons (d1 oNeg (dC (.int 5))) (dCons (dC (.int 7)) (dCons (d2 oPow (dC (.int 10)) (dC (.int 6))) dNil))))) (d2 oMod (d2 oDiv (dVar 1) (dC (.int 4096))) (dC (.int 4)))))) (sSetX (sIx (sVar 2) (sVar 3)) (sVar 4) (sLend (d2 oAdd (d2 oIx (d2 oIx (dVar 2) (dVar 3)) (dVar 4)) (d2 oIx (dLst (dCons (dC (.int 1)) (dCons (d1 oNeg (dC (.int 1))) (dCons (dC (.int 3)) (dCons (d1 oNeg (d2 oPow (dC (.int 10)) (dC (.int 6)))) dNil))))) (d2 oMod (d2 oDiv (dVar 1) (dC (.int 4096))) (dC (.int 4)))))))) sNext)
  (sSeq (sIf (sTest (dB (d2 oEq (dVar 5) (dC (.int 5))))) (sSetX (sIx (sVar 2) (sVar 3)) (sVar 4) (sPure (dC .none))) sNext)
  (sSeq (sIf (sTest (dB (d2 oEq (dVar 5) (dC (.int 6))))) (sSetX (sIx (sVar 2) (sVar 3)) (sVar 4) (sPure (d2 oIx (dLst (dCons (dC (.bool true)) (dCons (dC (.bool false)) (dCons (dC (.str "0")) (dCons (dTup (dCons (dC (.int 0)) dNil)) dNil))))) (d2 oMod (d2 oDiv (dVar 1) (dC (.int 4096))) (dC (.int 4)))))) sNext)
  (sSeq (sIf (sTest (dB (d2 oEq (dVar 5) (dC (.int 7))))) (sRetF (d2 oIx (dLst (dCons (dCutS (dVar 2) dNoPart (dPart (d1 oNeg (dC (.int 1))))) (dCons (d2 oAdd (dVar 2) (dLst (dCons (dCB oListOf (dCons (d2 oIx (dVar 2) (dVar 3)) dNil)) dNil))) (dCons (dCB oTupOf (dCons (dVar 2) dNil)) (dCons (dC .none) (dCons (dLst dNil) dNil)))))) (d2 oMod (d2 oDiv (dVar 1) (dC (.int 4096))) (dC (.int 5))))) sNext)
  (sSeq (sIf (sTest (dB (d2 oEq (dVar 5) (dC (.int 8))))) (sSetI 2 (sVar 3) (sIx (sLst (sCons (sNewL' (nCut (d2 oIx (dVar 2) (dVar 3)) dNoPart (dPart (d1 oNeg (dC (.int 1)))))) (sCons (sNewL' (nCat (d2 oIx (dVar 2) (dVar 3)) (dLst (dCons (dC (.int 0)) dNil)))) (sCons (sLend (dCB oTupOf (dCons (d2 oIx (dVar 2) (dVar 3)) dNil))) (sCons (sPure (dC .none)) sNil))))) (sPure (d2 oMod (d2 oDiv (dVar 1) (dC (.int 4096))) (dC (.int 4)))))) sNext)
  (sRetF (dVar 2)))))))))))
noncomputable def a2j : List SL.Val -> SL.Sto -> SL.R (SL.Val × SL.Sto) := SL.runS 6 a0u
noncomputable def a2s : List D -> M D := SL.asD a2j
noncomputable def a6b : DS -> M Out := (gSeq (gAsg (dC .none) (tgN 3))
  (gSeq (gTryN "NoParting" 4 (gAsg (dCall a6o (dCons (dVar 0) (dCons (dVar 1) (dCons (dVar 2) dNil)))) (tgN 3)) (gAsg (dC .none) (tgN 3)))
  (gRet (dVar 3))))
noncomputable def a4l : List D -> M D := run 4 a6b
noncomputable def b3q : DS -> M Out := (gSeq (gAsg (dCall (fun ds => noX (a2t ds)) (dCons (d2 oAdd (dVar 10) (dVar 9)) (dCons (dC (.int 39373)) dNil))) (tgN 11))
  (gSeq (gAsg (dCall (fun ds => noX (a3c ds)) (dCons (dVar 1) (dCons (dVar 5) (dCons (dVar 11) dNil)))) (tgN 12))
  (gSeq (gAsg (dCall (fun ds => noX (a2s ds)) (dCons (dVar 6) (dCons (dCall (fun ds => noX (a2t ds)) (dCons (d2 oAdd (dVar 10) (dVar 9)) (dCons (dC (.int 16807)) dNil))) dNil))) (tgN 13))
  (gSeq (gIf (dB (d2 oEq (d2 oMod (dVar 11) (dC (.int 5))) (dC (.int 0)))) (gAsg (dCB oListOf (dCons (dVar 5) dNil)) (tgN 12)) gNext)
  (gSeq (gAsg (dCall (fun ds => noX (a2f ds)) (dCons (dVar 2) (dCons (dVar 3) (dCons (dVar 4) (dCons (dVar 12) (dCons (dVar 13) dNil)))))) (tgN 14))
  (gSeq (gAsg (dCall (fun ds => noX (a4m ds)) (dCons (dVar 1) (dCons (dVar 3) (dCons (dVar 4) (dCons (dVar 12) (dCons (dVar 13) dNil)))))) (tgN 15))
  (gSeq (gIf (dOr (dNot (dB (dIs "bool" (dVar 14)))) (dB (d2 oNe (dVar 14) (dVar 15)))) (gRet (dC (.bool false))) gNext)
  (gIf (dOr (dB (d2 oNe (dCall (fun ds => noX (a2f ds)) (dCons (dVar 2) (dCons (dVar 3) (dCons (dVar 4) (dCons (d2 oIx (dVar 8) (dC (.int 0))) (dCons (d2 oIx (dVar 8) (dC (.int 1))) dNil)))))) (dVar 7))) (dB (d2 oNe (dVar 8) (dLst (dCons (dVar 5) (dCons (dVar 6) dNil)))))) (gRet (dC (.bool false))) gNext))))))))
noncomputable def g_law : DS -> M Out := (gSeq (gAsg (dCall (fun ds => noX (a5q ds)) (dCons (d2 oAdd (dLst (dCons (dCall (fun ds => noX (a2g ds)) (dCons (dVar 0) (dCons (dC (.int 3)) dNil))) dNil)) (dCutS (dVar 0) (dPart (dC (.int 4))) (dPart (dC (.int 11))))) dNil)) (tgN 1))
  (gSeq (gAsg (dMeth sJoin (dC (.str " ")) (dCons (dVar 1) dNil)) (tgN 2))
  (gSeq (gAsg (d2 oAdd (dCB oMaxM (dCons (dCompG 1 [] (tgN 0) (dAny (dVar 1)) dYes (dCB oLen (dCons (dVar 0) dNil))) dNil)) (d2 oMod (dCall (fun ds => noX (a2g ds)) (dCons (dVar 0) (dCons (dC (.int 0)) dNil))) (dC (.int 21)))) (tgN 3))
  (gSeq (gAsg (d2 oAdd (dC (.int 1)) (d2 oMod (dCall (fun ds => noX (a2g ds)) (dCons (dVar 0) (dCons (dC (.int 1)) dNil))) (dC (.int 5)))) (tgN 4))
  (gSeq (gAsg (dCall (fun ds => noX (a4l ds)) (dCons (dVar 2) (dCons (dVar 3) (dCons (dVar 4) dNil)))) (tgN 5))
  (gSeq (gAsg (dCall (fun ds => noX (a1x ds)) (dCons (dVar 2) (dCons (dVar 3) (dCons (dVar 4) dNil)))) (tgN 6))
  (gSeq (gAsg (d2 oIsNot (dVar 5) (dC .none)) (tgN 7))
  (gSeq (gIf (dB (d2 oIs (dVar 5) (dC .none))) (gAsg (dLst (dCons (dVar 2) dNil)) (tgN 5)) gNext)
  (gSeq (gIf (dB (d2 oNe (dCall (fun ds => noX (a4m ds)) (dCons (dVar 1) (dCons (dVar 3) (dCons (dVar 4) (dCons (dVar 5) (dCons (dVar 6) dNil)))))) (dVar 7))) (gRet (dC (.bool false))) gNext)
  (gSeq (gAsg (dLst (dCons (dCB oListOf (dCons (dVar 5) dNil)) (dCons (dCompG 1 [] (tgN 0) (dAny (dVar 6)) dYes (dCB oListOf (dCons (dVar 0) dNil))) dNil))) (tgN 8))
  (gSeq (gForI (dEnum (dCons (d2 oAdd (dLst (dCons (dCall (fun ds => noX (a2g ds)) (dCons (dVar 0) (dCons (dC (.int 2)) dNil))) dNil)) (dCutS (dVar 0) (dPart (dC (.int 11))) (dPart (dC (.int 15))))) dNil)) (tgTup 2 (tgCons (tgN 9) (tgCons (tgN 10) tgNil))) b3q)
  (gRet (dC (.bool true))))))))))))))
noncomputable def F_law : List D -> M D := run 16 g_law
end K51
open PySem PySem.Spec L2 DL CT
namespace K51
theorem a7v (ns : List Int) (k : Int) (k0 : 0 <= k) : ∃ c, a2g [.list (ns.map PyData.int), .int k] = M.ret (.int c) := by
 by_cases h : k.toNat < ns.length
 ·refine ⟨ns[k.toNat], a0y ?_⟩
  unfold a4f
  refine a1c (b := true) ?_ (a4v rfl (a1h (a0p ?_)))
  ·walk_at "ev"
   first | rw [o_lt, List.length_map, decide_eq_true (by omega)] | rw [o_ltD, List.length_map, decide_eq_true (by omega)]
  ·refine ev_2 (a0a rfl) (a0a rfl) (ix_nat k0 ?_)
   rw [List.getElem?_map, List.getElem?_eq_getElem h]
   rfl
 ·refine ⟨0, a0y ?_⟩
  unfold a4f
  refine a1c (b := false) ?_ (ite_F rfl (ev_seqN ?_))
  ·walk_at "ev"
   first | rw [o_lt, List.length_map, decide_eq_false (by omega)] | rw [o_ltD, List.length_map, decide_eq_false (by omega)]
  ·walk_at "ev"
theorem item {ds : List D} {P : Int -> Prop} {i : Int} (h0 : 0 <= i) (h1 : i < ds.length) (hP : ∀ d ∈ ds, ∃ n, d = .int n /\ P n) : ∃ n, oIx (.list ds) (.int i) = some (.int n) /\ P n := by
 obtain ⟨d, hd, e⟩ := ix_in h0 h1
 obtain ⟨n, rfl, p⟩ := hP d hd
 exact ⟨n, e, p⟩
theorem cut_len {α : Type} (xs : List α) (lo hi : Option Int) : (cutD xs lo hi).length <= xs.length := by
 unfold cutD
 rw [List.length_take, List.length_drop]
 omega
theorem cells (ns : List Int) (hl : ns.length <= 63) (lo hi : Option Int) : oAdd (.list [.int 0]) (.list (cutD (ns.map PyData.int) lo hi)) = some (.list (PyData.int 0 :: cutD (ns.map PyData.int) lo hi)) := by
 refine a7f (a0l ?_)
 have := cut_len (ns.map PyData.int) lo hi
 rw [List.length_map] at this
 show 1 + _ <= _
 omega
end K51
open PySem PySem.Spec L2 DL CT TX NumText
namespace K51
theorem last_in {r : List Nat} (h : r ≠ []) (hl : r.length <= 900) : oIx (.str (S r)) (.int (-1)) = some (.str (S [lst r])) := by
 obtain ⟨u, c, rfl⟩ := b1m h
 rw [lst_snoc]
 rw [List.length_append] at hl
 exact last_ix (by omega)
def rc (W : Int) (r : List Nat) (b : Bool) : Int := rp W r + (if b = true then 0 else rb r)
theorem cost_ev {r : List Nat} {W : Int} (b : Bool) (h : r ≠ []) (hl : r.length <= 900) (hW : 0 <= W /\ W <= 1000) : a4c [tx r, .int W, .bool b] = M.ret (.int (rc W r b)) := by
 have l := a8l (l := r) (by omega)
 have ix := last_in h hl
 have hpow : oPow (.int (W - ((r.length : Nat) : Int))) (.int 2) = some (.int (rp W r)) := by
  show (if bPow (W - ((r.length : Nat) : Int)) 2 = true then some (PyData.int ((W - ((r.length : Nat) : Int)) ^ (2 : Int).toNat)) else none) = _
  rw [if_pos (by unfold bPow; exact decide_eq_true ⟨by decide, by decide, by omega⟩)]
  congr 2
  unfold rp
  rw [show (2 : Int).toNat = 2 from rfl, Int.pow_succ, Int.pow_succ, Int.pow_zero, Int.one_mul]
 obtain ⟨A, hA⟩ : ∃ A, A = rp W r := ⟨_, rfl⟩
 rw [<- hA] at hpow
 have e1 : ∀ x, d2 oIx (dVar 0) (d1 oNeg (dC (.int 1))) [.vl (tx r), .vl (.int W), .vl (.bool b), x] = M.ret (.str (S [lst r])) := fun x => ev_2 (a0a rfl) (ev_1 ev_c rfl) ix
 refine a0y ?_
 unfold a6z rc rb bp
 rw [<- hA]
 refine a0o (a1a (d := .int A) (ev_2 (ev_2 (a0a rfl) (a1s (a0d (a0a rfl) a0f) l) o_sub) ev_c hpow)) ?_
 generalize lst r = c at *
 cases b with
 | true =>
  rw [if_pos rfl, Int.add_zero]
  exact a1c (b := true) (a3w (ev_b (a0a rfl))) (a4v rfl (a1h (a0p (a0a rfl))))
 | false =>
  rw [if_neg Bool.false_ne_true]
  by_cases h1 : c = 46 \/ c = 33 \/ c = 63
  ·rw [if_pos h1, Int.add_zero]
   exact a1c (b := true) (a6c (ev_b (a0a rfl)) (ev_b (ev_2 (e1 _) ev_c (by rw [a9y, decide_eq_true h1])))) (a4v rfl (a1h (a0p (a0a rfl))))
  ·rw [if_neg h1]
   refine a2n (b := false) (a6c (ev_b (a0a rfl)) (ev_b (ev_2 (e1 _) ev_c (by rw [a9y, decide_eq_false h1])))) rfl ?_
   by_cases h2 : c = 44 \/ c = 59 \/ c = 58
   ·rw [if_pos h2]
    exact a0p (ev_2 (y := .int 50) (a0a rfl) (ev_2 (y := .int 1) (a2q (a0d ev_c (a0d ev_c a0f)) rfl) (a1s (a0d (ev_2 (e1 _) ev_c (by rw [a9z, decide_eq_true h2])) a0f) rfl) rfl) a5e)
   ·rw [if_neg h2]
    exact a0p (ev_2 (y := .int 200) (a0a rfl) (ev_2 (y := .int 0) (a2q (a0d ev_c (a0d ev_c a0f)) rfl) (a1s (a0d (ev_2 (e1 _) ev_c (by rw [a9z, decide_eq_false h2])) a0f) rfl) rfl) a5e)
section
variable {ws : List (List Nat)} {W : Int}
theorem rc_pc {i j : Nat} : rc W (row ws i j) (decide (j = ws.length)) = pc ws W i j := by
 unfold rc pc
 by_cases h : j = ws.length
 ·rw [if_pos (decide_eq_true h), if_pos h]
 ·rw [if_neg (by simpa using h), if_neg h]
end
end K51
open PySem PySem.Spec L2 DL CT TX NumText
namespace K51
def cs (W : Int) : List (List Nat) -> List Int
 | [] => []
 | [r] => [rc W r true]
 | r :: r' :: t => rc W r false :: cs W (r' :: t)
theorem cs_sum (W : Int) : ∀ rs : List (List Nat), (cs W rs).sum = (rs.map (rp W)).sum + (rs.dropLast.map rb).sum
 | [] => rfl
 | [r] => by simp [cs, rc]
 | r :: r' :: t => by
  have ih := cs_sum W (r' :: t)
  rw [cs, List.sum_cons, ih, List.dropLast_cons₂, List.map_cons (a := r), List.map_cons (a := r), List.sum_cons, List.sum_cons]
  unfold rc
  rw [if_neg Bool.false_ne_true]
  omega
theorem costs_comp {rs : List (List Nat)} {W : Int} (hr : ∀ r ∈ rs, r ≠ [] /\ r.length <= 900) (hW : 0 <= W /\ W <= 1000) : ∀ (q p : List (List Nat)) (x0 x1 : Sl), rs = p ++ q -> compD (tgTup 2 (tgCons (tgN 0) (tgCons (tgN 1) tgNil))) (nX dYes) (nX (dCall (fun ds => noX (a4c ds)) (dCons (dVar 1) (dCons (dVar 2) (dCons (d2 oEq (d2 oAdd (dVar 0) (dC (.int 1))) (dCB oLen (dCons (dVar 3) dNil))) dNil))))) (enumD p.length (q.map tx)) [x0, x1, .vl (.int W), .vl (.list (rs.map tx))] = M.ret ((cs W q).map PyData.int) := by
 intro q
 induction q with
 | nil => intro p x0 x1 _; rfl
 | cons r t ih =>
  intro p x0 x1 e
  have hln : oLen [.list (rs.map tx)] = some (.int ((rs.length : Nat) : Int)) := by rw [a4n, List.length_map]
  obtain ⟨h1, h2⟩ := hr r (by rw [e]; simp)
  have hI := ih (p ++ [r]) (.vl (.int (p.length : Int))) (.vl (tx r)) (by rw [List.append_assoc]; exact e)
  rw [List.length_append, List.length_singleton] at hI
  have hlen : rs.length = p.length + (t.length + 1) := by rw [e, List.length_append, List.length_cons]
  have hc := cost_ev (r := r) (W := W) (decide (t = [])) h1 h2 hW
  have ecs : cs W (r :: t) = rc W r (decide (t = [])) :: cs W t := by
   cases t with
   | nil => rfl
   | cons a b => rfl
  rw [ecs, List.map_cons]
  refine a5m (δ' := [.vl (.int (p.length : Int)), .vl (tx r), .vl (.int W), .vl (.list (rs.map tx))]) rfl ?_ hI
  refine a0q (ds := [tx r, .int W, .bool (decide (t = []))]) (a0d (a0a rfl) (a0d (a0a rfl) (a0d (ev_2 (x := .int ((p.length : Int) + 1)) (ev_2 (a0a rfl) ev_c a5e) (a1s (a0d (a0a rfl) a0f) hln) ?_) a0f))) hc
  rw [o_eq]
  congr 2
  refine decide_eq_decide.mpr ?_
  rw [hlen]
  cases t with
  | nil => simp
  | cons a b => simp; omega
theorem o_maxL {l : List Int} (h : l ≠ []) : oMaxM [.list (l.map PyData.int)] = some (.int (maxL l)) := by
 match l, h with
 | [], h => exact absurd rfl h
 | a :: r, _ =>
  show (match intsOf ((a :: r).map PyData.int) with | some [] => none | some is => some (PyData.int (maxL is)) | none => none) = _
  rw [b3c]
theorem lens_comp : ∀ (q : List (List Nat)) (x : Sl), (∀ w ∈ q, w.length <= 900) -> compD (tgN 0) (nX dYes) (nX (dCB oLen (dCons (dVar 0) dNil))) (q.map tx) [x] = M.ret ((q.map fun w => ((w.length : Nat) : Int)).map PyData.int) := by
 intro q
 induction q with
 | nil => intro x _; rfl
 | cons w q ih =>
  intro x hq
  have := hq w List.mem_cons_self
  exact a5m (δ' := [.vl (tx w)]) rfl (a1s (a0d (a0a rfl) a0f) (a8l (by omega))) (ih _ fun r hr => hq r (List.mem_cons_of_mem _ hr))
end K51
open PySem PySem.Spec L2 DL CT TX NumText
namespace CT
def sp : List Nat -> List (List Nat)
 | [] => [[]]
 | c :: l => if c = 32 then [] :: sp l else match sp l with
  | [] => [[c]]
  | a :: r => (c :: a) :: r
theorem sp_ne (l : List Nat) : sp l ≠ [] := by
 cases l with
 | nil => simp [sp]
 | cons c l =>
  unfold sp
  split
  ·simp
  ·split <;> simp
theorem sp_app (b : List Nat) : ∀ a : List Nat, sp (a ++ 32 :: b) = sp a ++ sp b
 | [] => by simp [sp]
 | c :: a => by
  have ih := sp_app b a
  by_cases hc : c = 32
  ·rw [List.cons_append, sp, if_pos hc, ih, sp, if_pos hc, List.cons_append]
  ·rw [List.cons_append, sp, if_neg hc, ih, sp, if_neg hc]
   cases h : sp a with
   | nil => exact absurd h (sp_ne a)
   | cons x r => rfl
theorem sp_free : ∀ {w : List Nat}, 32 ∉ w -> sp w = [w]
 | [], _ => rfl
 | c :: w, h => by
  rw [sp, if_neg (fun z => h (by rw [z]; exact List.mem_cons_self)), sp_free (w := w) fun z => h (List.mem_cons_of_mem _ z)]
theorem sp_jn : ∀ {rs : List (List Nat)}, rs ≠ [] -> sp (jn 32 rs) = rs.flatMap sp
 | [], h => absurd rfl h
 | [a], _ => by simp [jn]
 | a :: b :: r, _ => by
  show sp (a ++ 32 :: jn 32 (b :: r)) = _
  rw [sp_app, sp_jn (by simp)]
  rfl
theorem jn_full {rs ws : List (List Nat)} (h : ∀ w ∈ ws, Wd w) (h0 : ws ≠ []) (e : jn 32 rs = jn 32 ws) : ∀ r ∈ rs, r ≠ [] := by
 intro r hr z
 have h1 : sp (jn 32 ws) = ws := by
  rw [sp_jn h0]
  clear e h0
  induction ws with
  | nil => rfl
  | cons w t ih =>
   rw [List.flatMap_cons, ih fun v hv => h v (List.mem_cons_of_mem _ hv), sp_free fun q => by
    have := (h w List.mem_cons_self).free 32 q
    omega]
   rfl
 have h2 : sp (jn 32 rs) = rs.flatMap sp := sp_jn (by rintro rfl; cases hr)
 rw [e, h1] at h2
 have h3 : ([] : List Nat) ∈ ws := by
  rw [h2, List.mem_flatMap]
  exact ⟨r, hr, by rw [z]; simp [sp]⟩
 exact (h [] h3).ne rfl
end CT
namespace K51
def El (x : D) : Prop := (∃ t : List Nat, x = tx t /\ t.length <= 900 /\ ∀ c ∈ t, c < 128) \/ x = .none \/ ∃ l, x = .list l
def LR (R : D) : Prop := (∃ ds, R = .list ds /\ ds.length <= 100 /\ ∀ x ∈ ds, El x) \/ (∃ ds, R = .tuple ds) \/ R = .none \/ ∃ t, R = .str t
def isT : D -> Bool
 | .str _ => true
 | _ => false
def rowOk (W : Int) : D -> Bool
 | .str z => !decide (z.length = 0) && decide ((z.length : Int) <= W)
 | _ => false
theorem el_is {x : D} (h : El x) (δ : DS) (i : Nat) (hi : δ[i]? = some (.vl x)) : dIs "str" (dVar i) δ = M.ret (.bool (isT x)) := by
 rcases h with ⟨t, rfl, _, _⟩ | rfl | ⟨l, rfl⟩
 ·exact a5t (d := tx t) (a0a hi)
 ·exact a5t (d := .none) (a0a hi)
 ·exact a5t (d := .list l) (a0a hi)
theorem isT_comp : ∀ (ds : List D) (x : Sl), (∀ x ∈ ds, El x) -> compD (tgN 0) (nX dYes) (nX (dIs "str" (dVar 0))) ds [x] = M.ret ((ds.map isT).map PyData.bool)
 | [], _, _ => rfl
 | d :: ds, x, h => a5m (δ' := [.vl d]) rfl (el_is (h d List.mem_cons_self) _ 0 rfl) (isT_comp ds _ fun y hy => h y (List.mem_cons_of_mem _ hy))
theorem texts_of : ∀ {ds : List D}, (∀ x ∈ ds, El x) -> ds.all isT = true -> ∃ rs : List (List Nat), ds = rs.map tx /\ ∀ r ∈ rs, r.length <= 900 /\ ∀ c ∈ r, c < 128
 | [], _, _ => ⟨[], rfl, fun r h => nomatch h⟩
 | d :: ds, h, ha => by
  rw [List.all_cons, Bool.and_eq_true] at ha
  obtain ⟨rs, e, hr⟩ := texts_of (fun x hx => h x (List.mem_cons_of_mem _ hx)) ha.2
  rcases h d List.mem_cons_self with ⟨t, rfl, t1, t2⟩ | rfl | ⟨l, rfl⟩
  ·refine ⟨t :: rs, by rw [e]; rfl, fun r hr' => ?_⟩
   rcases List.mem_cons.mp hr' with rfl | hr'
   ·exact ⟨t1, t2⟩
   ·exact hr r hr'
  ·exact absurd ha.1 Bool.false_ne_true
  ·exact absurd ha.1 Bool.false_ne_true
theorem rowOk_tx (W : Int) (t : List Nat) : rowOk W (tx t) = (!decide (t = []) && decide (((t.length : Nat) : Int) <= W)) := by
 show (!decide ((S t).length = 0) && decide (((S t).length : Int) <= W)) = _
 rw [a9k]
 congr 2
 refine decide_eq_decide.mpr ?_
 exact List.length_eq_zero_iff
theorem all_ok (W : Int) : ∀ (rs : List (List Nat)), (∀ r ∈ rs, r ≠ []) -> (rs.map tx).all (rowOk W) = rs.all fun r => decide (((r.length : Nat) : Int) <= W)
 | [], _ => rfl
 | r :: rs, h => by
  rw [List.map_cons, List.all_cons, List.all_cons, all_ok W rs fun x hx => h x (List.mem_cons_of_mem _ hx), rowOk_tx, decide_eq_false (h r List.mem_cons_self)]
  rfl
theorem bools_mapQ (l : List Bool) : bools (l.map PyData.bool) = some l := by
 induction l with
 | nil => rfl
 | cons a r ih => show (bools (r.map PyData.bool)).map _ = _; rw [ih]; rfl
theorem b0b {body : D -> DS -> M Out} {d : D} {ds : List D} {δ : DS} {r : D} (h1 : body d δ = M.ret (.rt r)) : forD body (d :: ds) δ = M.ret (.rt r) := by
 show (body d δ).thn _ = _
 rw [h1]
 rfl
theorem o_allB (bs : List Bool) : oAll [.list (bs.map PyData.bool)] = some (.bool (bs.all id)) := by
 show (bools (bs.map PyData.bool)).map _ = _
 rw [bools_mapQ]
 rfl
theorem all_id {α : Type} (l : List α) (p : α -> Bool) : (l.map p).all id = l.all p := by
 rw [List.all_map]
 rfl
section
variable {ws : List (List Nat)} {W : Int} {m : Nat}
theorem len_comp : ∀ (rs : List (List Nat)) (x : Sl), (∀ r ∈ rs, r.length <= 900) -> compD (tgN 0) (nX dYes) (nX (d2 oLeD (dCB oLen (dCons (dVar 0) dNil)) (dVar 1))) (rs.map tx) [x, .vl (.int W)] = M.ret ((rs.map fun r => decide (((r.length : Nat) : Int) <= W)).map PyData.bool)
 | [], _, _ => rfl
 | r :: rs, x, h => a5m (δ' := [.vl (tx r), .vl (.int W)]) rfl (ev_2 (a1s (a0d (a0a rfl) a0f) (a8l (by have := h r List.mem_cons_self; omega))) (a0a rfl) o_leD) (len_comp rs _ fun y hy => h y (List.mem_cons_of_mem _ hy))
theorem part_loop (P M' R : D) : ∀ (ds : List D) (x4 : Sl), (∀ x ∈ ds, El x) -> ∃ y4, forD (bodyD (tgN 4) a2i) ds [.vl P, .vl (.int W), .vl M', .vl R, x4] = if ds.all (rowOk W) = true then M.ret (.nx [.vl P, .vl (.int W), .vl M', .vl R, y4]) else M.ret (.rt (.bool false))
 | [], x4, _ => ⟨x4, rfl⟩
 | d :: ds, x4, h => by
  obtain ⟨y4, hI⟩ := part_loop P M' R ds (.vl d) fun y hy => h y (List.mem_cons_of_mem _ hy)
  refine ⟨y4, ?_⟩
  have hel := h d List.mem_cons_self
  have body : bodyD (tgN 4) a2i d [.vl P, .vl (.int W), .vl M', .vl R, x4] = if rowOk W d = true then M.ret (.nx [.vl P, .vl (.int W), .vl M', .vl R, .vl d]) else M.ret (.rt (.bool false)) := by
   refine a3x (δ' := [.vl P, .vl (.int W), .vl M', .vl R, .vl d]) rfl ?_
   unfold a2i
   have h1 := el_is hel [.vl P, .vl (.int W), .vl M', .vl R, .vl d] 4 rfl
   rcases hel with ⟨t, rfl, t1, t2⟩ | rfl | ⟨l, rfl⟩
   ·have h2 : oEq (tx t) (.str "") = some (.bool (decide (t = []))) := o_eqT (b := []) (fun c hc => by have := t2 c hc; omega) fun c hc => nomatch hc
    have hb := b1i (a2e (ev_b h1)) (b1i (ev_b (ev_2 (a0a (n := 4) rfl) (ev_c (d := .str "")) h2)) (ev_b (ev_2 (a1s (a0d (a0a (δ := [.vl P, .vl (.int W), .vl M', .vl R, .vl (tx t)]) (n := 4) (d := tx t) rfl) a0f) (a8l (l := t) (by omega))) (a0a (n := 1) (d := .int W) rfl) o_gt)))
    refine a4z hb ?_
    rw [rowOk_tx, show isT (tx t) = true from rfl]
    by_cases z1 : t = []
    ·rw [decide_eq_true z1]
     exact a0p ev_c
    ·by_cases z2 : ((t.length : Nat) : Int) <= W
     ·rw [decide_eq_false z1, decide_eq_true z2, decide_eq_false (by omega)]
      rfl
     ·rw [decide_eq_false z1, decide_eq_false z2, decide_eq_true (by omega)]
      exact a0p ev_c
   ·exact a4z (b := true) (a3w (a2e (b := false) (ev_b h1))) (a4v rfl (a0p ev_c))
   ·exact a4z (b := true) (a3w (a2e (b := false) (ev_b h1))) (a4v rfl (a0p ev_c))
  cases hr : rowOk W d with
  | true =>
   rw [hr, if_pos rfl] at body
   rw [List.all_cons, hr, Bool.true_and]
   exact a4x body hI
  | false =>
   rw [hr, if_neg Bool.false_ne_true] at body
   rw [List.all_cons, hr, Bool.false_and, if_neg Bool.false_ne_true]
   exact b0b body
end
end K51
open PySem PySem.Spec L2 DL CT TX NumText
namespace K51
section
variable {ws : List (List Nat)} {W : Int} {m : Nat}
abbrev PT (ws : List (List Nat)) (W : Int) (m : Nat) (R : D) : List D := [tx (jn 32 ws), .int W, .int (m : Int), R]
abbrev LP (ws : List (List Nat)) (W : Int) (m : Nat) (R : D) : List D := [.list (ws.map tx), .int W, .int (m : Int), R]
theorem notL_P {R : D} (hi : ∀ δ : DS, δ[3]? = some (.vl R) -> dIs "list" (dVar 3) δ = M.ret (.bool false)) : a3e (PT ws W m R) = M.ret (.bool false) /\ a1k (LP ws W m R) = M.ret (.bool false) := by
 constructor
 ·refine a0y ?_
  unfold a3v
  exact a1c (b := true) (a3w (a2e (b := false) (ev_b (hi _ rfl)))) (a4v rfl (a1h (a0p ev_c)))
 ·refine a0y ?_
  unfold a1q
  exact a1c (b := true) (a3w (a2e (b := false) (ev_b (hi _ rfl)))) (a4v rfl (a1h (a0p ev_c)))
theorem jn_sg : ∀ {rs : List (List Nat)}, (∀ r ∈ rs, ∀ c ∈ r, c < 128) -> ∀ c ∈ jn 32 rs, c < 1114112 := fun {rs} h c hc => by
 have := b0v (c := 32) (P := fun x => x < 128) (by decide) h c hc
 omega
theorem tot_rs : ∀ {rs : List (List Nat)}, (∀ r ∈ rs, r.length <= 900) -> tot rs <= 901 * rs.length
 | [], _ => Nat.zero_le _
 | r :: rs, h => by
  have := tot_rs (rs := rs) fun v hv => h v (List.mem_cons_of_mem _ hv)
  have := h r List.mem_cons_self
  rw [tot, List.length_cons]
  omega
theorem parting_both (h0 : ws ≠ []) (h : ∀ w ∈ ws, Wd w) (hz : tot ws <= 900) {R : D} (hR : LR R) : ∃ b : Bool, a3e (PT ws W m R) = M.ret (.bool b) /\ a1k (LP ws W m R) = M.ret (.bool b) /\
  (b = true -> ∃ rs : List (List Nat), R = .list (rs.map tx) /\ rs.length <= m /\ rs.length <= 100 /\ jn 32 rs = jn 32 ws /\ ∀ r ∈ rs, r ≠ [] /\ ((r.length : Nat) : Int) <= W /\ r.length <= 900) /\
  (∀ rs : List (List Nat), R = .list (rs.map tx) -> rs.length <= m -> jn 32 rs = jn 32 ws -> (∀ r ∈ rs, ((r.length : Nat) : Int) <= W) -> b = true) := by
 rcases hR with ⟨ds, rfl, hl, hel⟩ | ⟨ds, rfl⟩ | rfl | ⟨t, rfl⟩
 ·have hin : ∀ δ : DS, δ[3]? = some (.vl (.list ds)) -> dIs "list" (dVar 3) δ = M.ret (.bool true) := fun δ hd => a5t (d := .list ds) (a0a hd)
  have hlen : oLen [.list ds] = some (.int (ds.length : Int)) := a4n
  have hcp := isT_comp ds .un hel
  have hall : oAll [.list ((ds.map isT).map PyData.bool)] = some (.bool (ds.all isT)) := by rw [o_allB, all_id]
  have hP : ∀ (δ : DS), δ = [.vl (tx (jn 32 ws)), .vl (.int W), .vl (.int (m : Int)), .vl (.list ds)] -> (dOr (dNot (dB (dIs "list" (dVar 3)))) (dOr (dB (d2 oGt (dCB oLen (dCons (dVar 3) dNil)) (dVar 2))) (dNot (dB (dCB oAll (dCons (dCompG 1 [] (tgN 0) (dAny (dVar 3)) dYes (dIs "str" (dVar 0))) dNil)))))) δ = M.ret (!true || (decide ((m : Int) < (ds.length : Int)) || !ds.all isT)) := by
   rintro δ rfl
   exact b1i (a2e (ev_b (hin _ rfl))) (b1i (ev_b (ev_2 (a1s (a0d (a0a rfl) a0f) hlen) (a0a rfl) o_gt)) (a2e (ev_b (a1s (a0d (a3g (ds := ds) (a3m (x := .list ds) (a0a rfl) rfl) (a0l (by omega)) hcp) a0f) hall))))
  have hL : ∀ (δ : DS), δ = [.vl (.list (ws.map tx)), .vl (.int W), .vl (.int (m : Int)), .vl (.list ds), .un] -> (dOr (dNot (dB (dIs "list" (dVar 3)))) (dB (d2 oGt (dCB oLen (dCons (dVar 3) dNil)) (dVar 2)))) δ = M.ret (!true || decide ((m : Int) < (ds.length : Int))) := by
   rintro δ rfl
   exact b1i (a2e (ev_b (hin _ rfl))) (ev_b (ev_2 (a1s (a0d (a0a rfl) a0f) hlen) (a0a rfl) o_gt))
  obtain ⟨y4, hlp⟩ := part_loop (W := W) (.list (ws.map tx)) (.int (m : Int)) (.list ds) ds .un hel
  by_cases hm : ds.length <= m
  ·cases ht : ds.all isT with
   | false =>
    have hno : ds.all (rowOk W) = false := by
     rw [<- Bool.not_eq_true, List.all_eq_true]
     intro z
     rw [<- Bool.not_eq_true, List.all_eq_true] at ht
     refine ht fun x hx => ?_
     have := z x hx
     cases x <;> first | rfl | cases this
    rw [hno, if_neg Bool.false_ne_true] at hlp
    refine ⟨false, a0y ?_, a0y ?_, (fun z => nomatch z), ?_⟩
    ·unfold a3v
     refine a1c (hP _ rfl) ?_
     rw [ht, Bool.not_false, Bool.or_true, Bool.or_true, if_pos rfl]
     exact a1h (a0p ev_c)
    ·unfold a1q
     refine a2n (hL _ rfl) (by rw [decide_eq_false (by omega)]; rfl) ?_
     exact a1h (a3q (ds := ds) (a3m (x := .list ds) (a0a rfl) rfl) hlp)
    ·intro rs e
     exfalso
     cases e
     rw [<- Bool.not_eq_true, List.all_eq_true] at ht
     exact ht fun x hx => by
      obtain ⟨r, _, rfl⟩ := List.mem_map.mp hx
      rfl
   | true =>
    obtain ⟨rs, rfl, hrs⟩ := texts_of hel ht
    rw [List.length_map] at hm hl
    have hcl := len_comp (W := W) rs .un fun r hr => (hrs r hr).1
    have hal : oAll [.list ((rs.map fun r => decide (((r.length : Nat) : Int) <= W)).map PyData.bool)] = some (.bool (rs.all fun r => decide (((r.length : Nat) : Int) <= W))) := by rw [o_allB, all_id]
    have htr := tot_rs fun r hr => (hrs r hr).1
    have hj1 := b0q (c := 32) (ts := rs) (by omega)
    have hj2 := b0q (c := 32) (ts := ws) (by omega)
    have hws : ∀ c ∈ jn 32 ws, c < 1114112 := jn_sg fun w hw c hc => ((h w hw).free c hc).2
    have heq := o_eqT (a := jn 32 rs) (b := jn 32 ws) (jn_sg fun r hr => (hrs r hr).2) hws
    have vP : a3e (PT ws W m (.list (rs.map tx))) = M.ret (.bool (decide (jn 32 rs = jn 32 ws) && rs.all fun r => decide (((r.length : Nat) : Int) <= W))) := by
     refine a0y ?_
     unfold a3v
     refine a2n (hP _ rfl) (by rw [ht, decide_eq_false (by rw [List.length_map]; omega)]; rfl) ?_
     exact a0p (ev_andV (ev_2 (a4y (z := S [32]) ev_c (a0d (a0a rfl) a0f) hj1) (a0a rfl) heq) (a1s (a0d (a3g (ds := rs.map tx) (a3m (x := .list (rs.map tx)) (a0a rfl) rfl) (a0l (by rw [List.length_map]; omega)) hcl) a0f) hal))
    have vL : a1k (LP ws W m (.list (rs.map tx))) = M.ret (.bool ((rs.map tx).all (rowOk W) && decide (jn 32 rs = jn 32 ws))) := by
     refine a0y ?_
     unfold a1q
     refine a2n (hL _ rfl) (by rw [decide_eq_false (by rw [List.length_map]; omega)]; rfl) ?_
     cases hk : (rs.map tx).all (rowOk W) with
     | false =>
      rw [hk, if_neg Bool.false_ne_true] at hlp
      exact a1h (a3q (ds := rs.map tx) (a3m (x := .list (rs.map tx)) (a0a rfl) rfl) hlp)
     | true =>
      rw [hk, if_pos rfl] at hlp
      refine a0o (a3q (ds := rs.map tx) (a3m (x := .list (rs.map tx)) (a0a rfl) rfl) hlp) ?_
      exact a0p (ev_2 (a4y (z := S [32]) ev_c (a0d (a0a rfl) a0f) hj1) (a4y (z := S [32]) ev_c (a0d (a0a rfl) a0f) hj2) heq)
    refine ⟨decide (jn 32 rs = jn 32 ws) && rs.all fun r => decide (((r.length : Nat) : Int) <= W), vP, ?_, fun z => ?_, ?_⟩
    ·rw [vL]
     by_cases e : jn 32 rs = jn 32 ws
     ·rw [all_ok W rs (jn_full h h0 e), Bool.and_comm]
     ·rw [decide_eq_false e, Bool.and_false, Bool.false_and]
    ·rw [Bool.and_eq_true, decide_eq_true_eq, List.all_eq_true] at z
     exact ⟨rs, rfl, hm, hl, z.1, fun r hr => ⟨jn_full h h0 z.1 r hr, by have := z.2 r hr; rwa [decide_eq_true_eq] at this, (hrs r hr).1⟩⟩
    ·intro rs' e _ ej ew
     have e2 : rs.map tx = rs'.map tx := by injection e
     have e3 : rs = rs' := by
      have inj : ∀ (a b : List (List Nat)), a.map tx = b.map tx -> a = b := by
       intro a
       induction a with
       | nil => intro b q; cases b with
        | nil => rfl
        | cons y b => cases q
       | cons x a ih => intro b q; cases b with
        | nil => cases q
        | cons y b =>
         rw [List.map_cons, List.map_cons] at q
         injection q with q1 q2
         have q1 : S x = S y := by injection q1
         rw [S_inj q1, ih b q2]
      exact inj _ _ e2
     subst e3
     rw [decide_eq_true ej, Bool.true_and, List.all_eq_true]
     intro r hr
     rw [decide_eq_true_eq]
     exact ew r hr
  ·refine ⟨false, a0y ?_, a0y ?_, (fun z => nomatch z), ?_⟩
   ·unfold a3v
    refine a1c (hP _ rfl) ?_
    rw [decide_eq_true (by omega), Bool.true_or, Bool.or_true, if_pos rfl]
    exact a1h (a0p ev_c)
   ·unfold a1q
    refine a1c (hL _ rfl) ?_
    rw [decide_eq_true (by omega), Bool.or_true, if_pos rfl]
    exact a1h (a0p ev_c)
   ·intro rs e hrl
    exfalso
    cases e
    rw [List.length_map] at hm
    omega
 ·obtain ⟨h1, h2⟩ := notL_P (ws := ws) (W := W) (m := m) (R := .tuple ds) fun δ hd => a5t (d := .tuple ds) (a0a hd)
  exact ⟨false, h1, h2, (fun z => nomatch z), fun rs e => nomatch e⟩
 ·obtain ⟨h1, h2⟩ := notL_P (ws := ws) (W := W) (m := m) (R := .none) fun δ hd => a5t (d := .none) (a0a hd)
  exact ⟨false, h1, h2, (fun z => nomatch z), fun rs e => nomatch e⟩
 ·obtain ⟨h1, h2⟩ := notL_P (ws := ws) (W := W) (m := m) (R := .str t) fun δ hd => a5t (d := .str t) (a0a hd)
  exact ⟨false, h1, h2, (fun z => nomatch z), fun rs e => nomatch e⟩
end
end K51
open PySem PySem.Spec L2 DL CT TX NumText
namespace K51
def At (d : D) : Prop := d = .none \/ (∃ i, d = .int i) \/ (∃ b, d = .bool b) \/ (∃ s, d = .str s) \/ ∃ ds, d = .tuple ds
def RwT (r : D) : Prop := (∃ es, r = .list es /\ es.length <= 100 /\ ∀ e ∈ es, At e) \/ (∃ es, r = .tuple es) \/ r = .none
def LT (T : D) : Prop := (∃ rs, T = .list rs /\ rs.length <= 100 /\ ∀ r ∈ rs, RwT r) \/ (∃ ds, T = .tuple ds) \/ T = .none
def wh : D -> Bool
 | .none => true
 | .int _ => true
 | _ => false
def rwB (n : Nat) : D -> Bool
 | .list es => decide (es.length = n + 1) && es.all wh
 | _ => false
theorem whole_at {d : D} (h : At d) : a5j [d] = M.ret (.bool (match d with | .int _ => true | _ => false)) := by
 rcases h with rfl | ⟨i, rfl⟩ | ⟨b, rfl⟩ | ⟨s, rfl⟩ | ⟨ds, rfl⟩ <;> rfl
theorem is_none_at {d : D} (h : At d) : oIs d .none = some (.bool (match d with | .none => true | _ => false)) /\ oIsNot d .none = some (.bool (match d with | .none => false | _ => true)) := by
 rcases h with rfl | ⟨i, rfl⟩ | ⟨b, rfl⟩ | ⟨s, rfl⟩ | ⟨ds, rfl⟩ <;> exact ⟨rfl, rfl⟩
theorem price_one {d : D} (h : At d) : (dOrV (d2 oIs (dVar 0) (dC .none)) (dCall (fun ds => noX (a5j ds)) (dCons (dVar 0) dNil))) [.vl d] = M.ret (.bool (wh d)) := by
 have h1 := whole_at h
 have h2 := (is_none_at h).1
 have := ev_orV (δ := [.vl d]) (ev_2 (a0a (n := 0) rfl) ev_c h2) (a0q (a0d (a0a (n := 0) rfl) a0f) h1)
 rw [this]
 rcases h with rfl | ⟨i, rfl⟩ | ⟨b, rfl⟩ | ⟨s, rfl⟩ | ⟨ds, rfl⟩ <;> rfl
theorem b1q : ∀ (es : List D) (x : Sl), (∀ e ∈ es, At e) -> compD (tgN 0) (nX dYes) (nX (dOrV (d2 oIs (dVar 0) (dC .none)) (dCall (fun ds => noX (a5j ds)) (dCons (dVar 0) dNil)))) es [x] = M.ret ((es.map wh).map PyData.bool)
 | [], _, _ => rfl
 | d :: es, x, h => a5m (δ' := [.vl d]) rfl (price_one (h d List.mem_cons_self)) (b1q es _ fun y hy => h y (List.mem_cons_of_mem _ hy))
theorem prices_ev {n : Nat} {r : D} (h : RwT r) : a4r [.int (n : Int), r] = M.ret (.bool (rwB n r)) := by
 refine a0y ?_
 unfold a6j
 rcases h with ⟨es, rfl, hl, he⟩ | ⟨es, rfl⟩ | rfl
 ·have hb : (dOr (dNot (dB (dIs "list" (dVar 1)))) (dB (d2 oNe (dCB oLen (dCons (dVar 1) dNil)) (d2 oAdd (dVar 0) (dC (.int 1)))))) (startD 2 [.int (n : Int), .list es]) = M.ret (!true || !decide ((es.length : Int) = (n : Int) + 1)) := b1i (a2e (ev_b (a5t (d := .list es) (a0a rfl)))) (ev_b (ev_2 (a1s (a0d (a0a rfl) a0f) a4n) (ev_2 (a0a rfl) ev_c a5e) o_ne))
  show _ = M.ret (Out.rt (.bool (decide (es.length = n + 1) && es.all wh)))
  by_cases z : es.length = n + 1
  ·refine a2n hb (by rw [decide_eq_true (by omega)]; rfl) ?_
   rw [decide_eq_true z, Bool.true_and, <- all_id]
   exact a0p (a1s (a0d (a3g (ds := es) (a3m (x := .list es) (a0a rfl) rfl) (a0l (by omega)) (b1q es .un he)) a0f) (o_allB _))
  ·refine a1c hb ?_
   rw [decide_eq_false (show ¬ (es.length : Int) = (n : Int) + 1 by omega), decide_eq_false z]
   exact a1h (a0p ev_c)
 ·exact a1c (b := true) (a3w (a2e (b := false) (ev_b (a5t (d := .tuple es) (a0a rfl))))) (a4v rfl (a1h (a0p ev_c)))
 ·exact a1c (b := true) (a3w (a2e (b := false) (ev_b (a5t (d := .none) (a0a rfl))))) (a4v rfl (a1h (a0p ev_c)))
theorem b0k {n : Nat} : ∀ (rs : List D) (x : Sl), (∀ r ∈ rs, RwT r) -> compD (tgN 0) (nX dYes) (nX (dCall (fun ds => noX (a4r ds)) (dCons (dVar 1) (dCons (dVar 0) dNil)))) rs [x, .vl (.int (n : Int))] = M.ret ((rs.map (rwB n)).map PyData.bool)
 | [], _, _ => rfl
 | d :: rs, x, h => a5m (δ' := [.vl d, .vl (.int (n : Int))]) rfl (a0q (a0d (a0a rfl) (a0d (a0a rfl) a0f)) (prices_ev (h d List.mem_cons_self))) (b0k rs _ fun y hy => h y (List.mem_cons_of_mem _ hy))
theorem cell_loop (P M' T R : D) : ∀ (es : List D) (x4 : Sl), (∀ e ∈ es, At e) -> ∃ y4, forD (bodyD (tgN 4) a3b) es [.vl P, .vl M', .vl T, .vl R, x4] = if es.all wh = true then M.ret (.nx [.vl P, .vl M', .vl T, .vl R, y4]) else M.ret (.rt (.bool false))
 | [], x4, _ => ⟨x4, rfl⟩
 | d :: es, x4, h => by
  obtain ⟨y4, hI⟩ := cell_loop P M' T R es (.vl d) fun y hy => h y (List.mem_cons_of_mem _ hy)
  refine ⟨y4, ?_⟩
  have ha := h d List.mem_cons_self
  have body : bodyD (tgN 4) a3b d [.vl P, .vl M', .vl T, .vl R, x4] = if wh d = true then M.ret (.nx [.vl P, .vl M', .vl T, .vl R, .vl d]) else M.ret (.rt (.bool false)) := by
   refine a3x (δ' := [.vl P, .vl M', .vl T, .vl R, .vl d]) rfl ?_
   unfold a3b
   rcases ha with rfl | ⟨i, rfl⟩ | ⟨b, rfl⟩ | ⟨s, rfl⟩ | ⟨ds, rfl⟩
   ·exact a4z (b := false) (a7u (ev_b (ev_2 (x := .none) (a0a rfl) ev_c rfl))) (ite_F rfl rfl)
   ·exact a4z (b := false) (a3h (ev_b (ev_2 (x := .int i) (a0a rfl) ev_c rfl)) (a6c (a2e (b := true) (ev_b (a5t (d := .int i) (a0a rfl)))) (ev_b (a5t (d := .int i) (a0a rfl))))) (ite_F rfl rfl)
   ·exact a4z (b := true) (a3h (ev_b (ev_2 (x := .bool b) (a0a rfl) ev_c rfl)) (a6c (a2e (b := true) (ev_b (a5t (d := .bool b) (a0a rfl)))) (ev_b (a5t (d := .bool b) (a0a rfl))))) (a4v rfl (a0p ev_c))
   ·exact a4z (b := true) (a3h (ev_b (ev_2 (x := .str s) (a0a rfl) ev_c rfl)) (a3w (a2e (b := false) (ev_b (a5t (d := .str s) (a0a rfl)))))) (a4v rfl (a0p ev_c))
   ·exact a4z (b := true) (a3h (ev_b (ev_2 (x := .tuple ds) (a0a rfl) ev_c rfl)) (a3w (a2e (b := false) (ev_b (a5t (d := .tuple ds) (a0a rfl)))))) (a4v rfl (a0p ev_c))
  cases hr : wh d with
  | true =>
   rw [hr, if_pos rfl] at body
   rw [List.all_cons, hr, Bool.true_and]
   exact a4x body hI
  | false =>
   rw [hr, if_neg Bool.false_ne_true] at body
   rw [List.all_cons, hr, Bool.false_and, if_neg Bool.false_ne_true]
   exact b0b body
theorem b1k {ws : List (List Nat)} (M' T : D) : ∀ (rs : List D) (x3 x4 : Sl), (∀ r ∈ rs, RwT r) -> ∃ y3 y4, forD (bodyD (tgN 3) a1t) rs [.vl (.list (ws.map tx)), .vl M', .vl T, x3, x4] = if rs.all (rwB ws.length) = true then M.ret (.nx [.vl (.list (ws.map tx)), .vl M', .vl T, y3, y4]) else M.ret (.rt (.bool false))
 | [], x3, x4, _ => ⟨x3, x4, rfl⟩
 | d :: rs, x3, x4, h => by
  have ha := h d List.mem_cons_self
  have hlw : oLen [.list (ws.map tx)] = some (.int ((ws.length : Nat) : Int)) := by rw [a4n, List.length_map]
  have body : ∃ z4, bodyD (tgN 3) a1t d [.vl (.list (ws.map tx)), .vl M', .vl T, x3, x4] = if rwB ws.length d = true then M.ret (.nx [.vl (.list (ws.map tx)), .vl M', .vl T, .vl d, z4]) else M.ret (.rt (.bool false)) := by
   rcases ha with ⟨es, rfl, hl, he⟩ | ⟨es, rfl⟩ | rfl
   ·obtain ⟨z4, hc⟩ := cell_loop (.list (ws.map tx)) M' T (.list es) es x4 he
    refine ⟨z4, a3x (δ' := [.vl (.list (ws.map tx)), .vl M', .vl T, .vl (.list es), x4]) rfl ?_⟩
    unfold a1t
    have hb : (dOr (dNot (dB (dIs "list" (dVar 3)))) (dB (d2 oNe (dCB oLen (dCons (dVar 3) dNil)) (d2 oAdd (dCB oLen (dCons (dVar 0) dNil)) (dC (.int 1)))))) [.vl (.list (ws.map tx)), .vl M', .vl T, .vl (.list es), x4] = M.ret (!true || !decide ((es.length : Int) = ((ws.length : Nat) : Int) + 1)) := b1i (a2e (ev_b (a5t (d := .list es) (a0a rfl)))) (ev_b (ev_2 (a1s (a0d (a0a rfl) a0f) a4n) (ev_2 (a1s (a0d (a0a rfl) a0f) hlw) ev_c a5e) o_ne))
    show _ = if (decide (es.length = ws.length + 1) && es.all wh) = true then _ else _
    by_cases z : es.length = ws.length + 1
    ·refine a2n hb (by rw [decide_eq_true (by omega)]; rfl) ?_
     rw [decide_eq_true z, Bool.true_and]
     exact a3q (ds := es) (a3m (x := .list es) (a0a rfl) rfl) hc
    ·refine a1c hb ?_
     rw [decide_eq_false (show ¬ (es.length : Int) = ((ws.length : Nat) : Int) + 1 by omega), decide_eq_false z]
     exact a1h (a0p ev_c)
   ·refine ⟨x4, a3x (δ' := [.vl (.list (ws.map tx)), .vl M', .vl T, .vl (.tuple es), x4]) rfl ?_⟩
    unfold a1t
    exact a1c (b := true) (a3w (a2e (b := false) (ev_b (a5t (d := .tuple es) (a0a rfl))))) (a4v rfl (a1h (a0p ev_c)))
   ·refine ⟨x4, a3x (δ' := [.vl (.list (ws.map tx)), .vl M', .vl T, .vl .none, x4]) rfl ?_⟩
    unfold a1t
    exact a1c (b := true) (a3w (a2e (b := false) (ev_b (a5t (d := .none) (a0a rfl))))) (a4v rfl (a1h (a0p ev_c)))
  obtain ⟨z4, body⟩ := body
  obtain ⟨y3, y4, hI⟩ := b1k M' T rs (.vl d) z4 fun y hy => h y (List.mem_cons_of_mem _ hy)
  refine ⟨y3, y4, ?_⟩
  cases hr : rwB ws.length d with
  | true =>
   rw [hr, if_pos rfl] at body
   rw [List.all_cons, hr, Bool.true_and]
   exact a4x body hI
  | false =>
   rw [hr, if_neg Bool.false_ne_true] at body
   rw [List.all_cons, hr, Bool.false_and, if_neg Bool.false_ne_true]
   exact b0b body
theorem cells_of : ∀ {es : List D}, es.all wh = true -> ∃ r : List (Option Int), es = r.map oD
 | [], _ => ⟨[], rfl⟩
 | d :: es, h => by
  rw [List.all_cons, Bool.and_eq_true] at h
  obtain ⟨r, e⟩ := cells_of h.2
  cases d with
  | none => exact ⟨Option.none :: r, by rw [e]; rfl⟩
  | int i => exact ⟨some i :: r, by rw [e]; rfl⟩
  | _ => exact absurd h.1 Bool.false_ne_true
theorem rows_of_T {n : Nat} : ∀ {rs : List D}, rs.all (rwB n) = true -> ∃ T : List (List (Option Int)), rs = T.map rD /\ ∀ r ∈ T, r.length = n + 1
 | [], _ => ⟨[], rfl, fun r h => nomatch h⟩
 | d :: rs, h => by
  rw [List.all_cons, Bool.and_eq_true] at h
  obtain ⟨T, e, hT⟩ := rows_of_T h.2
  cases d with
  | list es =>
   have h1 : (decide (es.length = n + 1) && es.all wh) = true := h.1
   rw [Bool.and_eq_true, decide_eq_true_eq] at h1
   obtain ⟨r, rfl⟩ := cells_of h1.2
   refine ⟨r :: T, by rw [e]; rfl, fun x hx => ?_⟩
   rcases List.mem_cons.mp hx with rfl | hx
   ·rw [List.length_map] at h1; exact h1.1
   ·exact hT x hx
  | _ => exact absurd h.1 Bool.false_ne_true
theorem rwB_rD (n : Nat) {r : List (Option Int)} (h : r.length = n + 1) : rwB n (rD r) = true := by
 show (decide ((r.map oD).length = n + 1) && (r.map oD).all wh) = true
 rw [List.length_map, decide_eq_true h, Bool.true_and, List.all_eq_true]
 intro x hx
 obtain ⟨o, _, rfl⟩ := List.mem_map.mp hx
 cases o <;> rfl
theorem eq_oD0 (x : Option Int) : oEq (oD x) (.int 0) = some (.bool (decide (x = some 0))) := by
 cases x with
 | none => rfl
 | some i =>
  show oEq (.int i) (.int 0) = _
  rw [o_eq]
  congr 2
  exact decide_eq_decide.mpr (by simp)
section
variable {ws : List (List Nat)} {m : Nat}
theorem notL_T {T : D} (h1 : ∀ δ : DS, δ[2]? = some (.vl T) -> dIs "list" (dVar 2) δ = M.ret (.bool false)) : a4q [.int ((ws.length : Nat) : Int), .int (m : Int), T] = M.ret (.bool false) /\ a1y [.list (ws.map tx), .int (m : Int), T] = M.ret (.bool false) := by
 constructor
 ·refine a0y ?_
  unfold a5f
  exact a1c (b := true) (a3w (a2e (b := false) (ev_b (h1 _ rfl)))) (a4v rfl (a1h (a0p ev_c)))
 ·refine a0y ?_
  unfold a2h
  exact a1c (b := true) (a3w (a2e (b := false) (ev_b (h1 _ rfl)))) (a4v rfl (a1h (a0p ev_c)))
theorem table_both {T : D} (hT : LT T) : ∃ b : Bool, a4q [.int ((ws.length : Nat) : Int), .int (m : Int), T] = M.ret (.bool b) /\ a1y [.list (ws.map tx), .int (m : Int), T] = M.ret (.bool b) /\
  (b = true -> ∃ Tt : List (List (Option Int)), T = .list (Tt.map rD) /\ Tt.length = m + 1 /\ ∀ r ∈ Tt, r.length = ws.length + 1) /\
  (∀ Tt : List (List (Option Int)), T = .list (Tt.map rD) -> Tt.length = m + 1 -> (∀ r ∈ Tt, r.length = ws.length + 1) -> (∃ r, Tt[0]? = some (some 0 :: r)) -> b = true) := by
 rcases hT with ⟨rs, rfl, hl, hr⟩ | ⟨ds, rfl⟩ | rfl
 ·have hlw : oLen [.list (ws.map tx)] = some (.int ((ws.length : Nat) : Int)) := by rw [a4n, List.length_map]
  have hP : (dOr (dNot (dB (dIs "list" (dVar 2)))) (dB (d2 oNe (dCB oLen (dCons (dVar 2) dNil)) (d2 oAdd (dVar 1) (dC (.int 1)))))) (startD 3 [.int ((ws.length : Nat) : Int), .int (m : Int), .list rs]) = M.ret (!true || !decide ((rs.length : Int) = (m : Int) + 1)) := b1i (a2e (ev_b (a5t (d := .list rs) (a0a rfl)))) (ev_b (ev_2 (a1s (a0d (a0a rfl) a0f) a4n) (ev_2 (a0a rfl) ev_c a5e) o_ne))
  have hL : (dOr (dNot (dB (dIs "list" (dVar 2)))) (dB (d2 oNe (dCB oLen (dCons (dVar 2) dNil)) (d2 oAdd (dVar 1) (dC (.int 1)))))) (startD 5 [.list (ws.map tx), .int (m : Int), .list rs]) = M.ret (!true || !decide ((rs.length : Int) = (m : Int) + 1)) := b1i (a2e (ev_b (a5t (d := .list rs) (a0a rfl)))) (ev_b (ev_2 (a1s (a0d (a0a rfl) a0f) a4n) (ev_2 (a0a rfl) ev_c a5e) o_ne))
  by_cases z : rs.length = m + 1
  ·obtain ⟨y3, y4, hlp⟩ := b1k (ws := ws) (.int (m : Int)) (.list rs) rs .un .un hr
   have hcp := b0k (n := ws.length) rs .un hr
   have hal : oAll [.list ((rs.map (rwB ws.length)).map PyData.bool)] = some (.bool (rs.all (rwB ws.length))) := by rw [o_allB, all_id]
   cases ha : rs.all (rwB ws.length) with
   | false =>
    rw [ha, if_neg Bool.false_ne_true] at hlp
    rw [ha] at hal
    refine ⟨false, a0y ?_, a0y ?_, (fun z => nomatch z), ?_⟩
    ·unfold a5f
     refine a2n hP (by rw [decide_eq_true (by omega)]; rfl) ?_
     exact a0p (b1a (a1s (a0d (a3g (ds := rs) (a3m (x := .list rs) (a0a rfl) rfl) (a0l (by omega)) hcp) a0f) hal))
    ·unfold a2h
     refine a2n hL (by rw [decide_eq_true (by omega)]; rfl) ?_
     exact a1h (a3q (ds := rs) (a3m (x := .list rs) (a0a rfl) rfl) hlp)
    ·intro Tt e _ hw _
     exfalso
     have e : rs = Tt.map rD := by injection e
     rw [<- Bool.not_eq_true, List.all_eq_true] at ha
     refine ha fun x hx => ?_
     rw [e] at hx
     obtain ⟨r, hr', rfl⟩ := List.mem_map.mp hx
     exact rwB_rD _ (hw r hr')
   | true =>
    rw [ha, if_pos rfl] at hlp
    rw [ha] at hal
    obtain ⟨Tt, rfl, hTt⟩ := rows_of_T ha
    rw [List.length_map] at z
    obtain ⟨r0, T0, hT0⟩ : ∃ r0 T0, Tt = r0 :: T0 := by
     cases Tt with
     | nil => simp at z
     | cons a b => exact ⟨a, b, rfl⟩
    obtain ⟨x0, q0, hr0⟩ : ∃ x0 q0, r0 = x0 :: q0 := by
     have := hTt r0 (by rw [hT0]; exact List.mem_cons_self)
     cases r0 with
     | nil => simp at this
     | cons a b => exact ⟨a, b, rfl⟩
    have i1 : oIx (.list (Tt.map rD)) (.int 0) = some (rD r0) := by rw [hT0]; exact a9u (i := 0) rfl
    have i2 : oIx (rD r0) (.int 0) = some (oD x0) := by rw [hr0]; exact a9u (i := 0) rfl
    have i3 := eq_oD0 x0
    refine ⟨decide (x0 = some 0), a0y ?_, a0y ?_, fun _ => ⟨Tt, rfl, z, hTt⟩, ?_⟩
    ·unfold a5f
     refine a2n hP (by rw [List.length_map, decide_eq_true (by omega)]; rfl) ?_
     exact a0p (b0z (a1s (a0d (a3g (ds := Tt.map rD) (a3m (x := .list (Tt.map rD)) (a0a rfl) rfl) (a0l (by omega)) hcp) a0f) hal) (ev_2 (ev_2 (ev_2 (a0a rfl) ev_c i1) ev_c i2) ev_c i3))
    ·unfold a2h
     refine a2n hL (by rw [List.length_map, decide_eq_true (by omega)]; rfl) ?_
     refine a0o (a3q (ds := Tt.map rD) (a3m (x := .list (Tt.map rD)) (a0a rfl) rfl) hlp) ?_
     exact a0p (ev_2 (ev_2 (ev_2 (a0a rfl) ev_c i1) ev_c i2) ev_c i3)
    ·rintro T' e _ _ ⟨r, hr⟩
     have e : Tt.map rD = T'.map rD := by injection e
     have e0 : (Tt.map rD)[0]? = (T'.map rD)[0]? := by rw [e]
     rw [List.getElem?_map, List.getElem?_map, hr, hT0, hr0] at e0
     have e1 : rD (x0 :: q0) = rD (some 0 :: r) := by injection e0
     have e2 : oD x0 = oD (some 0) := by
      have e3 : (x0 :: q0).map oD = (some 0 :: r).map oD := by unfold rD at e1; injection e1
      rw [List.map_cons, List.map_cons] at e3
      injection e3
     rw [decide_eq_true_eq]
     cases x0 with
     | none => cases e2
     | some i =>
      have : i = 0 := by injection e2
      rw [this]
  ·refine ⟨false, a0y ?_, a0y ?_, (fun z => nomatch z), ?_⟩
   ·unfold a5f
    refine a1c hP ?_
    rw [decide_eq_false (show ¬ (rs.length : Int) = (m : Int) + 1 by omega)]
    exact a1h (a0p ev_c)
   ·unfold a2h
    refine a1c hL ?_
    rw [decide_eq_false (show ¬ (rs.length : Int) = (m : Int) + 1 by omega)]
    exact a1h (a0p ev_c)
   ·intro Tt e hTl
    exfalso
    have e : rs = Tt.map rD := by injection e
    rw [e, List.length_map] at z
    exact z hTl
 ·obtain ⟨h1, h2⟩ := notL_T (ws := ws) (m := m) (T := .tuple ds) fun δ hd => a5t (d := .tuple ds) (a0a hd)
  exact ⟨false, h1, h2, (fun z => nomatch z), fun rs e => nomatch e⟩
 ·obtain ⟨h1, h2⟩ := notL_T (ws := ws) (m := m) (T := .none) fun δ hd => a5t (d := .none) (a0a hd)
  exact ⟨false, h1, h2, (fun z => nomatch z), fun rs e => nomatch e⟩
end
end K51
open PySem PySem.Spec L2 DL CT TX NumText
namespace K51
theorem a7s {α : Type} {f : α -> D} {body : D -> DS -> M Out} (P : DS -> Prop) (B : α -> Prop) {r : D} : ∀ (xs : List α), (∀ x ∈ xs, ∀ δ, P δ -> (B x /\ ∃ δ', body (f x) δ = M.ret (.nx δ') /\ P δ') \/ (¬ B x /\ body (f x) δ = M.ret (.rt r))) -> ∀ δ, P δ -> ((∀ x ∈ xs, B x) /\ ∃ δ', forD body (xs.map f) δ = M.ret (.nx δ') /\ P δ') \/ (¬ (∀ x ∈ xs, B x) /\ forD body (xs.map f) δ = M.ret (.rt r))
 | [], _, δ, p => .inl ⟨(fun x h => nomatch h), δ, rfl, p⟩
 | x :: xs, h, δ, p => by
  rcases h x List.mem_cons_self δ p with ⟨hb, δ1, e1, p1⟩ | ⟨hb, e1⟩
  ·rcases a7s P B xs (fun y hy => h y (List.mem_cons_of_mem _ hy)) δ1 p1 with ⟨hr, δ2, e2, p2⟩ | ⟨hr, e2⟩
   ·refine .inl ⟨fun y hy => ?_, δ2, a4x e1 e2, p2⟩
    rcases List.mem_cons.mp hy with rfl | hy
    ·exact hb
    ·exact hr y hy
   ·exact .inr ⟨fun z => hr fun y hy => z y (List.mem_cons_of_mem _ hy), a4x e1 e2⟩
  ·exact .inr ⟨fun z => hb (z x List.mem_cons_self), b0b e1⟩
def rch (a b : List (Option Int)) (i j : Nat) (p : Int) : Prop := ∀ x, a[i]? = some (some x) -> ∃ v, b[j]? = some (some v) /\ v <= x + p
theorem reached_ev {a b : List (Option Int)} {q : Pc} (hi : q.1 < a.length) (hj : q.2.1 < b.length) : (rch a b q.1 q.2.1 q.2.2 /\ a4b [pcD q, rD a, rD b] = M.ret (.bool true)) \/ (¬ rch a b q.1 q.2.1 q.2.2 /\ a4b [pcD q, rD a, rD b] = M.ret (.bool false)) := by
 obtain ⟨i, j, p⟩ := q
 have hi : i < a.length := hi
 have hj : j < b.length := hj
 have ea := List.getElem?_eq_getElem hi
 have eb := List.getElem?_eq_getElem hj
 have ixa := b3a ea
 have ixb := b3a eb
 generalize hx : a[i] = x at *
 generalize hv : b[j] = v at *
 have p0 : oIx (pcD (i, j, p)) (.int 0) = some (.int (i : Int)) := rfl
 have p1 : oIx (pcD (i, j, p)) (.int 1) = some (.int (j : Int)) := rfl
 have p2 : oIx (pcD (i, j, p)) (.int 2) = some (.int p) := rfl
 have get_a : ∀ δ : DS, δ[0]? = some (.vl (pcD (i, j, p))) -> δ[1]? = some (.vl (rD a)) -> d2 oIx (dVar 1) (d2 oIx (dVar 0) (dC (.int 0))) δ = M.ret (oD x) := fun δ h0 h1 => ev_2 (a0a h1) (ev_2 (a0a h0) ev_c p0) ixa
 have get_b : ∀ δ : DS, δ[0]? = some (.vl (pcD (i, j, p))) -> δ[2]? = some (.vl (rD b)) -> d2 oIx (dVar 2) (d2 oIx (dVar 0) (dC (.int 1))) δ = M.ret (oD v) := fun δ h0 h1 => ev_2 (a0a h1) (ev_2 (a0a h0) ev_c p1) ixb
 cases x with
 | none =>
  refine .inl ⟨fun x hx => ?_, a0y ?_⟩
  ·have hx : a[i]? = some (some x) := hx
   rw [ea] at hx
   cases hx
  ·unfold a4o
   exact a1c (b := true) (ev_b (ev_2 (get_a _ rfl rfl) ev_c (is_oD none))) (a4v rfl (a1h (a0p ev_c)))
 | some x =>
  cases v with
  | none =>
   refine .inr ⟨fun z => ?_, a0y ?_⟩
   ·obtain ⟨v, hv, _⟩ := z x ea
    have hv : b[j]? = some (some v) := hv
    rw [eb] at hv
    cases hv
   ·unfold a4o
    refine a2n (b := false) (ev_b (ev_2 (get_a _ rfl rfl) ev_c (is_oD (some x)))) rfl ?_
    exact a0p (b1a (ev_2 (get_b _ rfl rfl) ev_c (a6h none)))
  | some v =>
   have main : a4b [pcD (i, j, p), rD a, rD b] = M.ret (.bool (decide (v <= x + p))) := by
    refine a0y ?_
    unfold a4o
    refine a2n (b := false) (ev_b (ev_2 (get_a _ rfl rfl) ev_c (is_oD (some x)))) rfl ?_
    exact a0p (b0z (ev_2 (get_b _ rfl rfl) ev_c (a6h (some v))) (ev_2 (get_b _ rfl rfl) (ev_2 (get_a _ rfl rfl) (ev_2 (a0a rfl) ev_c p2) a5e) o_leD))
   by_cases z : v <= x + p
   ·rw [decide_eq_true z] at main
    refine .inl ⟨fun x' hx' => ?_, main⟩
    have hx' : a[i]? = some (some x') := hx'
    rw [ea] at hx'
    cases hx'
    exact ⟨v, eb, z⟩
   ·rw [decide_eq_false z] at main
    refine .inr ⟨fun q => ?_, main⟩
    obtain ⟨v', hv', hle⟩ := q x ea
    have hv' : b[j]? = some (some v') := hv'
    rw [eb] at hv'
    cases hv'
    exact z hle
section
variable {ws : List (List Nat)} {W : Int} {m : Nat} {ps : List Pc} {T : List (List (Option Int))}
def RC (ws : List (List Nat)) (W : Int) (m : Nat) (T : List (List (Option Int))) : Prop := ∀ i j, Ft ws W i j -> ∀ k a b, k < m -> T[k]? = some a -> T[k + 1]? = some b -> rch a b i j (pc ws W i j)
theorem zip_rD (A B : List (List (Option Int))) : zipD (A.map rD) (B.map rD) = (A.zip B).map fun p => .tuple [rD p.1, rD p.2] := by
 unfold zipD
 rw [List.zipWith_map, List.zip, List.map_zipWith]
theorem zip_mem {a b : List (Option Int)} (h : (a, b) ∈ T.zip (T.drop 1)) : ∃ k, T[k]? = some a /\ T[k + 1]? = some b := by
 obtain ⟨k, hk, e⟩ := List.mem_iff_getElem.mp h
 have e2 : (T.zip (T.drop 1))[k]? = some (a, b) := by rw [List.getElem?_eq_getElem hk, e]
 rw [List.getElem?_zip_eq_some] at e2
 refine ⟨k, e2.1, ?_⟩
 have := e2.2
 rw [List.getElem?_drop, Nat.add_comm] at this
 exact this
theorem mem_zip {a b : List (Option Int)} {k : Nat} (h1 : T[k]? = some a) (h2 : T[k + 1]? = some b) : (a, b) ∈ T.zip (T.drop 1) := by
 refine List.mem_of_getElem? (i := k) ?_
 rw [List.getElem?_zip_eq_some]
 exact ⟨h1, by rw [List.getElem?_drop, Nat.add_comm]; exact h2⟩
theorem prog_loop (hps : Pcs ws W ps) (hTl : T.length = m + 1) (hTr : ∀ r ∈ T, r.length = ws.length + 1) (R : D) : (RC ws W m T /\ ∃ x5 x6 x7, forD (bodyD (tgN 5) a2c) (ps.map pcD) [.vl (tx (jn 32 ws)), .vl (.int W), .vl (.int (m : Int)), .vl R, .vl (.list (T.map rD)), .un, .un, .un] = M.ret (.nx [.vl (tx (jn 32 ws)), .vl (.int W), .vl (.int (m : Int)), .vl R, .vl (.list (T.map rD)), x5, x6, x7])) \/
  (¬ RC ws W m T /\ forD (bodyD (tgN 5) a2c) (ps.map pcD) [.vl (tx (jn 32 ws)), .vl (.int W), .vl (.int (m : Int)), .vl R, .vl (.list (T.map rD)), .un, .un, .un] = M.ret (.rt (.bool false))) := by
 have hiff : (∀ q ∈ ps, ∀ ab ∈ T.zip (T.drop 1), rch ab.1 ab.2 q.1 q.2.1 q.2.2) ↔ RC ws W m T := by
  constructor
  ·intro h i j hf k a b hk ha hb
   exact h (i, j, pc ws W i j) ((hps i j _).mpr ⟨hf, rfl⟩) (a, b) (mem_zip ha hb)
  ·rintro h ⟨i, j, p⟩ hq ⟨a, b⟩ hab
   obtain ⟨hf, rfl⟩ := (hps i j p).mp hq
   obtain ⟨k, ha, hb⟩ := zip_mem hab
   refine h i j hf k a b ?_ ha hb
   have : k + 1 < T.length := by
    rcases Nat.lt_or_ge (k + 1) T.length with z | z
    ·exact z
    ·rw [List.getElem?_eq_none z] at hb; cases hb
   omega
 rw [<- hiff]
 have main := a7s (f := pcD) (body := bodyD (tgN 5) a2c) (r := .bool false) (fun δ => ∃ x5 x6 x7, δ = [.vl (tx (jn 32 ws)), .vl (.int W), .vl (.int (m : Int)), .vl R, .vl (.list (T.map rD)), x5, x6, x7]) (fun q : Pc => ∀ ab ∈ T.zip (T.drop 1), rch ab.1 ab.2 q.1 q.2.1 q.2.2) ps (by
  rintro q hq δ ⟨x5, x6, x7, rfl⟩
  obtain ⟨hf, _⟩ := (hps q.1 q.2.1 q.2.2).mp hq
  have inner := a7s (f := fun p : List (Option Int) × List (Option Int) => PyData.tuple [rD p.1, rD p.2]) (body := bodyD (tgTup 2 (tgCons (tgN 6) (tgCons (tgN 7) tgNil))) a2p) (r := .bool false) (fun δ => ∃ x6 x7, δ = [.vl (tx (jn 32 ws)), .vl (.int W), .vl (.int (m : Int)), .vl R, .vl (.list (T.map rD)), .vl (pcD q), x6, x7]) (fun ab => rch ab.1 ab.2 q.1 q.2.1 q.2.2) (T.zip (T.drop 1)) (by
   rintro ⟨a, b⟩ hab δ ⟨x6, x7, rfl⟩
   obtain ⟨k, ha, hb⟩ := zip_mem hab
   have la := hTr a (List.mem_of_getElem? ha)
   have lb := hTr b (List.mem_of_getElem? hb)
   rcases reached_ev (a := a) (b := b) (q := q) (by have := hf.1; have := hf.2.1; omega) (by have := hf.2.1; omega) with ⟨z, e⟩ | ⟨z, e⟩
   ·refine .inl ⟨z, [.vl (tx (jn 32 ws)), .vl (.int W), .vl (.int (m : Int)), .vl R, .vl (.list (T.map rD)), .vl (pcD q), .vl (rD a), .vl (rD b)], a3x rfl ?_, _, _, rfl⟩
    unfold a2p
    exact a7t (b := false) (a2e (b := true) (ev_b (a0q (a0d (a0a rfl) (a0d (a0a rfl) (a0d (a0a rfl) a0f))) e))) rfl
   ·refine .inr ⟨z, a3x (δ' := [.vl (tx (jn 32 ws)), .vl (.int W), .vl (.int (m : Int)), .vl R, .vl (.list (T.map rD)), .vl (pcD q), .vl (rD a), .vl (rD b)]) rfl ?_⟩
    unfold a2p
    exact a4z (b := true) (a2e (b := false) (ev_b (a0q (a0d (a0a rfl) (a0d (a0a rfl) (a0d (a0a rfl) a0f))) e))) (a4v rfl (a0p ev_c))) [.vl (tx (jn 32 ws)), .vl (.int W), .vl (.int (m : Int)), .vl R, .vl (.list (T.map rD)), .vl (pcD q), x6, x7] ⟨x6, x7, rfl⟩
  rw [<- zip_rD] at inner
  have hz : ∀ {r : M Out}, forD (bodyD (tgTup 2 (tgCons (tgN 6) (tgCons (tgN 7) tgNil))) a2p) (zipD (T.map rD) ((T.drop 1).map rD)) [.vl (tx (jn 32 ws)), .vl (.int W), .vl (.int (m : Int)), .vl R, .vl (.list (T.map rD)), .vl (pcD q), x6, x7] = r -> bodyD (tgN 5) a2c (pcD q) [.vl (tx (jn 32 ws)), .vl (.int W), .vl (.int (m : Int)), .vl R, .vl (.list (T.map rD)), x5, x6, x7] = r := fun {r} e => by
   refine a3x (δ' := [.vl (tx (jn 32 ws)), .vl (.int W), .vl (.int (m : Int)), .vl R, .vl (.list (T.map rD)), .vl (pcD q), x6, x7]) rfl ?_
   unfold a2c
   exact a3q (ev_zipS (a0d (a0a rfl) (a0d (a2w (a0a rfl) (a1r ev_c) a1n (by rw [cut_one, List.map_drop])) a0f))) e
  rcases inner with ⟨z, δ', e, y6, y7, rfl⟩ | ⟨z, e⟩
  ·exact .inl ⟨z, _, hz e, _, _, _, rfl⟩
  ·exact .inr ⟨z, hz e⟩) [.vl (tx (jn 32 ws)), .vl (.int W), .vl (.int (m : Int)), .vl R, .vl (.list (T.map rD)), .un, .un, .un] ⟨_, _, _, rfl⟩
 rcases main with ⟨z, δ', e, x5, x6, x7, rfl⟩ | ⟨z, e⟩
 ·exact .inl ⟨z, x5, x6, x7, e⟩
 ·exact .inr ⟨z, e⟩
end
end K51
open PySem PySem.Spec L2 DL CT TX NumText
namespace K51
section
variable {ws : List (List Nat)} {W : Int} {m : Nat} {ps : List Pc} {T : List (List (Option Int))}
abbrev lS (ws : List (List Nat)) (W : Int) (m : Nat) (R : D) (T : List (List (Option Int))) (x5 x8 x9 x10 x11 x12 x13 : Sl) : DS := [.vl (.list (ws.map tx)), .vl (.int W), .vl (.int (m : Int)), .vl R, .vl (.list (T.map rD)), x5, .un, .un, x8, x9, x10, x11, x12, x13]
theorem rng_map (i : Int) (n : Nat) : rngD i n = (List.range n).map fun k : Nat => PyData.int (i + (k : Int)) := rfl
theorem ixT {k : Nat} {a : List (Option Int)} (h : T[k]? = some a) : oIx (.list (T.map rD)) (.int (k : Int)) = some (rD a) := a9u (by rw [List.getElem?_map, h]; rfl)
theorem law_k (hTl : T.length = m + 1) (hTr : ∀ r ∈ T, r.length = ws.length + 1) (hm : m <= 1000) {i j : Nat} (hi : i <= ws.length) (hj : j <= ws.length) (c : Int) (R : D) (x9 x11 x12 x13 : Sl) :
  ((∀ k a b, k < m -> T[k]? = some a -> T[k + 1]? = some b -> rch a b i j c) /\ ∃ y11 y12 y13, gForI (dRng rng1 (dCons (dVar 2) dNil)) (tgN 11) a1o (lS ws W m R T (.vl (.int (i : Int))) (.vl (.int (j : Int))) x9 (.vl (.int c)) x11 x12 x13) = M.ret (.nx (lS ws W m R T (.vl (.int (i : Int))) (.vl (.int (j : Int))) x9 (.vl (.int c)) y11 y12 y13))) \/
  (¬ (∀ k a b, k < m -> T[k]? = some a -> T[k + 1]? = some b -> rch a b i j c) /\ gForI (dRng rng1 (dCons (dVar 2) dNil)) (tgN 11) a1o (lS ws W m R T (.vl (.int (i : Int))) (.vl (.int (j : Int))) x9 (.vl (.int c)) x11 x12 x13) = M.ret (.rt (.bool false))) := by
 have hiff : (∀ k ∈ List.range m, ∀ a b, T[k]? = some a -> T[k + 1]? = some b -> rch a b i j c) ↔ (∀ k a b, k < m -> T[k]? = some a -> T[k + 1]? = some b -> rch a b i j c) := by
  constructor
  ·intro h k a b hk
   exact h k (List.mem_range.mpr hk) a b
  ·intro h k hk a b
   exact h k a b (List.mem_range.mp hk)
 rw [<- hiff]
 have main := a7s (f := fun k : Nat => PyData.int ((0 : Int) + (k : Int))) (body := bodyD (tgN 11) a1o) (r := .bool false) (fun δ => ∃ y11 y12 y13, δ = lS ws W m R T (.vl (.int (i : Int))) (.vl (.int (j : Int))) x9 (.vl (.int c)) y11 y12 y13) (fun k => ∀ a b, T[k]? = some a -> T[k + 1]? = some b -> rch a b i j c) (List.range m) (by
  rintro k hk δ ⟨y11, y12, y13, rfl⟩
  have hk := List.mem_range.mp hk
  have ha := List.getElem?_eq_getElem (show k < T.length by omega)
  have hb := List.getElem?_eq_getElem (show k + 1 < T.length by omega)
  generalize T[k] = a at ha
  generalize T[k + 1] = b at hb
  have la := hTr a (List.mem_of_getElem? ha)
  have lb := hTr b (List.mem_of_getElem? hb)
  have ea := List.getElem?_eq_getElem (show i < a.length by omega)
  have eb := List.getElem?_eq_getElem (show j < b.length by omega)
  have ixa := b3a ea
  have ixb := b3a eb
  generalize a[i] = x at *
  generalize b[j] = v at *
  have iTa := ixT ha
  have iTb := ixT hb
  have e0 : (0 : Int) + (k : Int) = (k : Int) := by omega
  have e1 : (k : Int) + 1 = ((k + 1 : Nat) : Int) := by omega
  have hq : (∀ a' b', T[k]? = some a' -> T[k + 1]? = some b' -> rch a' b' i j c) ↔ rch a b i j c := by
   constructor
   ·intro h; exact h a b ha hb
   ·intro h a' b' h1 h2
    rw [ha] at h1
    rw [hb] at h2
    cases h1
    cases h2
    exact h
  have body : ∀ {bb : Bool}, (dAnd (dB (d2 oIsNot (dVar 12) (dC .none))) (dOr (dB (d2 oIs (dVar 13) (dC .none))) (dB (d2 oGt (dVar 13) (d2 oAdd (dVar 12) (dVar 10)))))) (lS ws W m R T (.vl (.int (i : Int))) (.vl (.int (j : Int))) x9 (.vl (.int c)) (.vl (.int (k : Int))) (.vl (oD x)) (.vl (oD v))) = M.ret bb -> bodyD (tgN 11) a1o (.int (0 + (k : Int))) (lS ws W m R T (.vl (.int (i : Int))) (.vl (.int (j : Int))) x9 (.vl (.int c)) y11 y12 y13) = if bb = true then M.ret (.rt (.bool false)) else M.ret (.nx (lS ws W m R T (.vl (.int (i : Int))) (.vl (.int (j : Int))) x9 (.vl (.int c)) (.vl (.int (k : Int))) (.vl (oD x)) (.vl (oD v)))) := fun {bb} hbb => by
   rw [e0]
   refine a3x (δ' := lS ws W m R T (.vl (.int (i : Int))) (.vl (.int (j : Int))) x9 (.vl (.int c)) (.vl (.int (k : Int))) y12 y13) rfl ?_
   unfold a1o
   refine a0o (a1a (d := oD x) (ev_2 (ev_2 (a0a rfl) (a0a rfl) iTa) (a0a rfl) ixa)) ?_
   refine a0o (a1a (d := oD v) (ev_2 (ev_2 (a0a rfl) (ev_2 (a0a rfl) ev_c (by rw [a5e, e1])) iTb) (a0a rfl) ixb)) ?_
   refine a4z hbb ?_
   cases bb with
   | true => exact a0p ev_c
   | false => rfl
  cases x with
  | none =>
   have hb2 := body (bb := false) (a7u (ev_b (ev_2 (a0a rfl) ev_c (a6h none))))
   refine .inl ⟨hq.mpr fun x' hx' => ?_, _, hb2, _, _, _, rfl⟩
   rw [ea] at hx'
   cases hx'
  | some x =>
   cases v with
   | none =>
    have hb2 := body (bb := true) (a3h (ev_b (ev_2 (a0a rfl) ev_c (a6h (some x)))) (a3w (ev_b (ev_2 (a0a rfl) ev_c (is_oD none)))))
    refine .inr ⟨fun z => ?_, hb2⟩
    obtain ⟨v', hv', _⟩ := hq.mp z x ea
    rw [eb] at hv'
    cases hv'
   | some v =>
    have hb2 := body (bb := decide (x + c < v)) (a3h (ev_b (ev_2 (a0a rfl) ev_c (a6h (some x)))) (a6c (ev_b (ev_2 (a0a rfl) ev_c (is_oD (some v)))) (ev_b (ev_2 (x := .int v) (a0a rfl) (ev_2 (x := .int x) (a0a rfl) (a0a rfl) a5e) o_gt))))
    by_cases z : v <= x + c
    ·rw [decide_eq_false (by omega)] at hb2
     refine .inl ⟨hq.mpr fun x' hx' => ?_, _, hb2, _, _, _, rfl⟩
     rw [ea] at hx'
     cases hx'
     exact ⟨v, eb, z⟩
    ·rw [decide_eq_true (by omega)] at hb2
     refine .inr ⟨fun q => ?_, hb2⟩
     obtain ⟨v', hv', hle⟩ := hq.mp q x ea
     rw [eb] at hv'
     cases hv'
     exact z hle) _ ⟨x11, x12, x13, rfl⟩
 have hg : ∀ {r : M Out}, forD (bodyD (tgN 11) a1o) (rngD 0 m) (lS ws W m R T (.vl (.int (i : Int))) (.vl (.int (j : Int))) x9 (.vl (.int c)) x11 x12 x13) = r -> gForI (dRng rng1 (dCons (dVar 2) dNil)) (tgN 11) a1o (lS ws W m R T (.vl (.int (i : Int))) (.vl (.int (j : Int))) x9 (.vl (.int c)) x11 x12 x13) = r := fun {r} e => a3q (a9c (a0d (a0a rfl) a0f) (a8i (by omega))) e
 rw [rng_map] at hg
 rcases main with ⟨z, δ', e, y11, y12, y13, rfl⟩ | ⟨z, e⟩
 ·exact .inl ⟨z, y11, y12, y13, hg e⟩
 ·exact .inr ⟨z, hg e⟩
theorem law_loop (h : ∀ w ∈ ws, Wd w) (hz : tot ws <= 900) (hn : ws.length <= 64) (hW : 0 <= W /\ W <= 1000) (hTl : T.length = m + 1) (hTr : ∀ r ∈ T, r.length = ws.length + 1) (hm : m <= 1000) (R : D) :
  (RC ws W m T /\ ∃ x5 x8 x9 x10 x11 x12 x13, forD (bodyD (tgN 5) a3i) (rngD 0 ws.length) (lS ws W m R T .un .un .un .un .un .un .un) = M.ret (.nx (lS ws W m R T x5 x8 x9 x10 x11 x12 x13))) \/
  (¬ RC ws W m T /\ forD (bodyD (tgN 5) a3i) (rngD 0 ws.length) (lS ws W m R T .un .un .un .un .un .un .un) = M.ret (.rt (.bool false))) := by
 have hlw : oLen [.list (ws.map tx)] = some (.int ((ws.length : Nat) : Int)) := by rw [a4n, List.length_map]
 have hiff : (∀ i ∈ List.range ws.length, ∀ q ∈ List.range (ws.length - i), (((row ws i (i + 1 + q)).length : Nat) : Int) <= W -> ∀ k a b, k < m -> T[k]? = some a -> T[k + 1]? = some b -> rch a b i (i + 1 + q) (pc ws W i (i + 1 + q))) ↔ RC ws W m T := by
  constructor
  ·intro hh i j hf k a b hk ha hb
   have f1 := hf.1
   have f2 := hf.2.1
   have e : i + 1 + (j - (i + 1)) = j := by omega
   have := hh i (List.mem_range.mpr (by omega)) (j - (i + 1)) (List.mem_range.mpr (by omega))
   rw [e] at this
   exact this hf.2.2 k a b hk ha hb
  ·intro hh i hi q hq hl k a b hk ha hb
   have hi := List.mem_range.mp hi
   have hq := List.mem_range.mp hq
   exact hh i (i + 1 + q) ⟨by omega, by omega, hl⟩ k a b hk ha hb
 rw [<- hiff]
 have main := a7s (f := fun k : Nat => PyData.int ((0 : Int) + (k : Int))) (body := bodyD (tgN 5) a3i) (r := .bool false) (fun δ => ∃ x5 x8 x9 x10 x11 x12 x13, δ = lS ws W m R T x5 x8 x9 x10 x11 x12 x13) (fun i : Nat => ∀ q ∈ List.range (ws.length - i), (((row ws i (i + 1 + q)).length : Nat) : Int) <= W -> ∀ k a b, k < m -> T[k]? = some a -> T[k + 1]? = some b -> rch a b i (i + 1 + q) (pc ws W i (i + 1 + q))) (List.range ws.length) (by
  rintro i hi δ ⟨x5, x8, x9, x10, x11, x12, x13, rfl⟩
  have hi := List.mem_range.mp hi
  have inner := a7s (f := fun k : Nat => PyData.int (((i : Int) + 1) + (k : Int))) (body := bodyD (tgN 8) a3j) (r := .bool false) (fun δ => ∃ x8 x9 x10 x11 x12 x13, δ = lS ws W m R T (.vl (.int (i : Int))) x8 x9 x10 x11 x12 x13) (fun q : Nat => (((row ws i (i + 1 + q)).length : Nat) : Int) <= W -> ∀ k a b, k < m -> T[k]? = some a -> T[k + 1]? = some b -> rch a b i (i + 1 + q) (pc ws W i (i + 1 + q))) (List.range (ws.length - i)) (by
   rintro q hq δ ⟨x8, x9, x10, x11, x12, x13, rfl⟩
   have hq := List.mem_range.mp hq
   obtain ⟨j, hj⟩ : ∃ j, j = i + 1 + q := ⟨_, rfl⟩
   rw [<- hj]
   have ej : ((i : Int) + 1) + (q : Int) = (j : Int) := by omega
   obtain ⟨r1, r2⟩ := o_rowJ (ws := ws) (i := i) (j := j) (by omega) (by omega) hz
   have rl := a8u (ws := ws) (i := i) (j := j) (by omega) (by omega)
   have rn := row_ne h (i := i) (j := j) (by omega) (by omega)
   have hlr := a8l (l := row ws i j) (by omega)
   have hc := cost_ev (r := row ws i j) (W := W) (decide (j = ws.length)) rn (by omega) hW
   rw [rc_pc] at hc
   have hej : oEq (.int (j : Int)) (.int ((ws.length : Nat) : Int)) = some (.bool (decide (j = ws.length))) := by
    rw [o_eq]
    have : decide ((j : Int) = ((ws.length : Nat) : Int)) = decide (j = ws.length) := decide_eq_decide.mpr (by omega)
    rw [this]
   have start : ∀ {r : M Out}, gIf (dB (d2 oLeD (dCB oLen (dCons (dVar 9) dNil)) (dVar 1))) (gSeq (gAsg (dCall (fun ds => noX (a4c ds)) (dCons (dVar 9) (dCons (dVar 1) (dCons (d2 oEq (dVar 8) (dCB oLen (dCons (dVar 0) dNil))) dNil)))) (tgN 10)) (gForI (dRng rng1 (dCons (dVar 2) dNil)) (tgN 11) a1o)) gNext (lS ws W m R T (.vl (.int (i : Int))) (.vl (.int (j : Int))) (.vl (tx (row ws i j))) x10 x11 x12 x13) = r -> bodyD (tgN 8) a3j (.int (((i : Int) + 1) + (q : Int))) (lS ws W m R T (.vl (.int (i : Int))) x8 x9 x10 x11 x12 x13) = r := fun {r} e => by
    rw [ej]
    refine a3x (δ' := lS ws W m R T (.vl (.int (i : Int))) (.vl (.int (j : Int))) x9 x10 x11 x12 x13) rfl ?_
    unfold a3j
    exact a0o (a1a (d := tx (row ws i j)) (a4y (z := S [32]) ev_c (a0d (a2w (a0a rfl) (a1r (a0a rfl)) (a1r (a0a rfl)) r1) a0f) r2)) e
   by_cases hw : (((row ws i j).length : Nat) : Int) <= W
   ·have go : ∀ {r : M Out}, gForI (dRng rng1 (dCons (dVar 2) dNil)) (tgN 11) a1o (lS ws W m R T (.vl (.int (i : Int))) (.vl (.int (j : Int))) (.vl (tx (row ws i j))) (.vl (.int (pc ws W i j))) x11 x12 x13) = r -> bodyD (tgN 8) a3j (.int (((i : Int) + 1) + (q : Int))) (lS ws W m R T (.vl (.int (i : Int))) x8 x9 x10 x11 x12 x13) = r := fun {r} e => by
     refine start (a4z (b := true) (ev_b (ev_2 (a1s (a0d (a0a rfl) a0f) hlr) (a0a rfl) (by rw [o_leD, decide_eq_true hw]))) (a4v rfl ?_))
     refine a0o (a1a (d := .int (pc ws W i j)) (a0q (a0d (a0a rfl) (a0d (a0a rfl) (a0d (ev_2 (a0a rfl) (a1s (a0d (a0a rfl) a0f) hlw) hej) a0f))) hc)) e
    rcases law_k (ws := ws) (W := W) hTl hTr hm (i := i) (j := j) (by omega) (by omega) (pc ws W i j) R (.vl (tx (row ws i j))) x11 x12 x13 with ⟨z, y11, y12, y13, e⟩ | ⟨z, e⟩
    ·exact .inl ⟨fun _ => z, _, go e, _, _, _, _, _, _, rfl⟩
    ·exact .inr ⟨fun q => z (q hw), go e⟩
   ·refine .inl ⟨fun q => absurd q hw, _, start (a7t (b := false) (ev_b (ev_2 (a1s (a0d (a0a rfl) a0f) hlr) (a0a rfl) (by rw [o_leD, decide_eq_false hw]))) rfl), _, _, _, _, _, _, rfl⟩) (lS ws W m R T (.vl (.int (i : Int))) x8 x9 x10 x11 x12 x13) ⟨_, _, _, _, _, _, rfl⟩
  have hr : rng2 [.int ((i : Int) + 1), .int (((ws.length : Nat) : Int) + 1)] = some (rngD ((i : Int) + 1) (ws.length - i)) := by
   show (if (b62 ((i : Int) + 1) && b62 (((ws.length : Nat) : Int) + 1)) = true then some (rngD ((i : Int) + 1) (((ws.length : Nat) : Int) + 1 - ((i : Int) + 1)).toNat) else none) = _
   rw [if_pos (by unfold b62; simp; omega), show (((ws.length : Nat) : Int) + 1 - ((i : Int) + 1)).toNat = ws.length - i by omega]
  have hg : ∀ {r : M Out}, forD (bodyD (tgN 8) a3j) (rngD ((i : Int) + 1) (ws.length - i)) (lS ws W m R T (.vl (.int (i : Int))) x8 x9 x10 x11 x12 x13) = r -> bodyD (tgN 5) a3i (.int (0 + (i : Int))) (lS ws W m R T x5 x8 x9 x10 x11 x12 x13) = r := fun {r} e => by
   rw [Int.zero_add]
   refine a3x (δ' := lS ws W m R T (.vl (.int (i : Int))) x8 x9 x10 x11 x12 x13) rfl ?_
   unfold a3i
   exact a3q (a9c (a0d (ev_2 (a0a rfl) ev_c a5e) (a0d (ev_2 (a1s (a0d (a0a rfl) a0f) hlw) ev_c a5e) a0f)) hr) e
  rw [rng_map] at hg
  rcases inner with ⟨z, δ', e, y8, y9, y10, y11, y12, y13, rfl⟩ | ⟨z, e⟩
  ·exact .inl ⟨z, _, hg e, _, _, _, _, _, _, _, rfl⟩
  ·exact .inr ⟨z, hg e⟩) (lS ws W m R T .un .un .un .un .un .un .un) ⟨_, _, _, _, _, _, _, rfl⟩
 rw [rng_map]
 rcases main with ⟨z, δ', e, x5, x8, x9, x10, x11, x12, x13, rfl⟩ | ⟨z, e⟩
 ·exact .inl ⟨z, _, _, _, _, _, _, _, e⟩
 ·exact .inr ⟨z, e⟩
end
end K51
open PySem PySem.Spec L2 DL CT TX NumText
namespace K51
def fin (W : Int) (rs : List (List Nat)) : Int := (rs.map (rp W)).sum + (rs.dropLast.map rb).sum
theorem b0d (xs : List D) : oCutS none (some (-1)) (.list xs) = some (.list xs.dropLast) := by
 show some (PyData.list (cutD xs none (some (-1)))) = _
 congr 2
 unfold cutD
 have e0 : HT.sIx xs.length 0 none = 0 := rfl
 have e1 : HT.sIx xs.length xs.length (some (-1)) = xs.length - 1 := by
  unfold HT.sIx
  cases xs with
  | nil => rfl
  | cons x r =>
   simp
   omega
 rw [e0, e1, List.drop_zero, Nat.sub_zero, List.dropLast_eq_take]
theorem rp_comp {W : Int} (hW : 0 <= W /\ W <= 1000) : ∀ (rs : List (List Nat)) (x : Sl), (∀ r ∈ rs, r.length <= 900) -> compD (tgN 0) (nX dYes) (nX (dCall (fun ds => noX (a1u ds)) (dCons (dVar 0) (dCons (dVar 1) dNil)))) (rs.map tx) [x, .vl (.int W)] = M.ret ((rs.map (rp W)).map PyData.int)
 | [], _, _ => rfl
 | r :: rs, x, h => a5m (δ' := [.vl (tx r), .vl (.int W)]) rfl (a0q (a0d (a0a rfl) (a0d (a0a rfl) a0f)) (a7e (by have := h r List.mem_cons_self; omega) (by omega))) (rp_comp hW rs _ fun y hy => h y (List.mem_cons_of_mem _ hy))
theorem rb_comp : ∀ (rs : List (List Nat)) (x : Sl), (∀ r ∈ rs, r ≠ [] /\ r.length <= 900) -> compD (tgN 0) (nX dYes) (nX (dCall (fun ds => noX (a1w ds)) (dCons (dVar 0) dNil))) (rs.map tx) [x] = M.ret ((rs.map rb).map PyData.int)
 | [], _, _ => rfl
 | r :: rs, x, h => a5m (δ' := [.vl (tx r)]) rfl (a0q (a0d (a0a rfl) a0f) (rb_ev (h r List.mem_cons_self).1 (h r List.mem_cons_self).2)) (rb_comp rs _ fun y hy => h y (List.mem_cons_of_mem _ hy))
theorem sumG (l : List Int) : oSumG [.list (l.map PyData.int)] = some (.int l.sum) := by
 show (intsOf (l.map PyData.int)).map _ = _
 rw [b3c]
 rfl
theorem price_ev {rs : List (List Nat)} {W : Int} (hr : ∀ r ∈ rs, r ≠ [] /\ r.length <= 900) (hl : rs.length <= 100) (hW : 0 <= W /\ W <= 1000) : a4a [.list (rs.map tx), .int W] = M.ret (.int (fin W rs)) := by
 have h1 := rp_comp hW rs .un fun r h => (hr r h).2
 have h2 := rb_comp rs.dropLast .un fun r h => hr r (List.dropLast_subset _ h)
 refine a0y ?_
 unfold a4w fin
 exact a0p (ev_2 (a1s (a0d (a3g (ds := rs.map tx) (a3m (x := .list (rs.map tx)) (a0a rfl) rfl) (a0l (by rw [List.length_map]; omega)) h1) a0f) (sumG _)) (a1s (a0d (a3g (ds := rs.dropLast.map tx) (a3m (x := .list (rs.dropLast.map tx)) (a2w (a0a rfl) a1n (a1r (ev_1 ev_c rfl)) (by rw [b0d, List.map_dropLast])) rfl) (a0l (by rw [List.length_map, List.length_dropLast]; omega)) h2) a0f) (sumG _)) a5e)
theorem ne_nil (l : List Int) : oNe (.list (l.map PyData.int)) (.list []) = some (.bool (!decide (l = []))) := by
 obtain ⟨h1, h2⟩ := a8n (ints_lay l)
 have hc : (PyData.list (l.map PyData.int)).canLay0 = true := by unfold PyData.canLay0; exact h1
 have hd : (PyData.list (l.map PyData.int)).depth <= 60 := by unfold PyData.depth; omega
 unfold oNe flat
 rw [hc, show (PyData.list []).canLay0 = true from rfl, decide_eq_true (by omega : min (PyData.list (l.map PyData.int)).depth (PyData.list []).depth <= 60)]
 cases l with
 | nil => rfl
 | cons a r => rfl
theorem eq_oD (x : Option Int) (f : Int) : oEq (oD x) (.int f) = some (.bool (decide (x = some f))) := by
 cases x with
 | none => rfl
 | some i =>
  show oEq (.int i) (.int f) = _
  rw [o_eq]
  have : decide (i = f) = decide (some i = some f) := decide_eq_decide.mpr (by simp)
  rw [this]
theorem enum_len : ∀ (l : List D) (k : Nat), (enumD k l).length = l.length
 | [], _ => rfl
 | a :: l, k => by show (enumD (k + 1) l).length + 1 = _; rw [enum_len l]; rfl
section
variable {ws : List (List Nat)} {W : Int} {m : Nat} {ps : List Pc}
theorem b0u (h0 : ws ≠ []) (h : ∀ w ∈ ws, Wd w) (hz : tot ws <= 900) (hn : ws.length <= 64) (hW : 0 <= W /\ W <= 1000) (hm : m <= 90) (hps : Pcs ws W ps) (hp : a1v [tx (jn 32 ws), .int W] = M.ret (.list (ps.map pcD))) {R T : D} (hR : LR R) (hT : LT T) :
  ∃ b : Bool, a2f [tx (jn 32 ws), .int W, .int (m : Int), R, T] = M.ret (.bool b) /\ a4m [.list (ws.map tx), .int W, .int (m : Int), R, T] = M.ret (.bool b) /\
  (b = true -> ∃ Tt : List (List (Option Int)), T = .list (Tt.map rD) /\ lasts Tt ≠ []) /\
  (∀ rs Tt, R = .list (rs.map tx) -> T = .list (Tt.map rD) -> rs.length <= m -> jn 32 rs = jn 32 ws -> (∀ r ∈ rs, ((r.length : Nat) : Int) <= W) -> Tt.length = m + 1 -> (∀ r ∈ Tt, r.length = ws.length + 1) -> (∃ r, Tt[0]? = some (some 0 :: r)) -> RC ws W m Tt -> lasts Tt ≠ [] -> minL (lasts Tt) = fin W rs -> b = true) := by
 obtain ⟨p, p1, p2, p3, p4⟩ := parting_both (W := W) (m := m) h0 h hz hR
 obtain ⟨q, q1, q2, q3, q4⟩ := table_both (ws := ws) (m := m) hT
 have hspl := b2w (c := 32) h0 (fun w hw z => by have := (h w hw).free 32 z; omega) (by omega)
 have hlw : oLen [.list (ws.map tx)] = some (.int ((ws.length : Nat) : Int)) := by rw [a4n, List.length_map]
 cases p with
 | false =>
  refine ⟨false, a0y ?_, a0y ?_, (fun z => nomatch z), fun rs Tt e1 e2 e3 e4 e5 => nomatch p4 rs e1 e3 e4 e5⟩
  ·unfold a2v
   exact a1c (b := true) (a3w (a2e (b := false) (ev_b (a0q (a0d (a0a rfl) (a0d (a0a rfl) (a0d (a0a rfl) (a0d (a0a rfl) a0f)))) p1)))) (a4v rfl (a1h (a0p ev_c)))
  ·unfold a4j
   exact a1c (b := true) (a3w (a2e (b := false) (ev_b (a0q (a0d (a0a rfl) (a0d (a0a rfl) (a0d (a0a rfl) (a0d (a0a rfl) a0f)))) p2)))) (a4v rfl (a1h (a0p ev_c)))
 | true =>
  have hP : ∀ {bb : Bool}, a4q [.int ((ws.length : Nat) : Int), .int (m : Int), T] = M.ret (.bool bb) -> (dOr (dNot (dB (dCall (fun ds => noX (a3e ds)) (dCons (dVar 0) (dCons (dVar 1) (dCons (dVar 2) (dCons (dVar 3) dNil))))))) (dNot (dB (dCall (fun ds => noX (a4q ds)) (dCons (dCB oLen (dCons (dMeth sSplit (dVar 0) (dCons (dC (.str " ")) dNil)) dNil)) (dCons (dVar 2) (dCons (dVar 4) dNil))))))) (startD 8 [tx (jn 32 ws), .int W, .int (m : Int), R, T]) = M.ret (!bb) := fun {bb} hq => a6c (a2e (b := true) (ev_b (a0q (a0d (a0a rfl) (a0d (a0a rfl) (a0d (a0a rfl) (a0d (a0a rfl) a0f)))) p1))) (a2e (ev_b (a0q (a0d (a1s (a0d (a4y (z := S (jn 32 ws)) (a0a rfl) (a0d (x := .str (S [32])) ev_c a0f) hspl) a0f) hlw) (a0d (a0a rfl) (a0d (a0a rfl) a0f))) hq)))
  have hL : ∀ {bb : Bool}, a1y [.list (ws.map tx), .int (m : Int), T] = M.ret (.bool bb) -> (dOr (dNot (dB (dCall (fun ds => noX (a1k ds)) (dCons (dVar 0) (dCons (dVar 1) (dCons (dVar 2) (dCons (dVar 3) dNil))))))) (dNot (dB (dCall (fun ds => noX (a1y ds)) (dCons (dVar 0) (dCons (dVar 2) (dCons (dVar 4) dNil))))))) (startD 14 [.list (ws.map tx), .int W, .int (m : Int), R, T]) = M.ret (!bb) := fun {bb} hq => a6c (a2e (b := true) (ev_b (a0q (a0d (a0a rfl) (a0d (a0a rfl) (a0d (a0a rfl) (a0d (a0a rfl) a0f)))) p2))) (a2e (ev_b (a0q (a0d (a0a rfl) (a0d (a0a rfl) (a0d (a0a rfl) a0f))) hq)))
  cases q with
  | false =>
   refine ⟨false, a0y ?_, a0y ?_, (fun z => nomatch z), fun rs Tt e1 e2 e3 e4 e5 e6 e7 e8 => nomatch q4 Tt e2 e6 e7 e8⟩
   ·unfold a2v
    exact a1c (b := true) (hP q1) (a4v rfl (a1h (a0p ev_c)))
   ·unfold a4j
    exact a1c (b := true) (hL q2) (a4v rfl (a1h (a0p ev_c)))
  | true =>
   obtain ⟨rs, rfl, r1, r2, r3, r4⟩ := p3 rfl
   obtain ⟨Tt, rfl, t1, t2⟩ := q3 rfl
   have hne : ∀ r ∈ Tt, r ≠ [] := fun r hr z => by have := t2 r hr; rw [z] at this; cases this
   have hrr : ∀ r ∈ rs, r ≠ [] /\ r.length <= 900 := fun r hr => ⟨(r4 r hr).1, (r4 r hr).2.2⟩
   have hle := least_ev hne (by omega)
   have hpr := price_ev hrr r2 hW
   have hinjR : ∀ rs' : List (List Nat), PyData.list (rs.map tx) = .list (rs'.map tx) -> fin W rs' = fin W rs := fun rs' e => by
    have inj : ∀ (a b : List (List Nat)), a.map tx = b.map tx -> a = b := by
     intro a
     induction a with
     | nil => intro b q; cases b with
      | nil => rfl
      | cons y b => cases q
     | cons x a ih => intro b q; cases b with
      | nil => cases q
      | cons y b =>
       rw [List.map_cons, List.map_cons] at q
       injection q with q1 q2
       have q1 : S x = S y := by injection q1
       rw [S_inj q1, ih b q2]
    rw [inj rs rs' (by injection e)]
   have hinjT : ∀ T' : List (List (Option Int)), PyData.list (Tt.map rD) = .list (T'.map rD) -> T' = Tt := fun T' e => by
    have i1 : ∀ (a b : List (Option Int)), a.map oD = b.map oD -> a = b := by
     intro a
     induction a with
     | nil => intro b q; cases b with
      | nil => rfl
      | cons y b => cases q
     | cons x a ih => intro b q; cases b with
      | nil => cases q
      | cons y b =>
       rw [List.map_cons, List.map_cons] at q
       injection q with q1 q2
       have : x = y := by
        cases x <;> cases y
        ·rfl
        ·cases q1
        ·cases q1
        ·injection q1 with q1; rw [q1]
       rw [this, ih b q2]
    have i2 : ∀ (a b : List (List (Option Int))), a.map rD = b.map rD -> b = a := by
     intro a
     induction a with
     | nil => intro b q; cases b with
      | nil => rfl
      | cons y b => cases q
     | cons x a ih => intro b q; cases b with
      | nil => cases q
      | cons y b =>
       rw [List.map_cons, List.map_cons] at q
       injection q with q1 q2
       have : x.map oD = y.map oD := by unfold rD at q1; injection q1
       rw [i1 x y this, ih b q2]
    exact i2 Tt T' (by injection e)
   rcases prog_loop hps t1 t2 (.list (rs.map tx)) with ⟨z, x5, x6, x7, e⟩ | ⟨z, e⟩
   ·rcases law_loop h hz hn hW t1 t2 (by omega) (.list (rs.map tx)) with ⟨_, y5, y8, y9, y10, y11, y12, y13, e'⟩ | ⟨z', _⟩
    ·have hla := b2b (Tt.drop 1) .un fun r hr => hne r (List.mem_of_mem_drop hr)
     have hcc := costs_comp (rs := rs) (W := W) hrr hW rs [] .un .un rfl
     have hsum := cs_sum W rs
     refine ⟨decide ((if lasts Tt = [] then none else some (minL (lasts Tt))) = some (fin W rs)), a0y ?_, a0y ?_, fun b => ⟨Tt, rfl, fun hL => ?_⟩, fun rs' T' e1 e2 e3 e4 e5 e6 e7 e8 e9 e10 e11 => ?_⟩
     ·unfold a2v
      refine a2n (b := !true) (hP q1) rfl ?_
      refine a0o (a3q (ds := ps.map pcD) (a3m (x := .list (ps.map pcD)) (a0q (a0d (a0a rfl) (a0d (a0a rfl) a0f)) hp) rfl) e) ?_
      exact a0p (ev_2 (a0q (a0d (a0a rfl) a0f) hle) (a0q (a0d (a0a rfl) (a0d (a0a rfl) a0f)) hpr) (eq_oD _ _))
     ·unfold a4j
      refine a2n (b := !true) (hL q2) rfl ?_
      refine a0o (a3q (ds := rngD 0 ws.length) (a9c (a0d (a1s (a0d (a0a rfl) a0f) hlw) a0f) (a8i (by omega))) e') ?_
      refine a0o (a1a (d := .list ((lasts Tt).map PyData.int)) (a3g (ds := (Tt.drop 1).map rD) (a3m (x := .list ((Tt.drop 1).map rD)) (a2w (a0a rfl) (a1r ev_c) a1n (by rw [cut_one, List.map_drop])) rfl) (a0l (by rw [List.length_map, List.length_drop]; omega)) hla)) ?_
      refine a0o (a1a (d := .list ((cs W rs).map PyData.int)) (a3g (ds := enumD 0 (rs.map tx)) (ev_enumS (a0d (a0a rfl) a0f)) (a0l (by rw [enum_len, List.length_map]; omega)) hcc)) ?_
      by_cases hL0 : lasts Tt = []
      ·rw [if_pos hL0, decide_eq_false (by simp)]
       exact a0p (b1a (ev_2 (a0a rfl) (a2q a0f rfl) (by rw [ne_nil, decide_eq_true hL0]; rfl)))
      ·rw [if_neg hL0]
       refine a0p (b0z (ev_2 (a0a rfl) (a2q a0f rfl) (by rw [ne_nil, decide_eq_false hL0]; rfl)) (ev_2 (x := .int (minL (lasts Tt))) (y := .int (fin W rs)) (a1s (a0d (a0a rfl) a0f) (o_minL hL0)) (a1s (a0d (a0a rfl) a0f) (by rw [sumG, hsum]; rfl)) ?_))
       rw [o_eq]
       have : decide (minL (lasts Tt) = fin W rs) = decide (some (minL (lasts Tt)) = some (fin W rs)) := decide_eq_decide.mpr (by simp)
       rw [this]
     ·rw [if_pos hL, decide_eq_true_eq] at b
      cases b
     ·have hT' := hinjT T' e2
      subst hT'
      rw [if_neg e10, decide_eq_true_eq, e11, hinjR rs' e1]
    ·exact absurd z z'
   ·rcases law_loop h hz hn hW t1 t2 (by omega) (.list (rs.map tx)) with ⟨z', _⟩ | ⟨_, e'⟩
    ·exact absurd z' z
    ·refine ⟨false, a0y ?_, a0y ?_, (fun z => nomatch z), fun rs' T' e1 e2 e3 e4 e5 e6 e7 e8 e9 => ?_⟩
     ·unfold a2v
      refine a2n (b := !true) (hP q1) rfl ?_
      exact a1h (a3q (ds := ps.map pcD) (a3m (x := .list (ps.map pcD)) (a0q (a0d (a0a rfl) (a0d (a0a rfl) a0f)) hp) rfl) e)
     ·unfold a4j
      refine a2n (b := !true) (hL q2) rfl ?_
      exact a1h (a3q (ds := rngD 0 ws.length) (a9c (a0d (a1s (a0d (a0a rfl) a0f) hlw) a0f) (a8i (by omega))) e')
     ·rw [hinjT T' e2] at e9
      exact absurd e9 z
end
end K51
open PySem PySem.Spec L2 DL CT TX NumText
namespace K51
def Rl (r : List Nat) : Prop := r.length <= 500 /\ ∀ c ∈ r, c < 128
theorem Rl.el {r : List Nat} (h : Rl r) : El (tx r) := .inl ⟨r, rfl, by have := h.1; omega, h.2⟩
theorem ne_nilT {ds : List D} (h : ∀ d ∈ ds, d.canLay0 = true /\ d.depth <= 5) : oNe (.list ds) (.list []) = some (.bool (!ds.isEmpty)) := by
 obtain ⟨h1, h2⟩ := a8n h
 have hc : (PyData.list ds).canLay0 = true := by unfold PyData.canLay0; exact h1
 have hd : (PyData.list ds).depth <= 60 := by unfold PyData.depth; omega
 unfold oNe flat
 rw [hc, show (PyData.list []).canLay0 = true from rfl, decide_eq_true (by omega : min (PyData.list ds).depth (PyData.list []).depth <= 60)]
 cases ds with
 | nil => rfl
 | cons a r => rfl
theorem lay_tx {r : List Nat} (h : ∀ c ∈ r, c < 128) : (tx r).canLay0 = true /\ (tx r).depth <= 5 := ⟨by show PyData.strOk (S r) = true; exact ok_S fun c hc => by have := h c hc; omega, by show 0 <= 5; decide⟩
theorem a1z {δ : DS} {G g : DS -> M Out} {i : Nat} {w k : Int} {r : M Out} (h3 : δ[i]? = some (.vl (.int w))) (hw : w ≠ k) (h : G δ = r) : gSeq (gIf (dB (d2 oEq (dVar i) (dC (.int k)))) g gNext) G δ = r :=
 a2n (b := decide (w = k)) (ev_b (ev_2 (a0a h3) ev_c o_eq)) (decide_eq_false hw) h
theorem a8e {δ : DS} {G g : DS -> M Out} {i : Nat} {w k : Int} {d : D} (h3 : δ[i]? = some (.vl (.int w))) (hw : w = k) (h : g δ = M.ret (.rt d)) : gSeq (gIf (dB (d2 oEq (dVar i) (dC (.int k)))) g gNext) G δ = M.ret (.rt d) :=
 a1c (b := decide (w = k)) (ev_b (ev_2 (a0a h3) ev_c o_eq)) (by rw [decide_eq_true hw, if_pos rfl]; exact a1h h)
section
variable {ws rs : List (List Nat)} {N : Int}
abbrev orS (ws rs : List (List Nat)) (N : Int) (a : Nat) (w : Int) : DS := [.vl (.list (ws.map tx)), .vl (.list (rs.map tx)), .vl (.int N), .vl (.int (a : Int)), .vl (.int w), .un]
theorem b1z {xs ys : List D} (h1 : ∀ x ∈ xs, El x) (h2 : ∀ x ∈ ys, El x) : ∀ x ∈ xs ++ ys, El x := fun x hx => by
 rcases List.mem_append.mp hx with hx | hx
 ·exact h1 x hx
 ·exact h2 x hx
theorem el_tx {l : List (List Nat)} (h : ∀ r ∈ l, Rl r) : ∀ x ∈ l.map tx, El x := fun x hx => by
 obtain ⟨r, hr, rfl⟩ := List.mem_map.mp hx
 exact (h r hr).el
theorem comp2 {a b : List (List Nat)} (ha : a ≠ []) (la : ∀ r ∈ a, Rl r) (lb : ∀ r ∈ b, Rl r) (ta : tot a <= 900) (tb : tot b <= 900) : ∃ ys : List (List Nat), (∀ r ∈ ys, Rl r \/ ∃ q ∈ [a, b], r = jn 32 q /\ q ≠ []) /\ ys.length <= 2 /\ compD (tgN 0) (nX (dB (d2 oNe (dVar 0) (dLst dNil)))) (nX (dMeth sJoin (dC (.str " ")) (dCons (dVar 0) dNil))) [.list (a.map tx), .list (b.map tx)] [.un] = M.ret (ys.map tx) := by
 have ja := b0q (c := 32) (ts := a) (by omega)
 have jb := b0q (c := 32) (ts := b) (by omega)
 have na : oNe (.list (a.map tx)) (.list []) = some (.bool true) := by
  rw [ne_nilT fun d hd => by
   obtain ⟨r, hr, rfl⟩ := List.mem_map.mp hd
   exact lay_tx (la r hr).2]
  cases a with
  | nil => exact absurd rfl ha
  | cons x y => rfl
 have nb := ne_nilT (ds := b.map tx) fun d hd => by
  obtain ⟨r, hr, rfl⟩ := List.mem_map.mp hd
  exact lay_tx (lb r hr).2
 by_cases hb : b = []
 ·subst hb
  refine ⟨[jn 32 a], fun r hr => ?_, (by show 1 <= 2; decide), ?_⟩
  ·rw [List.mem_singleton.mp hr]
   exact .inr ⟨a, List.mem_cons_self, rfl, ha⟩
  ·refine a8o (δ' := [.vl (.list (a.map tx))]) rfl (ev_b (ev_2 (a0a rfl) (a2q a0f rfl) na)) (a4y (z := S [32]) ev_c (a0d (a0a rfl) a0f) ja) ?_
   exact b3f (δ' := [.vl (.list [])]) rfl (ev_b (ev_2 (a0a rfl) (a2q a0f rfl) nb)) rfl
 ·have nb : oNe (.list (b.map tx)) (.list []) = some (.bool true) := by
   rw [nb]
   cases b with
   | nil => exact absurd rfl hb
   | cons x y => rfl
  refine ⟨[jn 32 a, jn 32 b], fun r hr => ?_, (by show 2 <= 2; decide), ?_⟩
  ·rcases List.mem_cons.mp hr with rfl | hr
   ·exact .inr ⟨a, List.mem_cons_self, rfl, ha⟩
   ·rw [List.mem_singleton.mp hr]
    exact .inr ⟨b, List.mem_cons_of_mem _ List.mem_cons_self, rfl, hb⟩
  ·refine a8o (δ' := [.vl (.list (a.map tx))]) rfl (ev_b (ev_2 (a0a rfl) (a2q a0f rfl) na)) (a4y (z := S [32]) ev_c (a0d (a0a rfl) a0f) ja) ?_
   exact a8o (δ' := [.vl (.list (b.map tx))]) rfl (ev_b (ev_2 (a0a rfl) (a2q a0f rfl) nb)) (a4y (z := S [32]) ev_c (a0d (a0a rfl) a0f) jb) rfl
theorem rl_jn {q : List (List Nat)} (h0 : q ≠ []) (h : ∀ r ∈ q, Rl r) (ht : tot q <= 300) : Rl (jn 32 q) := by
 have := b1v 32 h0
 exact ⟨by omega, fun c hc => b0v (c := 32) (P := fun x => x < 128) (by decide) (fun w hw => (h w hw).2) c hc⟩
theorem tot_take (l : List (List Nat)) (n : Nat) : tot (l.take n) <= tot l := by
 have := b2e (ws := l) 0 n
 rwa [List.drop_zero] at this
theorem tot_drop (l : List (List Nat)) (n : Nat) : tot (l.drop n) <= tot l := by
 have := b2e (ws := l) n l.length
 rwa [List.take_of_length_le (by rw [List.length_drop]; omega)] at this
theorem b2u (h0 : ws ≠ []) (hw : ∀ w ∈ ws, Rl w) (tw : tot ws <= 300) (hn : ws.length <= 64) (r0 : rs ≠ []) (hr : ∀ r ∈ rs, Rl r) (tr : tot rs <= 900) (rl : rs.length <= 40) (N0 : 0 <= N) : ∃ R, LR R /\ a3c [.list (ws.map tx), .list (rs.map tx), .int N] = M.ret R := by
 have rp := List.length_pos_iff.mpr r0
 have wp := List.length_pos_iff.mpr h0
 have hlr : oLen [.list (rs.map tx)] = some (.int ((rs.length : Nat) : Int)) := by rw [a4n, List.length_map]
 have hlw : oLen [.list (ws.map tx)] = some (.int ((ws.length : Nat) : Int)) := by rw [a4n, List.length_map]
 obtain ⟨a, ha⟩ : ∃ a : Nat, (a : Int) = N / 16 % ((rs.length : Nat) : Int) := ⟨(N / 16 % ((rs.length : Nat) : Int)).toNat, by
  have := Int.emod_nonneg (N / 16) (b := ((rs.length : Nat) : Int)) (by omega)
  omega⟩
 have hal : a < rs.length := by
  have := Int.emod_lt_of_pos (N / 16) (b := ((rs.length : Nat) : Int)) (by omega)
  omega
 have c1 : oCutS none (some (a : Int)) (.list (rs.map tx)) = some (.list ((rs.take a).map tx)) := by
  show some (PyData.list (cutD (rs.map tx) none (some ((a : Nat) : Int)))) = _
  rw [cut_take, List.map_take]
 have c2 : oCutS (some (a : Int)) none (.list (rs.map tx)) = some (.list ((rs.drop a).map tx)) := by
  show some (PyData.list (cutD (rs.map tx) (some ((a : Nat) : Int)) none)) = _
  rw [b0e, List.map_drop]
 have c3 : oCutS (some ((a : Int) + 1)) none (.list (rs.map tx)) = some (.list ((rs.drop (a + 1)).map tx)) := by
  show some (PyData.list (cutD (rs.map tx) (some ((a + 1 : Nat) : Int)) none)) = _
  rw [b0e, List.map_drop]
 have l1 : (rs.take a).length <= 40 := by rw [List.length_take]; omega
 have l2 : (rs.drop a).length <= 40 := by rw [List.length_drop]; omega
 have l3 : (rs.drop (a + 1)).length <= 40 := by rw [List.length_drop]; omega
 have e1 : ∀ x ∈ (rs.take a).map tx, El x := el_tx fun r h => hr r (List.mem_of_mem_take h)
 have e2 : ∀ x ∈ (rs.drop a).map tx, El x := el_tx fun r h => hr r (List.mem_of_mem_drop h)
 have e3 : ∀ x ∈ (rs.drop (a + 1)).map tx, El x := el_tx fun r h => hr r (List.mem_of_mem_drop h)
 have er : ∀ x ∈ rs.map tx, El x := el_tx hr
 have hra := hr rs[a] (List.getElem_mem hal)
 have ixa : oIx (.list (rs.map tx)) (.int (a : Int)) = some (tx rs[a]) := a9u (by rw [List.getElem?_map, List.getElem?_eq_getElem hal]; rfl)
 have hjr := b0q (c := 32) (ts := rs) (by omega)
 have head : ∀ {G : DS -> M Out} {r : M Out} {w : Int}, w = N % 16 -> G (orS ws rs N a w) = r -> gSeq (gAsg (d2 oMod (d2 oDiv (dVar 2) (dC (.int 16))) (dCB oLen (dCons (dVar 1) dNil))) (tgN 3)) (gSeq (gAsg (d2 oMod (dVar 2) (dC (.int 16))) (tgN 4)) G) (startD 6 [.list (ws.map tx), .list (rs.map tx), .int N]) = r := fun {G r w} hw hG => by
  subst hw
  refine a0o (a1a (d := .int (a : Int)) (by rw [ha]; exact ev_2 (ev_2 (a0a rfl) ev_c (a9t (a4e (by decide) (by decide)))) (a1s (a0d (a0a rfl) a0f) hlr) (a6w (by omega)))) ?_
  exact a0o (a1a (ev_2 (a0a rfl) ev_c (a6w (by decide)))) hG
 have hw16 : N % 16 = 0 \/ N % 16 = 1 \/ N % 16 = 2 \/ N % 16 = 3 \/ N % 16 = 4 \/ (5 <= N % 16 /\ N % 16 <= 8) \/ 8 < N % 16 := by omega
 rcases hw16 with z | z | z | z | z | z | z
 ·obtain ⟨R, hR, hix⟩ : ∃ R, LR R /\ oIx (.list [.tuple (rs.map tx), .none, tx (jn 32 rs), .list [.list (rs.map tx)]]) (.int (N / 16 % 4)) = some R := by
   have : N / 16 % 4 = 0 \/ N / 16 % 4 = 1 \/ N / 16 % 4 = 2 \/ N / 16 % 4 = 3 := by omega
   rcases this with q | q | q | q
   ·rw [q]; exact ⟨_, .inr (.inl ⟨_, rfl⟩), rfl⟩
   ·rw [q]; exact ⟨_, .inr (.inr (.inl rfl)), rfl⟩
   ·rw [q]; exact ⟨_, .inr (.inr (.inr ⟨_, rfl⟩)), rfl⟩
   ·rw [q]; exact ⟨_, .inl ⟨_, rfl, (by show 1 <= 100; decide), fun x hx => by rw [List.mem_singleton.mp hx]; exact .inr (.inr ⟨_, rfl⟩)⟩, rfl⟩
  refine ⟨R, hR, a0y ?_⟩
  unfold a1b
  exact head z.symm (a8e rfl rfl (a0p (ev_2 (a2q (a0d (a1s (a0d (a0a rfl) a0f) rfl) (a0d ev_c (a0d (a4y (z := S [32]) ev_c (a0d (a0a rfl) a0f) hjr) (a0d (a2q (a0d (a0a rfl) a0f) rfl) a0f)))) rfl) (ev_2 (ev_2 (a0a rfl) ev_c (a9t (a4e (by decide) (by decide)))) ev_c (a6w (by decide))) hix)))
 ·obtain ⟨x, hx, hix⟩ : ∃ x, El x /\ oIx (.list [.none, .list [tx rs[a]], tx (rs[a] ++ [32]), tx ([32] ++ rs[a]), .str ""]) (.int (N / 64 % 5)) = some x := by
   have : N / 64 % 5 = 0 \/ N / 64 % 5 = 1 \/ N / 64 % 5 = 2 \/ N / 64 % 5 = 3 \/ N / 64 % 5 = 4 := by omega
   have f1 : ∀ c ∈ rs[a] ++ [32], c < 128 := fun c hc => by
    rcases List.mem_append.mp hc with hc | hc
    ·exact hra.2 c hc
    ·rw [List.mem_singleton.mp hc]; decide
   have f2 : ∀ c ∈ [32] ++ rs[a], c < 128 := fun c hc => by
    rcases List.mem_append.mp hc with hc | hc
    ·rw [List.mem_singleton.mp hc]; decide
    ·exact hra.2 c hc
   have f3 := hra.1
   rcases this with q | q | q | q | q
   ·rw [q]; exact ⟨_, .inr (.inl rfl), rfl⟩
   ·rw [q]; exact ⟨_, .inr (.inr ⟨_, rfl⟩), rfl⟩
   ·rw [q]; exact ⟨_, .inl ⟨_, rfl, by rw [List.length_append, List.length_singleton]; omega, f1⟩, rfl⟩
   ·rw [q]; exact ⟨_, .inl ⟨_, rfl, by rw [List.length_append, List.length_singleton]; omega, f2⟩, rfl⟩
   ·rw [q]; exact ⟨_, .inl ⟨[], rfl, by decide, fun c hc => nomatch hc⟩, rfl⟩
  have f3 := hra.1
  refine ⟨.list (((rs.take a).map tx ++ [x]) ++ (rs.drop (a + 1)).map tx), .inl ⟨_, rfl, by simp only [List.length_append, List.length_map, List.length_singleton]; omega, b1z (b1z e1 fun y hy => by rw [List.mem_singleton.mp hy]; exact hx) e3⟩, a0y ?_⟩
  unfold a1b
  exact head z.symm (a1z rfl (by decide) (a8e rfl rfl (a0p (ev_2 (ev_2 (a2w (a0a rfl) a1n (a1r (a0a rfl)) c1) (a2q (a0d (ev_2 (a2q (a0d ev_c (a0d (a2q (a0d (ev_2 (a0a rfl) (a0a rfl) ixa) a0f) rfl) (a0d (ev_2 (ev_2 (a0a rfl) (a0a rfl) ixa) ev_c (a9j (b := [32]) (by rw [List.length_singleton]; omega))) (a0d (ev_2 ev_c (ev_2 (a0a rfl) (a0a rfl) ixa) (a9j (a := [32]) (by rw [List.length_singleton]; omega))) (a0d ev_c a0f))))) rfl) (ev_2 (ev_2 (a0a rfl) ev_c (a9t (a4e (by decide) (by decide)))) ev_c (a6w (by decide))) hix) a0f) rfl) (a7f (a0l (by simp only [List.length_map, List.length_singleton]; omega)))) (a2w (a0a rfl) (a1r (ev_2 (a0a rfl) ev_c a5e)) a1n c3) (a7f (a0l (by simp only [List.length_append, List.length_map, List.length_singleton]; omega)))))))
 ·refine ⟨.list ((rs.take a).map tx ++ (rs.drop (a + 1)).map tx), .inl ⟨_, rfl, by simp only [List.length_append, List.length_map]; omega, b1z e1 e3⟩, a0y ?_⟩
  unfold a1b
  exact head z.symm (a1z rfl (by decide) (a1z rfl (by decide) (a8e rfl rfl (a0p (ev_2 (a2w (a0a rfl) a1n (a1r (a0a rfl)) c1) (a2w (a0a rfl) (a1r (ev_2 (a0a rfl) ev_c a5e)) a1n c3) (a7f (a0l (by simp only [List.length_map]; omega))))))))
 ·refine ⟨.list (((rs.take a).map tx ++ [.str ""]) ++ (rs.drop a).map tx), .inl ⟨_, rfl, by simp only [List.length_append, List.length_map, List.length_singleton]; omega, b1z (b1z e1 fun y hy => by rw [List.mem_singleton.mp hy]; exact .inl ⟨[], rfl, by decide, fun c hc => nomatch hc⟩) e2⟩, a0y ?_⟩
  unfold a1b
  exact head z.symm (a1z rfl (by decide) (a1z rfl (by decide) (a1z rfl (by decide) (a8e rfl rfl (a0p (ev_2 (ev_2 (a2w (a0a rfl) a1n (a1r (a0a rfl)) c1) (a2q (a0d ev_c a0f) rfl) (a7f (a0l (by simp only [List.length_map, List.length_singleton]; omega)))) (a2w (a0a rfl) (a1r (a0a rfl)) a1n c2) (a7f (a0l (by simp only [List.length_append, List.length_map, List.length_singleton]; omega)))))))))
 ·refine ⟨.list ((rs.drop a).map tx ++ (rs.take a).map tx), .inl ⟨_, rfl, by simp only [List.length_append, List.length_map]; omega, b1z e2 e1⟩, a0y ?_⟩
  unfold a1b
  exact head z.symm (a1z rfl (by decide) (a1z rfl (by decide) (a1z rfl (by decide) (a1z rfl (by decide) (a8e rfl rfl (a0p (ev_2 (a2w (a0a rfl) (a1r (a0a rfl)) a1n c2) (a2w (a0a rfl) a1n (a1r (a0a rfl)) c1) (a7f (a0l (by simp only [List.length_map]; omega))))))))))
 ·obtain ⟨k, hk⟩ : ∃ k : Nat, (k : Int) = 1 + N / 16 % ((ws.length : Nat) : Int) := ⟨(1 + N / 16 % ((ws.length : Nat) : Int)).toNat, by
   have := Int.emod_nonneg (N / 16) (b := ((ws.length : Nat) : Int)) (by omega)
   omega⟩
  have hk1 : 1 <= k := by
   have := Int.emod_nonneg (N / 16) (b := ((ws.length : Nat) : Int)) (by omega)
   omega
  have d1 : oCutS none (some (k : Int)) (.list (ws.map tx)) = some (.list ((ws.take k).map tx)) := by
   show some (PyData.list (cutD (ws.map tx) none (some ((k : Nat) : Int)))) = _
   rw [cut_take, List.map_take]
  have d2 : oCutS (some (k : Int)) none (.list (ws.map tx)) = some (.list ((ws.drop k).map tx)) := by
   show some (PyData.list (cutD (ws.map tx) (some ((k : Nat) : Int)) none)) = _
   rw [b0e, List.map_drop]
  have t1 := tot_take ws k
  have t2 := tot_drop ws k
  have g1 : ∀ r ∈ ws.take k, Rl r := fun r h => hw r (List.mem_of_mem_take h)
  have g2 : ∀ r ∈ ws.drop k, Rl r := fun r h => hw r (List.mem_of_mem_drop h)
  obtain ⟨ys, y1, y2, y3⟩ := comp2 (a := ws.take k) (b := ws.drop k) (by
   intro q
   have := congrArg List.length q
   rw [List.length_take, List.length_nil] at this
   omega) g1 g2 (by omega) (by omega)
  refine ⟨.list (ys.map tx), .inl ⟨_, rfl, by rw [List.length_map]; omega, el_tx fun r h => ?_⟩, a0y ?_⟩
  ·rcases y1 r h with q | ⟨q, hq, rfl, q0⟩
   ·exact q
   ·rcases List.mem_cons.mp hq with rfl | hq
    ·exact rl_jn q0 g1 (by omega)
    ·rw [List.mem_singleton.mp hq] at q0 ⊢
     exact rl_jn q0 g2 (by omega)
  ·unfold a1b
   refine head rfl (a1z rfl (by omega) (a1z rfl (by omega) (a1z rfl (by omega) (a1z rfl (by omega) (a1z rfl (by omega) ?_)))))
   refine a2n (b := decide (8 < N % 16)) (ev_b (ev_2 (a0a rfl) ev_c o_gt)) (decide_eq_false (by omega)) ?_
   refine a0o (a1a (d := .int (k : Int)) (by rw [hk]; exact ev_2 ev_c (ev_2 (ev_2 (a0a rfl) ev_c (a9t (a4e (by decide) (by decide)))) (a1s (a0d (a0a rfl) a0f) hlw) (a6w (by omega))) a5e)) ?_
   exact a0p (a3g (ds := [.list ((ws.take k).map tx), .list ((ws.drop k).map tx)]) (a3m (x := .list [.list ((ws.take k).map tx), .list ((ws.drop k).map tx)]) (a2q (a0d (a2w (a0a rfl) a1n (a1r (a0a rfl)) d1) (a0d (a2w (a0a rfl) (a1r (a0a rfl)) a1n d2) a0f)) rfl) rfl) rfl y3)
 ·refine ⟨.list (rs.map tx), .inl ⟨_, rfl, by rw [List.length_map]; omega, er⟩, a0y ?_⟩
  unfold a1b
  refine head rfl (a1z rfl (by omega) (a1z rfl (by omega) (a1z rfl (by omega) (a1z rfl (by omega) (a1z rfl (by omega) ?_)))))
  refine a1c (b := decide (8 < N % 16)) (ev_b (ev_2 (a0a rfl) ev_c o_gt)) ?_
  rw [decide_eq_true z, if_pos rfl]
  exact a1h (a0p (a1s (a0d (a0a rfl) a0f) rfl))
end
end K51
namespace SL
open DL L2 PySem
section
variable {f fo fi : EnvS -> Sto -> R (Val × Sto)} {fa : EnvS -> Sto -> R (List Val × Sto)} {δ : EnvS} {μ μ' μ1 : Sto} {v : Val} {n : Nat}
theorem es_ix {k : Nat} {i : Int} {xs : List Val} (h1 : fo δ μ = R.ret (.h k, μ1)) (h2 : fi δ μ1 = R.ret (.d (.int i), μ')) (h3 : μ'[k]? = some (.lst xs)) (h4 : L2.atI xs i = some v) : sIx fo fi δ μ = R.ret (v, μ') := by
 unfold sIx
 rw [h1, a6u]
 dsimp only
 rw [h2, a6u]
 dsimp only
 rw [h3]
 dsimp only
 rw [h4]
end
end SL
open PySem PySem.Spec L2 DL CT TX NumText SL
namespace K51
def hsOf (n : Nat) : List Val := (List.range n).map fun i => Val.h (i + 1)
def stoT (rows : List (List D)) : Sto := .lst (hsOf rows.length) :: rows.map fun r => .lst (r.map Val.d)
theorem hsOf_succ (n : Nat) : hsOf (n + 1) = hsOf n ++ [Val.h (n + 1)] := by
 unfold hsOf
 rw [List.range_succ, List.map_append]
 rfl
theorem b2c : ∀ (rs done : List (List D)), addRows 0 rs (hsOf done.length) (stoT done) = stoT (done ++ rs)
 | [], done => by rw [List.append_nil]; rfl
 | r :: rs, done => by
  have e1 : (stoT done).length = done.length + 1 := by unfold stoT; rw [List.length_cons, List.length_map]
  have e2 : hsOf done.length ++ [Val.h (stoT done).length] = hsOf (done ++ [r]).length := by rw [e1, List.length_append, List.length_singleton, hsOf_succ]
  have e3 : (stoT done ++ [Ob.lst (r.map Val.d)]).set 0 (.lst (hsOf (done ++ [r]).length)) = stoT (done ++ [r]) := by
   unfold stoT
   rw [List.cons_append, List.set_cons_zero, List.map_append]
   rfl
  show addRows 0 rs (hsOf done.length ++ [Val.h (stoT done).length]) ((stoT done ++ [Ob.lst (r.map Val.d)]).set 0 (.lst (hsOf done.length ++ [Val.h (stoT done).length]))) = _
  rw [e2, e3, b2c rs (done ++ [r]), List.append_assoc]
  rfl
structure Tab (μ : Sto) (rows : List (List D)) : Prop where
 hd : μ[0]? = some (.lst (hsOf rows.length))
 at_ : ∀ (i : Nat) (r : List D), rows[i]? = some r -> μ[i + 1]? = some (.lst (r.map Val.d))
theorem tab_st (rows : List (List D)) : Tab (stoT rows) rows := ⟨rfl, fun i r h => by
 show (rows.map fun r => Ob.lst (r.map Val.d))[i]? = _
 rw [List.getElem?_map, h]
 rfl⟩
theorem Tab.app {μ : Sto} {rows : List (List D)} (t : Tab μ rows) (ob : Ob) : Tab (μ ++ [ob]) rows := by
 have get : ∀ (i : Nat) (o : Ob), μ[i]? = some o -> (μ ++ [ob])[i]? = some o := fun i o h => by
  rw [List.getElem?_append_left]
  ·exact h
  ·rcases Nat.lt_or_ge i μ.length with z | z
   ·exact z
   ·rw [List.getElem?_eq_none z] at h; cases h
 exact ⟨get _ _ t.hd, fun i r h => get _ _ (t.at_ i r h)⟩
theorem hsOf_get {n i : Nat} (h : i < n) : (hsOf n)[i]? = some (Val.h (i + 1)) := by
 unfold hsOf
 rw [List.getElem?_map, List.getElem?_range h]
 rfl
theorem b0a (n : Nat) : (hsOf n).length = n := by unfold hsOf; rw [List.length_map, List.length_range]
theorem b0s {μ : Sto} {k : Nat} {r : List D} (h : μ[k]? = some (.lst (r.map Val.d))) : lv1 0 μ (.h k) = some (.list r) := by
 show (if 0 <= k then (match μ[k]? with | some (.lst xs) => (dataOf xs).map PyData.list | _ => none) else none) = _
 rw [if_pos (Nat.zero_le _), h]
 show (dataOf (r.map Val.d)).map PyData.list = _
 rw [dataOf_map]
 rfl
theorem lv1s_map {α : Type} {μ : Sto} {f : α -> Val} {g : α -> D} : ∀ (l : List α), (∀ x ∈ l, lv1 0 μ (f x) = some (g x)) -> lv1s 0 μ (l.map f) = some (l.map g)
 | [], _ => rfl
 | x :: l, h => by
  show (match lv1 0 μ (f x), lv1s 0 μ (l.map f) with | some d, some ds => some (d :: ds) | _, _ => none) = _
  rw [h x List.mem_cons_self, lv1s_map l fun y hy => h y (List.mem_cons_of_mem _ hy)]
  rfl
theorem lv1s_all {P : D -> Prop} {μ : Sto} : ∀ (xs : List Val), (∀ x ∈ xs, ∃ d, lv1 0 μ x = some d /\ P d) -> ∃ ds, lv1s 0 μ xs = some ds /\ ds.length = xs.length /\ ∀ d ∈ ds, P d
 | [], _ => ⟨[], rfl, rfl, fun d h => nomatch h⟩
 | x :: xs, h => by
  obtain ⟨d, h1, h2⟩ := h x List.mem_cons_self
  obtain ⟨ds, h3, h4, h5⟩ := lv1s_all xs fun y hy => h y (List.mem_cons_of_mem _ hy)
  refine ⟨d :: ds, ?_, by rw [List.length_cons, List.length_cons, h4], fun y hy => ?_⟩
  ·show (match lv1 0 μ x, lv1s 0 μ xs with | some d, some ds => some (d :: ds) | _, _ => none) = _
   rw [h1, h3]
  ·rcases List.mem_cons.mp hy with rfl | hy
   ·exact h2
   ·exact h5 y hy
theorem Tab.lv {μ : Sto} {rows : List (List D)} (t : Tab μ rows) : lv2 0 μ (.h 0) = some (.list (rows.map PyData.list)) := by
 have h : lv1s 0 μ (hsOf rows.length) = some ((List.range rows.length).map fun i => PyData.list (rows.getD i [])) := lv1s_map _ fun i hi => by
  have hi := List.mem_range.mp hi
  rw [b0s (t.at_ i rows[i] (List.getElem?_eq_getElem hi)), List.getD_eq_getElem?_getD, List.getElem?_eq_getElem hi]
  rfl
 rw [lv2_h (Nat.le_refl 0) t.hd h]
 congr 2
 refine List.ext_getElem? fun i => ?_
 rw [List.getElem?_map, List.getElem?_map]
 by_cases hi : i < rows.length
 ·rw [List.getElem?_range hi, List.getElem?_eq_getElem hi]
  show some (PyData.list (rows.getD i [])) = some (PyData.list rows[i])
  rw [List.getD_eq_getElem?_getD, List.getElem?_eq_getElem hi]
  rfl
 ·rw [List.getElem?_eq_none (by rw [List.length_range]; omega), List.getElem?_eq_none (by omega)]
  rfl
theorem ret_last {μ : Sto} {hs : List Val} {x0 x1 x3 x4 x5 : Option Val} (h0 : μ[0]? = some (.lst hs)) (hl : hs.length <= 100) (h : ∀ x ∈ hs, ∃ d, lv1 0 μ x = some d /\ RwT d) : ∃ T, LT T /\ sRetF (dVar 2) 0 [x0, x1, some (.h 0), x3, x4, x5] μ = R.ret (.rt (.d T) []) := by
 obtain ⟨ds, h1, h2, h3⟩ := lv1s_all hs h
 refine ⟨.list ds, .inl ⟨ds, rfl, by omega, h3⟩, ?_⟩
 have hv := v1_of (lv2_h (n := 0) (Nat.le_refl 0) h0 h1)
 refine es_retF rfl (a0a (n := 2) (d := .list ds) ?_)
 show some (v1 0 μ (some (.h 0))) = _
 rw [hv]
def RwL (r : List D) : Prop := r.length <= 100 /\ ∀ e ∈ r, At e
theorem RwL.t {r : List D} (h : RwL r) : RwT (.list r) := .inl ⟨r, rfl, h.1, h.2⟩
theorem ret_tab {μ : Sto} {rows : List (List D)} {x0 x1 x3 x4 x5 : Option Val} (t : Tab μ rows) (hl : rows.length <= 100) (h : ∀ r ∈ rows, RwL r) : ∃ T, LT T /\ sRetF (dVar 2) 0 [x0, x1, some (.h 0), x3, x4, x5] μ = R.ret (.rt (.d T) []) := by
 refine ret_last t.hd (by rw [b0a]; exact hl) fun x hx => ?_
 obtain ⟨i, hi, rfl⟩ := List.mem_map.mp hx
 have hi := List.mem_range.mp hi
 exact ⟨.list rows[i], b0s (t.at_ i _ (List.getElem?_eq_getElem hi)), (h _ (List.getElem_mem hi)).t⟩
theorem Tab.set {μ : Sto} {rows : List (List D)} (t : Tab μ rows) {k : Nat} {r : List D} (hk : rows[k]? = some r) (r' : List D) : Tab (μ.set (k + 1) (.lst (r'.map Val.d))) (rows.set k r') := by
 refine ⟨?_, fun i q h => ?_⟩
 ·rw [List.length_set, List.getElem?_set_ne (by omega)]
  exact t.hd
 ·have hm := t.at_ k r hk
  have hkl : k + 1 < μ.length := by
   rcases Nat.lt_or_ge (k + 1) μ.length with z | z
   ·exact z
   ·rw [List.getElem?_eq_none z] at hm; cases hm
  by_cases e : k = i
  ·subst e
   have hk2 : k < rows.length := by
    rcases Nat.lt_or_ge k rows.length with z | z
    ·exact z
    ·rw [List.getElem?_eq_none z] at hk; cases hk
   rw [List.getElem?_set, if_pos rfl, if_pos hk2] at h
   cases h
   rw [List.getElem?_set, if_pos rfl, if_pos hkl]
  ·rw [List.getElem?_set, if_neg e] at h
   rw [List.getElem?_set, if_neg (by omega)]
   exact t.at_ i q h
theorem set_d (r : List D) (j : Nat) (x : D) : (r.map Val.d).set j (.d x) = (r.set j x).map Val.d := by rw [List.map_set]
theorem rwl_set {r : List D} {j : Nat} {x : D} (h : RwL r) (hx : At x) : RwL (r.set j x) := ⟨by rw [List.length_set]; exact h.1, fun e he => by
 rcases List.mem_or_eq_of_mem_set he with z | z
 ·exact h.2 e z
 ·rw [z]; exact hx⟩
theorem rows_set {rows : List (List D)} {k : Nat} {r : List D} (h : ∀ q ∈ rows, RwL q) (hr : RwL r) : ∀ q ∈ rows.set k r, RwL q := fun q hq => by
 rcases List.mem_or_eq_of_mem_set hq with z | z
 ·exact h q z
 ·rw [z]; exact hr
theorem at_oD (x : Option Int) : At (oD x) := by
 cases x with
 | none => exact .inl rfl
 | some i => exact .inr (.inl ⟨i, rfl⟩)
end K51
open PySem PySem.Spec L2 DL CT TX NumText SL
namespace K51
theorem es_lst {fa : EnvS -> Sto -> R (List Val × Sto)} {δ : EnvS} {μ μ' : Sto} {xs : List Val} (h : fa δ μ = R.ret (xs, μ')) (hz : small xs.length = true) : sLst fa δ μ = R.ret (.h μ'.length, μ' ++ [.lst xs]) := by
 unfold sLst
 rw [h, a6u]
 dsimp only
 rw [if_pos hz]
theorem es_newL' {fn : DS -> M (List D)} {δ : EnvS} {μ : Sto} {ds : List D} (h : fn (viewL 0 μ δ) = M.ret ds) (hf : flatDs ds = true) : sNewL' fn δ μ = R.ret (.h μ.length, μ ++ [.lst (ds.map Val.d)]) := by
 unfold sNewL'
 rw [h]
 show (if flatDs ds = true then _ else _) = _
 rw [if_pos hf]
section
variable {T : List (List (Option Int))} {N : Int} {n : Nat}
abbrev tS (A : D) (N : Int) (k j : Nat) (w : Int) : EnvS := [some (.d A), some (.d (.int N)), some (.h 0), some (.d (.int (k : Int))), some (.d (.int (j : Int))), some (.d (.int w))]
theorem a4s {A : D} {k j : Nat} {w c : Int} {g G : SG} {μ : Sto} {r : R OutS} (hw : w ≠ c) (h : G 0 (tS A N k j w) μ = r) : sSeq (sIf (sTest (dB (d2 oEq (dVar 5) (dC (.int c))))) g sNext) G 0 (tS A N k j w) μ = r :=
 a9n (es_if (b := decide (w = c)) (a9e (ev_b (ev_2 (a0a (d := .int w) rfl) ev_c o_eq))) (by rw [decide_eq_false hw]; rfl)) h
theorem t_do {A : D} {k j : Nat} {w c : Int} {g G : SG} {μ μ' : Sto} {r : R OutS} (hw : w = c) (hg : g 0 (tS A N k j w) μ = R.ret (.nx (tS A N k j w) μ')) (h : G 0 (tS A N k j w) μ' = r) : sSeq (sIf (sTest (dB (d2 oEq (dVar 5) (dC (.int c))))) g sNext) G 0 (tS A N k j w) μ = r :=
 a9n (es_if (b := decide (w = c)) (a9e (ev_b (ev_2 (a0a (d := .int w) rfl) ev_c o_eq))) (by rw [decide_eq_true hw, if_pos rfl]; exact hg)) h
theorem Tab.v {μ : Sto} {rows : List (List D)} (t : Tab μ rows) (A : D) (k j : Nat) (w : Int) : (viewL 0 μ (tS A N k j w))[2]? = some (.vl (.list (rows.map PyData.list))) := by
 show some (v1 0 μ (some (.h 0))) = _
 rw [v1_of t.lv]
theorem a9v {μ : Sto} {rows : List (List D)} (t : Tab μ rows) {A : D} {k j : Nat} {w : Int} {r : List D} (hk : rows[k]? = some r) (hj : j < r.length) {f : EnvS -> Sto -> R (Val × Sto)} {x : D} (hf : f (tS A N k j w) μ = R.ret (.d x, μ)) : sSetX (sIx (sVar 2) (sVar 3)) (sVar 4) f 0 (tS A N k j w) μ = R.ret (.nx (tS A N k j w) (μ.set (k + 1) (.lst ((r.set j x).map Val.d)))) := by
 have hkl : k < rows.length := by
  rcases Nat.lt_or_ge k rows.length with z | z
  ·exact z
  ·rw [List.getElem?_eq_none z] at hk; cases hk
 have hat : L2.atI (hsOf rows.length) (k : Int) = some (.h (k + 1)) := by
  unfold L2.atI
  rw [b0a, b3b hkl]
  exact hsOf_get hkl
 have e := es_setX (n := 0) (v := .d x) (fo := sIx (sVar 2) (sVar 3)) (fi := sVar 4) hf (es_ix (es_var (v := .h 0) rfl) (es_var (v := .d (.int (k : Int))) rfl) t.hd hat) (es_var (v := .d (.int (j : Int))) rfl) (t.at_ k r hk) (by rw [List.length_map]; exact b3b hj)
 rw [set_d] at e
 exact e
end
end K51
open PySem PySem.Spec L2 DL CT TX NumText SL
namespace K51
section
variable {T : List (List (Option Int))} {N : Int} {n : Nat}
def rowsD (T : List (List (Option Int))) : List (List D) := T.map fun r => r.map oD
theorem copy_comp : ∀ (T : List (List (Option Int))), compN (nList (dCons (dVar 0) dNil)) (T.map rD) = M.ret (rowsD T)
 | [] => rfl
 | r :: T => by
  have h1 : nX (nList (dCons (dVar 0) dNil)) [.vl (rD r)] = M.ret (r.map oD) := rfl
  show (nX (nList (dCons (dVar 0) dNil)) [.vl (rD r)]).thn _ = _
  rw [h1, a0s, if_pos (a9a r), copy_comp T]
  rfl
theorem pick4 {a b c d : D} {i : Int} {P : D -> Prop} (h0 : 0 <= i) (h1 : i < 4) (pa : P a) (pb : P b) (pc : P c) (pd : P d) : ∃ x, P x /\ oIx (.list [a, b, c, d]) (.int i) = some x := by
 have : i = 0 \/ i = 1 \/ i = 2 \/ i = 3 := by omega
 rcases this with rfl | rfl | rfl | rfl
 ·exact ⟨a, pa, rfl⟩
 ·exact ⟨b, pb, rfl⟩
 ·exact ⟨c, pc, rfl⟩
 ·exact ⟨d, pd, rfl⟩
theorem num_n {A : D} {k j : Nat} {w : Int} {q m : Int} (hq : bDiv q = true) (hm : 0 < m) {δ : DS} (h : δ[1]? = some (.vl (.int N))) : d2 oMod (d2 oDiv (dVar 1) (dC (.int q))) (dC (.int m)) δ = M.ret (.int (N / q % m)) := ev_2 (ev_2 (a0a h) ev_c (a9t hq)) ev_c (a6w hm)
theorem ev_nCut {f : DS -> M D} {fl fh : DS -> M (Option Int)} {δ : DS} {ds : List D} {l u : Option Int} (h1 : f δ = M.ret (.list ds)) (h2 : fl δ = M.ret l) (h3 : fh δ = M.ret u) : nCut f fl fh δ = M.ret (cutD ds l u) := by
 unfold nCut
 rw [h1, a0s, h2, a0s, h3]
 rfl
theorem t_ret {A : D} {k j : Nat} {w c : Int} {g G : SG} {μ μ' : Sto} {v : Val} (hw : w = c) (hg : g 0 (tS A N k j w) μ = R.ret (.rt v μ')) : sSeq (sIf (sTest (dB (d2 oEq (dVar 5) (dC (.int c))))) g sNext) G 0 (tS A N k j w) μ = R.ret (.rt v μ') :=
 es_seqR (es_if (b := decide (w = c)) (a9e (ev_b (ev_2 (a0a (d := .int w) rfl) ev_c o_eq))) (by rw [decide_eq_true hw, if_pos rfl]; exact hg))
theorem pick5 {a b c d e : D} {i : Int} {P : D -> Prop} (h0 : 0 <= i) (h1 : i < 5) (pa : P a) (pb : P b) (pc : P c) (pd : P d) (pe : P e) : ∃ x, P x /\ oIx (.list [a, b, c, d, e]) (.int i) = some x := by
 have : i = 0 \/ i = 1 \/ i = 2 \/ i = 3 \/ i = 4 := by omega
 rcases this with rfl | rfl | rfl | rfl | rfl
 ·exact ⟨a, pa, rfl⟩
 ·exact ⟨b, pb, rfl⟩
 ·exact ⟨c, pc, rfl⟩
 ·exact ⟨d, pd, rfl⟩
 ·exact ⟨e, pe, rfl⟩
theorem get_app {μ : Sto} {ob o : Ob} {i : Nat} (h : μ[i]? = some o) : (μ ++ [ob])[i]? = some o := by
 rw [List.getElem?_append_left]
 ·exact h
 ·rcases Nat.lt_or_ge i μ.length with z | z
  ·exact z
  ·rw [List.getElem?_eq_none z] at h; cases h
theorem get_end (μ : Sto) (ob : Ob) : (μ ++ [ob])[μ.length]? = some ob := by simp
theorem b1h (h0 : T ≠ []) (hl : T.length <= 90) (hr : ∀ r ∈ T, r.length = n + 1) (hn : n <= 80) (N0 : 0 <= N) : ∃ T', LT T' /\ a2s [.list (T.map rD), .int N] = M.ret T' := by
 obtain ⟨A, hA⟩ : ∃ A, A = PyData.list (T.map rD) := ⟨_, rfl⟩
 have hp := List.length_pos_iff.mpr h0
 have hrl : (rowsD T).length = T.length := by unfold rowsD; rw [List.length_map]
 have hrw : ∀ r ∈ rowsD T, RwL r := fun r h => by
  obtain ⟨q, hq, rfl⟩ := List.mem_map.mp h
  refine ⟨by rw [List.length_map, hr q hq]; omega, fun e he => ?_⟩
  obtain ⟨o, _, rfl⟩ := List.mem_map.mp he
  exact at_oD o
 have t0 := tab_st (rowsD T)
 obtain ⟨k, hk⟩ : ∃ k : Nat, (k : Int) = N / 16 % ((T.length : Nat) : Int) := ⟨(N / 16 % ((T.length : Nat) : Int)).toNat, by
  have := Int.emod_nonneg (N / 16) (b := ((T.length : Nat) : Int)) (by omega)
  omega⟩
 have hkl : k < T.length := by
  have := Int.emod_lt_of_pos (N / 16) (b := ((T.length : Nat) : Int)) (by omega)
  omega
 have hrk := List.getElem?_eq_getElem hkl
 have hrow := hr T[k] (List.getElem_mem hkl)
 generalize T[k] = r at hrk hrow
 obtain ⟨j, hj⟩ : ∃ j : Nat, (j : Int) = N / 128 % ((n + 1 : Nat) : Int) := ⟨(N / 128 % ((n + 1 : Nat) : Int)).toNat, by
  have := Int.emod_nonneg (N / 128) (b := ((n + 1 : Nat) : Int)) (by omega)
  omega⟩
 have hjl : j < r.length := by
  have := Int.emod_lt_of_pos (N / 128) (b := ((n + 1 : Nat) : Int)) (by omega)
  omega
 have hxj := List.getElem?_eq_getElem hjl
 generalize r[j] = x at hxj
 have hRk : (rowsD T)[k]? = some (r.map oD) := by unfold rowsD; rw [List.getElem?_map, hrk]; rfl
 have hRl : RwL (r.map oD) := hrw _ (List.mem_of_getElem? hRk)
 have hjR : j < (r.map oD).length := by rw [List.length_map]; exact hjl
 have ixR : oIx (.list ((rowsD T).map PyData.list)) (.int (k : Int)) = some (.list (r.map oD)) := a9u (by rw [List.getElem?_map, hRk]; rfl)
 have ixX : oIx (.list (r.map oD)) (.int (j : Int)) = some (oD x) := b3a hxj
 have hlenT : oLen [.list ((rowsD T).map PyData.list)] = some (.int ((T.length : Nat) : Int)) := by rw [a4n, List.length_map, hrl]
 have hlenR : oLen [.list (r.map oD)] = some (.int ((n + 1 : Nat) : Int)) := by rw [a4n, List.length_map, hrow]
 obtain ⟨w, hw⟩ : ∃ w, w = N % 16 := ⟨_, rfl⟩
 have head : ∀ {G : SG} {r : R OutS}, G 0 (tS A N k j w) (stoT (rowsD T)) = r -> sSeq (sAsg 2 (sCompN (dAny (dVar 0)) (nList (dCons (dVar 0) dNil)))) (sSeq (sAsg 3 (sLend (d2 oMod (d2 oDiv (dVar 1) (dC (.int 16))) (dCB oLen (dCons (dVar 2) dNil))))) (sSeq (sAsg 4 (sLend (d2 oMod (d2 oDiv (dVar 1) (dC (.int 128))) (dCB oLen (dCons (d2 oIx (dVar 2) (dVar 3)) dNil))))) (sSeq (sAsg 5 (sPure (d2 oMod (dVar 1) (dC (.int 16))))) G))) 0 (startS 6 [.d A, .d (.int N)]) [] = r := fun {G r'} hG => by
  have hadd := b2c (rowsD T) []
  have hadd : addRows 0 (rowsD T) [] ([] ++ [.lst []]) = stoT (rowsD T) := hadd
  refine a9n (es_asg (v := .h 0) (μ' := stoT (rowsD T)) (by
   rw [<- hadd]
   exact es_compN (μ := []) (ds := T.map rD) (a3m (x := A) (a0a (d := A) rfl) (by rw [hA]; rfl)) (a0l (by rw [List.length_map]; omega)) (copy_comp T))) ?_
  have v2 : ∀ (x3 x4 x5 : Option Val), (viewL 0 (stoT (rowsD T)) [some (.d A), some (.d (.int N)), some (.h 0), x3, x4, x5])[2]? = some (.vl (.list ((rowsD T).map PyData.list))) := fun x3 x4 x5 => by
   show some (v1 0 (stoT (rowsD T)) (some (.h 0))) = _
   rw [v1_of t0.lv]
  refine a9n (es_asg (v := .d (.int (k : Int))) (b3g (by rw [hk]; exact ev_2 (ev_2 (a0a (n := 1) (d := .int N) rfl) ev_c (a9t (a4e (by decide) (by decide)))) (a1s (a0d (a0a (v2 _ _ _)) a0f) hlenT) (a6w (by omega))) rfl)) ?_
  refine a9n (es_asg (v := .d (.int (j : Int))) (b3g (by rw [hj]; exact ev_2 (ev_2 (a0a (n := 1) (d := .int N) rfl) ev_c (a9t (a4e (by decide) (by decide)))) (a1s (a0d (ev_2 (a0a (v2 _ _ _)) (a0a (n := 3) (d := .int (k : Int)) rfl) ixR) a0f) hlenR) (a6w (by omega))) rfl)) ?_
  refine a9n (es_asg (v := .d (.int w)) (a9f (by rw [hw]; exact ev_2 (a0a (n := 1) (d := .int N) rfl) ev_c (a6w (by decide))))) ?_
  exact hG
 have fin : ∀ {T'}, runS 6 a0u [.d A, .d (.int N)] [] = R.ret (.d T', []) -> a2s [.list (T.map rD), .int N] = M.ret T' := fun {T'} h => by
  show asD a2j [.list (T.map rD), .int N] = _
  unfold asD a2j
  rw [<- hA]
  show (match runS 6 a0u [.d A, .d (.int N)] [] with | some (.ok (.d x, _)) => M.ret x | _ => none) = _
  rw [h]
  rfl
 have cell : ∀ {y : D}, At y -> ∃ T', LT T' /\ ∀ {G : SG}, (∀ μ, G 0 (tS A N k j w) μ = sRetF (dVar 2) 0 (tS A N k j w) μ) -> G 0 (tS A N k j w) ((stoT (rowsD T)).set (k + 1) (.lst (((r.map oD).set j y).map Val.d))) = R.ret (.rt (.d T') []) := fun {y} hy => by
  obtain ⟨T', h1, h2⟩ := ret_tab (x0 := some (.d A)) (x1 := some (.d (.int N))) (x3 := some (.d (.int (k : Int)))) (x4 := some (.d (.int (j : Int)))) (x5 := some (.d (.int w))) (t0.set hRk ((r.map oD).set j y)) (by rw [List.length_set, hrl]; omega) (rows_set hrw (rwl_set hRl hy))
  exact ⟨T', h1, fun {G} hG => by rw [hG]; exact h2⟩
 have tv := t0.v (N := N) A k j w
 have ltS : ∀ {g G : SG} {μ : Sto} {r' : R OutS}, ¬ w < 5 -> G 0 (tS A N k j w) μ = r' -> sSeq (sIf (sTest (dB (d2 oLt (dVar 5) (dC (.int 5))))) g sNext) G 0 (tS A N k j w) μ = r' := fun {g G μ r'} hw5 hG =>
  a9n (es_if (b := decide (w < 5)) (a9e (ev_b (ev_2 (a0a (d := .int w) rfl) ev_c (by first | exact o_lt | exact o_ltD)))) (by rw [decide_eq_false hw5]; rfl)) hG
 have hcase : (0 <= w /\ w < 5) \/ w = 5 \/ w = 6 \/ w = 7 \/ w = 8 \/ 8 < w := by omega
 rcases hcase with z | z | z | z | z | z
 ·-- a number more or less
  have inner : ∃ y, At y /\ (sIf (sTest (dB (d2 oIs (d2 oIx (d2 oIx (dVar 2) (dVar 3)) (dVar 4)) (dC .none)))) (sSetX (sIx (sVar 2) (sVar 3)) (sVar 4) (sPure (d2 oIx (dLst (dCons (dC (.int 0)) (dCons (d1 oNeg (dC (.int 5))) (dCons (dC (.int 7)) (dCons (d2 oPow (dC (.int 10)) (dC (.int 6))) dNil))))) (d2 oMod (d2 oDiv (dVar 1) (dC (.int 4096))) (dC (.int 4)))))) (sSetX (sIx (sVar 2) (sVar 3)) (sVar 4) (sLend (d2 oAdd (d2 oIx (d2 oIx (dVar 2) (dVar 3)) (dVar 4)) (d2 oIx (dLst (dCons (dC (.int 1)) (dCons (d1 oNeg (dC (.int 1))) (dCons (dC (.int 3)) (dCons (d1 oNeg (d2 oPow (dC (.int 10)) (dC (.int 6)))) dNil))))) (d2 oMod (d2 oDiv (dVar 1) (dC (.int 4096))) (dC (.int 4)))))))) 0 (tS A N k j w) (stoT (rowsD T)) = R.ret (.nx (tS A N k j w) ((stoT (rowsD T)).set (k + 1) (.lst (((r.map oD).set j y).map Val.d)))) := by
   have tst : sTest (dB (d2 oIs (d2 oIx (d2 oIx (dVar 2) (dVar 3)) (dVar 4)) (dC .none))) (tS A N k j w) (stoT (rowsD T)) = R.ret (x.isNone, stoT (rowsD T)) := a9e (ev_b (ev_2 (ev_2 (ev_2 (a0a tv) (a0a (n := 3) (d := .int (k : Int)) rfl) ixR) (a0a (n := 4) (d := .int (j : Int)) rfl) ixX) ev_c (is_oD x)))
   cases x with
   | none =>
    obtain ⟨y, hy, hix⟩ := pick4 (a := .int 0) (b := .int (-5)) (c := .int 7) (d := .int 1000000) (i := N / 4096 % 4) (P := At) (by omega) (by omega) (.inr (.inl ⟨_, rfl⟩)) (.inr (.inl ⟨_, rfl⟩)) (.inr (.inl ⟨_, rfl⟩)) (.inr (.inl ⟨_, rfl⟩))
    refine ⟨y, hy, es_if (b := true) tst (by rw [if_pos rfl]; exact a9v t0 hRk hjR (a9f (ev_2 (a2q (a0d ev_c (a0d (ev_1 ev_c rfl) (a0d ev_c (a0d (ev_2 ev_c ev_c o_pow6) a0f)))) rfl) (num_n (A := A) (k := k) (j := j) (w := w) (a4e (by decide) (by decide)) (by decide) rfl) hix)))⟩
   | some i =>
    obtain ⟨y, ⟨c, rfl⟩, hix⟩ := pick4 (a := .int 1) (b := .int (-1)) (c := .int 3) (d := .int (-1000000)) (i := N / 4096 % 4) (P := fun d => ∃ c, d = .int c) (by omega) (by omega) ⟨_, rfl⟩ ⟨_, rfl⟩ ⟨_, rfl⟩ ⟨_, rfl⟩
    refine ⟨.int (i + c), .inr (.inl ⟨_, rfl⟩), es_if (b := false) tst (by rw [if_neg Bool.false_ne_true]; exact a9v t0 hRk hjR (b3g (ev_2 (x := .int i) (y := .int c) (ev_2 (ev_2 (a0a tv) (a0a (n := 3) (d := .int (k : Int)) rfl) ixR) (a0a (n := 4) (d := .int (j : Int)) rfl) ixX) (ev_2 (a2q (a0d ev_c (a0d (ev_1 ev_c rfl) (a0d ev_c (a0d (ev_1 (ev_2 ev_c ev_c o_pow6) rfl) a0f)))) rfl) (num_n (A := A) (k := k) (j := j) (w := w) (a4e (by decide) (by decide)) (by decide) rfl) hix) a5e) rfl))⟩
  obtain ⟨y, hy, hin⟩ := inner
  obtain ⟨T', h1, h2⟩ := cell hy
  refine ⟨T', h1, fin (b1y ?_)⟩
  unfold a0u
  refine head (a9n (es_if (b := decide (w < 5)) (a9e (ev_b (ev_2 (a0a (d := .int w) rfl) ev_c (by first | exact o_lt | exact o_ltD)))) (by rw [decide_eq_true z.2, if_pos rfl]; exact hin)) ?_)
  refine h2 fun μ => ?_
  exact a4s (by omega) (a4s (by omega) (a4s (by omega) (a4s (by omega) rfl)))
 ·obtain ⟨T', h1, h2⟩ := cell (y := .none) (.inl rfl)
  refine ⟨T', h1, fin (b1y ?_)⟩
  unfold a0u
  refine head (ltS (by omega) (t_do z (a9v t0 hRk hjR (a9f ev_c)) ?_))
  refine h2 fun μ => ?_
  exact a4s (by omega) (a4s (by omega) (a4s (by omega) rfl))
 ·obtain ⟨y, hy, hix⟩ := pick4 (a := .bool true) (b := .bool false) (c := .str "0") (d := .tuple [.int 0]) (i := N / 4096 % 4) (P := At) (by omega) (by omega) (.inr (.inr (.inl ⟨_, rfl⟩))) (.inr (.inr (.inl ⟨_, rfl⟩))) (.inr (.inr (.inr (.inl ⟨_, rfl⟩)))) (.inr (.inr (.inr (.inr ⟨_, rfl⟩))))
  obtain ⟨T', h1, h2⟩ := cell hy
  refine ⟨T', h1, fin (b1y ?_)⟩
  unfold a0u
  refine head (ltS (by omega) (a4s (by omega) (t_do z (a9v t0 hRk hjR (a9f (ev_2 (a2q (a0d ev_c (a0d ev_c (a0d ev_c (a0d (ev_tup (a0d ev_c a0f) rfl) a0f)))) rfl) (num_n (A := A) (k := k) (j := j) (w := w) (a4e (by decide) (by decide)) (by decide) rfl) hix))) ?_)))
  refine h2 fun μ => ?_
  exact a4s (by omega) (a4s (by omega) rfl)
 ·have hX : ∀ d ∈ (rowsD T).map PyData.list, RwT d := fun d hd => by
   obtain ⟨q, hq, rfl⟩ := List.mem_map.mp hd
   exact (hrw q hq).t
  have hXl : ((rowsD T).map PyData.list).length <= 90 := by rw [List.length_map, hrl]; omega
  obtain ⟨T', hT', hix⟩ := pick5 (a := .list ((rowsD T).map PyData.list).dropLast) (b := .list ((rowsD T).map PyData.list ++ [.list (r.map oD)])) (c := .tuple ((rowsD T).map PyData.list)) (d := .none) (e := .list []) (i := N / 4096 % 5) (P := LT) (by omega) (by omega)
   (.inl ⟨_, rfl, by rw [List.length_dropLast]; omega, fun d hd => hX d (List.dropLast_subset _ hd)⟩)
   (.inl ⟨_, rfl, by rw [List.length_append, List.length_singleton]; omega, fun d hd => by
    rcases List.mem_append.mp hd with hd | hd
    ·exact hX d hd
    ·rw [List.mem_singleton.mp hd]; exact hRl.t⟩)
   (.inr (.inl ⟨_, rfl⟩)) (.inr (.inr rfl)) (.inl ⟨[], rfl, by decide, fun d hd => nomatch hd⟩)
  refine ⟨T', hT', fin (b1y ?_)⟩
  unfold a0u
  refine head (ltS (by omega) (a4s (by omega) (a4s (by omega) (t_ret z (es_retF rfl ?_)))))
  exact ev_2 (a2q (a0d (a2w (a0a tv) a1n (a1r (ev_1 ev_c rfl)) (K51.b0d _)) (a0d (ev_2 (a0a tv) (a2q (a0d (a1s (a0d (ev_2 (a0a tv) (a0a (n := 3) (d := .int (k : Int)) rfl) ixR) a0f) rfl) a0f) rfl) (a7f (a0l (by simp only [List.length_singleton]; omega)))) (a0d (a1s (a0d (a0a tv) a0f) rfl) (a0d ev_c (a0d (a2q a0f rfl) a0f))))) rfl) (num_n (A := A) (k := k) (j := j) (w := w) (a4e (by decide) (by decide)) (by decide) rfl) hix
 ·obtain ⟨μ, hμ⟩ : ∃ μ, μ = stoT (rowsD T) := ⟨_, rfl⟩
  rw [<- hμ] at t0 tv head
  have hμl : 1 <= μ.length := by rw [hμ]; unfold stoT; rw [List.length_cons]; omega
  have ecut : cutD (r.map oD) none (some (-1)) = r.dropLast.map oD := by
   have h := K51.b0d (r.map oD)
   have h : some (PyData.list (cutD (r.map oD) none (some (-1)))) = some (.list (r.map oD).dropLast) := h
   injection h with h
   injection h with h
   rw [h, List.map_dropLast]
  have ecat : r.map oD ++ [.int 0] = (r ++ [some 0]).map oD := by rw [List.map_append]; rfl
  obtain ⟨μ1, hμ1⟩ : ∃ μ1, μ1 = μ ++ [Ob.lst ((r.dropLast.map oD).map Val.d)] := ⟨_, rfl⟩
  obtain ⟨μ2, hμ2⟩ : ∃ μ2, μ2 = μ1 ++ [Ob.lst (((r ++ [some 0]).map oD).map Val.d)] := ⟨_, rfl⟩
  have t1 : Tab μ1 (rowsD T) := by rw [hμ1]; exact t0.app _
  have t2 : Tab μ2 (rowsD T) := by rw [hμ2]; exact t1.app _
  have tv1 := t1.v (N := N) A k j w
  have tv2 := t2.v (N := N) A k j w
  have e1 : sNewL' (nCut (d2 oIx (dVar 2) (dVar 3)) dNoPart (dPart (d1 oNeg (dC (.int 1))))) (tS A N k j w) μ = R.ret (.h μ.length, μ1) := by
   rw [hμ1]
   exact es_newL' (by rw [<- ecut]; exact ev_nCut (ev_2 (a0a tv) (a0a (n := 3) (d := .int (k : Int)) rfl) ixR) a1n (a1r (ev_1 ev_c rfl))) (a9a _)
  have e2 : sNewL' (nCat (d2 oIx (dVar 2) (dVar 3)) (dLst (dCons (dC (.int 0)) dNil))) (tS A N k j w) μ1 = R.ret (.h μ1.length, μ2) := by
   rw [hμ2]
   exact es_newL' (by rw [<- ecat]; exact ev_nCat (ev_2 (a0a tv1) (a0a (n := 3) (d := .int (k : Int)) rfl) ixR) (a2q (a0d ev_c a0f) rfl) (a0l (by rw [List.length_map, List.length_singleton, hrow]; omega))) (a9a _)
  have e3 : sLend (dCB oTupOf (dCons (d2 oIx (dVar 2) (dVar 3)) dNil)) (tS A N k j w) μ2 = R.ret (.d (.tuple (r.map oD)), μ2) := b3g (a1s (a0d (ev_2 (a0a tv2) (a0a (n := 3) (d := .int (k : Int)) rfl) ixR) a0f) rfl) (by show flatDs (r.map oD) = true; exact a9a r)
  have e4 : sPure (dC .none) (tS A N k j w) μ2 = R.ret (.d .none, μ2) := a9f ev_c
  have eL := es_lst (b3h e1 (b3h e2 (b3h e3 (b3h e4 es_nil)))) (by rfl)
  obtain ⟨xs, hxs⟩ : ∃ xs : List Val, xs = [.h μ.length, .h μ1.length, .d (.tuple (r.map oD)), .d .none] := ⟨_, rfl⟩
  rw [<- hxs] at eL
  have t3 : Tab (μ2 ++ [.lst xs]) (rowsD T) := t2.app _
  obtain ⟨v, hv, hat⟩ : ∃ v, (v = .h μ.length \/ v = .h μ1.length \/ v = .d (.tuple (r.map oD)) \/ v = .d .none) /\ L2.atI xs (N / 4096 % 4) = some v := by
   rw [hxs]
   have : N / 4096 % 4 = 0 \/ N / 4096 % 4 = 1 \/ N / 4096 % 4 = 2 \/ N / 4096 % 4 = 3 := by omega
   rcases this with q | q | q | q
   ·rw [q]; exact ⟨_, .inl rfl, rfl⟩
   ·rw [q]; exact ⟨_, .inr (.inl rfl), rfl⟩
   ·rw [q]; exact ⟨_, .inr (.inr (.inl rfl)), rfl⟩
   ·rw [q]; exact ⟨_, .inr (.inr (.inr rfl)), rfl⟩
  have eI := es_ix (fi := sPure (d2 oMod (d2 oDiv (dVar 1) (dC (.int 4096))) (dC (.int 4)))) eL (a9f (num_n (A := A) (k := k) (j := j) (w := w) (a4e (by decide) (by decide)) (by decide) rfl)) (get_end μ2 _) hat
  have eS := es_setI (n := 0) (i := 2) (fi := sVar 3) eI (k := 0) rfl (es_var (v := .d (.int (k : Int))) rfl) t3.hd (by rw [b0a]; exact b3b (by rw [hrl]; exact hkl))
  have g1 : (μ2 ++ [Ob.lst xs])[μ.length]? = some (.lst ((r.dropLast.map oD).map Val.d)) := get_app (by rw [hμ2]; exact get_app (by rw [hμ1]; exact get_end _ _))
  have g2 : (μ2 ++ [Ob.lst xs])[μ1.length]? = some (.lst (((r ++ [some 0]).map oD).map Val.d)) := get_app (by rw [hμ2]; exact get_end _ _)
  have hμ1l : 1 <= μ1.length := by rw [hμ1, List.length_append]; omega
  have gset : ∀ {i : Nat} {o : Ob}, 1 <= i -> (μ2 ++ [Ob.lst xs])[i]? = some o -> ((μ2 ++ [Ob.lst xs]).set 0 (.lst ((hsOf (rowsD T).length).set k v)))[i]? = some o := fun {i o} hi h => by rw [List.getElem?_set_ne (by omega)]; exact h
  have rwl : ∀ {q : List (Option Int)}, q.length <= 100 -> RwT (.list (q.map oD)) := fun {q} hq => .inl ⟨_, rfl, by rw [List.length_map]; exact hq, fun e he => by
   obtain ⟨o, _, rfl⟩ := List.mem_map.mp he
   exact at_oD o⟩
  obtain ⟨T', h1, h2⟩ := ret_last (μ := (μ2 ++ [Ob.lst xs]).set 0 (.lst ((hsOf (rowsD T).length).set k v))) (hs := (hsOf (rowsD T).length).set k v) (x0 := some (.d A)) (x1 := some (.d (.int N))) (x3 := some (.d (.int (k : Int)))) (x4 := some (.d (.int (j : Int)))) (x5 := some (.d (.int w))) (by
    rw [List.getElem?_set, if_pos rfl, if_pos (by rw [List.length_append, List.length_singleton]; omega)]) (by rw [List.length_set, b0a, hrl]; omega) (fun x hx => by
    rcases List.mem_or_eq_of_mem_set hx with hx | rfl
    ·obtain ⟨i, hi, rfl⟩ := List.mem_map.mp hx
     have hi := List.mem_range.mp hi
     exact ⟨_, b0s (gset (by omega) (t3.at_ i _ (List.getElem?_eq_getElem hi))), (hrw _ (List.getElem_mem hi)).t⟩
    ·rcases hv with rfl | rfl | rfl | rfl
     ·exact ⟨_, b0s (gset hμl g1), rwl (by rw [List.length_dropLast]; omega)⟩
     ·exact ⟨_, b0s (gset hμ1l g2), rwl (by rw [List.length_append, List.length_singleton]; omega)⟩
     ·exact ⟨_, rfl, .inr (.inl ⟨_, rfl⟩)⟩
     ·exact ⟨_, rfl, .inr (.inr rfl)⟩)
  refine ⟨T', h1, fin (b1y ?_)⟩
  unfold a0u
  exact head (ltS (by omega) (a4s (by omega) (a4s (by omega) (a4s (by omega) (t_do z eS h2)))))
 ·obtain ⟨T', h1, h2⟩ := ret_tab (x0 := some (.d A)) (x1 := some (.d (.int N))) (x3 := some (.d (.int (k : Int)))) (x4 := some (.d (.int (j : Int)))) (x5 := some (.d (.int w))) t0 (by rw [hrl]; omega) hrw
  refine ⟨T', h1, fin (b1y ?_)⟩
  unfold a0u
  exact head (ltS (by omega) (a4s (by omega) (a4s (by omega) (a4s (by omega) (a4s (by omega) h2)))))
end
end K51
open PySem PySem.Spec L2 DL CT TX NumText
namespace K51
structure W11 (w : List Nat) : Prop where
 ne : w ≠ []
 free : ∀ c ∈ w, 33 <= c /\ c < 128
 len : w.length <= 11
theorem W11.wd {w : List Nat} (h : W11 w) : Wd w := ⟨h.ne, h.free, by have := h.len; omega⟩
theorem W11.rl {w : List Nat} (h : W11 w) : Rl w := ⟨by have := h.len; omega, fun c hc => (h.free c hc).2⟩
theorem tot11 : ∀ {ws : List (List Nat)}, (∀ w ∈ ws, W11 w) -> tot ws <= 12 * ws.length
 | [], _ => Nat.zero_le _
 | w :: ws, h => by
  have := tot11 (ws := ws) fun v hv => h v (List.mem_cons_of_mem _ hv)
  have := (h w List.mem_cons_self).len
  rw [tot, List.length_cons]
  omega
theorem b2x (c b : Int) (b0 : 0 <= b) (b1 : b < 100000000) : ∃ m, (0 <= m /\ m < 2147483647) /\ a2t [.int c, .int b] = M.ret (.int m) := by
 refine ⟨c % 2147483647 * b % 2147483647, by omega, a0y ?_⟩
 unfold a6l
 walk_at "ev"
theorem cut_sub {l : List Nat} (hl : l.length <= 1000) (lo hi : Option Int) : ∃ t, oCutS lo hi (.str (S l)) = some (.str (S t)) /\ (∀ c ∈ t, c ∈ l) /\ t.length <= l.length := by
 refine ⟨_, o_cut hl lo hi, fun x hx => List.mem_of_mem_drop (List.mem_of_mem_take hx), ?_⟩
 rw [List.length_take, List.length_drop]
 omega
theorem sign_of {l : List Nat} {i : Int} (hl : l.length <= 1000) (h0 : 0 <= i) (h1 : i < l.length) : ∃ c, c ∈ l /\ oIx (.str (S l)) (.int i) = some (.str (S [c])) := by
 have hi : i.toNat < l.length := by omega
 exact ⟨l[i.toNat], List.getElem_mem hi, ix_sign hl h0 (List.getElem?_eq_getElem hi)⟩
def l1 : List Nat := [97, 66, 46, 99, 45, 68, 44, 101, 33]
def l2 : List Nat := [115, 111, 45, 97, 110, 100, 45, 115, 111]
def l3 : List Nat := [46, 33, 63, 44, 59, 58]
noncomputable abbrev ptB : DS -> M Out := (gSeq (gAsg (dCall (fun ds => noX (a2t ds)) (dCons (dVar 2) (dCons (dC (.int 48271)) dNil))) (tgN 3))
  (gSeq (gAsg (d2 oAdd (d2 oIx (dC (.str "aB.c-D,e!")) (d2 oMod (d2 oDiv (dVar 3) (dC (.int 9))) (dC (.int 9)))) (dCutS (dC (.str "so-and-so")) dNoPart (dPart (d2 oMod (dVar 3) (dC (.int 9)))))) (tgN 4))
  (gSeq (gIf (dB (d2 oEq (d2 oMod (d2 oDiv (dVar 3) (dC (.int 7))) (dC (.int 3))) (dC (.int 0)))) (gAsg (d2 oAdd (dCutS (dVar 4) dNoPart (dPart (d1 oNeg (dC (.int 1))))) (d2 oIx (dC (.str ".!?,;:")) (d2 oMod (d2 oDiv (dVar 3) (dC (.int 21))) (dC (.int 6))))) (tgN 4)) gNext)
  (gApp 1 (dVar 4)))))
theorem b1t (C : D) : ∀ (is : List Int) (ws : List (List Nat)) (x2 x3 x4 : Sl), ws.length + is.length <= 100 -> ∃ (vs : List (List Nat)) (y2 y3 y4 : Sl), vs.length = is.length /\ (∀ w ∈ vs, W11 w) /\ forD (bodyD (tgN 2) ptB) (is.map PyData.int) [.vl C, .ow (ws.map tx), x2, x3, x4] = M.ret (.nx [.vl C, .ow ((ws ++ vs).map tx), y2, y3, y4])
 | [], ws, x2, x3, x4, _ => ⟨[], x2, x3, x4, rfl, (fun w h => nomatch h), by rw [List.append_nil]; rfl⟩
 | i :: is, ws, x2, x3, x4, hl => by
  rw [List.length_cons] at hl
  obtain ⟨m, ⟨m0, _⟩, hm⟩ := b2x i 48271 (by decide) (by decide)
  obtain ⟨c1, h1, e1⟩ := sign_of (l := l1) (i := m / 9 % 9) (by decide) (by omega) (by show m / 9 % 9 < 9; omega)
  obtain ⟨t, e2, h2, h3⟩ := cut_sub (l := l2) (by decide) none (some (m % 9))
  obtain ⟨c3, h4, e3⟩ := sign_of (l := l3) (i := m / 21 % 6) (by decide) (by omega) (by show m / 21 % 6 < 6; omega)
  have e1 : oIx (.str "aB.c-D,e!") (.int (m / 9 % 9)) = some (tx [c1]) := e1
  have e2 : oCutS none (some (m % 9)) (.str "so-and-so") = some (tx t) := e2
  have e3 : oIx (.str ".!?,;:") (.int (m / 21 % 6)) = some (tx [c3]) := e3
  have h3 : t.length <= 9 := h3
  have f1 : ∀ c ∈ l1, 33 <= c /\ c < 128 := by decide
  have f2 : ∀ c ∈ l2, 33 <= c /\ c < 128 := by decide
  have f3 : ∀ c ∈ l3, 33 <= c /\ c < 128 := by decide
  have fa : ∀ c ∈ [c1] ++ t, 33 <= c /\ c < 128 := fun c hc => by
   rcases List.mem_append.mp hc with hc | hc
   ·rw [List.mem_singleton.mp hc]; exact f1 _ h1
   ·exact f2 c (h2 c hc)
  have la : ([c1] ++ t).length <= 10 := by rw [List.length_append, List.length_singleton]; omega
  obtain ⟨u, e4, h5, h6⟩ := cut_sub (l := [c1] ++ t) (by omega) none (some (-1))
  have e4 : oCutS none (some (-1)) (tx ([c1] ++ t)) = some (tx u) := e4
  obtain ⟨wd, hwd, hif⟩ : ∃ wd, W11 wd /\ gIf (dB (d2 oEq (d2 oMod (d2 oDiv (dVar 3) (dC (.int 7))) (dC (.int 3))) (dC (.int 0)))) (gAsg (d2 oAdd (dCutS (dVar 4) dNoPart (dPart (d1 oNeg (dC (.int 1))))) (d2 oIx (dC (.str ".!?,;:")) (d2 oMod (d2 oDiv (dVar 3) (dC (.int 21))) (dC (.int 6))))) (tgN 4)) gNext [.vl C, .ow (ws.map tx), .vl (.int i), .vl (.int m), .vl (tx ([c1] ++ t))] = M.ret (.nx [.vl C, .ow (ws.map tx), .vl (.int i), .vl (.int m), .vl (tx wd)]) := by
   by_cases z : m / 7 % 3 = 0
   ·refine ⟨u ++ [c3], ⟨by simp, fun c hc => ?_, by rw [List.length_append, List.length_singleton]; omega⟩, a4z (b := decide (m / 7 % 3 = 0)) (ev_b (ev_2 (ev_2 (ev_2 (a0a rfl) ev_c (a9t (a4e (by decide) (by decide)))) ev_c (a6w (by decide))) ev_c o_eq)) ?_⟩
    ·rcases List.mem_append.mp hc with hc | hc
     ·exact fa c (h5 c hc)
     ·rw [List.mem_singleton.mp hc]; exact f3 _ h4
    ·rw [decide_eq_true z, if_pos rfl]
     exact a1a (ev_2 (a2w (a0a rfl) a1n (a1r (ev_1 ev_c rfl)) e4) (ev_2 ev_c (ev_2 (ev_2 (a0a rfl) ev_c (a9t (a4e (by decide) (by decide)))) ev_c (a6w (by decide))) e3) (a9j (by rw [List.length_singleton]; omega)))
   ·refine ⟨[c1] ++ t, ⟨by simp, fa, by omega⟩, a4z (b := decide (m / 7 % 3 = 0)) (ev_b (ev_2 (ev_2 (ev_2 (a0a rfl) ev_c (a9t (a4e (by decide) (by decide)))) ev_c (a6w (by decide))) ev_c o_eq)) ?_⟩
    rw [decide_eq_false z, if_neg Bool.false_ne_true]
    rfl
  obtain ⟨vs, y2, y3, y4, v1, v2, hI⟩ := b1t C is (ws ++ [wd]) (.vl (.int i)) (.vl (.int m)) (.vl (tx wd)) (by rw [List.length_append, List.length_singleton]; omega)
  refine ⟨wd :: vs, y2, y3, y4, by rw [List.length_cons, List.length_cons, v1], fun w hw => ?_, ?_⟩
  ·rcases List.mem_cons.mp hw with rfl | hw
   ·exact hwd
   ·exact v2 w hw
  ·rw [List.append_assoc, List.map_append] at hI
   rw [List.map_cons]
   refine a4x (a3x (δ' := [.vl C, .ow (ws.map tx), .vl (.int i), x3, x4]) rfl ?_) hI
   refine a0o (a1a (d := .int m) (a0q (a0d (a0a rfl) (a0d ev_c a0f)) hm)) ?_
   refine a0o (a1a (d := tx ([c1] ++ t)) (ev_2 (ev_2 ev_c (ev_2 (ev_2 (a0a rfl) ev_c (a9t (a4e (by decide) (by decide)))) ev_c (a6w (by decide))) e1) (a2w ev_c a1n (a1r (ev_2 (a0a rfl) ev_c (a6w (by decide)))) e2) (a9j (by rw [List.length_singleton]; omega)))) ?_
   exact a0o hif (ev_app (ds := ws.map tx) (d := tx wd) rfl (a0a rfl) (a0l (by rw [List.length_map]; omega)))
theorem parts_ev (is : List Int) (hl : is.length <= 64) : ∃ ws : List (List Nat), ws.length = is.length /\ (∀ w ∈ ws, W11 w) /\ a5q [.list (is.map PyData.int)] = M.ret (.list (ws.map tx)) := by
 obtain ⟨C, hC⟩ : ∃ C, C = PyData.list (is.map PyData.int) := ⟨_, rfl⟩
 obtain ⟨vs, y2, y3, y4, v1, v2, hL⟩ := b1t C is [] .un .un .un (by show 0 + _ <= _; omega)
 refine ⟨vs, v1, v2, a0y ?_⟩
 unfold a6k
 rw [<- hC]
 refine a0o (b0y (ds := []) (a9d a0f rfl)) ?_
 exact a0o (a3q (ds := is.map PyData.int) (a3m (x := C) (a0a rfl) (by rw [hC]; rfl)) hL) rfl
theorem cut_n (ns : List Int) (a b : Nat) (hab : a <= b) : ∃ js : List Int, oCutS (some (a : Int)) (some (b : Int)) (.list (ns.map PyData.int)) = some (.list (js.map PyData.int)) /\ js.length <= b - a := by
 have e : oCutS (some (a : Int)) (some (b : Int)) (.list (ns.map PyData.int)) = some (.list (cutD (ns.map PyData.int) (some (a : Int)) (some (b : Int)))) := rfl
 rw [e]
 unfold cutD
 refine ⟨(ns.drop _).take _, by rw [<- List.map_drop, <- List.map_take], ?_⟩
 rw [List.length_take]
 have e1 := HT.a8t (ns.map PyData.int).length 0 a
 have e2 := HT.a8t (ns.map PyData.int).length (ns.map PyData.int).length b
 omega
theorem told_x {a b c : D} (hx : a6o [a, b, c] = some (.error ⟨"NoParting", []⟩)) : a4l [a, b, c] = M.ret .none := by
 refine a0y ?_
 unfold a6b
 refine a0o (a1a (d := .none) ev_c) ?_
 refine a0o (ev_tryN_x (y := ⟨"NoParting", []⟩) (o := .nx [.un, .un, .un, .vl .none]) ?_ rfl (a1a ev_c)) ?_
 ·have : ∀ {f : DS -> M D} {t : D -> DS -> Option DS} {δ : DS} {y : XD}, f δ = some (.error y) -> gAsg f t δ = some (.error y) := fun h => by unfold gAsg; rw [h]; rfl
  exact this (er_callX (a0d (a0a rfl) (a0d (a0a rfl) (a0d (a0a rfl) a0f))) hx)
 ·exact a0p (a0a rfl)
theorem told_ok {a b c r : D} (hx : a6o [a, b, c] = M.ret r) : a4l [a, b, c] = M.ret r := by
 refine a0y ?_
 unfold a6b
 refine a0o (a1a (d := .none) ev_c) ?_
 refine a0o (ev_tryN_ok (a1a (ev_callX (a0d (a0a rfl) (a0d (a0a rfl) (a0d (a0a rfl) a0f))) hx))) ?_
 exact a0p (a0a rfl)
theorem ne_selfD {d : D} (hc : d.canLay0 = true) (hd : d.depth <= 60) : oNe d d = some (.bool false) := by
 unfold oNe flat
 rw [hc, decide_eq_true (by omega : min d.depth d.depth <= 60), SeqAt.eqv_refl _ hc]
 rfl
theorem lay_T (T : List (List (Option Int))) : PyData.canLayAll0 (T.map rD) = true /\ PyData.depthAll (T.map rD) <= 10 := by
 have row : ∀ r : List (Option Int), (rD r).canLay0 = true /\ (rD r).depth <= 8 := fun r => by
  obtain ⟨h1, h2⟩ := a8n (ds := r.map oD) fun d hd => by
   obtain ⟨o, _, rfl⟩ := List.mem_map.mp hd
   cases o <;> exact ⟨rfl, by show 0 <= 5; decide⟩
  refine ⟨by unfold rD PyData.canLay0; exact h1, ?_⟩
  unfold rD PyData.depth
  omega
 induction T with
 | nil => exact ⟨rfl, by simp [PyData.depthAll]⟩
 | cons r T ih =>
  obtain ⟨a1, a2⟩ := row r
  rw [List.map_cons]
  refine ⟨by simp only [PyData.canLayAll0, a1, ih.1, Bool.and_self], ?_⟩
  have := ih.2
  simp only [PyData.depthAll]
  omega
theorem hand_ne {rs : List (List Nat)} (T : List (List (Option Int))) (hr : ∀ r ∈ rs, Rl r) : oNe (.list [.list (rs.map tx), .list (T.map rD)]) (.list [.list (rs.map tx), .list (T.map rD)]) = some (.bool false) := by
 obtain ⟨a1, a2⟩ := a8n (ds := rs.map tx) fun d hd => by
  obtain ⟨r, h, rfl⟩ := List.mem_map.mp hd
  exact lay_tx (hr r h).2
 obtain ⟨b1, b2⟩ := lay_T T
 refine ne_selfD ?_ ?_
 ·simp only [PyData.canLay0, PyData.canLayAll0, a1, b1, Bool.and_self]
 ·simp only [PyData.depth, PyData.depthAll]
  omega
theorem copy_T : ∀ (T : List (List (Option Int))) (x : Sl), compD (tgN 0) (nX dYes) (nX (dCB oListOf (dCons (dVar 0) dNil))) (T.map rD) [x] = M.ret (T.map rD)
 | [], _ => rfl
 | r :: T, _ => a5m (δ' := [.vl (rD r)]) rfl (a1s (a0d (a0a rfl) a0f) rfl) (copy_T T _)
end K51
open PySem PySem.Spec L2 DL CT TX NumText
namespace K51
theorem ne_bool (b : Bool) : oNe (.bool b) (.bool b) = some (.bool false) := by cases b <;> rfl
section
variable {ws rs : List (List Nat)} {W : Int} {m : Nat} {ps : List Pc} {T : List (List (Option Int))} {due : Bool}
abbrev kS (NS : D) (ws rs : List (List Nat)) (W : Int) (m : Nat) (T : List (List (Option Int))) (due : Bool) (x9 x10 x11 x12 x13 x14 x15 : Sl) : DS := [.vl NS, .vl (.list (ws.map tx)), .vl (tx (jn 32 ws)), .vl (.int W), .vl (.int (m : Int)), .vl (.list (rs.map tx)), .vl (.list (T.map rD)), .vl (.bool due), .vl (.list [.list (rs.map tx), .list (T.map rD)]), x9, x10, x11, x12, x13, x14, x15]
theorem turn_loop (NS : D) (h0 : ws ≠ []) (hw : ∀ w ∈ ws, W11 w) (hn : ws.length <= 8) (hW : 0 <= W /\ W <= 1000) (hm : m <= 5) (hps : Pcs ws W ps) (hp : a1v [tx (jn 32 ws), .int W] = M.ret (.list (ps.map pcD))) (r0 : rs ≠ []) (hr : ∀ r ∈ rs, Rl r) (tr : tot rs <= 900) (rl : rs.length <= 40) (t0 : T ≠ []) (tl : T.length <= 90) (trr : ∀ r ∈ T, r.length = ws.length + 1)
  (hlet : a2f [tx (jn 32 ws), .int W, .int (m : Int), .list (rs.map tx), .list (T.map rD)] = M.ret (.bool due)) :
  ∀ (is : List Int) (p : Nat) (x9 x10 x11 x12 x13 x14 x15 : Sl), ∃ y9 y10 y11 y12 y13 y14 y15, forD (bodyD (tgTup 2 (tgCons (tgN 9) (tgCons (tgN 10) tgNil))) b3q) (enumD p (is.map PyData.int)) (kS NS ws rs W m T due x9 x10 x11 x12 x13 x14 x15) = M.ret (.nx (kS NS ws rs W m T due y9 y10 y11 y12 y13 y14 y15))
 | [], p, x9, x10, x11, x12, x13, x14, x15 => ⟨_, _, _, _, _, _, _, rfl⟩
 | i :: is, p, x9, x10, x11, x12, x13, x14, x15 => by
  have hwt := tot11 hw
  have hwd : ∀ w ∈ ws, Wd w := fun w h => (hw w h).wd
  have hwr : ∀ w ∈ ws, Rl w := fun w h => (hw w h).rl
  obtain ⟨N1, ⟨n1, _⟩, e1⟩ := b2x (i + (p : Int)) 39373 (by decide) (by decide)
  obtain ⟨N2, ⟨n2, _⟩, e2⟩ := b2x (i + (p : Int)) 16807 (by decide) (by decide)
  obtain ⟨R1, hR1, e3⟩ := b2u (N := N1) h0 hwr (by omega) (by omega) r0 hr tr rl n1
  obtain ⟨T1, hT1, e4⟩ := b1h (N := N2) t0 tl trr (by omega) n2
  have hrows : LR (.list (rs.map tx)) := .inl ⟨_, rfl, by rw [List.length_map]; omega, el_tx hr⟩
  obtain ⟨R, hR, hif⟩ : ∃ R, LR R /\ gIf (dB (d2 oEq (d2 oMod (dVar 11) (dC (.int 5))) (dC (.int 0)))) (gAsg (dCB oListOf (dCons (dVar 5) dNil)) (tgN 12)) gNext (kS NS ws rs W m T due (.vl (.int (p : Int))) (.vl (.int i)) (.vl (.int N1)) (.vl R1) (.vl T1) x14 x15) = M.ret (.nx (kS NS ws rs W m T due (.vl (.int (p : Int))) (.vl (.int i)) (.vl (.int N1)) (.vl R) (.vl T1) x14 x15)) := by
   by_cases z : N1 % 5 = 0
   ·refine ⟨.list (rs.map tx), hrows, a4z (b := decide (N1 % 5 = 0)) (ev_b (ev_2 (ev_2 (a0a rfl) ev_c (a6w (by decide))) ev_c o_eq)) ?_⟩
    rw [decide_eq_true z, if_pos rfl]
    exact a1a (a1s (a0d (a0a rfl) a0f) rfl)
   ·refine ⟨R1, hR1, a4z (b := decide (N1 % 5 = 0)) (ev_b (ev_2 (ev_2 (a0a rfl) ev_c (a6w (by decide))) ev_c o_eq)) ?_⟩
    rw [decide_eq_false z, if_neg Bool.false_ne_true]
    rfl
  obtain ⟨b, l1, l2, _, _⟩ := b0u h0 hwd (by omega) (by omega) hW (show m <= 90 by omega) hps hp hR hT1
  obtain ⟨y9, y10, y11, y12, y13, y14, y15, hI⟩ := turn_loop NS h0 hw hn hW hm hps hp r0 hr tr rl t0 tl trr hlet is (p + 1) (.vl (.int (p : Int))) (.vl (.int i)) (.vl (.int N1)) (.vl R) (.vl T1) (.vl (.bool b)) (.vl (.bool b))
  refine ⟨y9, y10, y11, y12, y13, y14, y15, ?_⟩
  rw [List.map_cons]
  show forD _ (.tuple [.int (p : Int), .int i] :: enumD (p + 1) (is.map PyData.int)) _ = _
  refine a4x (a3x (δ' := kS NS ws rs W m T due (.vl (.int (p : Int))) (.vl (.int i)) x11 x12 x13 x14 x15) rfl ?_) hI
  unfold b3q
  refine a0o (a1a (d := .int N1) (a0q (a0d (ev_2 (a0a rfl) (a0a rfl) a5e) (a0d ev_c a0f)) e1)) ?_
  refine a0o (a1a (d := R1) (a0q (a0d (a0a rfl) (a0d (a0a rfl) (a0d (a0a rfl) a0f))) e3)) ?_
  refine a0o (a1a (d := T1) (a0q (a0d (a0a rfl) (a0d (a0q (a0d (ev_2 (a0a rfl) (a0a rfl) a5e) (a0d ev_c a0f)) e2) a0f)) e4)) ?_
  refine a0o hif ?_
  refine a0o (a1a (d := .bool b) (a0q (a0d (a0a rfl) (a0d (a0a rfl) (a0d (a0a rfl) (a0d (a0a rfl) (a0d (a0a rfl) a0f))))) l1)) ?_
  refine a0o (a1a (d := .bool b) (a0q (a0d (a0a rfl) (a0d (a0a rfl) (a0d (a0a rfl) (a0d (a0a rfl) (a0d (a0a rfl) a0f))))) l2)) ?_
  refine a2n (b := false) (a6c (a2e (b := true) (ev_b (a5t (d := .bool b) (a0a rfl)))) (ev_b (ev_2 (a0a rfl) (a0a rfl) (ne_bool b)))) rfl ?_
  exact a7t (b := false) (a6c (ev_b (ev_2 (a0q (a0d (a0a rfl) (a0d (a0a rfl) (a0d (a0a rfl) (a0d (ev_2 (a0a rfl) ev_c rfl) (a0d (ev_2 (a0a rfl) ev_c rfl) a0f))))) hlet) (a0a rfl) (ne_bool due))) (ev_b (ev_2 (a0a rfl) (a2q (a0d (a0a rfl) (a0d (a0a rfl) a0f)) rfl) (hand_ne T hr)))) rfl
end
theorem law_true (ns : List Int) (hl : ns.length <= 63) : F_law [.list (ns.map PyData.int)] = M.ret (.bool true) := by
 obtain ⟨c0, hc0⟩ := a7v ns 0 (by decide)
 obtain ⟨c1, hc1⟩ := a7v ns 1 (by decide)
 obtain ⟨c2, hc2⟩ := a7v ns 2 (by decide)
 obtain ⟨c3, hc3⟩ := a7v ns 3 (by decide)
 obtain ⟨ks, hks, hkl⟩ := cut_n ns 4 11 (by decide)
 obtain ⟨qs, hqs, hql⟩ := cut_n ns 11 15 (by decide)
 obtain ⟨ws, hwl, hw, hws⟩ := parts_ev (c3 :: ks) (by rw [List.length_cons]; omega)
 rw [List.length_cons] at hwl
 have hadd : oAdd (.list [.int c3]) (.list (ks.map PyData.int)) = some (.list ((c3 :: ks).map PyData.int)) := a7f (a0l (by rw [List.length_map]; show 1 + _ <= _; omega))
 have hadd2 : oAdd (.list [.int c2]) (.list (qs.map PyData.int)) = some (.list ((c2 :: qs).map PyData.int)) := a7f (a0l (by rw [List.length_map]; show 1 + _ <= _; omega))
 have hn : ws.length <= 8 := by omega
 have h0 : ws ≠ [] := by rintro rfl; simp at hwl
 have hwt := tot11 hw
 have hz : tot ws <= 100 := by omega
 have hwd : ∀ w ∈ ws, Wd w := fun w q => (hw w q).wd
 have lne : (ws.map fun w => ((w.length : Nat) : Int)) ≠ [] := by simpa using h0
 have hmax := o_maxL lne
 have M1 : 0 <= maxL (ws.map fun w => ((w.length : Nat) : Int)) /\ maxL (ws.map fun w => ((w.length : Nat) : Int)) <= 11 := by
  obtain ⟨w, q1, q2⟩ := List.mem_map.mp (maxL_mem lne)
  have := (hw w q1).len
  omega
 generalize maxL (ws.map fun w => ((w.length : Nat) : Int)) = Mx at *
 have hjn := b0q (c := 32) (ts := ws) (by omega)
 have hjl := b1v 32 h0
 obtain ⟨W, hWe⟩ : ∃ W, W = Mx + c0 % 21 := ⟨_, rfl⟩
 have hW : 0 <= W /\ W <= 1000 := by omega
 obtain ⟨m, hme⟩ : ∃ m : Nat, (m : Int) = 1 + c1 % 5 := ⟨(1 + c1 % 5).toNat, by omega⟩
 have hm : m <= 5 /\ 1 <= m := by omega
 obtain ⟨ps, hps, hpl, hp⟩ := pieces_ev h0 hwd (by omega) (by omega) hW
 obtain ⟨T, hT, ht⟩ := table_ev h0 hwd (by omega) (by omega) hps hp m (by omega)
 have hpar := parted_ev h0 hwd (by omega) hps hpl hp (by omega) hT ht
 have hTl := hT.len
 have hTr := hT.all_ne
 have hT0 : T ≠ [] := by intro z; rw [z] at hTl; simp at hTl
 have hLT : LT (.list (T.map rD)) := .inl ⟨_, rfl, by rw [List.length_map]; omega, fun d hd => by
  obtain ⟨r, hr, rfl⟩ := List.mem_map.mp hd
  refine .inl ⟨r.map oD, rfl, by rw [List.length_map, hTr r hr]; omega, fun e he => ?_⟩
  obtain ⟨o, _, rfl⟩ := List.mem_map.mp he
  exact at_oD o⟩
 have hRC : RC ws W m T := by
  intro i j hf k a b hk ha hb x hx
  obtain ⟨a', b', h1, h2, h3⟩ := hT.next k hk
  rw [ha] at h1
  rw [hb] at h2
  cases h1
  cases h2
  exact h3.cpl i j (pc ws W i j) x ((hps i j _).mpr ⟨hf, rfl⟩) hx
 obtain ⟨rs, due, r0, hr, tr, rl, hfirst, hL, hP⟩ : ∃ (rs : List (List Nat)) (due : Bool), rs ≠ [] /\ (∀ r ∈ rs, Rl r) /\ tot rs <= 900 /\ rs.length <= 40 /\
   (∃ X, a4l [tx (jn 32 ws), .int W, .int (m : Int)] = M.ret X /\ oIsNot X .none = some (.bool due) /\ oIs X .none = some (.bool (!due)) /\ (due = true -> X = .list (rs.map tx)) /\ (due = false -> rs = [jn 32 ws])) /\
   a4m [.list (ws.map tx), .int W, .int (m : Int), .list (rs.map tx), .list (T.map rD)] = M.ret (.bool due) /\ a2f [tx (jn 32 ws), .int W, .int (m : Int), .list (rs.map tx), .list (T.map rD)] = M.ret (.bool due) := by
  by_cases hLs : lasts T = []
  ·have hj1 : Rl (jn 32 ws) := ⟨by omega, fun c hc => b0v (c := 32) (P := fun x => x < 128) (by decide) (fun w hw' c hc => ((hw w hw').free c hc).2) c hc⟩
   have hR : LR (.list ([jn 32 ws].map tx)) := .inl ⟨_, rfl, (by show 1 <= 100; decide), el_tx fun r h => by rw [List.mem_singleton.mp h]; exact hj1⟩
   obtain ⟨b, l1, l2, l3, _⟩ := b0u h0 hwd (by omega) (by omega) hW (show m <= 90 by omega) hps hp hR hLT
   have hb : b = false := by
    cases b with
    | false => rfl
    | true =>
     obtain ⟨Tt, e, hh⟩ := l3 rfl
     exfalso
     have eT : T = Tt := by
      have i1 : ∀ (a b : List (Option Int)), a.map oD = b.map oD -> a = b := by
       intro a
       induction a with
       | nil => intro b q; cases b with
        | nil => rfl
        | cons y b => cases q
       | cons x a ih => intro b q; cases b with
        | nil => cases q
        | cons y b =>
         rw [List.map_cons, List.map_cons] at q
         injection q with q1 q2
         have : x = y := by
          cases x <;> cases y
          ·rfl
          ·cases q1
          ·cases q1
          ·injection q1 with q1; rw [q1]
         rw [this, ih b q2]
      have i2 : ∀ (a b : List (List (Option Int))), a.map rD = b.map rD -> a = b := by
       intro a
       induction a with
       | nil => intro b q; cases b with
        | nil => rfl
        | cons y b => cases q
       | cons x a ih => intro b q; cases b with
        | nil => cases q
        | cons y b =>
         rw [List.map_cons, List.map_cons] at q
         injection q with q1 q2
         have : x.map oD = y.map oD := by unfold rD at q1; injection q1
         rw [i1 x y this, ih b q2]
      exact i2 T Tt (by injection e)
     rw [<- eT] at hh
     exact hh hLs
   subst hb
   refine ⟨[jn 32 ws], false, by simp, (fun r h => by rw [List.mem_singleton.mp h]; exact hj1), by simp only [tot]; omega, (by show 1 <= 40; decide), ⟨.none, told_x (hpar.1 hLs), rfl, rfl, (fun z => nomatch z), fun _ => rfl⟩, l2, l1⟩
  ·obtain ⟨k, rs, hk, hPa, hpt⟩ := hpar.2 hLs
   have hrl := hPa.len
   have hr0 : rs ≠ [] := by
    rcases hPa.zero_iff with ⟨_, q, _⟩ | ⟨q, _⟩
    ·exact absurd (List.length_eq_zero_iff.mp q) h0
    ·exact q
   have hj := hPa.join hr0
   rw [row_all] at hj
   have hrs : ∀ r ∈ rs, Rl r /\ ((r.length : Nat) : Int) <= W := fun r hr => by
    obtain ⟨b, e, hf, rfl⟩ := hPa.mem r hr
    have := a8u hf.1 hf.2.1
    exact ⟨⟨by omega, fun c hc => (row_free hwd b e c hc).2⟩, hf.2.2⟩
   have htr : tot rs <= 900 := by
    have := b1v 32 hr0
    rw [hj] at this
    omega
   have hR : LR (.list (rs.map tx)) := .inl ⟨_, rfl, by rw [List.length_map]; omega, el_tx fun r h => (hrs r h).1⟩
   obtain ⟨b, l1, l2, _, l4⟩ := b0u h0 hwd (by omega) (by omega) hW (show m <= 90 by omega) hps hp hR hLT
   have hb : b = true := l4 rs T rfl rfl (by omega) hj (fun r h => (hrs r h).2) hTl hTr ⟨_, hT.first⟩ hRC hLs (hPa.costs hr0)
   subst hb
   exact ⟨rs, true, hr0, (fun r h => (hrs r h).1), htr, by omega, ⟨.list (rs.map tx), told_ok hpt, rfl, rfl, fun _ => rfl, (fun z => nomatch z)⟩, l2, l1⟩
 obtain ⟨X, hX, x1, x2, x3, x4⟩ := hfirst
 obtain ⟨NS, hNS⟩ : ∃ NS, NS = PyData.list (ns.map PyData.int) := ⟨_, rfl⟩
 rw [<- hNS] at hc0 hc1 hc2 hc3 hks hqs ⊢
 obtain ⟨y9, y10, y11, y12, y13, y14, y15, hloop⟩ := turn_loop NS h0 hw hn hW hm.1 hps hp r0 hr tr rl hT0 (by omega) hTr hP (c2 :: qs) 0 .un .un .un .un .un .un .un
 refine a0y ?_
 unfold g_law
 refine a0o (a1a (d := .list (ws.map tx)) (a0q (ds := [.list ((c3 :: ks).map PyData.int)]) (a0d (ev_2 (a2q (a0d (a0q (a0d (a0a rfl) (a0d ev_c a0f)) hc3) a0f) rfl) (a2w (a0a rfl) (a1r ev_c) (a1r ev_c) hks) hadd) a0f) hws)) ?_
 refine a0o (a1a (d := tx (jn 32 ws)) (a4y (z := S [32]) ev_c (a0d (a0a rfl) a0f) hjn)) ?_
 refine a0o (a1a (d := .int W) (by rw [hWe]; exact ev_2 (x := .int Mx) (y := .int (c0 % 21)) (a1s (a0d (a3g (ds := ws.map tx) (a3m (x := .list (ws.map tx)) (a0a rfl) rfl) (a0l (by rw [List.length_map]; omega)) (lens_comp ws .un fun w q => by have := (hw w q).len; omega)) a0f) hmax) (ev_2 (a0q (a0d (a0a rfl) (a0d ev_c a0f)) hc0) ev_c (a6w (by decide))) a5e)) ?_
 refine a0o (a1a (d := .int (m : Int)) (by rw [hme]; exact ev_2 ev_c (ev_2 (a0q (a0d (a0a rfl) (a0d ev_c a0f)) hc1) ev_c (a6w (by decide))) a5e)) ?_
 refine a0o (a1a (d := X) (a0q (a0d (a0a rfl) (a0d (a0a rfl) (a0d (a0a rfl) a0f))) hX)) ?_
 refine a0o (a1a (d := .list (T.map rD)) (a0q (a0d (a0a rfl) (a0d (a0a rfl) (a0d (a0a rfl) a0f))) ht)) ?_
 refine a0o (a1a (d := .bool due) (ev_2 (a0a rfl) ev_c x1)) ?_
 refine a0o (δ' := [.vl NS, .vl (.list (ws.map tx)), .vl (tx (jn 32 ws)), .vl (.int W), .vl (.int (m : Int)), .vl (.list (rs.map tx)), .vl (.list (T.map rD)), .vl (.bool due), .un, .un, .un, .un, .un, .un, .un, .un]) ?_ ?_
 ·refine a4z (b := !due) (ev_b (ev_2 (a0a rfl) ev_c x2)) ?_
  cases due with
  | true =>
   rw [x3 rfl]
   rfl
  | false =>
   rw [x4 rfl]
   exact a1a (a2q (a0d (a0a rfl) a0f) rfl)
 refine a2n (b := false) (ev_b (ev_2 (a0q (a0d (a0a rfl) (a0d (a0a rfl) (a0d (a0a rfl) (a0d (a0a rfl) (a0d (a0a rfl) a0f))))) hL) (a0a rfl) (ne_bool due))) rfl ?_
 refine a0o (a1a (d := .list [.list (rs.map tx), .list (T.map rD)]) (a2q (a0d (a1s (a0d (a0a rfl) a0f) rfl) (a0d (a3g (ds := T.map rD) (a3m (x := .list (T.map rD)) (a0a rfl) rfl) (a0l (by rw [List.length_map]; omega)) (copy_T T .un)) a0f)) rfl)) ?_
 refine a0o (a3q (ds := enumD 0 ((c2 :: qs).map PyData.int)) (ev_enumS (a0d (ev_2 (a2q (a0d (a0q (a0d (a0a rfl) (a0d ev_c a0f)) hc2) a0f) rfl) (a2w (a0a rfl) (a1r ev_c) (a1r ev_c) hqs) hadd2) a0f)) hloop) ?_
 exact a0p ev_c
end K51
namespace K51
open PySem PySem.Spec PyProof.Rows L2 DL CT SL
def top (i : Nat) : Stmt := PySem.Challenge.pw_cuetimer_k51_what_the_checker_lets_by.main.body.getD i (.Pass ⟨0, 0, 0, 0⟩)
section
variable {P : Program} {w : World} {K : PySem.W.Frag} {mg : Str -> Option Value} {base : Heap}
theorem sc_is_whole : FnScope ["thing"] ["thing"] (defScope (top 4)) := ⟨rfl, rfl, rfl, by decide +kernel, rfl, by decide +kernel, by decide +kernel⟩
theorem a9h {f : Addr} {fd : FuncData} (F0 : Fun K "is_whole" "is_whole" (top 4) f fd) (hm : mg "is_whole" = some (.ref f)) (z_isinstance : mg "isinstance" = none) (z_int : mg "int" = none) (z_bool : mg "bool" = none) : Def P w K mg base 1 "is_whole" 1 a5j := by
 have S := sc_is_whole
 refine a3y (N := ["thing"]) (ps := ["thing"]) (k := 0) (g := a8z) F0 S hm (F0.binds fun _ _ _ _ _ _ us hl => match us, hl with | [_], _ => rfl) fun cdv A outer s H E hr => ?_
 unfold a8z
 exact (a0j (a1e (pd_and (a2z rfl (kit_int _) rfl z_isinstance rfl z_int PyProof.Rows.boot_int (a0c (pv 0))) (b1s (pd_not (a2z rfl (b2z _) rfl z_isinstance rfl z_bool PyProof.Rows.boot_bool (a0c (pv 0))))))))
theorem sc_row_price : FnScope ["row", "wide"] ["row", "wide"] (defScope (top 10)) := ⟨rfl, rfl, rfl, by decide +kernel, rfl, by decide +kernel, by decide +kernel⟩
theorem a5g {f : Addr} {fd : FuncData} (F0 : Fun K "row_price" "row_price" (top 10) f fd) (hm : mg "row_price" = some (.ref f)) (z_len : mg "len" = none) : Def P w K mg base 1 "row_price" 2 a1u := by
 have S := sc_row_price
 refine a3y (N := ["row", "wide"]) (ps := ["row", "wide"]) (k := 0) (g := a6y) F0 S hm (F0.binds fun _ _ _ _ _ _ us hl => match us, hl with | [_, _], _ => rfl) fun cdv A outer s H E hr => ?_
 unfold a6y
 exact (a0j (a1e (a0w dop_mul (a0w b3i (a0c (pv 1)) (a0n a0r rfl z_len PySem.boot_len (a0b (a0c (pv 0)) a0e))) (a0w b3i (a0c (pv 1)) (a0n a0r rfl z_len PySem.boot_len (a0b (a0c (pv 0)) a0e))))))
theorem b1g : FnScope ["text"] ["text"] (defScope (top 11)) := ⟨rfl, rfl, rfl, by decide +kernel, rfl, by decide +kernel, by decide +kernel⟩
theorem a5b {f : Addr} {fd : FuncData} (F0 : Fun K "break_price" "break_price" (top 11) f fd) (hm : mg "break_price" = some (.ref f)) : Def P w K mg base 1 "break_price" 1 a1w := by
 have S := b1g
 refine a3y (N := ["text"]) (ps := ["text"]) (k := 0) (g := a5w) F0 S hm (F0.binds fun _ _ _ _ _ _ us hl => match us, hl with | [_], _ => rfl) fun cdv A outer s H E hr => ?_
 unfold a5w
 exact (a0g (a2d (a0m b3j (a1j (a0c (pv 0)) (a5u a0i) (fun _ _ => rfl)) a2y rfl) (a0j (a1e a0i)) a1g)
  (a0j (a1e (pd_if (a0m b3j (a1j (a0c (pv 0)) (a5u a0i) (fun _ _ => rfl)) a2y rfl) a0i a0i))))
theorem a9r : FnScope ["rows", "wide"] ["rows", "wide"] (defScope (top 6)) := ⟨rfl, rfl, rfl, by decide +kernel, rfl, by decide +kernel, by decide +kernel⟩
theorem a6d {f : Addr} {fd : FuncData} (F0 : Fun K "parting_price" "parting_price" (top 6) f fd) (hm : mg "parting_price" = some (.ref f)) (a5g : Def P w K mg base 1 "row_price" 2 a1u) (a5b : Def P w K mg base 1 "break_price" 1 a1w) (z_sum : mg "sum" = none) : Def P w K mg base 2 "parting_price" 2 a4a := by
 have S := a9r
 refine a3y (N := ["rows", "wide"]) (ps := ["rows", "wide"]) (k := 1) (g := a4w) F0 S hm (F0.binds fun _ _ _ _ _ _ us hl => match us, hl with | [_, _], _ => rfl) fun cdv A outer s H E hr => ?_
 unfold a4w
 exact (a0j (a1e (a0w a0x (a0n (a9g rfl) rfl z_sum PyProof.Rows.boot_sum (a0b (a5k (fr := [(1, "wide")]) (tn := ["row"]) rfl rfl (by decide +kernel) (by rfl) (fun _ _ h => h) (a4i (by rfl)) (a7g rfl rfl rfl ⟨_, rfl⟩ a6m) (by decide +kernel) (a2x (a0c (pv 0))) (fun C s3 H3 fp => (a0t (a1d (i := 0) (show (["row", "wide"] : List Str).Nodup from by decide +kernel) rfl (by first | exact Or.inl rfl | exact Or.inr rfl)))) (fun C s3 H3 fp => a4t) (fun C s3 H3 fp => (a0z a5g (hr.mono (by decide)) rfl rfl (a0b (a0c (pv 0)) (a0b (a0c (pv 1)) a0e))))) a0e)) (a0n (a9g rfl) rfl z_sum PyProof.Rows.boot_sum (a0b (a5k (fr := []) (tn := ["row"]) rfl rfl (by decide +kernel) (by rfl) b0f (a4i (by rfl)) a6m (by decide +kernel) (a2x (a2u (a0c (pv 0)) a2k (a1f (a5u a0i)))) (fun C s3 H3 fp => (a0t (a1d (i := 0) (show (["row"] : List Str).Nodup from by decide +kernel) rfl (by first | exact Or.inl rfl | exact Or.inr rfl)))) (fun C s3 H3 fp => a4t) (fun C s3 H3 fp => (a0z a5b (hr.mono (by decide)) rfl rfl (a0b (a0c (pv 0)) a0e)))) a0e)))))
theorem sc_pieces_of : FnScope ["words", "wide", "parts", "pieces", "i", "row", "j"] ["words", "wide"] (defScope (top 12)) := ⟨rfl, rfl, rfl, by decide +kernel, rfl, by decide +kernel, by decide +kernel⟩
theorem a4k {f : Addr} {fd : FuncData} (F0 : Fun K "pieces_of" "pieces_of" (top 12) f fd) (hm : mg "pieces_of" = some (.ref f)) (a5g : Def P w K mg base 1 "row_price" 2 a1u) (a5b : Def P w K mg base 1 "break_price" 1 a1w) (z_len : mg "len" = none) (z_range : mg "range" = none) : Def P w K mg base 2 "pieces_of" 2 a1v := by
 have S := sc_pieces_of
 refine a3y (N := ["words", "wide", "parts", "pieces", "i", "row", "j"]) (ps := ["words", "wide"]) (k := 1) (g := a6a) F0 S hm (F0.binds fun _ _ _ _ _ _ us hl => match us, hl with | [_, _], _ => rfl) fun cdv A outer s H E hr => ?_
 unfold a6a
 exact (a0g (a1m (i := 2) S.nd rfl (by first | exact Or.inl rfl | exact Or.inr rfl) (a5r PySem.F.slot_str_split PySem.F.type_str_split a8p (a0c (pv 0)) (a0b a2y a0e)))
  (a0g (b0o (i := 3) S.nd rfl (by first | exact Or.inl rfl | exact Or.inr rfl) (a8w a0e))
  (a0g (a5d PassesOwn.never rfl (a9x rfl z_range (a0b (a0n a0r rfl z_len PySem.boot_len (a0b (a0c (pv 2)) a0e)) a0e)) (a0t (a1d (i := 4) S.nd rfl (by first | exact Or.inl rfl | exact Or.inr rfl))) (a0g (a1m (i := 5) S.nd rfl (by first | exact Or.inl rfl | exact Or.inr rfl) (a1j (a0c (pv 2)) (a0c (pv 4)) (fun _ _ => rfl)))
  (a0g (a1m (i := 6) S.nd rfl (by first | exact Or.inl rfl | exact Or.inr rfl) (a0w a0x (a0c (pv 4)) a0i))
  (a0g (pd_while PassesOwn.never (PDW.t (a8v (a0m b1b (a0n a0r rfl z_len PySem.boot_len (a0b (a0c (pv 5)) a0e)) (a0c (pv 1)) (nomark _)) (a8j (a0m dop_lt (a0c (pv 6)) (a0n a0r rfl z_len PySem.boot_len (a0b (a0c (pv 2)) a0e)) (nomark _))))) (a0g (pd_app (i := 3) (pv 3) (pd_tup (a0b (a0c (pv 4)) (a0b (a0c (pv 6)) (a0b (a0w a0x (a0z a5g (hr.mono (by decide)) rfl rfl (a0b (a0c (pv 5)) (a0b (a0c (pv 1)) a0e))) (a0z a5b (hr.mono (by decide)) rfl rfl (a0b (a0c (pv 5)) a0e))) a0e)))))
  (a0g (a1m (i := 5) S.nd rfl (by first | exact Or.inl rfl | exact Or.inr rfl) (a0w a0x (a0w a0x (a0c (pv 5)) a2y) (a1j (a0c (pv 2)) (a0c (pv 6)) (fun _ _ => rfl))))
  (a0j (pd_augN (i := 6) S.nd rfl (by first | exact Or.inl rfl | exact Or.inr rfl) ip_add a0i)))))
  (a0j (a2d (a0m b1b (a0n a0r rfl z_len PySem.boot_len (a0b (a0c (pv 5)) a0e)) (a0c (pv 1)) (nomark _)) (a0j (pd_app (i := 3) (pv 3) (pd_tup (a0b (a0c (pv 4)) (a0b (a0c (pv 6)) (a0b (a0z a5g (hr.mono (by decide)) rfl rfl (a0b (a0c (pv 5)) (a0b (a0c (pv 1)) a0e))) a0e)))))) a1g))))))
  (a0j (pd_retO (pv 3))))))
theorem b2l : FnScope ["pieces", "above", "below", "i", "j", "price"] ["pieces", "above"] (defScope (top 13)) := ⟨rfl, rfl, rfl, by decide +kernel, rfl, by decide +kernel, by decide +kernel⟩
theorem a7j {f : Addr} {fd : FuncData} (F0 : Fun K "list_below" "list_below" (top 13) f fd) (hm : mg "list_below" = some (.ref f)) (z_len : mg "len" = none) : DefF P w K mg base 1 "list_below" 2 a3d := by
 have S := b2l
 refine deff_of (N := ["pieces", "above", "below", "i", "j", "price"]) (ps := ["pieces", "above"]) (k := 0) (g := a6i) F0 S hm (F0.binds fun _ _ _ _ _ _ us hl => match us, hl with | [_, _], _ => rfl) fun cdv A outer s H E hr => ?_
 unfold a6i
 exact (pdsf_cons (b0o (i := 2) S.nd rfl (by first | exact Or.inl rfl | exact Or.inr rfl) (pdn_rep (a8w (a0b a3l a0e)) (a0n a0r rfl z_len PySem.boot_len (a0b (a0c (pv 1)) a0e))))
  (pdsf_cons (a5d PassesOwn.never rfl (a2x (a0c (pv 0))) (b0n rfl (a3k (a0t (a1d (i := 3) S.nd rfl (by first | exact Or.inl rfl | exact Or.inr rfl))) (a3k (a0t (a1d (i := 4) S.nd rfl (by first | exact Or.inl rfl | exact Or.inr rfl))) (a3k (a0t (a1d (i := 5) S.nd rfl (by first | exact Or.inl rfl | exact Or.inr rfl))) a8k)))) (a0j (a2d (pdt_lend 2 (PDW.t (a8v (a0m a5p (a1j (a0c (pv 1)) (a0c (pv 3)) (fun _ _ => rfl)) a3l (nomark _)) (a8j (PDW.t (a5o (a0m b1c (a1j (a0c (pv 2)) (a0c (pv 4)) (fun _ _ => rfl)) a3l (nomark _)) (a4g (a0m dop_lt (a0w a0x (a1j (a0c (pv 1)) (a0c (pv 3)) (fun _ _ => rfl)) (a0c (pv 5))) (a1j (a0c (pv 2)) (a0c (pv 4)) (fun _ _ => rfl)) (nomark _))))))))) (a0j (pd_setO (i := 2) (pv 2) (a0c (pv 4)) (a0w a0x (a1j (a0c (pv 1)) (a0c (pv 3)) (fun _ _ => rfl)) (a0c (pv 5))))) a1g)))
  (pdsf_retO (pv 2))))
theorem a9q : FnScope ["words", "wide", "most", "pieces", "table", "k"] ["words", "wide", "most"] (defScope (top 7)) := ⟨rfl, rfl, rfl, by decide +kernel, rfl, by decide +kernel, by decide +kernel⟩
theorem a3z {f : Addr} {fd : FuncData} (F0 : Fun K "parting_table" "parting_table" (top 7) f fd) (hm : mg "parting_table" = some (.ref f)) (a4k : Def P w K mg base 2 "pieces_of" 2 a1v) (a7j : DefF P w K mg base 1 "list_below" 2 a3d) (z_len : mg "len" = none) (z_range : mg "range" = none) : Def P w K mg base 3 "parting_table" 3 a1x := by
 have S := a9q
 refine a3y (N := ["words", "wide", "most", "pieces", "table", "k"]) (ps := ["words", "wide", "most"]) (k := 2) (g := a3u) F0 S hm (F0.binds fun _ _ _ _ _ _ us hl => match us, hl with | [_, _, _], _ => rfl) fun cdv A outer s H E hr => ?_
 unfold a3u
 exact (a0g (a1m (i := 3) S.nd rfl (by first | exact Or.inl rfl | exact Or.inr rfl) (a0z a4k (hr.mono (by decide)) rfl rfl (a0b (a0c (pv 0)) (a0b (a0c (pv 1)) a0e))))
  (a0g (b0o (i := 4) S.nd rfl (by first | exact Or.inl rfl | exact Or.inr rfl) (a8w (a0b (a0w a0x (a3t (a0b a0i a0e)) (pd_ofN (pdn_rep (a8w (a0b a3l a0e)) (a0n a0r rfl z_len PySem.boot_len (a0b (a5r PySem.F.slot_str_split PySem.F.type_str_split a8p (a0c (pv 0)) (a0b a2y a0e)) a0e))))) a0e)))
  (a0g (a5d PassesOwn.never rfl (a9x rfl z_range (a0b (a0c (pv 2)) a0e)) (a0t (a1d (i := 5) S.nd rfl (by first | exact Or.inl rfl | exact Or.inr rfl))) (a0j (pd_app (i := 4) (pv 4) (pd_ofF (pdf_frz 4 (pdf_call a7j (hr.mono (by decide)) rfl rfl (a0b (a0c (pv 3)) (a0b (a1j (a0c (pv 4)) (a0c (pv 5)) (fun _ _ => rfl)) a0e))))))))
  (a0j (pd_retO (pv 4))))))
theorem a7y : FnScope ["table"] ["table"] (defScope (top 14)) := ⟨rfl, rfl, rfl, by decide +kernel, rfl, by decide +kernel, by decide +kernel⟩
theorem a2r {f : Addr} {fd : FuncData} (F0 : Fun K "least_at_the_end" "least_at_the_end" (top 14) f fd) (hm : mg "least_at_the_end" = some (.ref f)) (z_min : mg "min" = none) : Def P w K mg base 1 "least_at_the_end" 1 a1p := by
 have S := a7y
 refine a3y (N := ["table"]) (ps := ["table"]) (k := 0) (g := a3r) F0 S hm (F0.binds fun _ _ _ _ _ _ us hl => match us, hl with | [_], _ => rfl) fun cdv A outer s H E hr => ?_
 unfold a3r
 exact (a0j (a1e (pd_minD rfl rfl rfl z_min (a0b (a5k (fr := []) (tn := ["prices"]) rfl rfl (by decide +kernel) (by rfl) (fun _ _ h => h) (a4i (by rfl)) a6m (by decide +kernel) (a2x (a2u (a0c (pv 0)) (a1f a0i) a2k)) (fun C s3 H3 fp => (a0t (a1d (i := 0) (show (["prices"] : List Str).Nodup from by decide +kernel) rfl (by first | exact Or.inl rfl | exact Or.inr rfl)))) (fun C s3 H3 fp => (a9w (a0m a5p (a1j (a0c (pv 0)) (a5u a0i) (fun _ _ => rfl)) a3l (nomark _)))) (fun C s3 H3 fp => (a1j (a0c (pv 0)) (a5u a0i) (fun _ _ => rfl)))) a0e) a3l)))
theorem b0i : FnScope ["pieces", "above", "end", "told", "begins"] ["pieces", "above", "end", "told"] (defScope (top 16)) := ⟨rfl, rfl, rfl, by decide +kernel, rfl, by decide +kernel, by decide +kernel⟩
theorem a6p {f : Addr} {fd : FuncData} (F0 : Fun K "begin_of_row" "begin_of_row" (top 16) f fd) (hm : mg "begin_of_row" = some (.ref f)) : Def P w K mg base 1 "begin_of_row" 4 a3o := by
 have S := b0i
 refine a3y (N := ["pieces", "above", "end", "told", "begins"]) (ps := ["pieces", "above", "end", "told"]) (k := 0) (g := a5l) F0 S hm (F0.binds fun _ _ _ _ _ _ us hl => match us, hl with | [_, _, _, _], _ => rfl) fun cdv A outer s H E hr => ?_
 unfold a5l
 exact (a0g (a7q (iy := 4) (fr := [(2, "end"), (3, "told"), (1, "above")]) (tn := ["i", "j", "price"]) rfl rfl (by decide +kernel) (by rfl) (a8f (n := "told") (by rfl) (a8f (n := "end") (by rfl) (a8f (n := "above") (by rfl) b0f))) (a4i (by rfl)) (a7g rfl rfl rfl ⟨_, rfl⟩ (a7g rfl rfl rfl ⟨_, rfl⟩ (a7g rfl rfl rfl ⟨_, rfl⟩ a6m))) (by decide +kernel) (a2x (a0c (pv 0))) (fun C s3 H3 fp => (b0n rfl (a3k (a0t (a1d (i := 0) (show (["i", "j", "price", "end", "told", "above"] : List Str).Nodup from by decide +kernel) rfl (by first | exact Or.inl rfl | exact Or.inr rfl))) (a3k (a0t (a1d (i := 1) (show (["i", "j", "price", "end", "told", "above"] : List Str).Nodup from by decide +kernel) rfl (by first | exact Or.inl rfl | exact Or.inr rfl))) (a3k (a0t (a1d (i := 2) (show (["i", "j", "price", "end", "told", "above"] : List Str).Nodup from by decide +kernel) rfl (by first | exact Or.inl rfl | exact Or.inr rfl))) a8k))))) (fun C s3 H3 fp => (a9w (PDW.t (a8v (a0m (a4d hr.units) (a0c (pv 1)) (a0c (pv 3)) (nomark _)) (a8v (a0m a5p (a1j (a0c (pv 5)) (a0c (pv 0)) (fun _ _ => rfl)) a3l (nomark _)) (a8j (a0m (a4d hr.units) (a0w a0x (a1j (a0c (pv 5)) (a0c (pv 0)) (fun _ _ => rfl)) (a0c (pv 2))) (a0c (pv 4)) (nomark _)))))))) (fun C s3 H3 fp => (a0c (pv 0))) S.nd rfl (by first | exact Or.inl rfl | exact Or.inr rfl))
  (a0j (a1e (a1j (a0c (pv 4)) a0i (fun _ _ => rfl)))))
theorem sc_rows_back : FnScope ["words", "pieces", "table", "k", "parts", "end", "rows", "begin"] ["words", "pieces", "table", "k"] (defScope (top 15)) := ⟨rfl, rfl, rfl, by decide +kernel, rfl, by decide +kernel, by decide +kernel⟩
theorem a8c {f : Addr} {fd : FuncData} (F0 : Fun K "rows_back" "rows_back" (top 15) f fd) (hm : mg "rows_back" = some (.ref f)) (a6p : Def P w K mg base 1 "begin_of_row" 4 a3o) (z_len : mg "len" = none) (z_list : mg "list" = none) (z_reversed : mg "reversed" = none) : Def P w K mg base 2 "rows_back" 4 a6f := by
 have S := sc_rows_back
 refine a3y (N := ["words", "pieces", "table", "k", "parts", "end", "rows", "begin"]) (ps := ["words", "pieces", "table", "k"]) (k := 1) (g := a6x) F0 S hm (F0.binds fun _ _ _ _ _ _ us hl => match us, hl with | [_, _, _, _], _ => rfl) fun cdv A outer s H E hr => ?_
 unfold a6x
 exact (a0g (a1m (i := 4) S.nd rfl (by first | exact Or.inl rfl | exact Or.inr rfl) (a5r PySem.F.slot_str_split PySem.F.type_str_split a8p (a0c (pv 0)) (a0b a2y a0e)))
  (a0g (a1m (i := 5) S.nd rfl (by first | exact Or.inl rfl | exact Or.inr rfl) (a0n a0r rfl z_len PySem.boot_len (a0b (a0c (pv 4)) a0e)))
  (a0g (b0o (i := 6) S.nd rfl (by first | exact Or.inl rfl | exact Or.inr rfl) (a8w a0e))
  (a0g (pd_while PassesOwn.never (a0m b2a (a0c (pv 3)) a0i (nomark _)) (a0g (a1m (i := 7) S.nd rfl (by first | exact Or.inl rfl | exact Or.inr rfl) (a0z a6p (hr.mono (by decide)) rfl rfl (a0b (a0c (pv 1)) (a0b (a1j (a0c (pv 2)) (a0w b3i (a0c (pv 3)) a0i) (fun _ _ => rfl)) (a0b (a0c (pv 5)) (a0b (a1j (a1j (a0c (pv 2)) (a0c (pv 3)) (fun _ _ => rfl)) (a0c (pv 5)) (fun _ _ => rfl)) a0e))))))
  (a0g (pd_app (i := 6) (pv 6) (a5r PySem.F.slot_str_join PySem.F.type_str_join a6n a2y (a0b (a2u (a0c (pv 4)) (a1f (a0c (pv 7))) (a1f (a0c (pv 5)))) a0e)))
  (a0g (a1m (i := 5) S.nd rfl (by first | exact Or.inl rfl | exact Or.inr rfl) (a0c (pv 7)))
  (a0j (pd_augN (i := 3) S.nd rfl (by first | exact Or.inl rfl | exact Or.inr rfl) ip_sub a0i))))))
  (pds_frz 6 (a0j (a1e (pd_twoTy (dtwo_listrev rfl) rfl z_list PyProof.Rows.boot_list rfl z_reversed PyProof.Rows.boot_reversed (a0b (a0c (pv 6)) a0e)))))))))
theorem sc_parted : FnScope ["words", "wide", "most", "table", "least", "lasts"] ["words", "wide", "most"] (defScope (top 8)) := ⟨rfl, rfl, rfl, by decide +kernel, rfl, by decide +kernel, by decide +kernel⟩
theorem b3k {f : Addr} {fd : FuncData} (F0 : Fun K "parted" "parted" (top 8) f fd) (hm : mg "parted" = some (.ref f)) {C_NoParting : Addr} (m_NoParting : mg "NoParting" = some (.ref C_NoParting)) (x_NoParting : PySem.W.excIn K C_NoParting [.type "ValueError", .type "Exception", .type "BaseException", .type "object"] "ValueError.__new__" = true) (a3z : Def P w K mg base 3 "parting_table" 3 a1x) (a2r : Def P w K mg base 1 "least_at_the_end" 1 a1p) (a4k : Def P w K mg base 2 "pieces_of" 2 a1v) (a8c : Def P w K mg base 2 "rows_back" 4 a6f) : DefX P w K mg base 4 "parted" 3 a6o := by
 have S := sc_parted
 refine defX_of (N := ["words", "wide", "most", "table", "least", "lasts"]) (ps := ["words", "wide", "most"]) (k := 3) (g := a8m) F0 S hm (F0.binds fun _ _ _ _ _ _ us hl => match us, hl with | [_, _, _], _ => rfl) fun cdv A outer s H E hr => ?_
 unfold a8m
 exact (a0g (a1m (i := 3) S.nd rfl (by first | exact Or.inl rfl | exact Or.inr rfl) (a0z a3z (hr.mono (by decide)) rfl rfl (a0b (a0c (pv 0)) (a0b (a0c (pv 1)) (a0b (a0c (pv 2)) a0e)))))
  (a0g (a1m (i := 4) S.nd rfl (by first | exact Or.inl rfl | exact Or.inr rfl) (a0z a2r (hr.mono (by decide)) rfl rfl (a0b (a0c (pv 3)) a0e)))
  (a0g (a2d (a0m b1c (a0c (pv 4)) a3l (nomark _)) (a0j (pd_raise raises_def (fun _ _ h => h) x_NoParting PySem.F.excBase_ValueError rfl rfl m_NoParting (a0b a2y a0e))) a1g)
  (a0g (a7q (iy := 5) (fr := []) (tn := ["prices"]) rfl rfl (by decide +kernel) (by rfl) (fun _ _ h => h) (a4i (by rfl)) a6m (by decide +kernel) (a2x (a0c (pv 3))) (fun C s3 H3 fp => (a0t (a1d (i := 0) (show (["prices"] : List Str).Nodup from by decide +kernel) rfl (by first | exact Or.inl rfl | exact Or.inr rfl)))) (fun C s3 H3 fp => a4t) (fun C s3 H3 fp => (a1j (a0c (pv 0)) (a5u a0i) (fun _ _ => rfl))) S.nd rfl (by first | exact Or.inl rfl | exact Or.inr rfl))
  (a0j (a1e (a0z a8c (hr.mono (by decide)) rfl rfl (a0b (a0c (pv 0)) (a0b (a0z a4k (hr.mono (by decide)) rfl rfl (a0b (a0c (pv 0)) (a0b (a0c (pv 1)) a0e))) (a0b (a0c (pv 3)) (a0b (pd_index (a0c (pv 5)) (a0b (a0c (pv 4)) a0e) (fun _ => rfl)) a0e)))))))))))
theorem b2n : FnScope ["words", "wide", "most", "rows"] ["words", "wide", "most", "rows"] (defScope (top 17)) := ⟨rfl, rfl, rfl, by decide +kernel, rfl, by decide +kernel, by decide +kernel⟩
theorem a7l {f : Addr} {fd : FuncData} (F0 : Fun K "is_parting" "is_parting" (top 17) f fd) (hm : mg "is_parting" = some (.ref f)) (z_isinstance : mg "isinstance" = none) (z_list : mg "list" = none) (z_len : mg "len" = none) (z_str : mg "str" = none) (z_all : mg "all" = none) : Def P w K mg base 1 "is_parting" 4 a3e := by
 have S := b2n
 refine a3y (N := ["words", "wide", "most", "rows"]) (ps := ["words", "wide", "most", "rows"]) (k := 0) (g := a3v) F0 S hm (F0.binds fun _ _ _ _ _ _ us hl => match us, hl with | [_, _, _, _], _ => rfl) fun cdv A outer s H E hr => ?_
 unfold a3v
 exact (a0g (a2d (PDW.t (a5o (a4h (a3s (a2z rfl (a7r _) rfl z_isinstance rfl z_list PyProof.Rows.boot_list (a0c (pv 3))))) (a5o (a0m b2a (a0n a0r rfl z_len PySem.boot_len (a0b (a0c (pv 3)) a0e)) (a0c (pv 2)) (nomark _)) (a4g (a4h (a3s (a0n (a8q rfl) rfl z_all PyProof.Rows.boot_all (a0b (a5k (fr := []) (tn := ["row"]) rfl rfl (by decide +kernel) (by rfl) b0f (a4i (by rfl)) a6m (by decide +kernel) (a2x (a0c (pv 3))) (fun C s3 H3 fp => (a0t (a1d (i := 0) (show (["row"] : List Str).Nodup from by decide +kernel) rfl (by first | exact Or.inl rfl | exact Or.inr rfl)))) (fun C s3 H3 fp => a4t) (fun C s3 H3 fp => (a2z rfl (kit_str _) rfl z_isinstance rfl z_str PyProof.Rows.boot_str (a0c (pv 0))))) a0e)))))))) (a0j (a1e a6v)) a1g)
  (a0j (a1e (pd_and (a5z (a4d hr.units) (a5r PySem.F.slot_str_join PySem.F.type_str_join a6n a2y (a0b (a0c (pv 3)) a0e)) (a0c (pv 0)) (nomark _)) (b1s (a0n (a8q rfl) rfl z_all PyProof.Rows.boot_all (a0b (a5k (fr := [(1, "wide")]) (tn := ["row"]) rfl rfl (by decide +kernel) (by rfl) (fun _ _ h => h) (a4i (by rfl)) (a7g rfl rfl rfl ⟨_, rfl⟩ a6m) (by decide +kernel) (a2x (a0c (pv 3))) (fun C s3 H3 fp => (a0t (a1d (i := 0) (show (["row", "wide"] : List Str).Nodup from by decide +kernel) rfl (by first | exact Or.inl rfl | exact Or.inr rfl)))) (fun C s3 H3 fp => a4t) (fun C s3 H3 fp => (a5z b1b (a0n a0r rfl z_len PySem.boot_len (a0b (a0c (pv 0)) a0e)) (a0c (pv 1)) (nomark _)))) a0e)))))))
theorem b2o : FnScope ["many", "prices"] ["many", "prices"] (defScope (top 19)) := ⟨rfl, rfl, rfl, by decide +kernel, rfl, by decide +kernel, by decide +kernel⟩
theorem a7m {f : Addr} {fd : FuncData} (F0 : Fun K "are_prices" "are_prices" (top 19) f fd) (hm : mg "are_prices" = some (.ref f)) (a9h : Def P w K mg base 1 "is_whole" 1 a5j) (z_isinstance : mg "isinstance" = none) (z_list : mg "list" = none) (z_len : mg "len" = none) (z_all : mg "all" = none) : Def P w K mg base 2 "are_prices" 2 a4r := by
 have S := b2o
 refine a3y (N := ["many", "prices"]) (ps := ["many", "prices"]) (k := 1) (g := a6j) F0 S hm (F0.binds fun _ _ _ _ _ _ us hl => match us, hl with | [_, _], _ => rfl) fun cdv A outer s H E hr => ?_
 unfold a6j
 exact (a0g (a2d (PDW.t (a5o (a4h (a3s (a2z rfl (a7r _) rfl z_isinstance rfl z_list PyProof.Rows.boot_list (a0c (pv 1))))) (a4g (a0m (a7x hr.units) (a0n a0r rfl z_len PySem.boot_len (a0b (a0c (pv 1)) a0e)) (a0w a0x (a0c (pv 0)) a0i) (nomark _))))) (a0j (a1e a6v)) a1g)
  (a0j (a1e (a0n (a8q rfl) rfl z_all PyProof.Rows.boot_all (a0b (a5k (fr := []) (tn := ["price"]) rfl rfl (by decide +kernel) (by rfl) (fun _ _ h => h) (a4i (by rfl)) a6m (by decide +kernel) (a2x (a0c (pv 1))) (fun C s3 H3 fp => (a0t (a1d (i := 0) (show (["price"] : List Str).Nodup from by decide +kernel) rfl (by first | exact Or.inl rfl | exact Or.inr rfl)))) (fun C s3 H3 fp => a4t) (fun C s3 H3 fp => (pd_or (a5z b1c (a0c (pv 0)) a3l (nomark _)) (b1s (a0z a9h (hr.mono (by decide)) rfl rfl (a0b (a0c (pv 0)) a0e)))))) a0e)))))
theorem sc_is_table : FnScope ["many", "most", "table"] ["many", "most", "table"] (defScope (top 18)) := ⟨rfl, rfl, rfl, by decide +kernel, rfl, by decide +kernel, by decide +kernel⟩
theorem a9i {f : Addr} {fd : FuncData} (F0 : Fun K "is_table" "is_table" (top 18) f fd) (hm : mg "is_table" = some (.ref f)) (a7m : Def P w K mg base 2 "are_prices" 2 a4r) (z_isinstance : mg "isinstance" = none) (z_list : mg "list" = none) (z_len : mg "len" = none) (z_all : mg "all" = none) : Def P w K mg base 3 "is_table" 3 a4q := by
 have S := sc_is_table
 refine a3y (N := ["many", "most", "table"]) (ps := ["many", "most", "table"]) (k := 2) (g := a5f) F0 S hm (F0.binds fun _ _ _ _ _ _ us hl => match us, hl with | [_, _, _], _ => rfl) fun cdv A outer s H E hr => ?_
 unfold a5f
 exact (a0g (a2d (PDW.t (a5o (a4h (a3s (a2z rfl (a7r _) rfl z_isinstance rfl z_list PyProof.Rows.boot_list (a0c (pv 2))))) (a4g (a0m (a7x hr.units) (a0n a0r rfl z_len PySem.boot_len (a0b (a0c (pv 2)) a0e)) (a0w a0x (a0c (pv 1)) a0i) (nomark _))))) (a0j (a1e a6v)) a1g)
  (a0j (a1e (pd_and (a0n (a8q rfl) rfl z_all PyProof.Rows.boot_all (a0b (a5k (fr := [(0, "many")]) (tn := ["prices"]) rfl rfl (by decide +kernel) (by rfl) (fun _ _ h => h) (a4i (by rfl)) (a7g rfl rfl rfl ⟨_, rfl⟩ a6m) (by decide +kernel) (a2x (a0c (pv 2))) (fun C s3 H3 fp => (a0t (a1d (i := 0) (show (["prices", "many"] : List Str).Nodup from by decide +kernel) rfl (by first | exact Or.inl rfl | exact Or.inr rfl)))) (fun C s3 H3 fp => a4t) (fun C s3 H3 fp => (a0z a7m (hr.mono (by decide)) rfl rfl (a0b (a0c (pv 1)) (a0b (a0c (pv 0)) a0e))))) a0e)) (b1s (a5z (a4d hr.units) (a1j (a1j (a0c (pv 2)) a0i (fun _ _ => rfl)) a0i (fun _ _ => rfl)) a0i (nomark _)))))))
theorem b2m : FnScope ["piece", "above", "below"] ["piece", "above", "below"] (defScope (top 20)) := ⟨rfl, rfl, rfl, by decide +kernel, rfl, by decide +kernel, by decide +kernel⟩
theorem a7k {f : Addr} {fd : FuncData} (F0 : Fun K "is_reached" "is_reached" (top 20) f fd) (hm : mg "is_reached" = some (.ref f)) : Def P w K mg base 1 "is_reached" 3 a4b := by
 have S := b2m
 refine a3y (N := ["piece", "above", "below"]) (ps := ["piece", "above", "below"]) (k := 0) (g := a4o) F0 S hm (F0.binds fun _ _ _ _ _ _ us hl => match us, hl with | [_, _, _], _ => rfl) fun cdv A outer s H E hr => ?_
 unfold a4o
 exact (a0g (a2d (a0m b1c (a1j (a0c (pv 1)) (a1j (a0c (pv 0)) a0i (fun _ _ => rfl)) (fun _ _ => rfl)) a3l (nomark _)) (a0j (a1e a6v)) a1g)
  (a0j (a1e (pd_and (a5z a5p (a1j (a0c (pv 2)) (a1j (a0c (pv 0)) a0i (fun _ _ => rfl)) (fun _ _ => rfl)) a3l (nomark _)) (b1s (a5z b1b (a1j (a0c (pv 2)) (a1j (a0c (pv 0)) a0i (fun _ _ => rfl)) (fun _ _ => rfl)) (a0w a0x (a1j (a0c (pv 1)) (a1j (a0c (pv 0)) a0i (fun _ _ => rfl)) (fun _ _ => rfl)) (a1j (a0c (pv 0)) a0i (fun _ _ => rfl))) (nomark _)))))))
theorem b0h : FnScope ["words", "wide", "most", "rows", "table", "piece", "above", "below"] ["words", "wide", "most", "rows", "table"] (defScope (top 9)) := ⟨rfl, rfl, rfl, by decide +kernel, rfl, by decide +kernel, by decide +kernel⟩
theorem a5n {f : Addr} {fd : FuncData} (F0 : Fun K "lets_parting" "lets_parting" (top 9) f fd) (hm : mg "lets_parting" = some (.ref f)) (a7l : Def P w K mg base 1 "is_parting" 4 a3e) (a9i : Def P w K mg base 3 "is_table" 3 a4q) (a7k : Def P w K mg base 1 "is_reached" 3 a4b) (a4k : Def P w K mg base 2 "pieces_of" 2 a1v) (a2r : Def P w K mg base 1 "least_at_the_end" 1 a1p) (a6d : Def P w K mg base 2 "parting_price" 2 a4a) (z_len : mg "len" = none) (z_zip : mg "zip" = none) : Def P w K mg base 4 "lets_parting" 5 a2f := by
 have S := b0h
 refine a3y (N := ["words", "wide", "most", "rows", "table", "piece", "above", "below"]) (ps := ["words", "wide", "most", "rows", "table"]) (k := 3) (g := a2v) F0 S hm (F0.binds fun _ _ _ _ _ _ us hl => match us, hl with | [_, _, _, _, _], _ => rfl) fun cdv A outer s H E hr => ?_
 unfold a2v a2c a2p
 exact (a0g (a2d (PDW.t (a5o (a4h (a3s (a0z a7l (hr.mono (by decide)) rfl rfl (a0b (a0c (pv 0)) (a0b (a0c (pv 1)) (a0b (a0c (pv 2)) (a0b (a0c (pv 3)) a0e))))))) (a4g (a4h (a3s (a0z a9i (hr.mono (by decide)) rfl rfl (a0b (a0n a0r rfl z_len PySem.boot_len (a0b (a5r PySem.F.slot_str_split PySem.F.type_str_split a8p (a0c (pv 0)) (a0b a2y a0e)) a0e)) (a0b (a0c (pv 2)) (a0b (a0c (pv 4)) a0e))))))))) (a0j (a1e a6v)) a1g)
  (a0g (a5d PassesOwn.never rfl (a2x (a0z a4k (hr.mono (by decide)) rfl rfl (a0b (a0c (pv 0)) (a0b (a0c (pv 1)) a0e)))) (a0t (a1d (i := 5) S.nd rfl (by first | exact Or.inl rfl | exact Or.inr rfl))) (a0j (a5d PassesOwn.never rfl (pdi_zip rfl z_zip (a0b (a0c (pv 4)) (a0b (a2u (a0c (pv 4)) (a1f a0i) a2k) a0e))) (b0n rfl (a3k (a0t (a1d (i := 6) S.nd rfl (by first | exact Or.inl rfl | exact Or.inr rfl))) (a3k (a0t (a1d (i := 7) S.nd rfl (by first | exact Or.inl rfl | exact Or.inr rfl))) a8k))) (a0j (a2d (a4h (a3s (a0z a7k (hr.mono (by decide)) rfl rfl (a0b (a0c (pv 5)) (a0b (a0c (pv 6)) (a0b (a0c (pv 7)) a0e)))))) (a0j (a1e a6v)) a1g)))))
  (a0j (a1e (a5z (a4d hr.units) (a0z a2r (hr.mono (by decide)) rfl rfl (a0b (a0c (pv 4)) a0e)) (a0z a6d (hr.mono (by decide)) rfl rfl (a0b (a0c (pv 3)) (a0b (a0c (pv 1)) a0e))) (nomark _))))))
theorem b0j : FnScope ["_law_script", "_law_k"] ["_law_script", "_law_k"] (defScope (top 22)) := ⟨rfl, rfl, rfl, by decide +kernel, rfl, by decide +kernel, by decide +kernel⟩
theorem a3n {f : Addr} {fd : FuncData} (F0 : Fun K "_law_cell_at" "_law_cell_at" (top 22) f fd) (hm : mg "_law_cell_at" = some (.ref f)) (z_len : mg "len" = none) : Def P w K mg base 1 "_law_cell_at" 2 a2g := by
 have S := b0j
 refine a3y (N := ["_law_script", "_law_k"]) (ps := ["_law_script", "_law_k"]) (k := 0) (g := a4f) F0 S hm (F0.binds fun _ _ _ _ _ _ us hl => match us, hl with | [_, _], _ => rfl) fun cdv A outer s H E hr => ?_
 unfold a4f
 exact (a0g (a2d (a0m dop_lt (a0c (pv 1)) (a0n a0r rfl z_len PySem.boot_len (a0b (a0c (pv 0)) a0e)) (nomark _)) (a0j (a1e (a1j (a0c (pv 0)) (a0c (pv 1)) (fun _ _ => rfl)))) a1g)
  (a0j (a1e a0i)))
theorem b2q : FnScope ["_law_cell", "_law_by"] ["_law_cell", "_law_by"] (defScope (top 23)) := ⟨rfl, rfl, rfl, by decide +kernel, rfl, by decide +kernel, by decide +kernel⟩
theorem a4p {f : Addr} {fd : FuncData} (F0 : Fun K "_law_mixed" "_law_mixed" (top 23) f fd) (hm : mg "_law_mixed" = some (.ref f)) : Def P w K mg base 1 "_law_mixed" 2 a2t := by
 have S := b2q
 refine a3y (N := ["_law_cell", "_law_by"]) (ps := ["_law_cell", "_law_by"]) (k := 0) (g := a6l) F0 S hm (F0.binds fun _ _ _ _ _ _ us hl => match us, hl with | [_, _], _ => rfl) fun cdv A outer s H E hr => ?_
 unfold a6l
 exact (a0j (a1e (a0w a2o (a0w dop_mul (a0w a2o (a0c (pv 0)) a0i) (a0c (pv 1))) a0i)))
theorem b2p : FnScope ["_law_cells", "_law_parts_here", "_law_cell", "_law_number", "_law_word"] ["_law_cells"] (defScope (top 24)) := ⟨rfl, rfl, rfl, by decide +kernel, rfl, by decide +kernel, by decide +kernel⟩
theorem a7n {f : Addr} {fd : FuncData} (F0 : Fun K "_law_parts" "_law_parts" (top 24) f fd) (hm : mg "_law_parts" = some (.ref f)) (a4p : Def P w K mg base 1 "_law_mixed" 2 a2t) : Def P w K mg base 2 "_law_parts" 1 a5q := by
 have S := b2p
 refine a3y (N := ["_law_cells", "_law_parts_here", "_law_cell", "_law_number", "_law_word"]) (ps := ["_law_cells"]) (k := 1) (g := a6k) F0 S hm (F0.binds fun _ _ _ _ _ _ us hl => match us, hl with | [_], _ => rfl) fun cdv A outer s H E hr => ?_
 unfold a6k
 exact (a0g (b0o (i := 1) S.nd rfl (by first | exact Or.inl rfl | exact Or.inr rfl) (a8w a0e))
  (a0g (a5d PassesOwn.never rfl (a2x (a0c (pv 0))) (a0t (a1d (i := 2) S.nd rfl (by first | exact Or.inl rfl | exact Or.inr rfl))) (a0g (a1m (i := 3) S.nd rfl (by first | exact Or.inl rfl | exact Or.inr rfl) (a0z a4p (hr.mono (by decide)) rfl rfl (a0b (a0c (pv 2)) (a0b a0i a0e))))
  (a0g (a1m (i := 4) S.nd rfl (by first | exact Or.inl rfl | exact Or.inr rfl) (a0w a0x (a1j a2y (a0w a2o (a0w a5a (a0c (pv 3)) a0i) a0i) (fun _ _ => rfl)) (a2u a2y a2k (a1f (a0w a2o (a0c (pv 3)) a0i)))))
  (a0g (a2d (a0m (a4d hr.units) (a0w a2o (a0w a5a (a0c (pv 3)) a0i) a0i) a0i (nomark _)) (a0j (a1m (i := 4) S.nd rfl (by first | exact Or.inl rfl | exact Or.inr rfl) (a0w a0x (a2u (a0c (pv 4)) a2k (a1f (a5u a0i))) (a1j a2y (a0w a2o (a0w a5a (a0c (pv 3)) a0i) a0i) (fun _ _ => rfl))))) a1g)
  (a0j (pd_app (i := 1) (pv 1) (a0c (pv 4))))))))
  (a0j (pd_retO (pv 1)))))
theorem sc__law_cost : FnScope ["_law_row", "_law_wide", "_law_is_last", "_law_cost_here"] ["_law_row", "_law_wide", "_law_is_last"] (defScope (top 25)) := ⟨rfl, rfl, rfl, by decide +kernel, rfl, by decide +kernel, by decide +kernel⟩
theorem a7b {f : Addr} {fd : FuncData} (F0 : Fun K "_law_cost" "_law_cost" (top 25) f fd) (hm : mg "_law_cost" = some (.ref f)) (z_len : mg "len" = none) (z_int : mg "int" = none) : Def P w K mg base 1 "_law_cost" 3 a4c := by
 have S := sc__law_cost
 refine a3y (N := ["_law_row", "_law_wide", "_law_is_last", "_law_cost_here"]) (ps := ["_law_row", "_law_wide", "_law_is_last"]) (k := 0) (g := a6z) F0 S hm (F0.binds fun _ _ _ _ _ _ us hl => match us, hl with | [_, _, _], _ => rfl) fun cdv A outer s H E hr => ?_
 unfold a6z
 exact (a0g (a1m (i := 3) S.nd rfl (by first | exact Or.inl rfl | exact Or.inr rfl) (a0w dop_pow (a0w b3i (a0c (pv 1)) (a0n a0r rfl z_len PySem.boot_len (a0b (a0c (pv 0)) a0e))) a0i))
  (a0g (a2d (PDW.t (a5o (a3s (a0c (pv 2))) (a4g (a0m b3j (a1j (a0c (pv 0)) (a5u a0i) (fun _ _ => rfl)) a2y rfl)))) (a0j (a1e (a0c (pv 3)))) a1g)
  (a0j (a1e (a0w a0x (a0c (pv 3)) (a1j (a3t (a0b a0i (a0b a0i a0e))) (a4u dcall_intS rfl z_int PyProof.Rows.boot_int (a0b (a5z b3j (a1j (a0c (pv 0)) (a5u a0i) (fun _ _ => rfl)) a2y rfl) a0e)) (fun _ _ => rfl)))))))
theorem a8h : FnScope ["_law_parts_here", "_law_wide", "_law_most", "_law_rows", "_law_row"] ["_law_parts_here", "_law_wide", "_law_most", "_law_rows"] (defScope (top 26)) := ⟨rfl, rfl, rfl, by decide +kernel, rfl, by decide +kernel, by decide +kernel⟩
theorem a5i {f : Addr} {fd : FuncData} (F0 : Fun K "_law_is_parting" "_law_is_parting" (top 26) f fd) (hm : mg "_law_is_parting" = some (.ref f)) (z_isinstance : mg "isinstance" = none) (z_list : mg "list" = none) (z_len : mg "len" = none) (z_str : mg "str" = none) : Def P w K mg base 1 "_law_is_parting" 4 a1k := by
 have S := a8h
 refine a3y (N := ["_law_parts_here", "_law_wide", "_law_most", "_law_rows", "_law_row"]) (ps := ["_law_parts_here", "_law_wide", "_law_most", "_law_rows"]) (k := 0) (g := a1q) F0 S hm (F0.binds fun _ _ _ _ _ _ us hl => match us, hl with | [_, _, _, _], _ => rfl) fun cdv A outer s H E hr => ?_
 unfold a1q a2i
 exact (a0g (a2d (PDW.t (a5o (a4h (a3s (a2z rfl (a7r _) rfl z_isinstance rfl z_list PyProof.Rows.boot_list (a0c (pv 3))))) (a4g (a0m b2a (a0n a0r rfl z_len PySem.boot_len (a0b (a0c (pv 3)) a0e)) (a0c (pv 2)) (nomark _))))) (a0j (a1e a6v)) a1g)
  (a0g (a5d PassesOwn.never rfl (a2x (a0c (pv 3))) (a0t (a1d (i := 4) S.nd rfl (by first | exact Or.inl rfl | exact Or.inr rfl))) (a0j (a2d (PDW.t (a5o (a4h (a3s (a2z rfl (kit_str _) rfl z_isinstance rfl z_str PyProof.Rows.boot_str (a0c (pv 4))))) (a5o (a0m (a4d hr.units) (a0c (pv 4)) a2y (nomark _)) (a4g (a0m b2a (a0n a0r rfl z_len PySem.boot_len (a0b (a0c (pv 4)) a0e)) (a0c (pv 1)) (nomark _)))))) (a0j (a1e a6v)) a1g)))
  (a0j (a1e (a5z (a4d hr.units) (a5r PySem.F.slot_str_join PySem.F.type_str_join a6n a2y (a0b (a0c (pv 3)) a0e)) (a5r PySem.F.slot_str_join PySem.F.type_str_join a6n a2y (a0b (a0c (pv 0)) a0e)) (nomark _))))))
theorem a9s : FnScope ["_law_parts_here", "_law_most", "_law_table", "_law_some", "_law_one"] ["_law_parts_here", "_law_most", "_law_table"] (defScope (top 27)) := ⟨rfl, rfl, rfl, by decide +kernel, rfl, by decide +kernel, by decide +kernel⟩
theorem a6e {f : Addr} {fd : FuncData} (F0 : Fun K "_law_is_table" "_law_is_table" (top 27) f fd) (hm : mg "_law_is_table" = some (.ref f)) (z_isinstance : mg "isinstance" = none) (z_list : mg "list" = none) (z_len : mg "len" = none) (z_int : mg "int" = none) (z_bool : mg "bool" = none) : Def P w K mg base 1 "_law_is_table" 3 a1y := by
 have S := a9s
 refine a3y (N := ["_law_parts_here", "_law_most", "_law_table", "_law_some", "_law_one"]) (ps := ["_law_parts_here", "_law_most", "_law_table"]) (k := 0) (g := a2h) F0 S hm (F0.binds fun _ _ _ _ _ _ us hl => match us, hl with | [_, _, _], _ => rfl) fun cdv A outer s H E hr => ?_
 unfold a2h a1t a3b
 exact (a0g (a2d (PDW.t (a5o (a4h (a3s (a2z rfl (a7r _) rfl z_isinstance rfl z_list PyProof.Rows.boot_list (a0c (pv 2))))) (a4g (a0m (a7x hr.units) (a0n a0r rfl z_len PySem.boot_len (a0b (a0c (pv 2)) a0e)) (a0w a0x (a0c (pv 1)) a0i) (nomark _))))) (a0j (a1e a6v)) a1g)
  (a0g (a5d PassesOwn.never rfl (a2x (a0c (pv 2))) (a0t (a1d (i := 3) S.nd rfl (by first | exact Or.inl rfl | exact Or.inr rfl))) (a0g (a2d (PDW.t (a5o (a4h (a3s (a2z rfl (a7r _) rfl z_isinstance rfl z_list PyProof.Rows.boot_list (a0c (pv 3))))) (a4g (a0m (a7x hr.units) (a0n a0r rfl z_len PySem.boot_len (a0b (a0c (pv 3)) a0e)) (a0w a0x (a0n a0r rfl z_len PySem.boot_len (a0b (a0c (pv 0)) a0e)) a0i) (nomark _))))) (a0j (a1e a6v)) a1g)
  (a0j (a5d PassesOwn.never rfl (a2x (a0c (pv 3))) (a0t (a1d (i := 4) S.nd rfl (by first | exact Or.inl rfl | exact Or.inr rfl))) (a0j (a2d (PDW.t (a8v (a0m a5p (a0c (pv 4)) a3l (nomark _)) (a8j (PDW.t (a5o (a4h (a3s (a2z rfl (kit_int _) rfl z_isinstance rfl z_int PyProof.Rows.boot_int (a0c (pv 4))))) (a4g (a3s (a2z rfl (b2z _) rfl z_isinstance rfl z_bool PyProof.Rows.boot_bool (a0c (pv 4)))))))))) (a0j (a1e a6v)) a1g))))))
  (a0j (a1e (a5z (a4d hr.units) (a1j (a1j (a0c (pv 2)) a0i (fun _ _ => rfl)) a0i (fun _ _ => rfl)) a0i (nomark _))))))
theorem sc__law_lets : FnScope ["_law_parts_here", "_law_wide", "_law_most", "_law_rows", "_law_table", "_law_i", "_law_lasts", "_law_costs", "_law_j", "_law_row", "_law_cost_here", "_law_k", "_law_here", "_law_there"] ["_law_parts_here", "_law_wide", "_law_most", "_law_rows", "_law_table"] (defScope (top 28)) := ⟨rfl, rfl, rfl, by decide +kernel, rfl, by decide +kernel, by decide +kernel⟩
theorem a7a {f : Addr} {fd : FuncData} (F0 : Fun K "_law_lets" "_law_lets" (top 28) f fd) (hm : mg "_law_lets" = some (.ref f)) (a5i : Def P w K mg base 1 "_law_is_parting" 4 a1k) (a6e : Def P w K mg base 1 "_law_is_table" 3 a1y) (a7b : Def P w K mg base 1 "_law_cost" 3 a4c) (z_len : mg "len" = none) (z_range : mg "range" = none) (z_enumerate : mg "enumerate" = none) (z_min : mg "min" = none) (z_sum : mg "sum" = none) : Def P w K mg base 2 "_law_lets" 5 a4m := by
 have S := sc__law_lets
 refine a3y (N := ["_law_parts_here", "_law_wide", "_law_most", "_law_rows", "_law_table", "_law_i", "_law_lasts", "_law_costs", "_law_j", "_law_row", "_law_cost_here", "_law_k", "_law_here", "_law_there"]) (ps := ["_law_parts_here", "_law_wide", "_law_most", "_law_rows", "_law_table"]) (k := 1) (g := a4j) F0 S hm (F0.binds fun _ _ _ _ _ _ us hl => match us, hl with | [_, _, _, _, _], _ => rfl) fun cdv A outer s H E hr => ?_
 unfold a4j a3i a3j a1o
 exact (a0g (a2d (PDW.t (a5o (a4h (a3s (a0z a5i (hr.mono (by decide)) rfl rfl (a0b (a0c (pv 0)) (a0b (a0c (pv 1)) (a0b (a0c (pv 2)) (a0b (a0c (pv 3)) a0e))))))) (a4g (a4h (a3s (a0z a6e (hr.mono (by decide)) rfl rfl (a0b (a0c (pv 0)) (a0b (a0c (pv 2)) (a0b (a0c (pv 4)) a0e))))))))) (a0j (a1e a6v)) a1g)
  (a0g (a5d PassesOwn.never rfl (a9x rfl z_range (a0b (a0n a0r rfl z_len PySem.boot_len (a0b (a0c (pv 0)) a0e)) a0e)) (a0t (a1d (i := 5) S.nd rfl (by first | exact Or.inl rfl | exact Or.inr rfl))) (a0j (a5d PassesOwn.never rfl (pdi_rng2 rfl z_range (a0b (a0w a0x (a0c (pv 5)) a0i) (a0b (a0w a0x (a0n a0r rfl z_len PySem.boot_len (a0b (a0c (pv 0)) a0e)) a0i) a0e))) (a0t (a1d (i := 8) S.nd rfl (by first | exact Or.inl rfl | exact Or.inr rfl))) (a0g (a1m (i := 9) S.nd rfl (by first | exact Or.inl rfl | exact Or.inr rfl) (a5r PySem.F.slot_str_join PySem.F.type_str_join a6n a2y (a0b (a2u (a0c (pv 0)) (a1f (a0c (pv 5))) (a1f (a0c (pv 8)))) a0e)))
  (a0j (a2d (a0m b1b (a0n a0r rfl z_len PySem.boot_len (a0b (a0c (pv 9)) a0e)) (a0c (pv 1)) (nomark _)) (a0g (a1m (i := 10) S.nd rfl (by first | exact Or.inl rfl | exact Or.inr rfl) (a0z a7b (hr.mono (by decide)) rfl rfl (a0b (a0c (pv 9)) (a0b (a0c (pv 1)) (a0b (a5z (a4d hr.units) (a0c (pv 8)) (a0n a0r rfl z_len PySem.boot_len (a0b (a0c (pv 0)) a0e)) (nomark _)) a0e)))))
  (a0j (a5d PassesOwn.never rfl (a9x rfl z_range (a0b (a0c (pv 2)) a0e)) (a0t (a1d (i := 11) S.nd rfl (by first | exact Or.inl rfl | exact Or.inr rfl))) (a0g (a1m (i := 12) S.nd rfl (by first | exact Or.inl rfl | exact Or.inr rfl) (a1j (a1j (a0c (pv 4)) (a0c (pv 11)) (fun _ _ => rfl)) (a0c (pv 5)) (fun _ _ => rfl)))
  (a0g (a1m (i := 13) S.nd rfl (by first | exact Or.inl rfl | exact Or.inr rfl) (a1j (a1j (a0c (pv 4)) (a0w a0x (a0c (pv 11)) a0i) (fun _ _ => rfl)) (a0c (pv 8)) (fun _ _ => rfl)))
  (a0j (a2d (PDW.t (a8v (a0m a5p (a0c (pv 12)) a3l (nomark _)) (a8j (PDW.t (a5o (a0m b1c (a0c (pv 13)) a3l (nomark _)) (a4g (a0m b2a (a0c (pv 13)) (a0w a0x (a0c (pv 12)) (a0c (pv 10))) (nomark _)))))))) (a0j (a1e a6v)) a1g))))))) a1g))))))
  (a0g (a7q (iy := 6) (fr := []) (tn := ["_law_some"]) rfl rfl (by decide +kernel) (by rfl) b0f (a4i (by rfl)) a6m (by decide +kernel) (a2x (a2u (a0c (pv 4)) (a1f a0i) a2k)) (fun C s3 H3 fp => (a0t (a1d (i := 0) (show (["_law_some"] : List Str).Nodup from by decide +kernel) rfl (by first | exact Or.inl rfl | exact Or.inr rfl)))) (fun C s3 H3 fp => (a9w (a0m a5p (a1j (a0c (pv 0)) (a5u a0i) (fun _ _ => rfl)) a3l (nomark _)))) (fun C s3 H3 fp => (a1j (a0c (pv 0)) (a5u a0i) (fun _ _ => rfl))) S.nd rfl (by first | exact Or.inl rfl | exact Or.inr rfl))
  (a0g (a7q (iy := 7) (fr := [(1, "_law_wide"), (3, "_law_rows")]) (tn := ["_law_k", "_law_row"]) rfl rfl (by decide +kernel) (by rfl) (a8f (n := "_law_wide") (by rfl) (a8f (n := "_law_rows") (by rfl) b0f)) (a4i (by rfl)) (a7g rfl rfl rfl ⟨_, rfl⟩ (a7g rfl rfl rfl ⟨_, rfl⟩ a6m)) (by decide +kernel) (pdi_enum rfl z_enumerate (a0b (a0c (pv 3)) a0e)) (fun C s3 H3 fp => (b0n rfl (a3k (a0t (a1d (i := 0) (show (["_law_k", "_law_row", "_law_wide", "_law_rows"] : List Str).Nodup from by decide +kernel) rfl (by first | exact Or.inl rfl | exact Or.inr rfl))) (a3k (a0t (a1d (i := 1) (show (["_law_k", "_law_row", "_law_wide", "_law_rows"] : List Str).Nodup from by decide +kernel) rfl (by first | exact Or.inl rfl | exact Or.inr rfl))) a8k)))) (fun C s3 H3 fp => a4t) (fun C s3 H3 fp => (a0z a7b (hr.mono (by decide)) rfl rfl (a0b (a0c (pv 1)) (a0b (a0c (pv 2)) (a0b (a5z (a4d hr.units) (a0w a0x (a0c (pv 0)) a0i) (a0n a0r rfl z_len PySem.boot_len (a0b (a0c (pv 3)) a0e)) (nomark _)) a0e))))) S.nd rfl (by first | exact Or.inl rfl | exact Or.inr rfl))
  (a0j (a1e (pd_and (a5z (a7x hr.units) (a0c (pv 6)) (a3t a0e) (nomark _)) (b1s (a5z (a4d hr.units) (a0n (dcall_minM rfl) rfl z_min PyProof.Rows.boot_min (a0b (a0c (pv 6)) a0e)) (a0n (a9g rfl) rfl z_sum PyProof.Rows.boot_sum (a0b (a0c (pv 7)) a0e)) (nomark _))))))))))
theorem a8g : FnScope ["_law_parts_here", "_law_rows", "_law_number", "_law_at", "_law_way", "_law_cut"] ["_law_parts_here", "_law_rows", "_law_number"] (defScope (top 29)) := ⟨rfl, rfl, rfl, by decide +kernel, rfl, by decide +kernel, by decide +kernel⟩
theorem a5h {f : Addr} {fd : FuncData} (F0 : Fun K "_law_other_rows" "_law_other_rows" (top 29) f fd) (hm : mg "_law_other_rows" = some (.ref f)) (z_len : mg "len" = none) (z_tuple : mg "tuple" = none) (z_list : mg "list" = none) : Def P w K mg base 1 "_law_other_rows" 3 a3c := by
 have S := a8g
 refine a3y (N := ["_law_parts_here", "_law_rows", "_law_number", "_law_at", "_law_way", "_law_cut"]) (ps := ["_law_parts_here", "_law_rows", "_law_number"]) (k := 0) (g := a1b) F0 S hm (F0.binds fun _ _ _ _ _ _ us hl => match us, hl with | [_, _, _], _ => rfl) fun cdv A outer s H E hr => ?_
 unfold a1b
 exact (a0g (a1m (i := 3) S.nd rfl (by first | exact Or.inl rfl | exact Or.inr rfl) (a0w a2o (a0w a5a (a0c (pv 2)) a0i) (a0n a0r rfl z_len PySem.boot_len (a0b (a0c (pv 1)) a0e))))
  (a0g (a1m (i := 4) S.nd rfl (by first | exact Or.inl rfl | exact Or.inr rfl) (a0w a2o (a0c (pv 2)) a0i))
  (a0g (a2d (a0m (a4d hr.units) (a0c (pv 4)) a0i (nomark _)) (a0j (a1e (a1j (a3t (a0b (a4u a8b rfl z_tuple PyProof.Rows.boot_tuple (a0b (a0c (pv 1)) a0e)) (a0b a3l (a0b (a5r PySem.F.slot_str_join PySem.F.type_str_join a6n a2y (a0b (a0c (pv 1)) a0e)) (a0b (a3t (a0b (a0c (pv 1)) a0e)) a0e))))) (a0w a2o (a0w a5a (a0c (pv 2)) a0i) a0i) (fun _ _ => rfl)))) a1g)
  (a0g (a2d (a0m (a4d hr.units) (a0c (pv 4)) a0i (nomark _)) (a0j (a1e (a0w a0x (a0w a0x (a2u (a0c (pv 1)) a2k (a1f (a0c (pv 3)))) (a3t (a0b (a1j (a3t (a0b a3l (a0b (a3t (a0b (a1j (a0c (pv 1)) (a0c (pv 3)) (fun _ _ => rfl)) a0e)) (a0b (a0w a0x (a1j (a0c (pv 1)) (a0c (pv 3)) (fun _ _ => rfl)) a2y) (a0b (a0w a0x a2y (a1j (a0c (pv 1)) (a0c (pv 3)) (fun _ _ => rfl))) (a0b a2y a0e)))))) (a0w a2o (a0w a5a (a0c (pv 2)) a0i) a0i) (fun _ _ => rfl)) a0e))) (a2u (a0c (pv 1)) (a1f (a0w a0x (a0c (pv 3)) a0i)) a2k)))) a1g)
  (a0g (a2d (a0m (a4d hr.units) (a0c (pv 4)) a0i (nomark _)) (a0j (a1e (a0w a0x (a2u (a0c (pv 1)) a2k (a1f (a0c (pv 3)))) (a2u (a0c (pv 1)) (a1f (a0w a0x (a0c (pv 3)) a0i)) a2k)))) a1g)
  (a0g (a2d (a0m (a4d hr.units) (a0c (pv 4)) a0i (nomark _)) (a0j (a1e (a0w a0x (a0w a0x (a2u (a0c (pv 1)) a2k (a1f (a0c (pv 3)))) (a3t (a0b a2y a0e))) (a2u (a0c (pv 1)) (a1f (a0c (pv 3))) a2k)))) a1g)
  (a0g (a2d (a0m (a4d hr.units) (a0c (pv 4)) a0i (nomark _)) (a0j (a1e (a0w a0x (a2u (a0c (pv 1)) (a1f (a0c (pv 3))) a2k) (a2u (a0c (pv 1)) a2k (a1f (a0c (pv 3))))))) a1g)
  (a0g (a2d (a0m b2a (a0c (pv 4)) a0i (nomark _)) (a0j (a1e (a4u a6t rfl z_list PyProof.Rows.boot_list (a0b (a0c (pv 1)) a0e)))) a1g)
  (a0g (a1m (i := 5) S.nd rfl (by first | exact Or.inl rfl | exact Or.inr rfl) (a0w a0x a0i (a0w a2o (a0w a5a (a0c (pv 2)) a0i) (a0n a0r rfl z_len PySem.boot_len (a0b (a0c (pv 0)) a0e)))))
  (a0j (a1e (a5k (fr := []) (tn := ["_law_some"]) rfl rfl (by decide +kernel) (by rfl) (fun _ _ h => h) (a4i (by rfl)) a6m (by decide +kernel) (a2x (a3t (a0b (a2u (a0c (pv 0)) a2k (a1f (a0c (pv 5)))) (a0b (a2u (a0c (pv 0)) (a1f (a0c (pv 5))) a2k) a0e)))) (fun C s3 H3 fp => (a0t (a1d (i := 0) (show (["_law_some"] : List Str).Nodup from by decide +kernel) rfl (by first | exact Or.inl rfl | exact Or.inr rfl)))) (fun C s3 H3 fp => (a9w (a0m (a7x hr.units) (a0c (pv 0)) (a3t a0e) (nomark _)))) (fun C s3 H3 fp => (a5r PySem.F.slot_str_join PySem.F.type_str_join a6n a2y (a0b (a0c (pv 0)) a0e)))))))))))))))
theorem a7z : FnScope ["_law_table", "_law_number", "_law_some", "_law_k", "_law_j", "_law_way"] ["_law_table", "_law_number"] (defScope (top 30)) := ⟨rfl, rfl, rfl, by decide +kernel, rfl, by decide +kernel, by decide +kernel⟩
theorem a8a {f : Addr} {fd : FuncData} (F0 : Fun K "_law_other_table" "_law_other_table" (top 30) f fd) (hm : mg "_law_other_table" = some (.ref f)) (z_list : mg "list" = none) (z_len : mg "len" = none) (z_tuple : mg "tuple" = none) : SL.DefS P w K mg base 1 "_law_other_table" 2 a2j := by
 have S := a7z
 refine SL.defs_of (N := ["_law_table", "_law_number", "_law_some", "_law_k", "_law_j", "_law_way"]) (ps := ["_law_table", "_law_number"]) (k := 0) (g := a0u) F0 S hm (F0.binds fun _ _ _ _ _ _ us hl => match us, hl with | [_, _], _ => rfl) fun cdv A outer s H E hr => ?_
 unfold a0u
 exact (a5v (ss_compN (iy := 2) (x := "_law_one") rfl rfl (by decide +kernel) (by rfl) (fun _ _ h => h) (a4i (by rfl)) (by decide +kernel) (a2x (a0c (pv 0))) (fun C s3 H3 fp => (a0t (a1d (i := 0) (show (["_law_one"] : List Str).Nodup from by decide +kernel) rfl (by first | exact Or.inl rfl | exact Or.inr rfl)))) (fun C s3 H3 fp => a4t) (fun C s3 H3 fp => (pdn_list rfl rfl z_list (a0b (a0c (pv 0)) a0e))) S.nd rfl (by first | exact Or.inl rfl | exact Or.inr rfl))
  (a5v (ss_set (i := 3) S.nd rfl (by first | exact Or.inl rfl | exact Or.inr rfl) (b2f (a0w a2o (a0w a5a (a0c (pv 1)) a0i) (a0n a0r rfl z_len PySem.boot_len (a0b (a0c (pv 2)) a0e)))))
  (a5v (ss_set (i := 4) S.nd rfl (by first | exact Or.inl rfl | exact Or.inr rfl) (b2f (a0w a2o (a0w a5a (a0c (pv 1)) a0i) (a0n a0r rfl z_len PySem.boot_len (a0b (a1j (a0c (pv 2)) (a0c (pv 3)) (fun _ _ => rfl)) a0e)))))
  (a5v (ss_set (i := 5) S.nd rfl (by first | exact Or.inl rfl | exact Or.inr rfl) (a8r (a0w a2o (a0c (pv 1)) a0i)))
  (a5v (ss_if (a8s (a0m dop_lt (a0c (pv 5)) a0i (nomark _))) (a7d (ss_if (a8s (a0m b1c (a1j (a1j (a0c (pv 2)) (a0c (pv 3)) (fun _ _ => rfl)) (a0c (pv 4)) (fun _ _ => rfl)) a3l (nomark _))) (a7d (b2i (sx_ix (a6q (pv 2)) (a6q (pv 3)) (fun _ _ => rfl)) (a6q (pv 4)) (a8r (a1j (a3t (a0b a0i (a0b (a5u a0i) (a0b a0i (a0b (a0w dop_pow a0i a0i) a0e))))) (a0w a2o (a0w a5a (a0c (pv 1)) a0i) a0i) (fun _ _ => rfl))))) (a7d (b2i (sx_ix (a6q (pv 2)) (a6q (pv 3)) (fun _ _ => rfl)) (a6q (pv 4)) (b2f (a0w a0x (a1j (a1j (a0c (pv 2)) (a0c (pv 3)) (fun _ _ => rfl)) (a0c (pv 4)) (fun _ _ => rfl)) (a1j (a3t (a0b a0i (a0b (a5u a0i) (a0b a0i (a0b (a5u (a0w dop_pow a0i a0i)) a0e))))) (a0w a2o (a0w a5a (a0c (pv 1)) a0i) a0i) (fun _ _ => rfl)))))))) b0g)
  (a5v (ss_if (a8s (a0m (a4d hr.units) (a0c (pv 5)) a0i (nomark _))) (a7d (b2i (sx_ix (a6q (pv 2)) (a6q (pv 3)) (fun _ _ => rfl)) (a6q (pv 4)) (a8r a3l))) b0g)
  (a5v (ss_if (a8s (a0m (a4d hr.units) (a0c (pv 5)) a0i (nomark _))) (a7d (b2i (sx_ix (a6q (pv 2)) (a6q (pv 3)) (fun _ _ => rfl)) (a6q (pv 4)) (a8r (a1j (a3t (a0b a6v (a0b a6v (a0b a2y (a0b (pd_tup (a0b a0i a0e)) a0e))))) (a0w a2o (a0w a5a (a0c (pv 1)) a0i) a0i) (fun _ _ => rfl))))) b0g)
  (a5v (ss_if (a8s (a0m (a4d hr.units) (a0c (pv 5)) a0i (nomark _))) (a7d (ss_retF (a1j (a3t (a0b (a2u (a0c (pv 2)) a2k (a1f (a5u a0i))) (a0b (a0w a0x (a0c (pv 2)) (a3t (a0b (a4u a6t rfl z_list PyProof.Rows.boot_list (a0b (a1j (a0c (pv 2)) (a0c (pv 3)) (fun _ _ => rfl)) a0e)) a0e))) (a0b (a4u a8b rfl z_tuple PyProof.Rows.boot_tuple (a0b (a0c (pv 2)) a0e)) (a0b a3l (a0b (a3t a0e) a0e)))))) (a0w a2o (a0w a5a (a0c (pv 1)) a0i) a0i) (fun _ _ => rfl)))) b0g)
  (a5v (ss_if (a8s (a0m (a4d hr.units) (a0c (pv 5)) a0i (nomark _))) (a7d (ss_setI (i := 2) (pv 2) (a6q (pv 3)) (sx_ix (sx_lst (b2r (sx_newL' (pdn_cut (a1j (a0c (pv 2)) (a0c (pv 3)) (fun _ _ => rfl)) a2k (a1f (a5u a0i)))) (b2r (sx_newL' (pdn_cat (a1j (a0c (pv 2)) (a0c (pv 3)) (fun _ _ => rfl)) (a3t (a0b a0i a0e)))) (b2r (b2f (a4u a8b rfl z_tuple PyProof.Rows.boot_tuple (a0b (a1j (a0c (pv 2)) (a0c (pv 3)) (fun _ _ => rfl)) a0e))) (b2r (a8r a3l) sa_nil))))) (a8r (a0w a2o (a0w a5a (a0c (pv 1)) a0i) a0i)) (fun _ _ => rfl)))) b0g)
  (a7d (ss_retF (a0c (pv 2)))))))))))))
theorem sc__law_told : FnScope ["_law_words", "_law_wide", "_law_most", "_law_found"] ["_law_words", "_law_wide", "_law_most"] (defScope (top 31)) := ⟨rfl, rfl, rfl, by decide +kernel, rfl, by decide +kernel, by decide +kernel⟩
theorem a8d {f : Addr} {fd : FuncData} (F0 : Fun K "_law_told" "_law_told" (top 31) f fd) (hm : mg "_law_told" = some (.ref f)) {C_NoParting : Addr} (m_NoParting : mg "NoParting" = some (.ref C_NoParting)) (x_NoParting : PySem.W.excIn K C_NoParting [.type "ValueError", .type "Exception", .type "BaseException", .type "object"] "ValueError.__new__" = true) (b3k : DefX P w K mg base 4 "parted" 3 a6o) : Def P w K mg base 5 "_law_told" 3 a4l := by
 have S := sc__law_told
 refine a3y (N := ["_law_words", "_law_wide", "_law_most", "_law_found"]) (ps := ["_law_words", "_law_wide", "_law_most"]) (k := 4) (g := a6b) F0 S hm (F0.binds fun _ _ _ _ _ _ us hl => match us, hl with | [_, _, _], _ => rfl) fun cdv A outer s H E hr => ?_
 unfold a6b
 exact (a0g (a1m (i := 3) S.nd rfl (by first | exact Or.inl rfl | exact Or.inr rfl) a3l)
  (a0g (pd_try_no x_NoParting PySem.F.excBase_ValueError rfl rfl rfl m_NoParting (fun pn xe Ex hps => (a0j (a1m (i := 3) S.nd rfl (by first | exact Or.inl rfl | exact Or.inr rfl) (pd_callX b3k (hr.mono (by decide)) hps (fun _ _ h => h) rfl rfl (a0b (a0c (pv 0)) (a0b (a0c (pv 1)) (a0b (a0c (pv 2)) a0e))))))) (fun pn ea => (a0j (a1m (i := 3) S.nd rfl (by first | exact Or.inl rfl | exact Or.inr rfl) a3l))))
  (a0j (a1e (a0c (pv 3))))))
theorem sc_law : FnScope ["_law_script", "_law_parts_here", "_law_words", "_law_wide", "_law_most", "_law_rows", "_law_table", "_law_due", "_law_handed", "_law_k", "_law_cell", "_law_number", "_law_other_rows_here", "_law_other_table_here", "_law_found", "_law_right"] ["_law_script"] (defScope (top 32)) := ⟨rfl, rfl, rfl, by decide +kernel, rfl, by decide +kernel, by decide +kernel⟩
theorem fn_law {f : Addr} {fd : FuncData} (F0 : Fun K "law" "law" (top 32) f fd) (a3n : Def P w K mg base 1 "_law_cell_at" 2 a2g) (a7n : Def P w K mg base 2 "_law_parts" 1 a5q) (a8d : Def P w K mg base 5 "_law_told" 3 a4l) (a3z : Def P w K mg base 3 "parting_table" 3 a1x) (a7a : Def P w K mg base 2 "_law_lets" 5 a4m) (a4p : Def P w K mg base 1 "_law_mixed" 2 a2t) (a5h : Def P w K mg base 1 "_law_other_rows" 3 a3c) (d__law_other_table : Def P w K mg base 1 "_law_other_table" 2 a2s) (a5n : Def P w K mg base 4 "lets_parting" 5 a2f) (z_len : mg "len" = none) (z_max : mg "max" = none) (z_list : mg "list" = none) (z_isinstance : mg "isinstance" = none) (z_bool : mg "bool" = none) (z_enumerate : mg "enumerate" = none) : FnOk P w K mg base CX0 6 f fd ["_law_script"] (spD K 1 F_law) := by
 have S := sc_law
 refine fn_ofD (N := ["_law_script", "_law_parts_here", "_law_words", "_law_wide", "_law_most", "_law_rows", "_law_table", "_law_due", "_law_handed", "_law_k", "_law_cell", "_law_number", "_law_other_rows_here", "_law_other_table_here", "_law_found", "_law_right"]) (ps := ["_law_script"]) (k := 5) (g := g_law) F0 S fun cdv A outer s H E hr => ?_
 unfold g_law b3q
 exact (a0g (a1m (i := 1) S.nd rfl (by first | exact Or.inl rfl | exact Or.inr rfl) (a0z a7n (hr.mono (by decide)) rfl rfl (a0b (a0w a0x (a3t (a0b (a0z a3n (hr.mono (by decide)) rfl rfl (a0b (a0c (pv 0)) (a0b a0i a0e))) a0e)) (a2u (a0c (pv 0)) (a1f a0i) (a1f a0i))) a0e)))
  (a0g (a1m (i := 2) S.nd rfl (by first | exact Or.inl rfl | exact Or.inr rfl) (a5r PySem.F.slot_str_join PySem.F.type_str_join a6n a2y (a0b (a0c (pv 1)) a0e)))
  (a0g (a1m (i := 3) S.nd rfl (by first | exact Or.inl rfl | exact Or.inr rfl) (a0w a0x (a0n (dcall_maxM rfl) rfl z_max PyProof.Rows.boot_max (a0b (a5k (fr := []) (tn := ["_law_part"]) rfl rfl (by decide +kernel) (by rfl) (fun _ _ h => h) (a4i (by rfl)) a6m (by decide +kernel) (a2x (a0c (pv 1))) (fun C s3 H3 fp => (a0t (a1d (i := 0) (show (["_law_part"] : List Str).Nodup from by decide +kernel) rfl (by first | exact Or.inl rfl | exact Or.inr rfl)))) (fun C s3 H3 fp => a4t) (fun C s3 H3 fp => (a0n a0r rfl z_len PySem.boot_len (a0b (a0c (pv 0)) a0e)))) a0e)) (a0w a2o (a0z a3n (hr.mono (by decide)) rfl rfl (a0b (a0c (pv 0)) (a0b a0i a0e))) a0i)))
  (a0g (a1m (i := 4) S.nd rfl (by first | exact Or.inl rfl | exact Or.inr rfl) (a0w a0x a0i (a0w a2o (a0z a3n (hr.mono (by decide)) rfl rfl (a0b (a0c (pv 0)) (a0b a0i a0e))) a0i)))
  (a0g (a1m (i := 5) S.nd rfl (by first | exact Or.inl rfl | exact Or.inr rfl) (a0z a8d (hr.mono (by decide)) rfl rfl (a0b (a0c (pv 2)) (a0b (a0c (pv 3)) (a0b (a0c (pv 4)) a0e)))))
  (a0g (a1m (i := 6) S.nd rfl (by first | exact Or.inl rfl | exact Or.inr rfl) (a0z a3z (hr.mono (by decide)) rfl rfl (a0b (a0c (pv 2)) (a0b (a0c (pv 3)) (a0b (a0c (pv 4)) a0e)))))
  (a0g (a1m (i := 7) S.nd rfl (by first | exact Or.inl rfl | exact Or.inr rfl) (a5z a5p (a0c (pv 5)) a3l (nomark _)))
  (a0g (a2d (a0m b1c (a0c (pv 5)) a3l (nomark _)) (a0j (a1m (i := 5) S.nd rfl (by first | exact Or.inl rfl | exact Or.inr rfl) (a3t (a0b (a0c (pv 2)) a0e)))) a1g)
  (a0g (a2d (a0m (a7x hr.units) (a0z a7a (hr.mono (by decide)) rfl rfl (a0b (a0c (pv 1)) (a0b (a0c (pv 3)) (a0b (a0c (pv 4)) (a0b (a0c (pv 5)) (a0b (a0c (pv 6)) a0e)))))) (a0c (pv 7)) (nomark _)) (a0j (a1e a6v)) a1g)
  (a0g (a1m (i := 8) S.nd rfl (by first | exact Or.inl rfl | exact Or.inr rfl) (a3t (a0b (a4u a6t rfl z_list PyProof.Rows.boot_list (a0b (a0c (pv 5)) a0e)) (a0b (a5k (fr := []) (tn := ["_law_one"]) rfl rfl (by decide +kernel) (by rfl) (fun _ _ h => h) (a4i (by rfl)) a6m (by decide +kernel) (a2x (a0c (pv 6))) (fun C s3 H3 fp => (a0t (a1d (i := 0) (show (["_law_one"] : List Str).Nodup from by decide +kernel) rfl (by first | exact Or.inl rfl | exact Or.inr rfl)))) (fun C s3 H3 fp => a4t) (fun C s3 H3 fp => (a4u a6t rfl z_list PyProof.Rows.boot_list (a0b (a0c (pv 0)) a0e)))) a0e))))
  (a0g (a5d PassesOwn.never rfl (pdi_enum rfl z_enumerate (a0b (a0w a0x (a3t (a0b (a0z a3n (hr.mono (by decide)) rfl rfl (a0b (a0c (pv 0)) (a0b a0i a0e))) a0e)) (a2u (a0c (pv 0)) (a1f a0i) (a1f a0i))) a0e)) (b0n rfl (a3k (a0t (a1d (i := 9) S.nd rfl (by first | exact Or.inl rfl | exact Or.inr rfl))) (a3k (a0t (a1d (i := 10) S.nd rfl (by first | exact Or.inl rfl | exact Or.inr rfl))) a8k))) (a0g (a1m (i := 11) S.nd rfl (by first | exact Or.inl rfl | exact Or.inr rfl) (a0z a4p (hr.mono (by decide)) rfl rfl (a0b (a0w a0x (a0c (pv 10)) (a0c (pv 9))) (a0b a0i a0e))))
  (a0g (a1m (i := 12) S.nd rfl (by first | exact Or.inl rfl | exact Or.inr rfl) (a0z a5h (hr.mono (by decide)) rfl rfl (a0b (a0c (pv 1)) (a0b (a0c (pv 5)) (a0b (a0c (pv 11)) a0e)))))
  (a0g (a1m (i := 13) S.nd rfl (by first | exact Or.inl rfl | exact Or.inr rfl) (a0z d__law_other_table (hr.mono (by decide)) rfl rfl (a0b (a0c (pv 6)) (a0b (a0z a4p (hr.mono (by decide)) rfl rfl (a0b (a0w a0x (a0c (pv 10)) (a0c (pv 9))) (a0b a0i a0e))) a0e))))
  (a0g (a2d (a0m (a4d hr.units) (a0w a2o (a0c (pv 11)) a0i) a0i (nomark _)) (a0j (a1m (i := 12) S.nd rfl (by first | exact Or.inl rfl | exact Or.inr rfl) (a4u a6t rfl z_list PyProof.Rows.boot_list (a0b (a0c (pv 5)) a0e)))) a1g)
  (a0g (a1m (i := 14) S.nd rfl (by first | exact Or.inl rfl | exact Or.inr rfl) (a0z a5n (hr.mono (by decide)) rfl rfl (a0b (a0c (pv 2)) (a0b (a0c (pv 3)) (a0b (a0c (pv 4)) (a0b (a0c (pv 12)) (a0b (a0c (pv 13)) a0e)))))))
  (a0g (a1m (i := 15) S.nd rfl (by first | exact Or.inl rfl | exact Or.inr rfl) (a0z a7a (hr.mono (by decide)) rfl rfl (a0b (a0c (pv 1)) (a0b (a0c (pv 3)) (a0b (a0c (pv 4)) (a0b (a0c (pv 12)) (a0b (a0c (pv 13)) a0e)))))))
  (a0g (a2d (PDW.t (a5o (a4h (a3s (a2z rfl (b2z _) rfl z_isinstance rfl z_bool PyProof.Rows.boot_bool (a0c (pv 14))))) (a4g (a0m (a7x hr.units) (a0c (pv 14)) (a0c (pv 15)) (nomark _))))) (a0j (a1e a6v)) a1g)
  (a0j (a2d (PDW.t (a5o (a0m (a7x hr.units) (a0z a5n (hr.mono (by decide)) rfl rfl (a0b (a0c (pv 2)) (a0b (a0c (pv 3)) (a0b (a0c (pv 4)) (a0b (a1j (a0c (pv 8)) a0i (fun _ _ => rfl)) (a0b (a1j (a0c (pv 8)) a0i (fun _ _ => rfl)) a0e)))))) (a0c (pv 7)) (nomark _)) (a4g (a0m (a7x hr.units) (a0c (pv 8)) (a3t (a0b (a0c (pv 5)) (a0b (a0c (pv 6)) a0e))) (nomark _))))) (a0j (a1e a6v)) a1g))))))))))
  (a0j (a1e a6v)))))))))))))
end
theorem all_mk {l : PySem.W.OpenLaw} {w : World} {K : PySem.W.Frag} {h : Heap} {mg : Str -> Option Value} {fa f0 f1 f2 f3 f4 f5 f6 f7 f8 f9 f10 f11 f12 f13 f14 f15 f16 f17 f18 f19 f20 f21 f22 f23 f24 f25 f26 : Addr} (X : K.In h) (G : h.Ns mainGlobals mg) (hfa : mg "law" = some (.ref fa))
  {od0 an0 od1 an1 od2 an2 od3 an3 od4 an4 od5 an5 od6 an6 od7 an7 od8 an8 od9 an9 od10 an10 od11 an11 od12 an12 od13 an13 od14 an14 od15 an15 od16 an16 od17 an17 od18 an18 od19 an19 od20 an20 od21 an21 od22 an22 od23 an23 od24 an24 od25 an25 od26 an26 : Option Addr} {sl0 sl1 sl2 sl3 sl4 sl5 sl6 sl7 sl8 sl9 sl10 sl11 sl12 sl13 sl14 sl15 sl16 sl17 sl18 sl19 sl20 sl21 sl22 sl23 sl24 sl25 sl26 : Array (Option Value)} {oc0 kV0 dc0 pm0 cd0 ct0 oc1 kV1 dc1 pm1 cd1 ct1 oc2 kV2 dc2 pm2 cd2 ct2 oc3 kV3 dc3 pm3 cd3 ct3 oc4 kV4 dc4 pm4 cd4 ct4 oc5 kV5 dc5 pm5 cd5 ct5 oc6 kV6 dc6 pm6 cd6 ct6 oc7 kV7 dc7 pm7 cd7 ct7 oc8 kV8 dc8 pm8 cd8 ct8 oc9 kV9 dc9 pm9 cd9 ct9 oc10 kV10 dc10 pm10 cd10 ct10 oc11 kV11 dc11 pm11 cd11 ct11 oc12 kV12 dc12 pm12 cd12 ct12 oc13 kV13 dc13 pm13 cd13 ct13 oc14 kV14 dc14 pm14 cd14 ct14 oc15 kV15 dc15 pm15 cd15 ct15 oc16 kV16 dc16 pm16 cd16 ct16 oc17 kV17 dc17 pm17 cd17 ct17 oc18 kV18 dc18 pm18 cd18 ct18 oc19 kV19 dc19 pm19 cd19 ct19 oc20 kV20 dc20 pm20 cd20 ct20 oc21 kV21 dc21 pm21 cd21 ct21 oc22 kV22 dc22 pm22 cd22 ct22 oc23 kV23 dc23 pm23 cd23 ct23 oc24 kV24 dc24 pm24 cd24 ct24 oc25 kV25 dc25 pm25 cd25 ct25 oc26 kV26 dc26 pm26 cd26 ct26 : Value}
  (a0 : PySem.W.nsIn K mainGlobals "is_whole" = some (some (.ref f0))) (l0 : K.lookup f0 = some ⟨oc0, od0, .func (PySem.W.fnOf "is_whole" "is_whole" (defArgs (top 4)) (defBody (top 4)) (defScope (top 4)) .none kV0 dc0 pm0 an0 cd0 ct0), sl0⟩) (c0 : PySem.W.codeIn K cd0 "is_whole" = true) (k0 : PySem.W.keepIn K (.ref f0) = true)
  (a1 : PySem.W.nsIn K mainGlobals "row_price" = some (some (.ref f1))) (l1 : K.lookup f1 = some ⟨oc1, od1, .func (PySem.W.fnOf "row_price" "row_price" (defArgs (top 10)) (defBody (top 10)) (defScope (top 10)) .none kV1 dc1 pm1 an1 cd1 ct1), sl1⟩) (c1 : PySem.W.codeIn K cd1 "row_price" = true) (k1 : PySem.W.keepIn K (.ref f1) = true)
  (a2 : PySem.W.nsIn K mainGlobals "break_price" = some (some (.ref f2))) (l2 : K.lookup f2 = some ⟨oc2, od2, .func (PySem.W.fnOf "break_price" "break_price" (defArgs (top 11)) (defBody (top 11)) (defScope (top 11)) .none kV2 dc2 pm2 an2 cd2 ct2), sl2⟩) (c2 : PySem.W.codeIn K cd2 "break_price" = true) (k2 : PySem.W.keepIn K (.ref f2) = true)
  (a3 : PySem.W.nsIn K mainGlobals "parting_price" = some (some (.ref f3))) (l3 : K.lookup f3 = some ⟨oc3, od3, .func (PySem.W.fnOf "parting_price" "parting_price" (defArgs (top 6)) (defBody (top 6)) (defScope (top 6)) .none kV3 dc3 pm3 an3 cd3 ct3), sl3⟩) (c3 : PySem.W.codeIn K cd3 "parting_price" = true) (k3 : PySem.W.keepIn K (.ref f3) = true)
  (a4 : PySem.W.nsIn K mainGlobals "pieces_of" = some (some (.ref f4))) (l4 : K.lookup f4 = some ⟨oc4, od4, .func (PySem.W.fnOf "pieces_of" "pieces_of" (defArgs (top 12)) (defBody (top 12)) (defScope (top 12)) .none kV4 dc4 pm4 an4 cd4 ct4), sl4⟩) (c4 : PySem.W.codeIn K cd4 "pieces_of" = true) (k4 : PySem.W.keepIn K (.ref f4) = true)
  (a5 : PySem.W.nsIn K mainGlobals "list_below" = some (some (.ref f5))) (l5 : K.lookup f5 = some ⟨oc5, od5, .func (PySem.W.fnOf "list_below" "list_below" (defArgs (top 13)) (defBody (top 13)) (defScope (top 13)) .none kV5 dc5 pm5 an5 cd5 ct5), sl5⟩) (c5 : PySem.W.codeIn K cd5 "list_below" = true) (k5 : PySem.W.keepIn K (.ref f5) = true)
  (a6 : PySem.W.nsIn K mainGlobals "parting_table" = some (some (.ref f6))) (l6 : K.lookup f6 = some ⟨oc6, od6, .func (PySem.W.fnOf "parting_table" "parting_table" (defArgs (top 7)) (defBody (top 7)) (defScope (top 7)) .none kV6 dc6 pm6 an6 cd6 ct6), sl6⟩) (c6 : PySem.W.codeIn K cd6 "parting_table" = true) (k6 : PySem.W.keepIn K (.ref f6) = true)
  (a7 : PySem.W.nsIn K mainGlobals "least_at_the_end" = some (some (.ref f7))) (l7 : K.lookup f7 = some ⟨oc7, od7, .func (PySem.W.fnOf "least_at_the_end" "least_at_the_end" (defArgs (top 14)) (defBody (top 14)) (defScope (top 14)) .none kV7 dc7 pm7 an7 cd7 ct7), sl7⟩) (c7 : PySem.W.codeIn K cd7 "least_at_the_end" = true) (k7 : PySem.W.keepIn K (.ref f7) = true)
  (a8 : PySem.W.nsIn K mainGlobals "begin_of_row" = some (some (.ref f8))) (l8 : K.lookup f8 = some ⟨oc8, od8, .func (PySem.W.fnOf "begin_of_row" "begin_of_row" (defArgs (top 16)) (defBody (top 16)) (defScope (top 16)) .none kV8 dc8 pm8 an8 cd8 ct8), sl8⟩) (c8 : PySem.W.codeIn K cd8 "begin_of_row" = true) (k8 : PySem.W.keepIn K (.ref f8) = true)
  (a9 : PySem.W.nsIn K mainGlobals "rows_back" = some (some (.ref f9))) (l9 : K.lookup f9 = some ⟨oc9, od9, .func (PySem.W.fnOf "rows_back" "rows_back" (defArgs (top 15)) (defBody (top 15)) (defScope (top 15)) .none kV9 dc9 pm9 an9 cd9 ct9), sl9⟩) (c9 : PySem.W.codeIn K cd9 "rows_back" = true) (k9 : PySem.W.keepIn K (.ref f9) = true)
  (a10 : PySem.W.nsIn K mainGlobals "parted" = some (some (.ref f10))) (l10 : K.lookup f10 = some ⟨oc10, od10, .func (PySem.W.fnOf "parted" "parted" (defArgs (top 8)) (defBody (top 8)) (defScope (top 8)) .none kV10 dc10 pm10 an10 cd10 ct10), sl10⟩) (c10 : PySem.W.codeIn K cd10 "parted" = true) (k10 : PySem.W.keepIn K (.ref f10) = true)
  (a11 : PySem.W.nsIn K mainGlobals "is_parting" = some (some (.ref f11))) (l11 : K.lookup f11 = some ⟨oc11, od11, .func (PySem.W.fnOf "is_parting" "is_parting" (defArgs (top 17)) (defBody (top 17)) (defScope (top 17)) .none kV11 dc11 pm11 an11 cd11 ct11), sl11⟩) (c11 : PySem.W.codeIn K cd11 "is_parting" = true) (k11 : PySem.W.keepIn K (.ref f11) = true)
  (a12 : PySem.W.nsIn K mainGlobals "are_prices" = some (some (.ref f12))) (l12 : K.lookup f12 = some ⟨oc12, od12, .func (PySem.W.fnOf "are_prices" "are_prices" (defArgs (top 19)) (defBody (top 19)) (defScope (top 19)) .none kV12 dc12 pm12 an12 cd12 ct12), sl12⟩) (c12 : PySem.W.codeIn K cd12 "are_prices" = true) (k12 : PySem.W.keepIn K (.ref f12) = true)
  (a13 : PySem.W.nsIn K mainGlobals "is_table" = some (some (.ref f13))) (l13 : K.lookup f13 = some ⟨oc13, od13, .func (PySem.W.fnOf "is_table" "is_table" (defArgs (top 18)) (defBody (top 18)) (defScope (top 18)) .none kV13 dc13 pm13 an13 cd13 ct13), sl13⟩) (c13 : PySem.W.codeIn K cd13 "is_table" = true) (k13 : PySem.W.keepIn K (.ref f13) = true)
  (a14 : PySem.W.nsIn K mainGlobals "is_reached" = some (some (.ref f14))) (l14 : K.lookup f14 = some ⟨oc14, od14, .func (PySem.W.fnOf "is_reached" "is_reached" (defArgs (top 20)) (defBody (top 20)) (defScope (top 20)) .none kV14 dc14 pm14 an14 cd14 ct14), sl14⟩) (c14 : PySem.W.codeIn K cd14 "is_reached" = true) (k14 : PySem.W.keepIn K (.ref f14) = true)
  (a15 : PySem.W.nsIn K mainGlobals "lets_parting" = some (some (.ref f15))) (l15 : K.lookup f15 = some ⟨oc15, od15, .func (PySem.W.fnOf "lets_parting" "lets_parting" (defArgs (top 9)) (defBody (top 9)) (defScope (top 9)) .none kV15 dc15 pm15 an15 cd15 ct15), sl15⟩) (c15 : PySem.W.codeIn K cd15 "lets_parting" = true) (k15 : PySem.W.keepIn K (.ref f15) = true)
  (a16 : PySem.W.nsIn K mainGlobals "_law_cell_at" = some (some (.ref f16))) (l16 : K.lookup f16 = some ⟨oc16, od16, .func (PySem.W.fnOf "_law_cell_at" "_law_cell_at" (defArgs (top 22)) (defBody (top 22)) (defScope (top 22)) .none kV16 dc16 pm16 an16 cd16 ct16), sl16⟩) (c16 : PySem.W.codeIn K cd16 "_law_cell_at" = true) (k16 : PySem.W.keepIn K (.ref f16) = true)
  (a17 : PySem.W.nsIn K mainGlobals "_law_mixed" = some (some (.ref f17))) (l17 : K.lookup f17 = some ⟨oc17, od17, .func (PySem.W.fnOf "_law_mixed" "_law_mixed" (defArgs (top 23)) (defBody (top 23)) (defScope (top 23)) .none kV17 dc17 pm17 an17 cd17 ct17), sl17⟩) (c17 : PySem.W.codeIn K cd17 "_law_mixed" = true) (k17 : PySem.W.keepIn K (.ref f17) = true)
  (a18 : PySem.W.nsIn K mainGlobals "_law_parts" = some (some (.ref f18))) (l18 : K.lookup f18 = some ⟨oc18, od18, .func (PySem.W.fnOf "_law_parts" "_law_parts" (defArgs (top 24)) (defBody (top 24)) (defScope (top 24)) .none kV18 dc18 pm18 an18 cd18 ct18), sl18⟩) (c18 : PySem.W.codeIn K cd18 "_law_parts" = true) (k18 : PySem.W.keepIn K (.ref f18) = true)
  (a19 : PySem.W.nsIn K mainGlobals "_law_cost" = some (some (.ref f19))) (l19 : K.lookup f19 = some ⟨oc19, od19, .func (PySem.W.fnOf "_law_cost" "_law_cost" (defArgs (top 25)) (defBody (top 25)) (defScope (top 25)) .none kV19 dc19 pm19 an19 cd19 ct19), sl19⟩) (c19 : PySem.W.codeIn K cd19 "_law_cost" = true) (k19 : PySem.W.keepIn K (.ref f19) = true)
  (a20 : PySem.W.nsIn K mainGlobals "_law_is_parting" = some (some (.ref f20))) (l20 : K.lookup f20 = some ⟨oc20, od20, .func (PySem.W.fnOf "_law_is_parting" "_law_is_parting" (defArgs (top 26)) (defBody (top 26)) (defScope (top 26)) .none kV20 dc20 pm20 an20 cd20 ct20), sl20⟩) (c20 : PySem.W.codeIn K cd20 "_law_is_parting" = true) (k20 : PySem.W.keepIn K (.ref f20) = true)
  (a21 : PySem.W.nsIn K mainGlobals "_law_is_table" = some (some (.ref f21))) (l21 : K.lookup f21 = some ⟨oc21, od21, .func (PySem.W.fnOf "_law_is_table" "_law_is_table" (defArgs (top 27)) (defBody (top 27)) (defScope (top 27)) .none kV21 dc21 pm21 an21 cd21 ct21), sl21⟩) (c21 : PySem.W.codeIn K cd21 "_law_is_table" = true) (k21 : PySem.W.keepIn K (.ref f21) = true)
  (a22 : PySem.W.nsIn K mainGlobals "_law_lets" = some (some (.ref f22))) (l22 : K.lookup f22 = some ⟨oc22, od22, .func (PySem.W.fnOf "_law_lets" "_law_lets" (defArgs (top 28)) (defBody (top 28)) (defScope (top 28)) .none kV22 dc22 pm22 an22 cd22 ct22), sl22⟩) (c22 : PySem.W.codeIn K cd22 "_law_lets" = true) (k22 : PySem.W.keepIn K (.ref f22) = true)
  (a23 : PySem.W.nsIn K mainGlobals "_law_other_rows" = some (some (.ref f23))) (l23 : K.lookup f23 = some ⟨oc23, od23, .func (PySem.W.fnOf "_law_other_rows" "_law_other_rows" (defArgs (top 29)) (defBody (top 29)) (defScope (top 29)) .none kV23 dc23 pm23 an23 cd23 ct23), sl23⟩) (c23 : PySem.W.codeIn K cd23 "_law_other_rows" = true) (k23 : PySem.W.keepIn K (.ref f23) = true)
  (a24 : PySem.W.nsIn K mainGlobals "_law_other_table" = some (some (.ref f24))) (l24 : K.lookup f24 = some ⟨oc24, od24, .func (PySem.W.fnOf "_law_other_table" "_law_other_table" (defArgs (top 30)) (defBody (top 30)) (defScope (top 30)) .none kV24 dc24 pm24 an24 cd24 ct24), sl24⟩) (c24 : PySem.W.codeIn K cd24 "_law_other_table" = true) (k24 : PySem.W.keepIn K (.ref f24) = true)
  (a25 : PySem.W.nsIn K mainGlobals "_law_told" = some (some (.ref f25))) (l25 : K.lookup f25 = some ⟨oc25, od25, .func (PySem.W.fnOf "_law_told" "_law_told" (defArgs (top 31)) (defBody (top 31)) (defScope (top 31)) .none kV25 dc25 pm25 an25 cd25 ct25), sl25⟩) (c25 : PySem.W.codeIn K cd25 "_law_told" = true) (k25 : PySem.W.keepIn K (.ref f25) = true)
  (a26 : PySem.W.nsIn K mainGlobals "law" = some (some (.ref f26))) (l26 : K.lookup f26 = some ⟨oc26, od26, .func (PySem.W.fnOf "law" "law" (defArgs (top 32)) (defBody (top 32)) (defScope (top 32)) .none kV26 dc26 pm26 an26 cd26 ct26), sl26⟩) (c26 : PySem.W.codeIn K cd26 "law" = true) (k26 : PySem.W.keepIn K (.ref f26) = true)
  (z_isinstance : PySem.W.nsIn K mainGlobals "isinstance" = some none)
  (z_int : PySem.W.nsIn K mainGlobals "int" = some none)
  (z_bool : PySem.W.nsIn K mainGlobals "bool" = some none)
  (z_len : PySem.W.nsIn K mainGlobals "len" = some none)
  (z_sum : PySem.W.nsIn K mainGlobals "sum" = some none)
  (z_range : PySem.W.nsIn K mainGlobals "range" = some none)
  (z_min : PySem.W.nsIn K mainGlobals "min" = some none)
  (z_list : PySem.W.nsIn K mainGlobals "list" = some none)
  (z_reversed : PySem.W.nsIn K mainGlobals "reversed" = some none)
  (z_str : PySem.W.nsIn K mainGlobals "str" = some none)
  (z_all : PySem.W.nsIn K mainGlobals "all" = some none)
  (z_zip : PySem.W.nsIn K mainGlobals "zip" = some none)
  (z_enumerate : PySem.W.nsIn K mainGlobals "enumerate" = some none)
  (z_tuple : PySem.W.nsIn K mainGlobals "tuple" = some none)
  (z_max : PySem.W.nsIn K mainGlobals "max" = some none)
  {C_NoParting : Addr} (n_NoParting : PySem.W.nsIn K mainGlobals "NoParting" = some (some (.ref C_NoParting)))
  (x_NoParting : PySem.W.excIn K C_NoParting [.type "ValueError", .type "Exception", .type "BaseException", .type "object"] "ValueError.__new__" = true) :
  ∃ fd : FuncData, (∀ (s : Shared) (v : Value), BindsTo s fd ⟨[v], []⟩ [("_law_script", v)]) /\ ∀ base : Heap, K.In base -> base.Ns mainGlobals mg -> FnOk l.prog w K mg base CX0 6 fa fd ["_law_script"] (spD K 1 F_law) := by
 have e := hfa.symm.trans (PySem.W.mg_of X G a26)
 cases e
 have zz_isinstance := PySem.W.mg_none_of X G z_isinstance
 have zz_int := PySem.W.mg_none_of X G z_int
 have zz_bool := PySem.W.mg_none_of X G z_bool
 have zz_len := PySem.W.mg_none_of X G z_len
 have zz_sum := PySem.W.mg_none_of X G z_sum
 have zz_range := PySem.W.mg_none_of X G z_range
 have zz_min := PySem.W.mg_none_of X G z_min
 have zz_list := PySem.W.mg_none_of X G z_list
 have zz_reversed := PySem.W.mg_none_of X G z_reversed
 have zz_str := PySem.W.mg_none_of X G z_str
 have zz_all := PySem.W.mg_none_of X G z_all
 have zz_zip := PySem.W.mg_none_of X G z_zip
 have zz_enumerate := PySem.W.mg_none_of X G z_enumerate
 have zz_tuple := PySem.W.mg_none_of X G z_tuple
 have zz_max := PySem.W.mg_none_of X G z_max
 refine ⟨PySem.W.fnOf "law" "law" (defArgs (top 32)) (defBody (top 32)) (defScope (top 32)) .none kV26 dc26 pm26 an26 cd26 ct26, fun s v => .of_eq rfl, fun base _ _ => ?_⟩
 have m_NoParting := PySem.W.mg_of X G n_NoParting
 have D0 : Def l.prog w K mg base 1 "is_whole" 1 a5j := a9h (a3a l0 c0 k0) (PySem.W.mg_of X G a0) zz_isinstance zz_int zz_bool
 have D1 : Def l.prog w K mg base 1 "row_price" 2 a1u := a5g (a3a l1 c1 k1) (PySem.W.mg_of X G a1) zz_len
 have D2 : Def l.prog w K mg base 1 "break_price" 1 a1w := a5b (a3a l2 c2 k2) (PySem.W.mg_of X G a2)
 have D3 : Def l.prog w K mg base 2 "parting_price" 2 a4a := a6d (a3a l3 c3 k3) (PySem.W.mg_of X G a3) D1 D2 zz_sum
 have D4 : Def l.prog w K mg base 2 "pieces_of" 2 a1v := a4k (a3a l4 c4 k4) (PySem.W.mg_of X G a4) D1 D2 zz_len zz_range
 have D5 : DefF l.prog w K mg base 1 "list_below" 2 a3d := a7j (a3a l5 c5 k5) (PySem.W.mg_of X G a5) zz_len
 have D6 : Def l.prog w K mg base 3 "parting_table" 3 a1x := a3z (a3a l6 c6 k6) (PySem.W.mg_of X G a6) D4 D5 zz_len zz_range
 have D7 : Def l.prog w K mg base 1 "least_at_the_end" 1 a1p := a2r (a3a l7 c7 k7) (PySem.W.mg_of X G a7) zz_min
 have D8 : Def l.prog w K mg base 1 "begin_of_row" 4 a3o := a6p (a3a l8 c8 k8) (PySem.W.mg_of X G a8)
 have D9 : Def l.prog w K mg base 2 "rows_back" 4 a6f := a8c (a3a l9 c9 k9) (PySem.W.mg_of X G a9) D8 zz_len zz_list zz_reversed
 have D10 : DefX l.prog w K mg base 4 "parted" 3 a6o := b3k (a3a l10 c10 k10) (PySem.W.mg_of X G a10) m_NoParting x_NoParting D6 D7 D4 D9
 have D11 : Def l.prog w K mg base 1 "is_parting" 4 a3e := a7l (a3a l11 c11 k11) (PySem.W.mg_of X G a11) zz_isinstance zz_list zz_len zz_str zz_all
 have D12 : Def l.prog w K mg base 2 "are_prices" 2 a4r := a7m (a3a l12 c12 k12) (PySem.W.mg_of X G a12) D0 zz_isinstance zz_list zz_len zz_all
 have D13 : Def l.prog w K mg base 3 "is_table" 3 a4q := a9i (a3a l13 c13 k13) (PySem.W.mg_of X G a13) D12 zz_isinstance zz_list zz_len zz_all
 have D14 : Def l.prog w K mg base 1 "is_reached" 3 a4b := a7k (a3a l14 c14 k14) (PySem.W.mg_of X G a14)
 have D15 : Def l.prog w K mg base 4 "lets_parting" 5 a2f := a5n (a3a l15 c15 k15) (PySem.W.mg_of X G a15) D11 D13 D14 D4 D7 D3 zz_len zz_zip
 have D16 : Def l.prog w K mg base 1 "_law_cell_at" 2 a2g := a3n (a3a l16 c16 k16) (PySem.W.mg_of X G a16) zz_len
 have D17 : Def l.prog w K mg base 1 "_law_mixed" 2 a2t := a4p (a3a l17 c17 k17) (PySem.W.mg_of X G a17)
 have D18 : Def l.prog w K mg base 2 "_law_parts" 1 a5q := a7n (a3a l18 c18 k18) (PySem.W.mg_of X G a18) D17
 have D19 : Def l.prog w K mg base 1 "_law_cost" 3 a4c := a7b (a3a l19 c19 k19) (PySem.W.mg_of X G a19) zz_len zz_int
 have D20 : Def l.prog w K mg base 1 "_law_is_parting" 4 a1k := a5i (a3a l20 c20 k20) (PySem.W.mg_of X G a20) zz_isinstance zz_list zz_len zz_str
 have D21 : Def l.prog w K mg base 1 "_law_is_table" 3 a1y := a6e (a3a l21 c21 k21) (PySem.W.mg_of X G a21) zz_isinstance zz_list zz_len zz_int zz_bool
 have D22 : Def l.prog w K mg base 2 "_law_lets" 5 a4m := a7a (a3a l22 c22 k22) (PySem.W.mg_of X G a22) D20 D21 D19 zz_len zz_range zz_enumerate zz_min zz_sum
 have D23 : Def l.prog w K mg base 1 "_law_other_rows" 3 a3c := a5h (a3a l23 c23 k23) (PySem.W.mg_of X G a23) zz_len zz_tuple zz_list
 have DS24 : SL.DefS l.prog w K mg base 1 "_law_other_table" 2 a2j := a8a (a3a l24 c24 k24) (PySem.W.mg_of X G a24) zz_list zz_len zz_tuple
 have D24 : Def l.prog w K mg base 1 "_law_other_table" 2 a2s := DS24.toD
 have D25 : Def l.prog w K mg base 5 "_law_told" 3 a4l := a8d (a3a l25 c25 k25) (PySem.W.mg_of X G a25) m_NoParting x_NoParting D10
 exact fn_law (a3a l26 c26 k26) D16 D18 D25 D6 D22 D17 D23 D24 D15 zz_len zz_max zz_list zz_isinstance zz_bool zz_enumerate
end K51
def PySem.W.Fast.tw11925003657569026237 : Nat := 0
def PySem.W.Fast.tw13958948239031845864 : Nat := 0
def PySem.W.Fast.tw13495828261654605406 : Nat := 0
def PySem.W.Fast.tw2655754680063992972 : Nat := 0
def PySem.W.Fast.tw7525127069010573518 : Nat := 0
def PySem.W.Fast.tw9059495807621124218 : Nat := 0
def PySem.W.Fast.tw15412091463636746818 : Nat := 0
def PySem.W.Fast.tw3862901843970197522 : Nat := 0
def PySem.W.Fast.tw8475152390064399101 : Nat := 0
open PySem PySem.W PyProof.Rows
set_option maxRecDepth 100000 in
set_option maxHeartbeats 0 in
theorem PySem.Challenge.cw_cuetimer_k51_what_the_checker_lets_by_holds : PySem.Challenge.rw_cuetimer_k51_what_the_checker_lets_by.Holds := by
 w_on; o_law; k_head; (case hw => w_witness2)
 k_fill
 refine DL.walk (l := PySem.Challenge.rw_cuetimer_k51_what_the_checker_lets_by) (k := 6) (F := K51.F_law) (x := "_law_script") rfl rfl K51.law_true ⟨rfl, by decide, by decide⟩ (fun w h Y => PySem.W.kIn_of Y) ?T
 case T =>
  intro w mg fa h KX G hmg
  refine' K51.all_mk KX G hmg ?a0 ?l0 ?c0 ?k0 ?a1 ?l1 ?c1 ?k1 ?a2 ?l2 ?c2 ?k2 ?a3 ?l3 ?c3 ?k3 ?a4 ?l4 ?c4 ?k4 ?a5 ?l5 ?c5 ?k5 ?a6 ?l6 ?c6 ?k6 ?a7 ?l7 ?c7 ?k7 ?a8 ?l8 ?c8 ?k8 ?a9 ?l9 ?c9 ?k9 ?a10 ?l10 ?c10 ?k10 ?a11 ?l11 ?c11 ?k11 ?a12 ?l12 ?c12 ?k12 ?a13 ?l13 ?c13 ?k13 ?a14 ?l14 ?c14 ?k14 ?a15 ?l15 ?c15 ?k15 ?a16 ?l16 ?c16 ?k16 ?a17 ?l17 ?c17 ?k17 ?a18 ?l18 ?c18 ?k18 ?a19 ?l19 ?c19 ?k19 ?a20 ?l20 ?c20 ?k20 ?a21 ?l21 ?c21 ?k21 ?a22 ?l22 ?c22 ?k22 ?a23 ?l23 ?c23 ?k23 ?a24 ?l24 ?c24 ?k24 ?a25 ?l25 ?c25 ?k25 ?a26 ?l26 ?c26 ?k26 ?z_isinstance ?z_int ?z_bool ?z_len ?z_sum ?z_range ?z_min ?z_list ?z_reversed ?z_str ?z_all ?z_zip ?z_enumerate ?z_tuple ?z_max ?n_NoParting ?x_NoParting
  (case a0 => k_is)
  (case l0 => k_is)
  (case c0 => k_is)
  (case k0 => k_is)
  (case a1 => k_is)
  (case l1 => k_is)
  (case c1 => k_is)
  (case k1 => k_is)
  (case a2 => k_is)
  (case l2 => k_is)
  (case c2 => k_is)
  (case k2 => k_is)
  (case a3 => k_is)
  (case l3 => k_is)
  (case c3 => k_is)
  (case k3 => k_is)
  (case a4 => k_is)
  (case l4 => k_is)
  (case c4 => k_is)
  (case k4 => k_is)
  (case a5 => k_is)
  (case l5 => k_is)
  (case c5 => k_is)
  (case k5 => k_is)
  (case a6 => k_is)
  (case l6 => k_is)
  (case c6 => k_is)
  (case k6 => k_is)
  (case a7 => k_is)
  (case l7 => k_is)
  (case c7 => k_is)
  (case k7 => k_is)
  (case a8 => k_is)
  (case l8 => k_is)
  (case c8 => k_is)
  (case k8 => k_is)
  (case a9 => k_is)
  (case l9 => k_is)
  (case c9 => k_is)
  (case k9 => k_is)
  (case a10 => k_is)
  (case l10 => k_is)
  (case c10 => k_is)
  (case k10 => k_is)
  (case a11 => k_is)
  (case l11 => k_is)
  (case c11 => k_is)
  (case k11 => k_is)
  (case a12 => k_is)
  (case l12 => k_is)
  (case c12 => k_is)
  (case k12 => k_is)
  (case a13 => k_is)
  (case l13 => k_is)
  (case c13 => k_is)
  (case k13 => k_is)
  (case a14 => k_is)
  (case l14 => k_is)
  (case c14 => k_is)
  (case k14 => k_is)
  (case a15 => k_is)
  (case l15 => k_is)
  (case c15 => k_is)
  (case k15 => k_is)
  (case a16 => k_is)
  (case l16 => k_is)
  (case c16 => k_is)
  (case k16 => k_is)
  (case a17 => k_is)
  (case l17 => k_is)
  (case c17 => k_is)
  (case k17 => k_is)
  (case a18 => k_is)
  (case l18 => k_is)
  (case c18 => k_is)
  (case k18 => k_is)
  (case a19 => k_is)
  (case l19 => k_is)
  (case c19 => k_is)
  (case k19 => k_is)
  (case a20 => k_is)
  (case l20 => k_is)
  (case c20 => k_is)
  (case k20 => k_is)
  (case a21 => k_is)
  (case l21 => k_is)
  (case c21 => k_is)
  (case k21 => k_is)
  (case a22 => k_is)
  (case l22 => k_is)
  (case c22 => k_is)
  (case k22 => k_is)
  (case a23 => k_is)
  (case l23 => k_is)
  (case c23 => k_is)
  (case k23 => k_is)
  (case a24 => k_is)
  (case l24 => k_is)
  (case c24 => k_is)
  (case k24 => k_is)
  (case a25 => k_is)
  (case l25 => k_is)
  (case c25 => k_is)
  (case k25 => k_is)
  (case a26 => k_is)
  (case l26 => k_is)
  (case c26 => k_is)
  (case k26 => k_is)
  (case z_isinstance => k_is)
  (case z_int => k_is)
  (case z_bool => k_is)
  (case z_len => k_is)
  (case z_sum => k_is)
  (case z_range => k_is)
  (case z_min => k_is)
  (case z_list => k_is)
  (case z_reversed => k_is)
  (case z_str => k_is)
  (case z_all => k_is)
  (case z_zip => k_is)
  (case z_enumerate => k_is)
  (case z_tuple => k_is)
  (case z_max => k_is)
  (case n_NoParting => k_is)
  (case x_NoParting => k_exc)
#print axioms PySem.Challenge.cw_cuetimer_k51_what_the_checker_lets_by_holds
